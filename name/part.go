package name

// place is where in a part one stands: what came last tells what may follow.
type place int

const (
	nowhere    place = iota
	behindMark       // a `.`, two `_`, or nothing at all: none of these may go on
	behindLow        // one `_`
	behindDash
	behindRun
)

// part tells whether a text may be a part of a repository's name.
func part(s string) bool {
	at := behindMark
	for i := range len(s) {
		at = next(at, s[i])
		if at == nowhere {
			return false
		}
	}
	return at == behindRun
}

// next is the place behind a byte; it is nowhere, if the byte may not follow.
func next(at place, c byte) place {
	switch at {
	case behindRun:
		switch c {
		case '.':
			return behindMark
		case '_':
			return behindLow
		}
		// behind a run may be all that may be behind a `-`, which may be alone or go on
		fallthrough
	case behindDash:
		if c == '-' {
			return behindDash
		}
	case behindLow:
		if c == '_' {
			return behindMark
		}
	}
	if inRun(c) {
		return behindRun
	}
	return nowhere
}

// inRun tells small letters and digits.
func inRun(c byte) bool {
	return 'a' <= c && c <= 'z' || '0' <= c && c <= '9'
}
