package glob

import "strings"

const (
	marks = "*?{" // what a piece that is not plain begins with
	stars = "**"
	slash = '/'
	comma = ","
	brace = "}"
)

// places are where in a text one may stand. All are gone through at once: to try each by itself takes far too long where stars or words follow each other.
type places [mostText + 1]bool

// piece is one of those that a pattern is made of, one behind the other.
type piece interface {
	// behind is where one may stand behind the piece, if ahead of it one may stand there.
	behind(s string, at places) places
}

type (
	deep  struct{} // any bytes
	flat  struct{} // any bytes but slashes
	one   struct{} // one byte but a slash
	words []string // one of these
	plain string   // itself
)

func (deep) behind(s string, at places) places {
	for i := range len(s) {
		at[i+1] = at[i+1] || at[i]
	}
	return at
}

func (flat) behind(s string, at places) places {
	for i := range len(s) {
		at[i+1] = at[i+1] || at[i] && s[i] != slash
	}
	return at
}

func (one) behind(s string, at places) places {
	var next places
	for i := range len(s) {
		next[i+1] = at[i] && s[i] != slash
	}
	return next
}

func (w words) behind(s string, at places) places {
	var next places
	for i := range len(s) + 1 {
		if !at[i] {
			continue
		}
		for _, word := range w {
			if strings.HasPrefix(s[i:], word) {
				next[i+len(word)] = true
			}
		}
	}
	return next
}

func (p plain) behind(s string, at places) places {
	return words{string(p)}.behind(s, at)
}

// fits tells whether a text, which is not too long, can be gone through by these pieces, from its begin to its end.
func fits(pieces []piece, s string) bool {
	at := places{0: true}
	for _, p := range pieces {
		at = p.behind(s, at)
	}
	return at[len(s)]
}

// cut takes a pattern that may be apart.
func cut(pattern string) []piece {
	var pieces []piece
	for pattern != "" {
		p, rest := first(pattern)
		pieces = append(pieces, p)
		pattern = rest
	}
	return pieces
}

// first is the piece that a pattern begins with, and the pattern behind it.
func first(pattern string) (piece, string) {
	if rest, ok := strings.CutPrefix(pattern, stars); ok {
		return deep{}, rest
	}
	switch pattern[0] {
	case '*':
		return flat{}, pattern[1:]
	case '?':
		return one{}, pattern[1:]
	case '{':
		within, rest, _ := strings.Cut(pattern[1:], brace)
		return words(strings.Split(within, comma)), rest
	}
	long := strings.IndexAny(pattern, marks)
	if long < 0 {
		long = len(pattern)
	}
	return plain(pattern[:long]), pattern[long:]
}
