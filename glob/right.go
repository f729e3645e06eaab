package glob

const (
	firstSeen = '!' // of the bytes that a pattern may have: those that are seen, so no blank
	lastSeen  = '~'
)

func isSeen(pattern string) bool {
	for i := range len(pattern) {
		if c := pattern[i]; c < firstSeen || c > lastSeen {
			return false
		}
	}
	return true
}

// areBraces tells whether each brace has its other one, and none stands within a pair.
func areBraces(pattern string) bool {
	within := false
	for i := range len(pattern) {
		switch pattern[i] {
		case '{':
			if within {
				return false
			}
			within = true
		case '}':
			if !within {
				return false
			}
			within = false
		}
	}
	return !within
}
