package text

import "consignor/api"

const (
	mostDeep = 6
	mostWord = 200 // bytes
	quote    = '"'
	escape   = '\\'
)

// rightWithin tells whether a value may be, and is at most so deep. The depth is counted down, so that it ends of a value of any depth.
func rightWithin(v api.Value, deep int) bool {
	if deep == 0 || !rightAlone(v) {
		return false
	}
	for _, item := range v.Items {
		if !rightWithin(item, deep-1) {
			return false
		}
	}
	return true
}

// rightAlone tells whether a value's fields may be, whatever its items are.
func rightAlone(v api.Value) bool {
	switch v.Kind {
	case api.VWhole:
		return 0 <= v.N && v.N <= api.MaxTick && v.S == "" && noMembers(v)
	case api.VWord:
		return v.N == 0 && isWord(v.S) && noMembers(v)
	case api.VRow:
		return v.N == 0 && v.S == "" && len(v.Items) <= api.MaxKids && len(v.Names) == 0
	case api.VObj:
		return v.N == 0 && v.S == "" && len(v.Items) <= api.MaxKids && len(v.Names) == len(v.Items) && areNames(v.Names)
	}
	return false
}

func noMembers(v api.Value) bool { return len(v.Items) == 0 && len(v.Names) == 0 }

func areNames(names []string) bool {
	for i, n := range names {
		if !isWord(n) || i > 0 && n <= names[i-1] {
			return false
		}
	}
	return true
}

func isWord(s string) bool {
	if len(s) > mostWord {
		return false
	}
	for i := range len(s) {
		if c := s[i]; c < ' ' || c > '~' || c == quote || c == escape {
			return false
		}
	}
	return true
}
