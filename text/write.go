package text

import (
	"strconv"
	"strings"

	"consignor/api"
)

// writer is a text that comes piece by piece. It panics with an api.Errno once it is too long.
type writer struct{ text strings.Builder }

// value writes a value that may be.
func (w *writer) value(v api.Value) {
	switch v.Kind {
	case api.VWhole:
		w.put(strconv.Itoa(v.N))
	case api.VWord:
		w.word(v.S)
	case api.VRow:
		w.put("[")
		w.items(v)
		w.put("]")
	case api.VObj:
		w.put("{")
		w.items(v)
		w.put("}")
	}
}

// items writes what stands between a value's brackets.
func (w *writer) items(v api.Value) {
	for i, item := range v.Items {
		if i > 0 {
			w.put(",")
		}
		if v.Kind == api.VObj {
			w.word(v.Names[i])
			w.put(":")
		}
		w.value(item)
	}
}

func (w *writer) word(s string) {
	w.put(string(quote))
	w.put(s)
	w.put(string(quote))
}

func (w *writer) put(s string) {
	// ahead of each piece, as a value may have a text far longer than what is told of it
	if w.text.Len()+len(s) > api.MaxText {
		panic(api.ErrLong)
	}
	w.text.WriteString(s)
}
