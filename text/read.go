package text

import (
	"strconv"
	"strings"

	"consignor/api"
)

const digits = "0123456789"

// read is the value that a text is of, or panics with an api.Errno.
func read(s string) api.Value {
	if len(s) > api.MaxText {
		panic(api.ErrLong)
	}
	r := reader{rest: s}
	v := r.value()
	// the reader knows the marks alone, so that what may be is told at one place
	if r.rest != "" || !Right(v) {
		panic(api.ErrSyntax)
	}
	return v
}

// reader is what is left of a text. It panics with api.ErrSyntax where it finds no value's text.
type reader struct{ rest string }

func (r *reader) value() api.Value {
	switch {
	case r.at(quote):
		return api.Value{Kind: api.VWord, S: r.word()}
	case r.at('['):
		return r.row()
	case r.at('{'):
		return r.object()
	}
	return api.Value{Kind: api.VWhole, N: r.whole()}
}

func (r *reader) row() api.Value {
	v := api.Value{Kind: api.VRow}
	r.list('[', ']', func() {
		v.Items = append(v.Items, r.value())
	})
	return v
}

func (r *reader) object() api.Value {
	v := api.Value{Kind: api.VObj}
	r.list('{', '}', func() {
		v.Names = append(v.Names, r.word())
		r.take(':')
		v.Items = append(v.Items, r.value())
	})
	return v
}

// list reads what stands between two brackets, parted by commas.
func (r *reader) list(begin, end byte, one func()) {
	r.take(begin)
	if !r.at(end) {
		one()
	}
	for !r.at(end) {
		r.take(',')
		one()
	}
	r.take(end)
}

func (r *reader) word() string {
	r.take(quote)
	word, rest, found := strings.Cut(r.rest, string(quote))
	if !found {
		panic(api.ErrSyntax)
	}
	r.rest = rest
	// a copy, so that a short word does not keep all that it came in
	return strings.Clone(word)
}

func (r *reader) whole() int {
	rest := strings.TrimLeft(r.rest, digits)
	text := strings.TrimSuffix(r.rest, rest)
	n, err := strconv.Atoi(text)
	// written anew it is another text, if there was a 0 ahead
	if err != nil || strconv.Itoa(n) != text {
		panic(api.ErrSyntax)
	}
	r.rest = rest
	return n
}

func (r *reader) take(mark byte) {
	if !r.at(mark) {
		panic(api.ErrSyntax)
	}
	r.rest = r.rest[1:]
}

// at tells whether a mark is next.
func (r *reader) at(mark byte) bool { return r.rest != "" && r.rest[0] == mark }
