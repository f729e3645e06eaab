package wire

import (
	"slices"

	"consignor/api"
)

// stands tells whether a message is of that place in a net that may be.
func stands(n api.Net, place int) api.Errno {
	switch {
	case !Right(n):
		return api.ErrArg
	case place < 0 || place >= len(n.Flight):
		return api.ErrNone
	}
	return api.OK
}

func isFull(n api.Net) bool { return len(n.Flight) == api.MaxNet }

// with is a net with one more message, behind all others, in a list of its own.
func with(n api.Net, m api.Msg) api.Net {
	n.Flight = slices.Concat(n.Flight, []api.Msg{m})
	return n
}

// without is all of a list but what stands at a place, in a list of its own, and that.
func without[T any](l []T, place int) ([]T, T) {
	return slices.Concat(l[:place], l[place+1:]), l[place]
}
