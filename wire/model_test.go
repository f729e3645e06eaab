package wire_test

import (
	"fmt"
	"math"
	"slices"
	"strings"

	"consignor/api"
)

// What the chapter says, word by word.

const last = 1 << 40 // tick, and number of a message

// wild are numbers that no place, tick, receiver or number of a message is.
var wild = []int{-1, -2, -32, -64, math.MinInt, math.MinInt + 1, math.MaxInt, math.MaxInt - 1, -1 << 32, -1 << 40, 1<<40 + 1, 1 << 62}

func right(n api.Net) bool {
	if len(n.Flight) > 32 || n.Last < 0 || n.Last > 1<<40 || n.Now < 0 || n.Now > 1<<40 {
		return false
	}
	for _, m := range n.Flight {
		if m.Id < 1 || m.Id > n.Last || m.To < 0 || m.To > 63 || len(m.Body) > 4096 || m.At < 0 || m.At > n.Now {
			return false
		}
	}
	return true
}

func sent(n api.Net, to int, body string) (api.Net, int, api.Errno) {
	if !right(n) || to < 0 || to > 63 {
		return api.Net{}, 0, api.ErrArg
	}
	if len(body) > 4096 {
		return api.Net{}, 0, api.ErrLong
	}
	if len(n.Flight) == 32 || n.Last == 1<<40 {
		return api.Net{}, 0, api.ErrFull
	}
	n = copied(n)
	n.Last++
	n.Flight = append(n.Flight, api.Msg{Id: n.Last, To: to, Body: body, At: n.Now})
	return n, n.Last, api.OK
}

func taken(n api.Net, place int) (api.Net, api.Msg, api.Errno) {
	if !right(n) {
		return api.Net{}, api.Msg{}, api.ErrArg
	}
	left := api.Net{Last: n.Last, Now: n.Now}
	m, there := api.Msg{}, false
	for i, o := range n.Flight {
		if i == place {
			m, there = o, true
		} else {
			left.Flight = append(left.Flight, o)
		}
	}
	if !there {
		return api.Net{}, api.Msg{}, api.ErrNone
	}
	return left, m, api.OK
}

func lost(n api.Net, place int) (api.Net, api.Errno) {
	left, _, e := taken(n, place)
	return left, e
}

func doubled(n api.Net, place int) (api.Net, api.Errno) {
	_, m, e := taken(n, place)
	if e != api.OK {
		return api.Net{}, e
	}
	if len(n.Flight) == 32 {
		return api.Net{}, api.ErrFull
	}
	n = copied(n)
	n.Flight = append(n.Flight, m)
	return n, api.OK
}

// lateOf counts from when a message was sent, where more fits in than in an int.
func lateOf(n api.Net, ticks int) []int {
	var l []int
	if !right(n) || ticks < 0 {
		return l
	}
	for i, m := range n.Flight {
		if uint64(m.At)+uint64(ticks) <= uint64(n.Now) {
			l = append(l, i)
		}
	}
	return l
}

func passed(n api.Net, ticks int) (api.Net, api.Errno) {
	if !right(n) || ticks < 0 {
		return api.Net{}, api.ErrArg
	}
	n = copied(n)
	if uint64(n.Now)+uint64(ticks) > 1<<40 {
		n.Now = 1 << 40
	} else {
		n.Now += ticks
	}
	return n, api.OK
}

func copied(n api.Net) api.Net {
	return api.Net{Flight: slices.Clone(n.Flight), Last: n.Last, Now: n.Now}
}

func same(n, o api.Net) bool {
	return slices.Equal(n.Flight, o.Flight) && n.Last == o.Last && n.Now == o.Now
}

// tell is a net as a text, of whose bodies only the beginnings are told.
func tell(n api.Net) string {
	var l []string
	for _, m := range n.Flight {
		l = append(l, fmt.Sprintf("%d to %d at %d: %.12q (%d bytes)", m.Id, m.To, m.At, m.Body, len(m.Body)))
	}
	return fmt.Sprintf("{last %d, now %d, %d in flight: %.600s}", n.Last, n.Now, len(l), strings.Join(l, ", "))
}
