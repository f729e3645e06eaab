package wire_test

import (
	"fmt"
	"math"
	"math/rand"
	"slices"
	"strconv"
	"strings"
	"testing"

	"consignor/api"
	"consignor/wire"
)

// spoil writes to all of a net's messages, and behind them.
func spoil(n api.Net) { clear(n.Flight[:cap(n.Flight)]) }

// roomy is the same net, whose list has room behind it, where others may write.
func roomy(n api.Net) api.Net {
	n = copied(n)
	n.Flight = slices.Grow(n.Flight, 20)
	return n
}

// TestNothingShared: an answer is changed by nothing that becomes of an argument, or of another answer, nor changes these.
func TestNothingShared(t *testing.T) { // R1, R4
	for what, call := range map[string]func(api.Net) (api.Net, api.Errno){
		"Send": func(n api.Net) (api.Net, api.Errno) {
			n, _, e := wire.Send(n, 1, "more")
			return n, e
		},
		"Take of the first": func(n api.Net) (api.Net, api.Errno) {
			n, _, e := wire.Take(n, 0)
			return n, e
		},
		"Take of the last": func(n api.Net) (api.Net, api.Errno) {
			n, _, e := wire.Take(n, 4)
			return n, e
		},
		"Twice":              func(n api.Net) (api.Net, api.Errno) { return wire.Twice(n, 2) },
		"Lose of the first":  func(n api.Net) (api.Net, api.Errno) { return wire.Lose(n, 0) },
		"Lose of the middle": func(n api.Net) (api.Net, api.Errno) { return wire.Lose(n, 2) },
		"Lose of the last":   func(n api.Net) (api.Net, api.Errno) { return wire.Lose(n, 4) },
		"Pass":               func(n api.Net) (api.Net, api.Errno) { return wire.Pass(n, 5) },
		"Pass of none":       func(n api.Net) (api.Net, api.Errno) { return wire.Pass(n, 0) },
	} {
		n := roomy(flying(5))
		before := copied(n)
		first, e := call(n)
		want := copied(first)
		if e != api.OK || !same(n, before) {
			t.Errorf("%s: %d", what, e)
		}
		spoil(first)
		if !same(n, before) {
			t.Errorf("%s: its answer shares with its argument", what)
		}
		second, _ := call(n)
		if !same(second, want) {
			t.Errorf("%s: its answer hangs on the one ahead", what)
		}
		spoil(n)
		if !same(second, want) {
			t.Errorf("%s: its argument shares with its answer", what)
		}
	}
}

// TestNothingSharedLate: places that are told are the caller's.
func TestNothingSharedLate(t *testing.T) { // R1
	n := flying(5)
	first := wire.Late(n, 0)
	want := slices.Clone(first)
	clear(first[:cap(first)])
	if second := wire.Late(n, 0); !slices.Equal(second, want) || len(want) != 5 {
		t.Errorf("Late = %d, and behind it %d", want, second)
	}
}

// TestErrorsLeave: a call that tells an error changes nothing.
func TestErrorsLeave(t *testing.T) { // R2, R4
	n := flying(32)
	before := copied(n)
	for what, call := range map[string]func() (api.Net, api.Errno){
		"Send to none": func() (api.Net, api.Errno) {
			n, _, e := wire.Send(n, 64, "x")
			return n, e
		},
		"Send of too much": func() (api.Net, api.Errno) {
			n, _, e := wire.Send(n, 1, strings.Repeat("x", 4097))
			return n, e
		},
		"Send of one too many": func() (api.Net, api.Errno) {
			n, _, e := wire.Send(n, 1, "x")
			return n, e
		},
		"Take of none": func() (api.Net, api.Errno) {
			n, _, e := wire.Take(n, 32)
			return n, e
		},
		"Lose of none":          func() (api.Net, api.Errno) { return wire.Lose(n, -1) },
		"Twice of none":         func() (api.Net, api.Errno) { return wire.Twice(n, math.MaxInt) },
		"Twice of one too many": func() (api.Net, api.Errno) { return wire.Twice(n, 31) },
		"Pass of what was":      func() (api.Net, api.Errno) { return wire.Pass(n, -1) },
	} {
		if got, e := call(); e == api.OK || !isZero(got) || !same(n, before) {
			t.Errorf("%s: %s, %d, of %s", what, tell(got), e, tell(n))
		}
	}
}

// orders are all orders of so many places to take at, one by one, till none is left.
func orders(many int) [][]int {
	if many == 0 {
		return [][]int{nil}
	}
	var all [][]int
	for place := range many {
		for _, rest := range orders(many - 1) {
			all = append(all, append([]int{place}, rest...))
		}
	}
	return all
}

// sentNet is a net to which so many were sent, time going on between, and these by their numbers.
func sentNet(t *testing.T, many int) (api.Net, map[int]api.Msg) {
	t.Helper()
	n, all := api.Net{}, map[int]api.Msg{}
	for i := range many {
		var id int
		var e api.Errno
		// some bodies are alike: messages are told apart by their numbers
		m := api.Msg{To: i * 11 % 64, Body: "body " + strconv.Itoa(i/2), At: n.Now}
		if n, id, e = wire.Send(n, m.To, m.Body); e != api.OK {
			t.Fatalf("Send of %d: %d", i, e)
		}
		if _, ok := all[id]; ok {
			t.Fatalf("the number %d is told twice", id)
		}
		m.Id = id
		all[id] = m
		if n, e = wire.Pass(n, i%3); e != api.OK {
			t.Fatalf("Pass behind %d: %d", i, e)
		}
	}
	return n, all
}

// checkOrder takes messages in an order, each of which must have been sent, and come once.
func checkOrder(t *testing.T, n api.Net, all map[int]api.Msg, order []int) {
	t.Helper()
	came := map[int]int{}
	for _, place := range order {
		var m api.Msg
		var e api.Errno
		if n, m, e = wire.Take(n, place); e != api.OK {
			t.Fatalf("Take of %d in %d: %d", place, order, e)
		}
		if was, ok := all[m.Id]; !ok || m != was {
			t.Fatalf("%#v was taken in %d, and %#v sent", m, order, was)
		}
		came[m.Id]++
	}
	for id := range all {
		if came[id] != 1 {
			t.Fatalf("%d was taken %d times in %d", id, came[id], order)
		}
	}
	if _, _, e := wire.Take(n, 0); e != api.ErrNone || len(n.Flight) != 0 {
		t.Fatalf("%s is left behind all of %d: %d", tell(n), order, e)
	}
}

// TestEachOnce: what was sent is taken as it was sent, each once, in each order.
func TestEachOnce(t *testing.T) { // P13.3
	for many := range 7 {
		n, all := sentNet(t, many)
		for _, order := range orders(many) {
			checkOrder(t, n, all, order)
		}
	}
	r := rand.New(rand.NewSource(1))
	for range 500 {
		many := r.Intn(33)
		n, all := sentNet(t, many)
		var order []int
		for left := many; left > 0; left-- {
			order = append(order, r.Intn(left))
		}
		checkOrder(t, n, all, order)
	}
}

// tally counts of each message how often it may still be taken.
type tally struct {
	sent map[int]api.Msg
	left map[int]int
}

func (l *tally) total() int {
	n := 0
	for _, left := range l.left {
		n += left
	}
	return n
}

// checkStep does one deed by chance on a net, and holds it against the tally.
func checkStep(t *testing.T, r *rand.Rand, n api.Net, l *tally) api.Net {
	t.Helper()
	place := r.Intn(len(n.Flight) + 1)
	var which int
	if place < len(n.Flight) {
		which = n.Flight[place].Id
	}
	switch r.Intn(7) {
	case 0, 1, 2:
		o, id, e := checkSend(t, n, r.Intn(64), strconv.Itoa(r.Intn(5)))
		if e == api.OK {
			l.sent[id] = o.Flight[len(n.Flight)]
			l.left[id]++
			return o
		}
	case 3:
		o, m, e := checkTake(t, n, place)
		if e == api.OK {
			if l.sent[m.Id] != m || l.left[m.Id] == 0 {
				t.Fatalf("%#v was taken, of which %d were left", m, l.left[m.Id])
			}
			l.left[m.Id]--
			return o
		}
	case 4:
		o, e := checkLose(t, n, place)
		if e == api.OK {
			l.left[which]--
			return o
		}
	case 5:
		o, e := checkTwice(t, n, place)
		if e == api.OK {
			l.left[which]++
			return o
		}
	default:
		ticks := r.Intn(4)
		for _, place := range checkLate(t, n, ticks) {
			if n.Now-l.sent[n.Flight[place].Id].At < ticks {
				t.Fatalf("%d of %s is late by %d", place, tell(n), ticks)
			}
		}
		o, e := checkPass(t, n, ticks)
		if e == api.OK {
			return o
		}
	}
	return n
}

// TestPlay: deeds by chance, one behind the other: what is taken was sent, and as often as it was doubled or lost.
func TestPlay(t *testing.T) { // P13.1, P13.2, P13.3
	r := rand.New(rand.NewSource(2))
	for range 300 {
		n, l := api.Net{}, &tally{sent: map[int]api.Msg{}, left: map[int]int{}}
		for range 200 {
			n = checkStep(t, r, n, l)
			if len(n.Flight) != l.total() {
				t.Fatalf("%s, and %d are left", tell(n), l.total())
			}
		}
		for len(n.Flight) > 0 {
			var m api.Msg
			n, m, _ = checkTake(t, n, r.Intn(len(n.Flight)))
			l.left[m.Id]--
		}
		for id, left := range l.left {
			if left != 0 {
				t.Fatalf("of %d there are %d left behind all", id, left)
			}
		}
	}
}

// chance is a net by chance that may be.
func chance(r *rand.Rand) api.Net {
	n := api.Net{Last: 1 + r.Intn(50), Now: r.Intn(30)}
	if r.Intn(9) == 0 {
		n.Last = last - r.Intn(2)
	}
	if r.Intn(9) == 0 {
		n.Now = last - r.Intn(2)
	}
	many := r.Intn(33)
	if r.Intn(5) == 0 {
		many = 32
	}
	for range many {
		n.Flight = append(n.Flight, api.Msg{Id: 1 + r.Intn(n.Last), To: r.Intn(64), Body: strings.Repeat("b", r.Intn(20)), At: r.Intn(n.Now + 1)})
	}
	return n
}

// spoilt is a net with something changed, so that it may be no more, most times.
func spoilt(r *rand.Rand, n api.Net) api.Net {
	n = copied(n)
	number := wild[r.Intn(len(wild))]
	if r.Intn(2) == 0 {
		number = r.Intn(200) - 50
	}
	wrong := api.Msg{Id: 1, Body: "x"}
	switch r.Intn(7) {
	case 0:
		n.Last = number
	case 1:
		n.Now = number
	case 2:
		wrong.Id = number
	case 3:
		wrong.To = number
	case 4:
		wrong.At = number
	case 5:
		wrong.Body = strings.Repeat("x", 4090+r.Intn(12))
	default:
		n.Flight = append(n.Flight, slices.Repeat([]api.Msg{wrong}, r.Intn(35))...)
	}
	n.Flight = slices.Insert(n.Flight, r.Intn(len(n.Flight)+1), wrong)
	return n
}

func TestChance(t *testing.T) { // P13.1, P13.2, R1, P1
	r := rand.New(rand.NewSource(3))
	rights, wrongs := 0, 0
	for range 20000 {
		n := chance(r)
		if r.Intn(2) == 0 {
			n = spoilt(r, n)
		}
		place, to, ticks := r.Intn(len(n.Flight)+3)-1, r.Intn(68)-2, r.Intn(40)-2
		if r.Intn(5) == 0 {
			ticks = wild[r.Intn(len(wild))]
		}
		checkCalls(t, n, place, to, ticks, strings.Repeat("y", r.Intn(2)*(4090+r.Intn(12))))
		if right(n) {
			rights++
		} else {
			wrongs++
		}
	}
	if rights < 5000 || wrongs < 3000 {
		t.Errorf("too few of a kind: %d and %d", rights, wrongs)
	}
}

// FuzzWire: any arguments are told as the chapter's words tell them.
func FuzzWire(f *testing.F) { // P1, P13.1, P13.2, R1
	f.Add(1, 1, 0, 0, 1, 0, "a", 0, int64(1))
	f.Add(last, last, 31, 63, last, last, strings.Repeat("x", 4096), 32, int64(2))
	f.Add(math.MinInt, math.MaxInt, -1, -1, 0, math.MinInt, strings.Repeat("x", 4097), 33, int64(3))
	f.Add(7, 9, 2, 64, 8, 10, "", 3, int64(4))
	f.Fuzz(func(t *testing.T, ids, now, place, to, id, at int, body string, many int, seed int64) {
		r := rand.New(rand.NewSource(seed))
		m := api.Msg{Id: id, To: to, Body: body, At: at}
		alike := api.Net{Flight: slices.Repeat([]api.Msg{m}, many&63), Last: ids, Now: now}
		among := chance(r)
		among.Flight = append(among.Flight, m)
		for _, n := range []api.Net{{Last: ids, Now: now}, alike, among, flying(many & 63), chance(r), spoilt(r, chance(r))} {
			checkCalls(t, n, place, to, at, body)
			checkCalls(t, n, r.Intn(len(n.Flight)+1), id, now, body)
		}
	})
}

func Example() {
	n, _, _ := wire.Send(api.Net{}, 1, "a")
	n, _, _ = wire.Send(n, 1, "b")
	n, _ = wire.Lose(n, 0)
	_, m, e := wire.Take(n, 0)
	fmt.Println(m.Body, e)
	// Output: b 0
}
