package wire_test

import (
	"math"
	"slices"
	"strconv"
	"strings"
	"testing"

	"consignor/api"
	"consignor/wire"
)

// flying is a net of so many messages that all differ, each sent two ticks behind the one ahead, the last one five ticks ago.
func flying(many int) api.Net {
	n := api.Net{Last: 3*many + 2, Now: 2*many + 5}
	for i := range many {
		n.Flight = append(n.Flight, api.Msg{Id: 3*i + 1, To: i * 7 % 64, Body: "body " + strconv.Itoa(i), At: 2*i + 2})
	}
	return n
}

// changed is a net with one of its messages changed.
func changed(n api.Net, place int, how func(*api.Msg)) api.Net {
	n = copied(n)
	how(&n.Flight[place])
	return n
}

// checkRight holds Right against the chapter's words.
func checkRight(t *testing.T, n api.Net) bool {
	t.Helper()
	before := copied(n)
	want := right(n)
	if got := wire.Right(n); got != want {
		t.Errorf("Right of %s = %v", tell(n), got)
	}
	if !same(n, before) {
		t.Errorf("Right changed %s", tell(before))
	}
	if !want {
		checkRefused(t, n)
	}
	return want
}

// checkRefused holds that all calls but Right and Late tell ErrArg of a net that may not be, whatever else is right or wrong.
func checkRefused(t *testing.T, n api.Net) {
	t.Helper()
	for _, a := range []struct {
		place, to, ticks int
		body             string
	}{{0, 0, 0, ""}, {len(n.Flight) - 1, 63, 1, "x"}, {len(n.Flight), 64, -1, strings.Repeat("x", 4097)}, {-1, -1, math.MinInt, ""}} {
		check := func(call string, zero bool, e api.Errno) {
			t.Helper()
			if e != api.ErrArg || !zero {
				t.Errorf("%s of %s: %d, and its answer is zero: %v", call, tell(n), e, zero)
			}
		}
		o, id, e := wire.Send(n, a.to, a.body)
		check("Send", isZero(o) && id == 0, e)
		o, m, e := wire.Take(n, a.place)
		check("Take", isZero(o) && m == api.Msg{}, e)
		o, e = wire.Twice(n, a.place)
		check("Twice", isZero(o), e)
		o, e = wire.Lose(n, a.place)
		check("Lose", isZero(o), e)
		o, e = wire.Pass(n, a.ticks)
		check("Pass", isZero(o), e)
		if l := wire.Late(n, a.ticks); len(l) > 0 {
			t.Errorf("Late of %s = %d", tell(n), l)
		}
	}
}

func isZero(n api.Net) bool { return same(n, api.Net{}) }

// checkAnswer holds a net that a call answers against the one that it should, that it may be, and that the argument stays.
func checkAnswer(t *testing.T, n, before, got, want api.Net, e, wantErr api.Errno, call string, args ...int) {
	t.Helper()
	if !same(got, want) || e != wantErr {
		t.Errorf("%s(%s, %d) = %s, %d, want %s, %d", call, tell(before), args, tell(got), e, tell(want), wantErr)
	}
	if e == api.OK && !wire.Right(got) {
		t.Errorf("%s(%s, %d) = %s, which may not be", call, tell(before), args, tell(got))
	}
	if !same(n, before) {
		t.Errorf("%s(%s, %d) made it %s", call, tell(before), args, tell(n))
	}
}

func checkSend(t *testing.T, n api.Net, to int, body string) (api.Net, int, api.Errno) {
	t.Helper()
	before := copied(n)
	want, wantId, wantErr := sent(n, to, body)
	got, id, e := wire.Send(n, to, body)
	checkAnswer(t, n, before, got, want, e, wantErr, "Send", to, len(body))
	if id != wantId {
		t.Errorf("Send(%s, %d, %d bytes) tells the number %d, want %d", tell(before), to, len(body), id, wantId)
	}
	return got, id, e
}

func checkTake(t *testing.T, n api.Net, place int) (api.Net, api.Msg, api.Errno) {
	t.Helper()
	before := copied(n)
	want, wantMsg, wantErr := taken(n, place)
	got, m, e := wire.Take(n, place)
	checkAnswer(t, n, before, got, want, e, wantErr, "Take", place)
	if m != wantMsg {
		t.Errorf("Take(%s, %d) takes %#v, want %#v", tell(before), place, m, wantMsg)
	}
	return got, m, e
}

func checkTwice(t *testing.T, n api.Net, place int) (api.Net, api.Errno) {
	t.Helper()
	before := copied(n)
	want, wantErr := doubled(n, place)
	got, e := wire.Twice(n, place)
	checkAnswer(t, n, before, got, want, e, wantErr, "Twice", place)
	return got, e
}

func checkLose(t *testing.T, n api.Net, place int) (api.Net, api.Errno) {
	t.Helper()
	before := copied(n)
	want, wantErr := lost(n, place)
	got, e := wire.Lose(n, place)
	checkAnswer(t, n, before, got, want, e, wantErr, "Lose", place)
	return got, e
}

func checkLate(t *testing.T, n api.Net, ticks int) []int {
	t.Helper()
	before := copied(n)
	want := lateOf(n, ticks)
	got := wire.Late(n, ticks)
	if !slices.Equal(got, want) {
		t.Errorf("Late(%s, %d) = %d, want %d", tell(before), ticks, got, want)
	}
	if !same(n, before) {
		t.Errorf("Late(%s, %d) made it %s", tell(before), ticks, tell(n))
	}
	return got
}

func checkPass(t *testing.T, n api.Net, ticks int) (api.Net, api.Errno) {
	t.Helper()
	before := copied(n)
	want, wantErr := passed(n, ticks)
	got, e := wire.Pass(n, ticks)
	checkAnswer(t, n, before, got, want, e, wantErr, "Pass", ticks)
	return got, e
}

// checkCalls holds all calls against the chapter's words.
func checkCalls(t *testing.T, n api.Net, place, to, ticks int, body string) {
	t.Helper()
	checkRight(t, n)
	checkSend(t, n, to, body)
	checkTake(t, n, place)
	checkTwice(t, n, place)
	checkLose(t, n, place)
	checkLate(t, n, ticks)
	checkPass(t, n, ticks)
}

func TestRightCounts(t *testing.T) { // P13.1, R3
	rights := 0
	for many := range 100 {
		if checkRight(t, flying(many)) {
			rights++
		}
	}
	if rights != 33 {
		t.Errorf("nets of %d counts of messages may be", rights)
	}
	for _, n := range []api.Net{{}, {Flight: []api.Msg{}}, {Last: 1}, {Now: 1}, {Last: last, Now: last}} {
		if !checkRight(t, n) {
			t.Errorf("%s may not be", tell(n))
		}
	}
	m := api.Msg{Id: 7, To: 1, Body: "x", At: 3}
	if !checkRight(t, api.Net{Flight: slices.Repeat([]api.Msg{m}, 32), Last: 7, Now: 3}) {
		t.Errorf("a net of one message 32 times may not be")
	}
	if checkRight(t, api.Net{Flight: slices.Repeat([]api.Msg{m}, 33), Last: 7, Now: 3}) {
		t.Errorf("a net of one message 33 times may be")
	}
}

// TestRightNumbers: the last number and the time, of a net of no messages and of some.
func TestRightNumbers(t *testing.T) { // P13.1
	edges := append([]int{0, 1, 2, 63, 64, 1 << 31, 1 << 32, last - 1, last, last + 1, 1 << 41}, wild...)
	for _, a := range edges {
		for _, b := range edges {
			may := 0 <= a && a <= last && 0 <= b && b <= last
			if checkRight(t, api.Net{Last: a, Now: b}) != may {
				t.Errorf("last %d, now %d, nothing in flight", a, b)
			}
			m := api.Msg{Id: 2, To: 63, At: 2}
			n := api.Net{Flight: []api.Msg{m}, Last: a, Now: b}
			if checkRight(t, n) != (may && a >= 2 && b >= 2) {
				t.Errorf("%s", tell(n))
			}
		}
	}
}

// TestRightMessages: each number of a message, at each place among others.
func TestRightMessages(t *testing.T) { // P13.1
	for _, many := range []int{1, 2, 5, 32} {
		n := flying(many)
		var edges []int
		for i := -70; i < 200; i++ {
			edges = append(edges, i)
		}
		edges = append(edges, wild...)
		for place := range many {
			if many == 32 && place%10 > 1 {
				continue
			}
			for _, i := range edges {
				if checkRight(t, changed(n, place, func(m *api.Msg) { m.Id = i })) != (1 <= i && i <= n.Last) {
					t.Errorf("last %d, at %d of %d the number %d", n.Last, place, many, i)
				}
				if checkRight(t, changed(n, place, func(m *api.Msg) { m.To = i })) != (0 <= i && i <= 63) {
					t.Errorf("at %d of %d to %d", place, many, i)
				}
				if checkRight(t, changed(n, place, func(m *api.Msg) { m.At = i })) != (0 <= i && i <= n.Now) {
					t.Errorf("now %d, at %d of %d sent at %d", n.Now, place, many, i)
				}
			}
			for _, long := range []int{0, 1, 128, 4095, 4096, 4097, 8192, 1 << 16} {
				body := strings.Repeat("x", long)
				if checkRight(t, changed(n, place, func(m *api.Msg) { m.Body = body })) != (long <= 4096) {
					t.Errorf("at %d of %d a body of %d bytes", place, many, long)
				}
			}
		}
	}
	great := api.Net{Flight: []api.Msg{{Id: last, At: last}}, Last: last, Now: last}
	if !checkRight(t, great) {
		t.Errorf("%s may not be", tell(great))
	}
}

// TestBytes: any byte may stand in a body, and bytes count, not runes.
func TestBytes(t *testing.T) { // P13.1, P13.2, R5
	bodies := []string{strings.Repeat("é", 2048), strings.Repeat("é", 2047) + "x", strings.Repeat("é", 2048) + "x", strings.Repeat("é", 4096), "\xff\xfe\x00"}
	for c := range 256 {
		bodies = append(bodies, string([]byte{byte(c)}), strings.Repeat(string([]byte{byte(c)}), 4096))
	}
	for _, s := range bodies {
		n, _, e := checkSend(t, api.Net{}, 1, s)
		if (e == api.OK) != (len(s) <= 4096) {
			t.Errorf("Send of %.12q (%d bytes): %d", s, len(s), e)
		}
		if e != api.OK {
			continue
		}
		checkRight(t, n)
		if _, m, e := wire.Take(n, 0); m.Body != s || e != api.OK {
			t.Errorf("%.12q (%d bytes) was sent, and %.12q (%d bytes) taken: %d", s, len(s), m.Body, len(m.Body), e)
		}
	}
}

func TestSend(t *testing.T) { // P13.1
	n, id, e := wire.Send(api.Net{Last: 6, Now: 9}, 63, "ab")
	want := api.Net{Flight: []api.Msg{{Id: 7, To: 63, Body: "ab", At: 9}}, Last: 7, Now: 9}
	if !same(n, want) || id != 7 || e != api.OK {
		t.Errorf("Send = %s, %d, %d", tell(n), id, e)
	}
	n, id, e = wire.Send(n, 0, "")
	want = api.Net{Flight: []api.Msg{{Id: 7, To: 63, Body: "ab", At: 9}, {Id: 8, To: 0, Body: "", At: 9}}, Last: 8, Now: 9}
	if !same(n, want) || id != 8 || e != api.OK {
		t.Errorf("Send behind it = %s, %d, %d", tell(n), id, e)
	}
	for many := range 36 {
		for to := -3; to < 67; to++ {
			for _, long := range []int{0, 1, 4096} {
				_, id, e := checkSend(t, flying(many), to, strings.Repeat("x", long))
				if many <= 31 && 0 <= to && to <= 63 && (id != 3*many+3 || e != api.OK) {
					t.Errorf("Send to %d of %d bytes behind %d: %d, %d", to, long, many, id, e)
				}
			}
		}
	}
}

func TestSendFull(t *testing.T) { // P13.1, R2
	n := api.Net{}
	for i := range 32 {
		var id int
		var e api.Errno
		if n, id, e = checkSend(t, n, i, strconv.Itoa(i)); e != api.OK || id != i+1 {
			t.Fatalf("message %d: %d, %d", i, id, e)
		}
	}
	if _, _, e := checkSend(t, n, 1, "x"); e != api.ErrFull {
		t.Errorf("message 33: %d", e)
	}
	n, _, _ = checkTake(t, n, 5)
	if _, id, e := checkSend(t, n, 1, "x"); e != api.OK || id != 33 {
		t.Errorf("a message behind 31 of 32: %d, %d", id, e)
	}
	for _, ids := range []int{last - 2, last - 1, last} {
		for _, many := range []int{0, 1, 31, 32} {
			n := flying(many)
			n.Last = ids
			_, id, e := checkSend(t, n, 0, "x")
			if want := many < 32 && ids < last; (e == api.OK) != want || want && id != ids+1 || !want && e != api.ErrFull {
				t.Errorf("Send behind the number %d and %d messages: %d, %d", ids, many, id, e)
			}
		}
	}
	// the time's end is no end of sending
	late := api.Net{Now: last}
	if n, _, e := checkSend(t, late, 0, "x"); e != api.OK || n.Flight[0].At != last {
		t.Errorf("Send at the last tick: %s, %d", tell(n), e)
	}
}

// TestSendOrder: whom it is to is told ahead of how long it is, and that ahead of whether there is room.
func TestSendOrder(t *testing.T) { // P13.1, R2, P1
	full, end, wrong := flying(32), api.Net{Last: last}, flying(33)
	long := strings.Repeat("x", 4097)
	for _, c := range []struct {
		n    api.Net
		to   int
		body string
		want api.Errno
	}{
		{full, 64, long, api.ErrArg},
		{full, -1, "", api.ErrArg},
		{end, 64, "", api.ErrArg},
		{flying(1), 64, long, api.ErrArg},
		{full, 63, long, api.ErrLong},
		{end, 0, long, api.ErrLong},
		{flying(1), 0, long, api.ErrLong},
		{full, 0, "", api.ErrFull},
		{end, 63, long[1:], api.ErrFull},
		{wrong, 0, "", api.ErrArg},
		{wrong, 0, long, api.ErrArg},
		{api.Net{Last: last + 1}, 0, "", api.ErrArg},
	} {
		if n, id, e := checkSend(t, c.n, c.to, c.body); e != c.want || id != 0 || !isZero(n) {
			t.Errorf("Send(%s, %d, %d bytes) = %s, %d, %d, want %d", tell(c.n), c.to, len(c.body), tell(n), id, e, c.want)
		}
	}
	for _, to := range append([]int{64, 65, 127, 128, 255, 256, 1 << 32}, wild...) {
		if n, id, e := checkSend(t, flying(2), to, "x"); e != api.ErrArg || id != 0 || !isZero(n) {
			t.Errorf("Send to %d: %d, %d", to, id, e)
		}
	}
}

func TestTakeLoseTwice(t *testing.T) { // P13.2
	a, b, c := api.Msg{Id: 1, Body: "a"}, api.Msg{Id: 2, To: 5, Body: "b", At: 1}, api.Msg{Id: 3, To: 9, Body: "c", At: 4}
	n := api.Net{Flight: []api.Msg{a, b, c}, Last: 4, Now: 8}
	for place, want := range []struct {
		left, twice []api.Msg
		m           api.Msg
	}{
		{[]api.Msg{b, c}, []api.Msg{a, b, c, a}, a},
		{[]api.Msg{a, c}, []api.Msg{a, b, c, b}, b},
		{[]api.Msg{a, b}, []api.Msg{a, b, c, c}, c},
	} {
		left := api.Net{Flight: want.left, Last: 4, Now: 8}
		if o, m, e := wire.Take(n, place); !same(o, left) || m != want.m || e != api.OK {
			t.Errorf("Take of %d = %s, %#v, %d", place, tell(o), m, e)
		}
		if o, e := wire.Lose(n, place); !same(o, left) || e != api.OK {
			t.Errorf("Lose of %d = %s, %d", place, tell(o), e)
		}
		twice := api.Net{Flight: want.twice, Last: 4, Now: 8}
		if o, e := wire.Twice(n, place); !same(o, twice) || e != api.OK {
			t.Errorf("Twice of %d = %s, %d", place, tell(o), e)
		}
	}
}

// TestPlaces: each place of nets of each count, and those that there are not; that there is none is told ahead of there being no room.
func TestPlaces(t *testing.T) { // P13.2, R2, P1
	for many := range 36 {
		n := flying(many)
		places := append([]int{many, many + 1, 31, 32, 33, 64, 1 << 32, 1<<32 + 1}, wild...)
		for place := -3; place < many+3; place++ {
			places = append(places, place)
		}
		for _, place := range places {
			want := api.OK
			if many > 32 {
				want = api.ErrArg
			} else if place < 0 || place >= many {
				want = api.ErrNone
			}
			if _, _, e := checkTake(t, n, place); e != want {
				t.Errorf("Take of %d of %d: %d", place, many, e)
			}
			if _, e := checkLose(t, n, place); e != want {
				t.Errorf("Lose of %d of %d: %d", place, many, e)
			}
			if want == api.OK && many == 32 {
				want = api.ErrFull
			}
			if _, e := checkTwice(t, n, place); e != want {
				t.Errorf("Twice of %d of %d: %d", place, many, e)
			}
		}
	}
	// Twice tells no new number, so that the last one is no bound of it
	n := api.Net{Flight: []api.Msg{{Id: last, At: last}}, Last: last, Now: last}
	if o, e := checkTwice(t, n, 0); e != api.OK || len(o.Flight) != 2 || o.Last != last {
		t.Errorf("Twice behind the last number: %s, %d", tell(o), e)
	}
}

func TestLate(t *testing.T) { // P13.2
	n := api.Net{Last: 9, Now: 10}
	for i, at := range []int{10, 4, 5, 0, 5, 6, 10, 9} {
		n.Flight = append(n.Flight, api.Msg{Id: i + 1, At: at})
	}
	for ticks, want := range [][]int{
		{0, 1, 2, 3, 4, 5, 6, 7}, {1, 2, 3, 4, 5, 7}, {1, 2, 3, 4, 5}, {1, 2, 3, 4, 5}, {1, 2, 3, 4, 5}, {1, 2, 3, 4}, {1, 3}, {3}, {3}, {3}, {3}, {}, {},
	} {
		if got := wire.Late(n, ticks); !slices.Equal(got, want) {
			t.Errorf("Late of %d = %d, want %d", ticks, got, want)
		}
		checkLate(t, n, ticks)
	}
	for _, ticks := range []int{-1, -5, -10, math.MinInt, math.MinInt + 1} {
		if got := wire.Late(n, ticks); len(got) != 0 {
			t.Errorf("Late of %d = %d", ticks, got)
		}
	}
	for many := range 40 {
		n := flying(many)
		for ticks := -3; ticks < 90; ticks++ {
			if got := checkLate(t, n, ticks); many > 32 && len(got) != 0 {
				t.Errorf("Late of %d messages = %d", many, got)
			}
		}
		for _, ticks := range append([]int{last - 1, last, 1 << 32}, wild...) {
			checkLate(t, n, ticks)
		}
	}
	old := api.Net{Flight: []api.Msg{{Id: 1}, {Id: 1, At: 1}, {Id: 1, At: last}}, Last: 1, Now: last}
	for ticks, want := range map[int][]int{0: {0, 1, 2}, 1: {0, 1}, last - 1: {0, 1}, last: {0}, last + 1: {}, math.MaxInt: {}} {
		if got := checkLate(t, old, ticks); !slices.Equal(got, want) {
			t.Errorf("Late of %d at the last tick = %d, want %d", ticks, got, want)
		}
	}
}

// TestLateWrong: of a net that may not be none is late, though its messages would be.
func TestLateWrong(t *testing.T) { // P13.2
	for what, n := range map[string]api.Net{
		"33 messages":         flying(33),
		"a number of 0":       changed(flying(3), 2, func(m *api.Msg) { m.Id = 0 }),
		"no receiver":         changed(flying(3), 2, func(m *api.Msg) { m.To = 64 }),
		"a message from then": changed(flying(3), 2, func(m *api.Msg) { m.At = 100 }),
		"too long a body":     changed(flying(3), 2, func(m *api.Msg) { m.Body = strings.Repeat("x", 4097) }),
		"a time behind all":   {Flight: flying(3).Flight, Last: 100, Now: last + 1},
		"a time below 0":      {Flight: []api.Msg{{Id: 1, At: -9}}, Last: 100, Now: -1},
		"a last one too many": {Flight: flying(3).Flight, Last: last + 1, Now: 100},
	} {
		for _, ticks := range []int{0, 1, 2, 5, -1, math.MaxInt, math.MinInt} {
			if got := wire.Late(n, ticks); len(got) != 0 {
				t.Errorf("Late of %d of %s = %d", ticks, what, got)
			}
		}
	}
}

func TestPass(t *testing.T) { // P13.2, R2
	for _, c := range []struct{ now, ticks, want int }{
		{0, 0, 0}, {0, 1, 1}, {5, 0, 5}, {5, 7, 12}, {0, last, last}, {0, last - 1, last - 1}, {0, last + 1, last},
		{1, last - 1, last}, {1, last, last}, {last - 1, 0, last - 1}, {last - 1, 1, last}, {last - 1, 2, last},
		{last, 0, last}, {last, 1, last}, {last, last, last},
		{0, math.MaxInt, last}, {1, math.MaxInt, last}, {2, math.MaxInt - 1, last}, {last, math.MaxInt, last}, {last - 1, math.MaxInt, last},
	} {
		n := api.Net{Flight: []api.Msg{{Id: 4, To: 2, Body: "x"}}, Last: 4, Now: c.now}
		want := api.Net{Flight: n.Flight, Last: 4, Now: c.want}
		if got, e := checkPass(t, n, c.ticks); !same(got, want) || e != api.OK {
			t.Errorf("Pass of %d at %d = %s, %d, want %d", c.ticks, c.now, tell(got), e, c.want)
		}
	}
	for _, now := range []int{0, 1, 5, last} {
		for _, ticks := range []int{-1, -2, -5, -last, math.MinInt, math.MinInt + 1} {
			n := api.Net{Last: 4, Now: now}
			if got, e := checkPass(t, n, ticks); !isZero(got) || e != api.ErrArg {
				t.Errorf("Pass of %d at %d = %s, %d", ticks, now, tell(got), e)
			}
		}
	}
	for many := range 36 {
		for ticks := -3; ticks < 40; ticks++ {
			checkPass(t, flying(many), ticks)
		}
		for _, ticks := range wild {
			checkPass(t, flying(many), ticks)
		}
	}
}
