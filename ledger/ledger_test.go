package ledger_test

import (
	"fmt"
	"math/rand"
	"slices"
	"strings"
	"testing"

	"consignor/api"
	"consignor/disk"
	"consignor/ledger"
)

// noise is a sector whose bytes are no head, and no zeros, other ones for another number.
func noise(n int) string {
	b := make([]byte, size)
	for i := range b {
		b[i] = byte(1 + (i*(2*n+1)+n)%255)
	}
	return string(b)
}

// noisy is a disk of so many sectors of noise.
func noisy(sectors int) api.Disk {
	var d api.Disk
	for n := range sectors {
		d.Sectors = append(d.Sectors, noise(n))
	}
	return d
}

// put lays bytes onto a half's room from its beginning, and a sector onto its head.
func put(d api.Disk, half int, head, bytes string) api.Disk {
	h := len(d.Sectors) / 2
	d.Sectors = slices.Clone(d.Sectors)
	d.Sectors[half*h] = head
	all := bytes + room(d, half)[len(bytes):]
	for i := range h - 1 {
		d.Sectors[half*h+1+i] = all[i*size : (i+1)*size]
	}
	return d
}

// holding is a ledger with these entries in a half, of that Gen, among noise.
func holding(t *testing.T, sectors, half, gen int, list ...string) api.Ledger {
	t.Helper()
	s := bound(list)
	l, e := ledger.Open(put(noisy(sectors), half, headOf(gen, len(s)), s))
	if e != api.OK || !slices.Equal(l.Entries, list) {
		t.Fatalf("Open of %d entries of %d bytes on %d sectors: %d", len(list), len(s), sectors, e)
	}
	return l
}

// filling is entries that are just so many bytes when they are bound, but 1, which none are.
func filling(bytes int) []string {
	switch {
	case bytes == 0:
		return nil
	case bytes < 100:
		return []string{strings.Repeat("f", bytes-2)}
	}
	return []string{"a", "", strings.Repeat("g", bytes-7)}
}

// checkOpen holds Open, and Right of what it finds, against the chapter's words.
func checkOpen(t *testing.T, d api.Disk) (api.Ledger, api.Errno) {
	t.Helper()
	want, wantErr := opened(d)
	before := api.Disk{Sectors: slices.Clone(d.Sectors), Dirty: slices.Clone(d.Dirty)}
	got, e := ledger.Open(d)
	if !same(got, want) || e != wantErr {
		t.Errorf("Open of %d sectors = %s, %d, want %s, %d", len(d.Sectors), tell(got), e, tell(want), wantErr)
	}
	if !slices.Equal(d.Sectors, before.Sectors) || !slices.Equal(d.Dirty, before.Dirty) {
		t.Errorf("Open changed what it was handed")
	}
	if ledger.Right(got) != (wantErr == api.OK) {
		t.Errorf("Open told %d, but Right of its ledger is %v", e, !(wantErr == api.OK))
	}
	return got, e
}

// checkCalls holds all calls that a ledger is handed to, with these entries, against the chapter's words.
func checkCalls(t *testing.T, l api.Ledger, more ...string) {
	t.Helper()
	if got, want := ledger.Right(l), right(l); got != want {
		t.Errorf("Right of %s = %v", tell(l), got)
	}
	before, list := copied(l), slices.Clone(more)
	for _, renew := range []bool{false, true} {
		want, to, wantErr := stepsOf(l, renew, more)
		steps, e := ledger.Steps(l, renew, more...)
		if !sameSteps(steps, want) || e != wantErr {
			t.Errorf("Steps(%s, %v, %s) = %s, %d, want %s, %d", tell(l), renew, tellTexts(more), tellSteps(steps), e, tellSteps(want), wantErr)
		}
		call, name := ledger.Add, "Add"
		if renew {
			call, name = ledger.Renew, "Renew"
		}
		got, e := call(l, more...)
		if !same(got, to) || e != wantErr {
			t.Errorf("%s(%s, %s) = %s, %d, want %s, %d", name, tell(l), tellTexts(more), tell(got), e, tell(to), wantErr)
		}
		if e == api.OK && !ledger.Right(got) {
			t.Errorf("%s(%s, %s) = %s, which may not be", name, tell(l), tellTexts(more), tell(got))
		}
	}
	if !same(l, before) || !slices.Equal(more, list) {
		t.Errorf("a call changed what it was handed")
	}
}

func TestFormat(t *testing.T) { // P10.1, R2, P1
	check := func(n int) {
		l, e := ledger.Format(n)
		_, want := disk.New(n)
		if e != want {
			t.Errorf("Format(%d): %d, want %d", n, e, want)
		}
		if n < 4 || n > 64 {
			if !same(l, api.Ledger{}) || e != api.ErrArg || ledger.Right(l) {
				t.Errorf("Format(%d) = %s, %d", n, tell(l), e)
			}
			return
		}
		sectors := slices.Repeat([]string{string(make([]byte, size))}, n)
		sectors[0] = "led\x01\x00\x00\x00\x00\x00\x00\x00\x00" + string(make([]byte, 116))
		if e != api.OK || !same(l, api.Ledger{Disk: api.Disk{Sectors: sectors}, Gen: 1}) || !ledger.Right(l) {
			t.Errorf("Format(%d) = %s, %d", n, tell(l), e)
		}
		checkOpen(t, l.Disk)
		checkCalls(t, l)
		checkCalls(t, l, "a", "bc")
	}
	for n := -300; n <= 300; n++ {
		check(n)
	}
	for _, n := range wild {
		check(n)
	}
}

// TestOpenDisk: no disk that may not be is opened, nor one with something in Dirty, whatever its heads tell.
func TestOpenDisk(t *testing.T) { // P10.1, R2, R3, P1
	whole := holding(t, 8, 0, 3, "a", "b").Disk
	for at := range 8 {
		for _, long := range []int{0, 1, 64, 127, 129, 256} {
			d := api.Disk{Sectors: slices.Clone(whole.Sectors)}
			d.Sectors[at] = (d.Sectors[at] + noise(9))[:long]
			if _, e := checkOpen(t, d); e != api.ErrArg {
				t.Errorf("Open with a sector of %d bytes: %d", long, e)
			}
		}
	}
	for n := range 130 {
		d := api.Disk{Sectors: slices.Repeat([]string{headOf(1, 0)}, n)}
		if _, e := checkOpen(t, d); (e == api.OK) != (4 <= n && n <= 64) {
			t.Errorf("Open of %d sectors: %d", n, e)
		}
	}
	for _, dirty := range [][]api.Write{{{At: 0, Data: whole.Sectors[0]}}, {{At: 7, Data: noise(1)}}, {{At: 8, Data: noise(1)}}, {{}}, slices.Repeat([]api.Write{{At: 1, Data: noise(1)}}, 201)} {
		if _, e := checkOpen(t, api.Disk{Sectors: whole.Sectors, Dirty: dirty}); e != api.ErrArg {
			t.Errorf("Open with %d in Dirty: %d", len(dirty), e)
		}
	}
	// ahead of what is torn
	if _, e := checkOpen(t, api.Disk{Sectors: noisy(8).Sectors, Dirty: []api.Write{{At: 0, Data: noise(1)}}}); e != api.ErrArg {
		t.Errorf("Open of noise with something in Dirty: %d", e)
	}
	if _, e := checkOpen(t, api.Disk{Sectors: whole.Sectors, Dirty: []api.Write{}}); e != api.OK {
		t.Errorf("Open with an empty Dirty that is not nil: %d", e)
	}
	checkOpen(t, api.Disk{})
}

// TestHeadBytes: a head with one byte changed tells something else, or nothing.
func TestHeadBytes(t *testing.T) { // P10.1
	for half := range 2 {
		whole := holding(t, 8, half, 258, "a", "").Disk
		for at := range size {
			for c := range 256 {
				head := []byte(headOf(258, 5))
				head[at] = byte(c)
				l, e := checkOpen(t, put(whole, half, string(head), ""))
				was := string(head) == headOf(258, 5)
				if inGen := at >= 3 && at < 8; (e == api.OK) != (was || inGen || at == 8 && c == 0 || at == 9 && (c == 0 || c == 3)) {
					t.Errorf("half %d, byte %d of its head is %d: %s, %d", half, at, c, tell(l), e)
				}
				if e != api.OK && e != api.ErrTorn {
					t.Errorf("half %d, byte %d of its head is %d: %d", half, at, c, e)
				}
			}
		}
	}
}

// TestHeadNumbers: the bounds of Gen and Used, on disks with an even and an odd number of sectors.
func TestHeadNumbers(t *testing.T) { // P10.1
	gens := []int{0, 1, 2, 255, 256, 1 << 16, 1 << 32, mostGen - 1, mostGen, mostGen + 1, 1<<40 + 1<<16, 1 << 41, 1 << 47, 1<<48 - 1}
	for n := 4; n <= 64; n++ {
		size := (n/2 - 1) * 128
		for half := range 2 {
			for _, gen := range gens {
				l, e := checkOpen(t, put(noisy(n), half, headOf(gen, 0), ""))
				if want := 1 <= gen && gen <= mostGen; (e == api.OK) != want || want && (l.Gen != gen || l.Half != half || l.Used != 0) {
					t.Errorf("%d sectors, half %d, Gen %d: %s, %d", n, half, gen, tell(l), e)
				}
			}
			for _, used := range []int{size - 1, size, size + 1, size + 128, size * 2, 1 << 16, 1<<16 + 5, 1 << 23, 1<<24 - 1} {
				s := bound(filling(min(used, size)))
				l, e := checkOpen(t, put(noisy(n), half, headOf(7, used), s))
				if (e == api.OK) != (used <= size) {
					t.Errorf("%d sectors, half %d, Used %d: %s, %d", n, half, used, tell(l), e)
				}
			}
		}
	}
}

// TestHalves: which half is taken, of any two Gens, or heads that do not tell.
func TestHalves(t *testing.T) { // P10.1
	gens := []int{-1, 0, 1, 2, 3, 255, 256, 257, 1 << 39, mostGen - 1, mostGen, mostGen + 1}
	text := func(gen int) string {
		if gen < 0 {
			return noise(5)
		}
		return headOf(gen, 3)
	}
	for _, n := range []int{4, 5, 6, 7, 63, 64} {
		for _, a := range gens {
			for _, b := range gens {
				d := put(put(noisy(n), 0, text(a), "\x01\x00a"), 1, text(b), "\x01\x00b")
				l, e := checkOpen(t, d)
				okA, okB := 1 <= a && a <= mostGen, 1 <= b && b <= mostGen
				want, wantErr := api.Ledger{}, api.ErrTorn
				if okA && (!okB || a >= b) {
					want, wantErr = api.Ledger{Gen: a, Used: 3, Entries: []string{"a"}}, api.OK
				} else if okB {
					want, wantErr = api.Ledger{Half: 1, Gen: b, Used: 3, Entries: []string{"b"}}, api.OK
				}
				if !alike(l, want) || e != wantErr {
					t.Errorf("%d sectors, Gens %d and %d: %s, %d", n, a, b, tell(l), e)
				}
			}
		}
	}
	// an odd disk's last sector is of no half
	d := put(noisy(5), 0, noise(3), "")
	d.Sectors[3], d.Sectors[4] = headOf(1, 0), headOf(1, 0)
	if _, e := checkOpen(t, d); e != api.ErrTorn {
		t.Errorf("Open of heads that stand nowhere: %d", e)
	}
}

// TestNoOtherHalf: where the half of the greater Gen has no entries, the other one's are not taken.
func TestNoOtherHalf(t *testing.T) { // P10.1
	for _, c := range []struct {
		genA, genB int
		a, b       string
		want       api.Errno
	}{
		{2, 1, "\x01\x00a", "\x01\x00b", api.OK},
		{2, 1, "\x02\x00a", "\x01\x00b", api.ErrTorn},
		{2, 1, "\x01\x00a", "\x02\x00b", api.OK},
		{1, 2, "\x01\x00a", "\x02\x00b", api.ErrTorn},
		{1, 2, "\x02\x00a", "\x01\x00b", api.OK},
		{2, 2, "\x02\x00a", "\x01\x00b", api.ErrTorn},
		{2, 2, "\x01\x00a", "\x02\x00b", api.OK},
		{2, 2, "\x02\x00a", "\x02\x00b", api.ErrTorn},
	} {
		d := put(put(noisy(6), 0, headOf(c.genA, 3), c.a), 1, headOf(c.genB, 3), c.b)
		if l, e := checkOpen(t, d); e != c.want {
			t.Errorf("Gens %d and %d: %s, %d, want %d", c.genA, c.genB, tell(l), e, c.want)
		}
	}
	// a head whose Used its room has not tells nothing, so that the other one is taken
	d := put(put(noisy(6), 0, headOf(9, 257), ""), 1, headOf(1, 3), "\x01\x00b")
	if l, e := checkOpen(t, d); e != api.OK || l.Half != 1 {
		t.Errorf("Open beside a head that tells too much: %s, %d", tell(l), e)
	}
}

// TestEntries: which bytes are entries, of however many.
func TestEntries(t *testing.T) { // P10.1
	for _, c := range []struct {
		bytes string
		want  []string
		e     api.Errno
	}{
		{"", nil, api.OK},
		{"\x00\x00", []string{""}, api.OK},
		{"\x00\x00\x00\x00", []string{"", ""}, api.OK},
		{"\x01\x00a", []string{"a"}, api.OK},
		{"\x01\x00a\x00\x00\x02\x00bc", []string{"a", "", "bc"}, api.OK},
		{"\x03\x00\x00\xff\x80", []string{"\x00\xff\x80"}, api.OK},
		{"\x00", nil, api.ErrTorn},
		{"\x01", nil, api.ErrTorn},
		{"\x01\x00", nil, api.ErrTorn},
		{"\x00\x01", nil, api.ErrTorn},
		{"\x00\x00\x00", nil, api.ErrTorn},
		{"\x01\x00a\x00", nil, api.ErrTorn},
		{"\x01\x00a\x01\x00", nil, api.ErrTorn},
		{"\x02\x00a", nil, api.ErrTorn},
		{"\x00\x10aa", nil, api.ErrTorn},
		{"\x01\x10aa", nil, api.ErrTorn},
		{"\xff\xffaa", nil, api.ErrTorn},
	} {
		for half := range 2 {
			l, e := checkOpen(t, put(noisy(8), half, headOf(4, len(c.bytes)), c.bytes))
			if e != c.e || !slices.Equal(l.Entries, c.want) {
				t.Errorf("entries of %q = %q, %d, want %q, %d", c.bytes, l.Entries, e, c.want, c.e)
			}
			if e == api.OK {
				checkCalls(t, l, "x")
			}
		}
	}
	for _, count := range []int{63, 64, 65, 66, 128, 1000, 1983, 1984} {
		l, e := checkOpen(t, put(noisy(64), 1, headOf(4, 2*count), strings.Repeat("\x00\x00", count)))
		if e != api.OK || len(l.Entries) != count {
			t.Errorf("%d empty entries: %s, %d", count, tell(l), e)
		}
	}
	for used := range 300 {
		// each cut of entries is some, or torn
		checkOpen(t, put(noisy(64), 0, headOf(1, used), bound(slices.Repeat([]string{"a", "", "bcd"}, 30))))
	}
	if l, e := checkOpen(t, put(noisy(64), 0, headOf(1, 3968), bound([]string{strings.Repeat("x", 3966)}))); e != api.OK || len(l.Entries[0]) != 3966 {
		t.Errorf("an entry as long as the room: %d", e)
	}
}

// TestRight: a ledger that differs from its disk's in anything may not be, and no call takes it.
func TestRight(t *testing.T) { // P10.1, P10.2, R2, R3, P1
	for half := range 2 {
		whole := holding(t, 9, half, 7, "a", "", "bc")
		checkCalls(t, whole, "x")
		empty := holding(t, 9, half, 7)
		empty.Entries = []string{}
		empty.Disk.Dirty = []api.Write{}
		if !ledger.Right(empty) {
			t.Errorf("a ledger of lists that are empty, but not nil, may not be")
		}
		for what, change := range map[string]func(*api.Ledger){
			"the other half":   func(l *api.Ledger) { l.Half = 1 - l.Half },
			"half 2":           func(l *api.Ledger) { l.Half = 2 },
			"half -1":          func(l *api.Ledger) { l.Half = -1 },
			"Gen 0":            func(l *api.Ledger) { l.Gen = 0 },
			"Gen one more":     func(l *api.Ledger) { l.Gen++ },
			"Gen one less":     func(l *api.Ledger) { l.Gen-- },
			"Gen too great":    func(l *api.Ledger) { l.Gen = mostGen + 1 },
			"Used 0":           func(l *api.Ledger) { l.Used = 0 },
			"Used one more":    func(l *api.Ledger) { l.Used++ },
			"Used one less":    func(l *api.Ledger) { l.Used-- },
			"no entries":       func(l *api.Ledger) { l.Entries = nil },
			"one entry more":   func(l *api.Ledger) { l.Entries = append(slices.Clone(l.Entries), "") },
			"one entry less":   func(l *api.Ledger) { l.Entries = l.Entries[:2] },
			"another entry":    func(l *api.Ledger) { l.Entries = []string{"a", "", "bd"} },
			"entries in order": func(l *api.Ledger) { l.Entries = []string{"", "a", "bc"} },
			"no disk":          func(l *api.Ledger) { l.Disk = api.Disk{} },
			"noise":            func(l *api.Ledger) { l.Disk = noisy(9) },
			"an empty ledger":  func(l *api.Ledger) { *l = api.Ledger{} },
			"an entry on it":   func(l *api.Ledger) { l.Disk.Sectors[half*4+1] = "\x01\x00b" + l.Disk.Sectors[half*4+1][3:] },
			"another head":     func(l *api.Ledger) { l.Disk.Sectors[half*4] = headOf(8, 9) },
			"the other head":   func(l *api.Ledger) { l.Disk.Sectors[4-half*4] = headOf(8, 0) },
			"something dirty":  func(l *api.Ledger) { l.Disk.Dirty = []api.Write{{At: 8, Data: noise(1)}} },
			"a short sector":   func(l *api.Ledger) { l.Disk.Sectors[8] = "x" },
		} {
			l := copied(whole)
			change(&l)
			if ledger.Right(l) {
				t.Errorf("a ledger may be with %s", what)
			}
			checkCalls(t, l, "x")
			// ahead of what the entries are told for
			checkCalls(t, l, slices.Repeat([]string{"x"}, 65)...)
			checkCalls(t, l, strings.Repeat("x", 4097))
		}
		for _, n := range wild {
			for _, l := range []api.Ledger{
				{Disk: whole.Disk, Half: n, Gen: 7, Used: 9, Entries: whole.Entries},
				{Disk: whole.Disk, Half: half, Gen: n, Used: 9, Entries: whole.Entries},
				{Disk: whole.Disk, Half: half, Gen: 7, Used: n, Entries: whole.Entries},
			} {
				checkCalls(t, l, "x")
			}
		}
	}
}

// TestDiskBeside: what stands on a disk beside the entries is a ledger's as well.
func TestDiskBeside(t *testing.T) { // P10.1
	l := holding(t, 9, 0, 7, "a")
	for _, at := range []int{2, 3, 4, 5, 8} {
		c := copied(l)
		c.Disk.Sectors[at] = noise(77)
		if !ledger.Right(c) {
			t.Errorf("a ledger may not be for what stands at %d", at)
		}
		checkCalls(t, c, "x")
	}
}

// TestStepsSectors: any count of bytes behind any other one, so that each edge of sectors is met.
func TestStepsSectors(t *testing.T) { // P10.2, P10.3
	for _, sectors := range []int{4, 5, 8, 9} {
		size := (sectors/2 - 1) * 128
		for half := range 2 {
			for _, used := range []int{0, 2, 3, 60, 63, 64, 65, 126, 127, 128, 129, 130, 191, 192, 200, 254, 255, 256, 257, 300, 383, 384} {
				if used > size {
					continue
				}
				l := holding(t, sectors, half, 5, filling(used)...)
				for more := 0; more <= size+3; more++ {
					if more != 1 {
						checkCalls(t, l, filling(more)...)
					}
				}
			}
		}
	}
}

// TestStepsTold: what the steps are of some entries, told whole.
func TestStepsTold(t *testing.T) { // P10.2
	zeros := func(s string) string { return s + strings.Repeat("\x00", size-len(s)) }
	x := strings.Repeat("x", 200)
	l := holding(t, 8, 0, 1, "a", "bc")
	long := "\x01\x00a\x02\x00bc\xc8\x00" + x
	for _, c := range []struct {
		renew bool
		more  []string
		want  [][]api.Write
	}{
		{false, []string{x}, [][]api.Write{{{At: 1, Data: long[:128]}, {At: 2, Data: zeros(long[128:])}}, {{At: 0, Data: zeros("led\x01\x00\x00\x00\x00\x00\xd1\x00\x00")}}}},
		{false, []string{"d"}, [][]api.Write{{{At: 1, Data: zeros("\x01\x00a\x02\x00bc\x01\x00d")}}, {{At: 0, Data: zeros("led\x01\x00\x00\x00\x00\x00\x0a\x00\x00")}}}},
		{false, nil, [][]api.Write{nil, {{At: 0, Data: zeros("led\x01\x00\x00\x00\x00\x00\x07\x00\x00")}}}},
		{false, []string{""}, [][]api.Write{{{At: 1, Data: zeros("\x01\x00a\x02\x00bc")}}, {{At: 0, Data: zeros("led\x01\x00\x00\x00\x00\x00\x09\x00\x00")}}}},
		{true, []string{"z"}, [][]api.Write{{{At: 5, Data: zeros("\x01\x00z")}}, {{At: 4, Data: zeros("led\x02\x00\x00\x00\x00\x00\x03\x00\x00")}}}},
		{true, []string{x}, [][]api.Write{{{At: 5, Data: long[7:135]}, {At: 6, Data: zeros(long[135:])}}, {{At: 4, Data: zeros("led\x02\x00\x00\x00\x00\x00\xca\x00\x00")}}}},
		{true, nil, [][]api.Write{nil, {{At: 4, Data: zeros("led\x02\x00\x00\x00\x00\x00\x00\x00\x00")}}}},
	} {
		if got, e := ledger.Steps(l, c.renew, c.more...); e != api.OK || !sameSteps(got, c.want) {
			t.Errorf("Steps(.., %v, %s) = %s, %d, want %s", c.renew, tellTexts(c.more), tellSteps(got), e, tellSteps(c.want))
		}
	}
	// entries that begin just at a sector's edge write no sector ahead of it
	l = holding(t, 8, 1, 300, strings.Repeat("y", 126))
	want := [][]api.Write{{{At: 6, Data: zeros("\x01\x00d")}}, {{At: 4, Data: zeros("led\x2c\x01\x00\x00\x00\x00\x83\x00\x00")}}}
	if got, e := ledger.Steps(l, false, "d"); e != api.OK || !sameSteps(got, want) {
		t.Errorf("Steps at an edge = %s, %d, want %s", tellSteps(got), e, tellSteps(want))
	}
}

// TestErrors: which error is told, of each two that apply.
func TestErrors(t *testing.T) { // P10.2, P10.3, R2
	some, long := holding(t, 64, 0, 5, "a"), strings.Repeat("x", 4097)
	last, full := holding(t, 64, 1, mostGen, "a"), holding(t, 64, 1, mostGen, filling(3968)...)
	wrong := some
	wrong.Used++
	for _, c := range []struct {
		what       string
		l          api.Ledger
		more       []string
		add, renew api.Errno
	}{
		{"64 entries", some, slices.Repeat([]string{"x"}, 64), api.OK, api.OK},
		{"65 entries", some, slices.Repeat([]string{"x"}, 65), api.ErrLong, api.ErrLong},
		{"65 empty entries", some, make([]string, 65), api.ErrLong, api.ErrLong},
		{"64 empty entries", some, make([]string, 64), api.OK, api.OK},
		{"4097 bytes", some, []string{long}, api.ErrLong, api.ErrLong},
		{"4097 bytes behind others", some, []string{"a", "b", long}, api.ErrLong, api.ErrLong},
		{"4096 bytes", some, []string{long[1:]}, api.ErrFull, api.ErrFull},
		{"just as many as a half has", some, filling(3968), api.ErrFull, api.OK},
		{"just as many as are left", some, filling(3965), api.OK, api.OK},
		{"one more than are left", some, filling(3966), api.ErrFull, api.OK},
		{"one more than a half has", some, filling(3969), api.ErrFull, api.ErrFull},
		{"64 of 4096", some, slices.Repeat([]string{long[1:]}, 64), api.ErrFull, api.ErrFull},
		{"the last Gen", last, []string{"x"}, api.OK, api.ErrFull},
		{"the last Gen, no entries", last, nil, api.OK, api.ErrFull},
		{"the last Gen, 65 entries", last, make([]string, 65), api.ErrLong, api.ErrLong},
		{"the last Gen, 4097 bytes", last, []string{long}, api.ErrLong, api.ErrLong},
		{"the last Gen and a full half", full, []string{""}, api.ErrFull, api.ErrFull},
		{"the last Gen and a full half, no entries", full, nil, api.OK, api.ErrFull},
		{"a ledger that may not be", wrong, []string{"x"}, api.ErrArg, api.ErrArg},
		{"such a one, 65 entries", wrong, make([]string, 65), api.ErrArg, api.ErrArg},
		{"such a one, 4097 bytes", wrong, []string{long}, api.ErrArg, api.ErrArg},
		{"such a one, too many bytes", wrong, []string{long[1:]}, api.ErrArg, api.ErrArg},
		{"none", api.Ledger{}, nil, api.ErrArg, api.ErrArg},
	} {
		checkCalls(t, c.l, c.more...)
		if _, e := ledger.Add(c.l, c.more...); e != c.add {
			t.Errorf("Add, %s: %d, want %d", c.what, e, c.add)
		}
		if _, e := ledger.Renew(c.l, c.more...); e != c.renew {
			t.Errorf("Renew, %s: %d, want %d", c.what, e, c.renew)
		}
	}
}

// TestLastGens: Renew goes from half to half up to the last Gen, and Add stays.
func TestLastGens(t *testing.T) { // P10.2, P10.3
	l := holding(t, 6, 1, mostGen-3, "a")
	for gen := mostGen - 2; gen <= mostGen; gen++ {
		next, e := ledger.Renew(l, "b")
		if e != api.OK || next.Gen != gen || next.Half != 1-l.Half {
			t.Fatalf("Renew(%s) = %s, %d", tell(l), tell(next), e)
		}
		if l, e = ledger.Add(next, "c"); e != api.OK || l.Gen != gen || l.Half != next.Half || !slices.Equal(l.Entries, []string{"b", "c"}) {
			t.Fatalf("Add(%s) = %s, %d", tell(next), tell(l), e)
		}
	}
	if next, e := ledger.Renew(l, "d"); e != api.ErrFull || !same(next, api.Ledger{}) {
		t.Errorf("Renew(%s) = %s, %d", tell(l), tell(next), e)
	}
	checkCalls(t, l, "d")
}

// TestMany: more entries than are bound at once, one behind the other, until there is no room.
func TestMany(t *testing.T) { // P10.1, P10.3
	l, e := ledger.Format(64)
	for n := range 1984 {
		if n%97 == 0 {
			checkCalls(t, l, "")
			checkOpen(t, l.Disk)
		}
		if l, e = ledger.Add(l, ""); e != api.OK || len(l.Entries) != n+1 {
			t.Fatalf("empty entry %d: %d", n, e)
		}
	}
	if _, e := ledger.Add(l, ""); e != api.ErrFull {
		t.Errorf("an entry behind all room: %d", e)
	}
	if next, e := ledger.Add(l); e != api.OK || !same(next, l) {
		t.Errorf("no entries behind all room: %s, %d", tell(next), e)
	}
	if l, e = ledger.Renew(l, make([]string, 64)...); e != api.OK || len(l.Entries) != 64 || l.Used != 128 {
		t.Errorf("64 empty entries anew: %s, %d", tell(l), e)
	}
}

// TestPlay: Adds and Renews by chance, one behind the other, on a ledger and on a list.
func TestPlay(t *testing.T) { // P10.3
	r := rand.New(rand.NewSource(1))
	for range 100 {
		n := 4 + r.Intn(61)
		l, e := ledger.Format(n)
		var list []string
		room := (n/2 - 1) * 128
		for range 60 {
			more := someEntries(r, 1+r.Intn(room))
			call, want := ledger.Add, append(slices.Clone(list), more...)
			if r.Intn(4) == 0 {
				call, want = ledger.Renew, more
			}
			next, err := call(l, more...)
			if fits := len(bound(want)) <= room; err == api.OK != fits || err != api.OK && err != api.ErrFull {
				t.Fatalf("%d bytes in %d: %d", len(bound(want)), room, err)
			}
			if err == api.OK {
				l, list = next, want
			}
			if !slices.Equal(l.Entries, list) || !ledger.Right(l) {
				t.Fatalf("%s, want %s", tell(l), tellTexts(list))
			}
			checkOpen(t, l.Disk)
		}
		if e != api.OK {
			t.Fatalf("Format(%d): %d", n, e)
		}
	}
}

// someEntries is up to 5 entries by chance, of at most so many bytes in all.
func someEntries(r *rand.Rand, most int) []string {
	var l []string
	for range r.Intn(6) {
		b := make([]byte, r.Intn(most/2+1))
		r.Read(b)
		l = append(l, string(b))
	}
	for len(bound(l)) > most {
		l = l[1:]
	}
	return l
}

// TestNothingShared: an answer is changed by nothing that becomes of an argument, or of another answer, nor changes these.
func TestNothingShared(t *testing.T) { // R1, R4
	roomy := func(l api.Ledger) api.Ledger {
		return api.Ledger{Disk: api.Disk{Sectors: slices.Grow(slices.Clone(l.Disk.Sectors), 9), Dirty: make([]api.Write, 0, 9)}, Half: l.Half, Gen: l.Gen, Used: l.Used, Entries: slices.Grow(slices.Clone(l.Entries), 9)}
	}
	for _, list := range [][]string{nil, {"a"}, {"a", "", "bc"}} {
		for what, call := range map[string]func(l api.Ledger, more []string) (api.Ledger, api.Errno){
			"Open":          func(l api.Ledger, _ []string) (api.Ledger, api.Errno) { return ledger.Open(l.Disk) },
			"Add":           func(l api.Ledger, more []string) (api.Ledger, api.Errno) { return ledger.Add(l, more...) },
			"Add of none":   func(l api.Ledger, _ []string) (api.Ledger, api.Errno) { return ledger.Add(l) },
			"Renew":         func(l api.Ledger, more []string) (api.Ledger, api.Errno) { return ledger.Renew(l, more...) },
			"Renew of none": func(l api.Ledger, _ []string) (api.Ledger, api.Errno) { return ledger.Renew(l) },
		} {
			l, more := roomy(holding(t, 8, 1, 5, list...)), []string{"x", "y"}
			before := copied(l)
			first, e := call(l, more)
			want := copied(first)
			if e != api.OK || !ledger.Right(first) {
				t.Errorf("%s: %d", what, e)
			}
			spoil(first)
			if !same(l, before) || !slices.Equal(more, []string{"x", "y"}) {
				t.Errorf("%s: its answer shares with its arguments", what)
			}
			second, _ := call(l, more)
			if !same(second, want) {
				t.Errorf("%s: its answer hangs on the one ahead", what)
			}
			spoil(l)
			clear(more)
			if !same(second, want) {
				t.Errorf("%s: its arguments share with its answer", what)
			}
		}
	}
}

// spoil writes to all of a ledger's lists, and behind them.
func spoil(l api.Ledger) {
	clear(l.Disk.Sectors[:cap(l.Disk.Sectors)])
	clear(l.Disk.Dirty[:cap(l.Disk.Dirty)])
	clear(l.Entries[:cap(l.Entries)])
}

// TestStepsShared: no two steps share a list, and Steps does none of them.
func TestStepsShared(t *testing.T) { // R1, R4
	l := holding(t, 8, 0, 5, "a", "bc")
	before := copied(l)
	for _, renew := range []bool{false, true} {
		steps, e := ledger.Steps(l, renew, strings.Repeat("x", 200))
		want, _, _ := stepsOf(l, renew, []string{strings.Repeat("x", 200)})
		if e != api.OK || !same(l, before) {
			t.Errorf("Steps changed what it was handed: %d", e)
		}
		for i := range steps {
			c, _ := ledger.Steps(l, renew, strings.Repeat("x", 200))
			clear(c[i][:cap(c[i])])
			if !slices.Equal(c[1-i], want[1-i]) {
				t.Errorf("step %d shares with step %d", i, 1-i)
			}
		}
		if !sameSteps(steps, want) {
			t.Errorf("Steps hang on the ones ahead")
		}
	}
}

func TestExample(t *testing.T) { // P10.3, the chapter's example
	l, e := ledger.Format(8)
	for _, c := range []struct {
		call func(api.Ledger, ...string) (api.Ledger, api.Errno)
		more string
		want []string
	}{
		{ledger.Add, "a", []string{"a"}},
		{ledger.Add, "b", []string{"a", "b"}},
		{ledger.Renew, "c", []string{"c"}},
	} {
		if l, e = c.call(l, c.more); e != api.OK || !slices.Equal(l.Entries, c.want) {
			t.Errorf("%s: %s, %d", c.more, tell(l), e)
		}
	}
}

func Example() {
	l, _ := ledger.Format(8)
	l, _ = ledger.Add(l, "a")
	l, _ = ledger.Add(l, "b")
	fmt.Println(l.Entries)
	l, e := ledger.Renew(l, "c")
	fmt.Println(l.Entries, e)
	// Output:
	// [a b]
	// [c] 0
}
