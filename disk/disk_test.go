package disk_test

import (
	"fmt"
	"math"
	"math/rand"
	"slices"
	"strings"
	"testing"

	"consignor/api"
	"consignor/disk"
)

const (
	size  = 128 // bytes of a sector
	front = 64  // bytes of its first half
)

// wild are numbers that no place, count or fate of a sector is.
var wild = []int{-1, -2, -64, -128, math.MinInt, math.MinInt + 1, math.MaxInt, math.MaxInt - 1, 1 << 32, 1<<32 + 1, -1 << 32}

// sector is one whose 128 bytes all differ, other ones for another number.
func sector(n int) string {
	b := make([]byte, size)
	for i := range b {
		b[i] = byte(i*(2*n+1) + n)
	}
	return string(b)
}

// letter is a sector of one byte again and again.
func letter(s string) string { return strings.Repeat(s, size) }

// halves is a sector of two halves.
func halves(first, second string) string {
	return strings.Repeat(first, front) + strings.Repeat(second, size-front)
}

// filled is a disk of so many sectors that all differ, and of these writes.
func filled(sectors int, writes ...api.Write) api.Disk {
	d := api.Disk{Dirty: slices.Clone(writes)}
	for n := range sectors {
		d.Sectors = append(d.Sectors, sector(n))
	}
	return d
}

// many are so many writes, to all places of a disk of so many sectors in turn.
func many(writes, sectors int) []api.Write {
	var l []api.Write
	for n := range writes {
		l = append(l, api.Write{At: n * 3 % sectors, Data: sector(100 + n)})
	}
	return l
}

func copied(d api.Disk) api.Disk {
	return api.Disk{Sectors: slices.Clone(d.Sectors), Dirty: slices.Clone(d.Dirty)}
}

func same(d, c api.Disk) bool {
	return slices.Equal(d.Sectors, c.Sectors) && slices.Equal(d.Dirty, c.Dirty)
}

func tell(d api.Disk) string { return fmt.Sprintf("%q with %#v", d.Sectors, d.Dirty) }

// right is what the chapter says of which disk may be.
func right(d api.Disk) bool {
	if len(d.Sectors) < 4 || len(d.Sectors) > 64 || len(d.Dirty) > 200 {
		return false
	}
	for _, s := range d.Sectors {
		if len(s) != 128 {
			return false
		}
	}
	return fit(d, d.Dirty)
}

// fit is what it says of writes that a disk may have.
func fit(d api.Disk, l []api.Write) bool {
	for _, w := range l {
		if w.At < 0 || w.At >= len(d.Sectors) || len(w.Data) != 128 {
			return false
		}
	}
	return true
}

// stands is the sectors of a disk as they stand: all writes, the last one of a place told by coming last.
func stands(d api.Disk) []string {
	l := slices.Clone(d.Sectors)
	for _, w := range d.Dirty {
		l[w.At] = w.Data
	}
	return l
}

// crashed is what the chapter says of a crash, byte by byte.
func crashed(d api.Disk, fates []int) []string {
	var bytes [][]byte
	for _, s := range d.Sectors {
		bytes = append(bytes, []byte(s))
	}
	for i, w := range d.Dirty {
		come := 0
		if i < len(fates) && fates[i] == 1 {
			come = 128
		} else if i < len(fates) && fates[i] == 2 {
			come = 64
		}
		for n := range come {
			bytes[w.At][n] = w.Data[n]
		}
	}
	var l []string
	for _, b := range bytes {
		l = append(l, string(b))
	}
	return l
}

// checkRight holds Right against the chapter's words, and that all calls but New refuse a disk that may not be.
func checkRight(t *testing.T, d api.Disk) bool {
	t.Helper()
	want := right(d)
	if got := disk.Right(d); got != want {
		t.Errorf("Right of %d sectors and %d writes = %v, want %v", len(d.Sectors), len(d.Dirty), got, want)
	}
	for what, e := range refusals(d) {
		if (e == api.OK) != want || e != api.OK && e != api.ErrArg {
			t.Errorf("%s of %d sectors and %d writes: %d", what, len(d.Sectors), len(d.Dirty), e)
		}
	}
	return want
}

// refusals is what calls tell that any disk that may be would take.
func refusals(d api.Disk) map[string]api.Errno {
	all := map[string]api.Errno{}
	var s string
	s, all["Load"] = disk.Load(d, 0)
	if all["Load"] != api.OK && s != "" {
		all["Load"] = -1
	}
	for what, call := range map[string]func() (api.Disk, api.Errno){
		"Save":          func() (api.Disk, api.Errno) { return disk.Save(d) },
		"Flush":         func() (api.Disk, api.Errno) { return disk.Flush(d) },
		"Crash":         func() (api.Disk, api.Errno) { return disk.Crash(d) },
		"Crash of Kept": func() (api.Disk, api.Errno) { return disk.Crash(d, api.Kept) },
		"Crash of Half": func() (api.Disk, api.Errno) { return disk.Crash(d, api.Half, api.Half) },
	} {
		c, e := call()
		if e == api.OK && !disk.Right(c) || e != api.OK && !same(c, api.Disk{}) {
			e = -1
		}
		all[what] = e
	}
	return all
}

func checkLoad(t *testing.T, d api.Disk, at int) {
	t.Helper()
	want, wantErr := "", api.ErrArg
	if right(d) && 0 <= at && at < len(d.Sectors) {
		want, wantErr = stands(d)[at], api.OK
	}
	if got, e := disk.Load(d, at); got != want || e != wantErr {
		t.Errorf("Load(.., %d) = %q, %d, want %q, %d", at, got, e, want, wantErr)
	}
}

func checkSave(t *testing.T, d api.Disk, w ...api.Write) (api.Disk, api.Errno) {
	t.Helper()
	want, wantErr := api.Disk{}, api.OK
	if !right(d) || !fit(d, w) {
		wantErr = api.ErrArg
	} else if len(d.Dirty)+len(w) > 200 {
		wantErr = api.ErrFull
	} else {
		want.Sectors = d.Sectors
		want.Dirty = append(slices.Clone(d.Dirty), w...)
	}
	before, writes := copied(d), slices.Clone(w)
	got, e := disk.Save(d, w...)
	if !same(got, want) || e != wantErr {
		t.Errorf("Save(%d in Dirty, %d) = %d in Dirty, %d, want %d, %d", len(d.Dirty), len(w), len(got.Dirty), e, len(want.Dirty), wantErr)
	}
	if !same(d, before) || !slices.Equal(w, writes) {
		t.Errorf("Save changed what it was handed")
	}
	return got, e
}

func checkFlush(t *testing.T, d api.Disk) {
	t.Helper()
	want, wantErr := api.Disk{}, api.ErrArg
	if right(d) {
		want, wantErr = api.Disk{Sectors: stands(d)}, api.OK
	}
	before := copied(d)
	if got, e := disk.Flush(d); !same(got, want) || e != wantErr {
		t.Errorf("Flush(%d in Dirty) = %s, %d, want %s, %d", len(d.Dirty), tell(got), e, tell(want), wantErr)
	}
	if !same(d, before) {
		t.Errorf("Flush changed what it was handed")
	}
}

func checkCrash(t *testing.T, d api.Disk, fates ...int) {
	t.Helper()
	want, wantErr := api.Disk{}, api.ErrArg
	if right(d) {
		want, wantErr = api.Disk{Sectors: crashed(d, fates)}, api.OK
	}
	before, told := copied(d), slices.Clone(fates)
	got, e := disk.Crash(d, fates...)
	if !same(got, want) || e != wantErr {
		t.Errorf("Crash(%d in Dirty, %d) = %s, %d, want %s, %d", len(d.Dirty), fates, tell(got), e, tell(want), wantErr)
	}
	if !same(d, before) || !slices.Equal(fates, told) {
		t.Errorf("Crash changed what it was handed")
	}
	if wantErr == api.OK && e == api.OK {
		checkHalves(t, d, got)
	}
}

// checkHalves holds that behind a crash each half of a sector is as it was safe, or one of what was written to it.
func checkHalves(t *testing.T, d, behind api.Disk) {
	t.Helper()
	for at, s := range behind.Sectors {
		first, second := s[:front] == d.Sectors[at][:front], s[front:] == d.Sectors[at][front:]
		for _, w := range d.Dirty {
			if w.At == at {
				first = first || s[:front] == w.Data[:front]
				second = second || s[front:] == w.Data[front:]
			}
		}
		if !first || !second {
			t.Errorf("sector %d is %q, whose halves are none of those that it had", at, s)
		}
	}
}

func TestNew(t *testing.T) { // P9.1, R2, P1
	check := func(n int) {
		d, e := disk.New(n)
		if n < 4 || n > 64 {
			if !same(d, api.Disk{}) || e != api.ErrArg {
				t.Errorf("New(%d) = %d sectors, %d", n, len(d.Sectors), e)
			}
			return
		}
		if len(d.Sectors) != n || len(d.Dirty) != 0 || e != api.OK {
			t.Errorf("New(%d) = %d sectors, %d in Dirty, %d", n, len(d.Sectors), len(d.Dirty), e)
		}
		for at, s := range d.Sectors {
			if s != string(make([]byte, 128)) {
				t.Errorf("New(%d): sector %d is %q", n, at, s)
			}
		}
		if !checkRight(t, d) {
			t.Errorf("New(%d) may not be", n)
		}
	}
	for n := -300; n <= 300; n++ {
		check(n)
	}
	for _, n := range wild {
		check(n)
	}
}

func TestRightSectors(t *testing.T) { // P9.1, R3
	rights := 0
	for n := range 130 {
		if checkRight(t, filled(n)) {
			rights++
		}
	}
	if rights != 61 {
		t.Errorf("disks of %d counts of sectors may be", rights)
	}
	for _, n := range []int{4, 5, 64} {
		for at := range n {
			for _, long := range []int{0, 1, 63, 64, 65, 127, 128, 129, 255, 256, 1000} {
				d := filled(n)
				d.Sectors[at] = strings.Repeat("x", long)
				if checkRight(t, d) != (long == 128) {
					t.Errorf("%d sectors, the one at %d of %d bytes", n, at, long)
				}
			}
		}
	}
	for _, d := range []api.Disk{{}, {Sectors: []string{}, Dirty: []api.Write{}}, {Dirty: many(1, 4)}} {
		if checkRight(t, d) {
			t.Errorf("a disk of no sectors may be")
		}
	}
	d := filled(4)
	d.Dirty = []api.Write{}
	if !checkRight(t, d) {
		t.Errorf("a disk whose Dirty is empty, but not nil, may not be")
	}
}

// TestRightBytes: any byte may stand in a sector, and bytes count, not runes.
func TestRightBytes(t *testing.T) { // P9.1, R5
	for c := range 256 {
		s := strings.Repeat(string([]byte{byte(c)}), size)
		d := filled(4, api.Write{At: 2, Data: s})
		d.Sectors[1] = s
		if !checkRight(t, d) {
			t.Errorf("a disk of bytes %d may not be", c)
		}
		checkLoad(t, d, 1)
		checkLoad(t, d, 2)
		checkCrash(t, d, api.Half)
	}
	for _, s := range []string{strings.Repeat("é", 128), strings.Repeat("é", 64), strings.Repeat("é", 63) + "x"} {
		d := filled(4)
		d.Sectors[3] = s
		checkRight(t, d)
		checkRight(t, filled(4, api.Write{At: 1, Data: s}))
	}
}

func TestRightWrites(t *testing.T) { // P9.1
	rights := 0
	for n := range 405 {
		if checkRight(t, filled(4, many(n, 4)...)) {
			rights++
		}
	}
	if rights != 201 {
		t.Errorf("disks of %d counts of writes may be", rights)
	}
	for _, sectors := range []int{4, 7, 64} {
		for _, count := range []int{1, 2, 200} {
			for _, i := range []int{0, count / 2, count - 1} {
				checkEachWrite(t, filled(sectors, many(count, sectors)...), i)
			}
		}
	}
}

// checkEachWrite changes one of a disk's writes in each way.
func checkEachWrite(t *testing.T, d api.Disk, i int) {
	t.Helper()
	for at := -70; at <= 70; at++ {
		c := copied(d)
		c.Dirty[i].At = at
		if checkRight(t, c) != (0 <= at && at < len(d.Sectors)) {
			t.Errorf("%d sectors, a write at %d", len(d.Sectors), at)
		}
	}
	for _, at := range wild {
		c := copied(d)
		c.Dirty[i].At = at
		if checkRight(t, c) {
			t.Errorf("%d sectors, a write at %d", len(d.Sectors), at)
		}
	}
	for _, long := range []int{0, 1, 63, 64, 65, 127, 128, 129, 256} {
		c := copied(d)
		c.Dirty[i].Data = strings.Repeat("x", long)
		if checkRight(t, c) != (long == 128) {
			t.Errorf("a write of %d bytes", long)
		}
	}
}

func TestLoad(t *testing.T) { // P9.1, R2
	a, b, c := letter("a"), letter("b"), letter("c")
	d := filled(4, api.Write{At: 1, Data: a}, api.Write{At: 3, Data: b}, api.Write{At: 1, Data: c}, api.Write{At: 3, Data: b})
	for at, want := range []string{sector(0), c, sector(2), b} {
		if s, e := disk.Load(d, at); s != want || e != api.OK {
			t.Errorf("Load(.., %d) = %q, %d", at, s, e)
		}
	}
	for _, at := range append([]int{4, 5, 63, 64, 128}, wild...) {
		if s, e := disk.Load(d, at); s != "" || e != api.ErrArg {
			t.Errorf("Load(.., %d) = %q, %d", at, s, e)
		}
	}
	for _, n := range []int{4, 5, 33, 64} {
		for _, writes := range []int{0, 1, 2, 20, 199, 200} {
			for at := -5; at < 70; at++ {
				checkLoad(t, filled(n, many(writes, n)...), at)
			}
		}
	}
	// what is written as it was safe is written all the same
	back := filled(4, api.Write{At: 2, Data: a}, api.Write{At: 2, Data: sector(2)})
	if s, e := disk.Load(back, 2); s != sector(2) || e != api.OK {
		t.Errorf("Load of what was written back = %q, %d", s, e)
	}
}

func TestSave(t *testing.T) { // P9.1, R2, R3
	x, y, z := api.Write{At: 0, Data: sector(50)}, api.Write{At: 3, Data: sector(51)}, api.Write{At: 0, Data: sector(52)}
	for _, c := range []struct {
		dirty, writes, want []api.Write
	}{
		{nil, nil, nil},
		{nil, []api.Write{}, nil},
		{nil, []api.Write{x}, []api.Write{x}},
		{nil, []api.Write{x, y, z}, []api.Write{x, y, z}},
		{nil, []api.Write{z, y, x}, []api.Write{z, y, x}},
		{[]api.Write{x}, nil, []api.Write{x}},
		{[]api.Write{x}, []api.Write{y}, []api.Write{x, y}},
		{[]api.Write{y, x}, []api.Write{z}, []api.Write{y, x, z}},
		{[]api.Write{x}, []api.Write{x, x}, []api.Write{x, x, x}},
		{[]api.Write{z, z}, []api.Write{x, y}, []api.Write{z, z, x, y}},
	} {
		d, e := disk.Save(filled(4, c.dirty...), c.writes...)
		if !same(d, filled(4, c.want...)) || e != api.OK {
			t.Errorf("Save(%#v, %#v) = %s, %d", c.dirty, c.writes, tell(d), e)
		}
		checkSave(t, filled(4, c.dirty...), c.writes...)
		for at := range 4 {
			checkLoad(t, d, at)
		}
	}
}

func TestSaveFull(t *testing.T) { // P9.1, R2
	for _, n := range []int{4, 64} {
		for _, there := range []int{0, 1, 2, 100, 150, 198, 199, 200} {
			for _, more := range []int{0, 1, 2, 49, 50, 51, 99, 100, 101, 199, 200, 201, 202, 400, 1000} {
				_, e := checkSave(t, filled(n, many(there, n)...), many(more, n)...)
				if (e == api.ErrFull) != (there+more > 200) || e != api.OK && e != api.ErrFull {
					t.Errorf("%d writes and %d more: %d", there, more, e)
				}
			}
		}
	}
	d := filled(5)
	for n := range 200 {
		var e api.Errno
		if d, e = checkSave(t, d, api.Write{At: n % 5, Data: sector(n)}); e != api.OK {
			t.Fatalf("write %d: %d", n, e)
		}
	}
	checkSave(t, d)
	if c, e := checkSave(t, d, api.Write{Data: sector(1)}); e != api.ErrFull || !same(c, api.Disk{}) {
		t.Errorf("write 201: %d", e)
	}
}

// TestSaveWrong: a write that may not be, at any place among others, is told ahead of there being too many.
func TestSaveWrong(t *testing.T) { // P9.1, R2, P1
	var wrongs []api.Write
	for _, at := range append([]int{4, 5, 63, 64}, wild...) {
		wrongs = append(wrongs, api.Write{At: at, Data: sector(1)})
	}
	for _, long := range []int{0, 1, 64, 127, 129, 256} {
		wrongs = append(wrongs, api.Write{At: 1, Data: strings.Repeat("x", long)})
	}
	wrongs = append(wrongs, api.Write{At: -1}, api.Write{At: 4, Data: "x"})
	for _, there := range []int{0, 1, 199, 200} {
		for _, more := range []int{1, 2, 3, 201, 202} {
			for _, i := range []int{0, more / 2, more - 1} {
				for _, wrong := range wrongs {
					w := many(more, 4)
					w[i] = wrong
					if d, e := checkSave(t, filled(4, many(there, 4)...), w...); e != api.ErrArg || !same(d, api.Disk{}) {
						t.Errorf("Save at %d of %d behind %d of a wrong write: %d", i, more, there, e)
					}
				}
			}
		}
	}
	// a disk that may not be is told ahead of its being full
	full := filled(4, many(201, 4)...)
	if _, e := checkSave(t, full, many(1, 4)...); e != api.ErrArg {
		t.Errorf("Save to a disk of 201 writes: %d", e)
	}
	short := filled(4, many(200, 4)...)
	short.Sectors[0] = ""
	if _, e := checkSave(t, short, many(1, 4)...); e != api.ErrArg {
		t.Errorf("Save to a full disk with an empty sector: %d", e)
	}
}

func TestFlush(t *testing.T) { // P9.2
	a, b, c := letter("a"), letter("b"), letter("c")
	d := filled(5, api.Write{At: 1, Data: a}, api.Write{At: 4, Data: b}, api.Write{At: 1, Data: c})
	want := []string{sector(0), c, sector(2), sector(3), b}
	got, e := disk.Flush(d)
	if e != api.OK || !slices.Equal(got.Sectors, want) || len(got.Dirty) != 0 {
		t.Errorf("Flush = %s, %d", tell(got), e)
	}
	if again, e := disk.Flush(got); e != api.OK || !same(again, got) {
		t.Errorf("Flush again = %s, %d", tell(again), e)
	}
	for _, n := range []int{4, 5, 63, 64} {
		for _, writes := range []int{0, 1, 2, 3, 100, 200} {
			checkFlush(t, filled(n, many(writes, n)...))
		}
	}
}

func TestCrash(t *testing.T) { // P9.2
	old, a, b := sector(1), letter("a"), letter("b")
	one := filled(4, api.Write{At: 1, Data: a})
	two := filled(4, api.Write{At: 1, Data: a}, api.Write{At: 1, Data: b})
	for _, c := range []struct {
		d     api.Disk
		fates []int
		want  string
	}{
		{filled(4), nil, old},
		{filled(4), []int{api.Kept, api.Half}, old},
		{one, nil, old},
		{one, []int{}, old},
		{one, []int{api.Lost}, old},
		{one, []int{api.Kept}, a},
		{one, []int{api.Half}, a[:64] + old[64:]}, // the document's example
		{one, []int{3}, old},
		{one, []int{-1}, old},
		// fates behind the last write's are nobody's
		{one, []int{api.Lost, api.Kept}, old},
		{one, []int{api.Kept, api.Lost, api.Lost}, a},
		{one, []int{api.Half, api.Kept}, a[:64] + old[64:]},
		{two, nil, old},
		{two, []int{api.Kept}, a},
		{two, []int{api.Half}, a[:64] + old[64:]},
		{two, []int{api.Lost, api.Kept}, b},
		{two, []int{api.Lost, api.Half}, b[:64] + old[64:]},
		{two, []int{api.Kept, api.Lost}, a},
		{two, []int{api.Kept, api.Kept}, b},
		{two, []int{api.Kept, api.Half}, halves("b", "a")},
		{two, []int{api.Half, api.Lost}, a[:64] + old[64:]},
		{two, []int{api.Half, api.Kept}, b},
		{two, []int{api.Half, api.Half}, b[:64] + old[64:]},
	} {
		got, e := disk.Crash(c.d, c.fates...)
		if want := []string{sector(0), c.want, sector(2), sector(3)}; e != api.OK || !slices.Equal(got.Sectors, want) || len(got.Dirty) != 0 {
			t.Errorf("Crash(%s, %d) = %s, %d, want %q", tell(c.d), c.fates, tell(got), e, want)
		}
		checkCrash(t, c.d, c.fates...)
	}
}

// TestCrashOthers: each number but those of Kept and Half is Lost.
func TestCrashOthers(t *testing.T) { // P9.2, P1
	d := filled(4, api.Write{At: 2, Data: letter("a")})
	lost, e := disk.Crash(d)
	if e != api.OK || !same(lost, filled(4)) {
		t.Errorf("Crash = %s, %d", tell(lost), e)
	}
	check := func(fate int) {
		got, e := disk.Crash(d, fate)
		if e != api.OK || same(got, lost) == (fate == api.Kept || fate == api.Half) {
			t.Errorf("Crash(.., %d) = %s, %d", fate, tell(got), e)
		}
		checkCrash(t, d, fate)
	}
	for fate := -1000; fate <= 1000; fate++ {
		check(fate)
	}
	for _, fate := range append([]int{1<<32 + 2, 1<<8 + 1, 1<<16 + 2}, wild...) {
		check(fate)
	}
}

// TestCrashEach: up to 5 writes to 2 places, with each fate of each, and of fewer and more than these.
func TestCrashEach(t *testing.T) { // P9.2, P9.3
	for count := range 6 {
		for places := range 1 << count {
			var w []api.Write
			for i := range count {
				w = append(w, api.Write{At: 1 + 2*(places>>i&1), Data: sector(10 + i)})
			}
			d := filled(4, w...)
			checkFlush(t, d)
			for long := range count + 2 {
				eachFates(long, func(fates []int) { checkCrash(t, d, fates...) })
			}
		}
	}
}

// eachFates goes through all rows of so many fates.
func eachFates(long int, visit func([]int)) {
	fates := make([]int, long)
	for {
		visit(fates)
		i := 0
		for i < long && fates[i] == 3 {
			fates[i] = 0
			i++
		}
		if i == long {
			return
		}
		fates[i]++
	}
}

// TestFollows: what P9.3 says follows, and that what is flushed no crash hurts.
func TestFollows(t *testing.T) { // P9.3
	for _, n := range []int{4, 17, 64} {
		for _, writes := range []int{0, 1, 2, 50, 200} {
			d := filled(n, many(writes, n)...)
			flushed, flushErr := disk.Flush(d)
			kept, keptErr := disk.Crash(d, slices.Repeat([]int{api.Kept}, writes)...)
			if flushErr != api.OK || keptErr != api.OK || !same(flushed, kept) {
				t.Errorf("%d sectors, %d writes: a crash in which all are Kept is no Flush: %d, %d", n, writes, flushErr, keptErr)
			}
			for long := range writes + 3 {
				if lost, e := disk.Crash(d, make([]int, long)...); e != api.OK || !same(lost, filled(n)) {
					t.Errorf("%d sectors, %d writes: a crash in which all are Lost: %d", n, writes, e)
				}
			}
			for fate := range 4 {
				if c, e := disk.Crash(flushed, fate, fate); e != api.OK || !same(c, flushed) {
					t.Errorf("%d sectors: a crash behind a flush: %d", n, e)
				}
			}
			for at := range n {
				before, _ := disk.Load(d, at)
				if behind, e := disk.Load(flushed, at); e != api.OK || behind != before {
					t.Errorf("a flush changed sector %d as it stands: %d", at, e)
				}
			}
		}
	}
}

// roomy is a disk whose lists have room behind them, where others may write.
func roomy() api.Disk {
	d := filled(4, many(3, 4)...)
	return api.Disk{Sectors: slices.Grow(d.Sectors, 20), Dirty: slices.Grow(d.Dirty, 20)}
}

// TestNothingShared: an answer is changed by nothing that becomes of an argument or of another answer, nor changes these.
func TestNothingShared(t *testing.T) { // R1, R4
	d, w := roomy(), many(5, 4)[3:]
	one, _ := disk.Save(d, w[0])
	other, _ := disk.Save(d, w[1])
	if !same(one, filled(4, append(many(3, 4), w[0])...)) || !same(other, filled(4, append(many(3, 4), w[1])...)) {
		t.Errorf("two that were saved from one: %s, %s", tell(one), tell(other))
	}
	for what, call := range map[string]func(api.Disk, []api.Write, []int) (api.Disk, api.Errno){
		"Save":         func(d api.Disk, w []api.Write, _ []int) (api.Disk, api.Errno) { return disk.Save(d, w...) },
		"Save of none": func(d api.Disk, _ []api.Write, _ []int) (api.Disk, api.Errno) { return disk.Save(d) },
		"Flush":        func(d api.Disk, _ []api.Write, _ []int) (api.Disk, api.Errno) { return disk.Flush(d) },
		"Crash":        func(d api.Disk, _ []api.Write, f []int) (api.Disk, api.Errno) { return disk.Crash(d, f...) },
		"Crash of none": func(d api.Disk, _ []api.Write, _ []int) (api.Disk, api.Errno) {
			return disk.Crash(d)
		},
	} {
		for _, writes := range [][]api.Write{nil, many(3, 4)} {
			d := roomy()
			d.Dirty = append(d.Dirty[:0], writes...)
			w, fates := many(2, 4), []int{api.Kept, api.Half, api.Lost}
			checkApart(t, what, d, w, func() (api.Disk, api.Errno) { return call(d, w, fates) })
		}
	}
}

// checkApart spoils a call's answer, and then its arguments.
func checkApart(t *testing.T, what string, d api.Disk, w []api.Write, call func() (api.Disk, api.Errno)) {
	t.Helper()
	before, writes := copied(d), slices.Clone(w)
	first, e := call()
	want := copied(first)
	if e != api.OK {
		t.Errorf("%s: %d", what, e)
	}
	spoil(first)
	if !same(d, before) || !slices.Equal(w, writes) {
		t.Errorf("%s: its answer shares with its arguments", what)
	}
	second, _ := call()
	if !same(second, want) {
		t.Errorf("%s: its answer hangs on the one ahead", what)
	}
	spoil(d)
	clear(w)
	if !same(second, want) {
		t.Errorf("%s: its arguments share with its answer", what)
	}
}

// spoil writes to all of a disk's lists, and behind them.
func spoil(d api.Disk) {
	clear(d.Sectors[:cap(d.Sectors)])
	clear(d.Dirty[:cap(d.Dirty)])
}

// chance is a disk by chance that may be, of writes to few places, some of which are as the sector is already.
func chance(r *rand.Rand) api.Disk {
	n := 4 + r.Intn(61)
	d := api.Disk{}
	for range n {
		d.Sectors = append(d.Sectors, sector(r.Intn(20)))
	}
	places := 1 + r.Intn(n)
	for range r.Intn(201) {
		d.Dirty = append(d.Dirty, api.Write{At: r.Intn(places), Data: sector(r.Intn(20))})
	}
	return d
}

// spoilt is a disk by chance with something changed, so that it may be no more.
func spoilt(r *rand.Rand, d api.Disk) api.Disk {
	d = copied(d)
	texts := []string{"", "x", sector(1)[1:], sector(1) + "x", letter("x")}
	switch r.Intn(4) {
	case 0:
		d.Sectors[r.Intn(len(d.Sectors))] = texts[r.Intn(len(texts))]
	case 1:
		d.Sectors = d.Sectors[:r.Intn(len(d.Sectors))]
	case 2:
		d.Dirty = append(d.Dirty, api.Write{At: r.Intn(80) - 8, Data: texts[r.Intn(len(texts))]})
	default:
		d.Dirty = append(d.Dirty, slices.Repeat([]api.Write{{Data: letter("y")}}, r.Intn(203))...)
	}
	return d
}

// checkChance holds all calls of a disk against the chapter's words, with other arguments by chance.
func checkChance(t *testing.T, r *rand.Rand, d api.Disk) {
	t.Helper()
	checkRight(t, d)
	checkFlush(t, d)
	checkLoad(t, d, r.Intn(len(d.Sectors)+3)-1)
	var w []api.Write
	for range r.Intn(5) {
		w = append(w, api.Write{At: r.Intn(len(d.Sectors) + 1), Data: sector(r.Intn(20))})
	}
	checkSave(t, d, w...)
	var fates []int
	for range r.Intn(len(d.Dirty) + 3) {
		fates = append(fates, r.Intn(5)-1)
	}
	checkCrash(t, d, fates...)
}

func TestChance(t *testing.T) { // P9.1, P9.2, P9.3, R1
	r := rand.New(rand.NewSource(1))
	rights, wrongs := 0, 0
	for range 4000 {
		d := chance(r)
		checkChance(t, r, d)
		d = spoilt(r, d)
		checkChance(t, r, d)
		if disk.Right(d) {
			rights++
		} else {
			wrongs++
		}
	}
	if rights < 200 || wrongs < 1000 {
		t.Errorf("too few of a kind: %d and %d", rights, wrongs)
	}
}

// TestPlay: deeds by chance, one behind the other, on one disk and on a model that keeps each sector's writes by itself.
func TestPlay(t *testing.T) { // P9.1, P9.2, P9.3
	r := rand.New(rand.NewSource(2))
	for range 200 {
		n := 4 + r.Intn(61)
		d, e := disk.New(n)
		safe, now, writes := slices.Repeat([]string{letter("\x00")}, n), slices.Repeat([]string{letter("\x00")}, n), 0
		for range 100 {
			switch r.Intn(6) {
			case 0:
				d, e = disk.Flush(d)
				copy(safe, now)
				writes = 0
			case 1:
				// without fates all that was not flushed is lost
				d, e = disk.Crash(d)
				copy(now, safe)
				writes = 0
			case 2:
				d, e = disk.Crash(d, slices.Repeat([]int{api.Kept}, writes)...)
				copy(safe, now)
				writes = 0
			default:
				at, s := r.Intn(n), sector(r.Intn(1000))
				d, e = disk.Save(d, api.Write{At: at, Data: s})
				now[at] = s
				writes++
			}
			if e != api.OK || len(d.Dirty) != writes || !slices.Equal(d.Sectors, safe) {
				t.Fatalf("%d in Dirty, want %d: %d", len(d.Dirty), writes, e)
			}
			at := r.Intn(n)
			if s, e := disk.Load(d, at); e != api.OK || s != now[at] {
				t.Fatalf("Load(.., %d) = %q, %d, want %q", at, s, e, now[at])
			}
		}
	}
}

// FuzzDisk: any arguments are told as the chapter's words tell them.
func FuzzDisk(f *testing.F) { // P1, P9.1, P9.2, R1
	f.Add(4, 0, 0, "", []byte{}, int64(1))
	f.Add(64, 63, 200, letter("x"), []byte{0, 1, 2, 3}, int64(2))
	f.Add(5, -1, 1, "x", []byte{2, 1}, int64(3))
	f.Add(math.MinInt, math.MaxInt, 201, letter("x")+"y", []byte{255}, int64(4))
	f.Fuzz(func(t *testing.T, n, at, writes int, s string, told []byte, seed int64) {
		if d, e := disk.New(n); (e == api.OK) != (4 <= n && n <= 64) || disk.Right(d) != (e == api.OK) {
			t.Errorf("New(%d): %d", n, e)
		}
		var fates []int
		for _, c := range told {
			fates = append(fates, int(int8(c)))
		}
		sectors := n & 127
		if sectors == 0 {
			sectors = 4
		}
		d := filled(sectors, many(writes&255, sectors)...)
		r := rand.New(rand.NewSource(seed))
		for _, d := range []api.Disk{d, chance(r), spoilt(r, chance(r)), filled(sectors, api.Write{At: at, Data: s})} {
			checkRight(t, d)
			checkLoad(t, d, at)
			checkSave(t, d, api.Write{At: at, Data: s})
			checkFlush(t, d)
			checkCrash(t, d, fates...)
		}
	})
}

func Example() {
	d, _ := disk.New(4)
	d, _ = disk.Save(d, api.Write{At: 1, Data: letter("a")})
	d, _ = disk.Crash(d, api.Half)
	s, e := disk.Load(d, 1)
	fmt.Println(s == halves("a", "\x00"), e)
	// Output: true 0
}
