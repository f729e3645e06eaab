package ledger_test

import (
	"math/rand"
	"strings"
	"testing"

	"consignor/api"
	"consignor/disk"
	"consignor/ledger"
)

// writing is Add, or Renew, of entries, and the ledgers ahead of it and behind it.
type writing struct {
	renew    bool
	more     []string
	old, new api.Ledger
}

// writingOf is one that has room.
func writingOf(t *testing.T, l api.Ledger, renew bool, more []string) writing {
	t.Helper()
	call := ledger.Add
	if renew {
		call = ledger.Renew
	}
	to, e := call(l, more...)
	if e != api.OK {
		t.Fatalf("%d entries more (%v) of %s: %d", len(more), renew, tell(l), e)
	}
	return writing{renew, more, l, to}
}

// eachCrash visits each disk with what is not safe on it that a crash within a writing may find, and the step that goes on.
func (w writing) eachCrash(t *testing.T, visit func(d api.Disk, step int)) {
	t.Helper()
	steps, e := ledger.Steps(w.old, w.renew, w.more...)
	d := w.old.Disk
	for i, step := range steps {
		var saved api.Disk
		for n := range len(step) + 1 {
			if saved, e = disk.Save(d, step[:n]...); e == api.OK {
				visit(saved, i)
			}
		}
		if d, e = disk.Flush(saved); e != api.OK {
			t.Fatalf("step %d: %d", i, e)
		}
	}
	visit(d, len(steps))
	if e != api.OK {
		t.Fatalf("Steps of %s: %d", tell(w.old), e)
	}
}

// checkFound holds that behind a crash Open finds just the ledger that was there, or just the one behind the writing.
func (w writing) checkFound(t *testing.T, d api.Disk, step int, fates []int) api.Ledger {
	t.Helper()
	c, e := disk.Crash(d, fates...)
	if e != api.OK {
		t.Fatalf("Crash: %d", e)
	}
	found, e := checkOpen(t, c)
	isOld, isNew := alike(found, w.old), alike(found, w.new)
	if e != api.OK || !isOld && !isNew {
		t.Errorf("a crash in step %d with fates %d: %s, %d, want %s or %s", step, fates, tell(found), e, tell(w.old), tell(w.new))
	}
	if step == 0 && !isOld || step == 2 && !isNew {
		t.Errorf("a crash in step %d with fates %d: %s", step, fates, tell(found))
	}
	return found
}

// eachFates goes through all rows of so many fates, 3 among them, which is Lost as all others are.
func eachFates(long int, visit func([]int)) {
	fates := make([]int, long)
	for n := range 1 << (2 * long) {
		for i := range fates {
			fates[i] = n >> (2 * i) & 3
		}
		visit(fates)
	}
}

// others are heads of a half that is not the ledger's, of Gen 7: none of them may be taken for the ledger's, torn or not.
func others(half int) []string {
	l := []string{noise(3), string(make([]byte, size)), headOf(6, 0), headOf(6, 1), headOf(1, 128), headOf(6, 1<<20), headOf(0, 0), headOf(mostGen+1, 0), headOf(1<<48-1, 0)}
	// such as tells nothing for its second half alone
	l = append(l, headOf(9, 3)[:64]+noise(1)[64:], headOf(6, 0)[:64]+noise(1)[64:], headOf(9, 0)[:127]+"x", noise(1)[:64]+headOf(9, 0)[64:])
	if half == 0 {
		l = append(l, headOf(7, 3), headOf(7, 0))
	}
	return l
}

// TestCrashEach: each point, and each fate of up to 4 writes, with each head at the other side.
func TestCrashEach(t *testing.T) { // P10.4
	lists := [][]string{nil, {""}, {"a"}, {"a", "", "bc"}, filling(64), filling(100), filling(126), filling(128), filling(130), filling(200)}
	mores := [][]string{nil, {""}, {"x"}, {"x", "", "yz"}, filling(63), filling(64), filling(128), filling(129), filling(184), filling(300)}
	for _, sectors := range []int{10, 11} {
		for half := range 2 {
			for _, list := range lists {
				for _, head := range others(half) {
					l := holding(t, sectors, half, 7, list...)
					l.Disk = put(l.Disk, 1-half, head, "\x01\x00q")
					for i, more := range mores {
						checkEachFate(t, writingOf(t, l, i%2 == 0, more))
						checkEachFate(t, writingOf(t, l, i%2 == 1, more))
					}
				}
			}
		}
	}
}

func checkEachFate(t *testing.T, w writing) {
	t.Helper()
	olds, news := 0, 0
	w.eachCrash(t, func(d api.Disk, step int) {
		eachFates(len(d.Dirty), func(fates []int) {
			if alike(w.checkFound(t, d, step, fates), w.old) {
				olds++
			} else {
				news++
			}
		})
	})
	if olds == 0 || news == 0 && !alike(w.old, w.new) {
		t.Errorf("%d times the old ledger and %d times the new one", olds, news)
	}
}

// TestCrashWide: writes to all of a room, with fates by chance.
func TestCrashWide(t *testing.T) { // P10.4
	r := rand.New(rand.NewSource(3))
	for _, sectors := range []int{4, 5, 33, 64} {
		room := (sectors/2 - 1) * 128
		for half := range 2 {
			for _, used := range []int{0, 2, 100, 128, room / 2, room} {
				l := holding(t, sectors, half, 1, filling(min(used, room))...)
				l.Disk = put(l.Disk, 1-half, strings.Repeat("\xff", size), "")
				for _, w := range []writing{
					writingOf(t, l, false, filling(room-l.Used)),
					writingOf(t, l, true, filling(room)),
					writingOf(t, l, true, filling(room/2)),
				} {
					w.eachCrash(t, func(d api.Disk, step int) {
						for range 20 {
							w.checkFound(t, d, step, someFates(r, len(d.Dirty)))
						}
					})
				}
			}
		}
	}
}

// someFates is at most so many fates by chance.
func someFates(r *rand.Rand, most int) []int {
	var l []int
	for range r.Intn(most + 1) {
		l = append(l, r.Intn(4))
	}
	return l
}

// TestCrashPlay: crashes by chance, one behind the other; behind each the ledger that is found goes on.
func TestCrashPlay(t *testing.T) { // P10.3, P10.4
	r := rand.New(rand.NewSource(4))
	olds, news := 0, 0
	for range 300 {
		l, e := ledger.Format(4 + r.Intn(61))
		for range 40 {
			room := (len(l.Disk.Sectors)/2 - 1) * 128
			more := someEntries(r, 1+room/4)
			renew := r.Intn(3) == 0
			if l.Used+len(bound(more)) > room {
				renew = true
			}
			w := writingOf(t, l, renew, more)
			var all []api.Ledger
			w.eachCrash(t, func(d api.Disk, step int) {
				all = append(all, w.checkFound(t, d, step, someFates(r, len(d.Dirty))))
			})
			l = all[r.Intn(len(all))]
			if alike(l, w.old) {
				olds++
			} else {
				news++
			}
			checkCalls(t, l, more...)
		}
		if e != api.OK {
			t.Fatal(e)
		}
	}
	if olds < 1000 || news < 1000 {
		t.Errorf("too few of a kind: %d and %d", olds, news)
	}
}

// TestChance: disks by chance, some with halves that may be a ledger's, some spoilt.
func TestChance(t *testing.T) { // P10.1, P10.2, P10.3, P1
	r := rand.New(rand.NewSource(5))
	rights, wrongs := 0, 0
	for range 4000 {
		d := someDisk(r)
		l, e := checkOpen(t, d)
		if e == api.OK {
			rights++
		} else {
			wrongs++
		}
		room := max(0, len(d.Sectors)/2-1) * 128
		checkCalls(t, l, someEntries(r, 1+r.Intn(room+200))...)
		l.Half, l.Gen, l.Used = l.Half^r.Intn(2), l.Gen+r.Intn(2), l.Used+r.Intn(2)
		checkCalls(t, l, someEntries(r, 1+r.Intn(room+200))...)
	}
	if rights < 1000 || wrongs < 500 {
		t.Errorf("too few of a kind: %d and %d", rights, wrongs)
	}
}

// someDisk is one by chance.
func someDisk(r *rand.Rand) api.Disk {
	d := noisy(4 + r.Intn(61))
	room := (len(d.Sectors)/2 - 1) * 128
	for half := range 2 {
		s := bound(someEntries(r, room))
		used := len(s)
		if r.Intn(6) == 0 {
			used = r.Intn(room + 9)
		}
		head := []byte(headOf(r.Intn(4), used))
		if r.Intn(6) == 0 {
			head[r.Intn(size)] ^= byte(1 << r.Intn(8))
		}
		d = put(d, half, string(head), s)
	}
	switch r.Intn(20) {
	case 0:
		d.Sectors = d.Sectors[:r.Intn(len(d.Sectors))]
	case 1:
		d.Sectors[r.Intn(len(d.Sectors))] += "x"
	case 2:
		d.Dirty = []api.Write{{At: r.Intn(4), Data: noise(1)}}
	}
	return d
}

// FuzzLedger: any disk and entries are told as the chapter's words tell them, and no crash hurts what may be.
func FuzzLedger(f *testing.F) { // P1, P10.1, P10.2, P10.3, P10.4
	f.Add(8, []byte(headOf(1, 3)+"\x01\x00a"), "a", "bc", false, []byte{2, 1})
	f.Add(5, []byte(headOf(1<<40, 0)), "", strings.Repeat("x", 126), true, []byte{1})
	f.Add(64, []byte(headOf(3, 200)), strings.Repeat("y", 3000), "", true, []byte{2, 2, 0, 1})
	f.Add(3, []byte("led"), strings.Repeat("z", 4097), "", false, []byte{})
	f.Fuzz(func(t *testing.T, n int, bytes []byte, a, b string, renew bool, told []byte) {
		if l, e := ledger.Format(n); (e == api.OK) != (4 <= n && n <= 64) || ledger.Right(l) != (e == api.OK) {
			t.Errorf("Format(%d) = %s, %d", n, tell(l), e)
		}
		var d api.Disk
		for i := range n & 127 {
			s := string(bytes[min(len(bytes), i*size):min(len(bytes), i*size+size)])
			d.Sectors = append(d.Sectors, s+strings.Repeat("\x00", size-len(s)))
		}
		l, e := checkOpen(t, d)
		checkCalls(t, l, a, b)
		if e != api.OK {
			return
		}
		l.Disk = d
		if _, _, e = stepsOf(l, renew, []string{a, b}); e != api.OK {
			return
		}
		var fates []int
		for _, c := range told {
			fates = append(fates, int(int8(c)))
		}
		w := writingOf(t, l, renew, []string{a, b})
		w.eachCrash(t, func(d api.Disk, step int) { w.checkFound(t, d, step, fates) })
	})
}
