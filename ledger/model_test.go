package ledger_test

import (
	"fmt"
	"math"
	"slices"
	"strings"

	"consignor/api"
)

// What the chapter says, byte by byte, without the packages that it stands on.

const (
	size    = 128     // bytes of a sector
	mostGen = 1 << 40 // of a head
)

// wild are numbers that no field of a ledger is.
var wild = []int{-1, -2, -128, math.MinInt, math.MinInt + 1, math.MaxInt, math.MaxInt - 1, 1 << 32, 1<<32 + 1, -1 << 32, 1<<40 + 1}

// number is one in bytes.
func number(s string) int {
	n := 0
	for i := range len(s) {
		n += int(s[i]) << (8 * i)
	}
	return n
}

// headOf is the sector of a head that tells this.
func headOf(gen, used int) string {
	b := make([]byte, size)
	copy(b, "led")
	for i := range 6 {
		b[3+i] = byte(gen >> (8 * i))
	}
	for i := range 3 {
		b[9+i] = byte(used >> (8 * i))
	}
	return string(b)
}

// tells is what a head tells of a room of so many bytes, if it does.
func tells(s string, room int) (gen, used int, ok bool) {
	gen, used = number(s[3:9]), number(s[9:12])
	ok = s[:3] == "led" && 1 <= gen && gen <= mostGen && used <= room && strings.Trim(s[12:], "\x00") == ""
	return gen, used, ok
}

// bound is texts, each behind its length.
func bound(l []string) string {
	s := ""
	for _, p := range l {
		s += string([]byte{byte(len(p)), byte(len(p) >> 8)}) + p
	}
	return s
}

// entries is what bound texts are, if they are.
func entries(s string) ([]string, bool) {
	var l []string
	for len(s) > 0 {
		if len(s) < 2 {
			return nil, false
		}
		n := number(s[:2])
		if n > 4096 || n > len(s)-2 {
			return nil, false
		}
		l = append(l, s[2:2+n])
		s = s[2+n:]
	}
	return l, true
}

// rightDisk is which disk may be, with nothing in Dirty.
func rightDisk(d api.Disk) bool {
	if len(d.Sectors) < 4 || len(d.Sectors) > 64 || len(d.Dirty) != 0 {
		return false
	}
	return !slices.ContainsFunc(d.Sectors, func(s string) bool { return len(s) != size })
}

// room is a half's room, and how many bytes it has.
func room(d api.Disk, half int) string {
	h := len(d.Sectors) / 2
	return strings.Join(d.Sectors[half*h+1:half*h+h], "")
}

// opened is the ledger of a disk.
func opened(d api.Disk) (api.Ledger, api.Errno) {
	if !rightDisk(d) {
		return api.Ledger{}, api.ErrArg
	}
	h := len(d.Sectors) / 2
	gen0, used0, ok0 := tells(d.Sectors[0], len(room(d, 0)))
	gen1, used1, ok1 := tells(d.Sectors[h], len(room(d, 1)))
	l := api.Ledger{Disk: d}
	switch {
	case ok0 && (!ok1 || gen0 >= gen1):
		l.Half, l.Gen, l.Used = 0, gen0, used0
	case ok1:
		l.Half, l.Gen, l.Used = 1, gen1, used1
	default:
		return api.Ledger{}, api.ErrTorn
	}
	all, ok := entries(room(d, l.Half)[:l.Used])
	if !ok {
		return api.Ledger{}, api.ErrTorn
	}
	l.Entries = all
	return l, api.OK
}

func right(l api.Ledger) bool {
	found, e := opened(l.Disk)
	return e == api.OK && same(found, l)
}

// stepsOf is the steps that lay entries, and the ledger behind them.
func stepsOf(l api.Ledger, renew bool, more []string) ([][]api.Write, api.Ledger, api.Errno) {
	if !right(l) {
		return nil, api.Ledger{}, api.ErrArg
	}
	if len(more) > 64 || slices.ContainsFunc(more, func(s string) bool { return len(s) > 4096 }) {
		return nil, api.Ledger{}, api.ErrLong
	}
	to := copied(l)
	if renew {
		to.Half, to.Gen, to.Used, to.Entries = 1-l.Half, l.Gen+1, 0, nil
	}
	fresh, bytes := bound(more), []byte(room(l.Disk, to.Half))
	if len(fresh) > len(bytes)-to.Used || to.Gen > mostGen {
		return nil, api.Ledger{}, api.ErrFull
	}
	clear(bytes[to.Used:])
	h := len(l.Disk.Sectors) / 2
	var writes []api.Write
	for i := range len(fresh) {
		bytes[to.Used+i] = fresh[i]
	}
	for i := range h - 1 {
		// some byte that is fresh stands in it
		if len(fresh) > 0 && to.Used < (i+1)*size && to.Used+len(fresh) > i*size {
			w := api.Write{At: to.Half*h + 1 + i, Data: string(bytes[i*size : (i+1)*size])}
			writes = append(writes, w)
			to.Disk.Sectors[w.At] = w.Data
		}
	}
	to.Used += len(fresh)
	to.Entries = append(to.Entries, more...)
	head := api.Write{At: to.Half * h, Data: headOf(to.Gen, to.Used)}
	to.Disk.Sectors[head.At] = head.Data
	return [][]api.Write{writes, {head}}, to, api.OK
}

func copied(l api.Ledger) api.Ledger {
	l.Disk = api.Disk{Sectors: slices.Clone(l.Disk.Sectors), Dirty: slices.Clone(l.Disk.Dirty)}
	l.Entries = slices.Clone(l.Entries)
	return l
}

func same(l, m api.Ledger) bool {
	return slices.Equal(l.Disk.Sectors, m.Disk.Sectors) && slices.Equal(l.Disk.Dirty, m.Disk.Dirty) && alike(l, m)
}

// alike tells whether two ledgers are the same but for what stands on their disks beside their entries.
func alike(l, m api.Ledger) bool {
	return l.Half == m.Half && l.Gen == m.Gen && l.Used == m.Used && slices.Equal(l.Entries, m.Entries)
}

func sameSteps(s, c [][]api.Write) bool {
	return slices.EqualFunc(s, c, func(a, b []api.Write) bool { return slices.Equal(a, b) })
}

func tell(l api.Ledger) string {
	return fmt.Sprintf("%d sectors, %d in Dirty, half %d, Gen %d, Used %d, %d entries: %s", len(l.Disk.Sectors), len(l.Disk.Dirty), l.Half, l.Gen, l.Used, len(l.Entries), tellTexts(l.Entries))
}

func tellTexts(l []string) string { return fmt.Sprintf("%.200s", fmt.Sprintf("%q", l)) }

func tellSteps(steps [][]api.Write) string { return fmt.Sprintf("%.900s", fmt.Sprintf("%#v", steps)) }
