package ledger

import (
	"strings"

	"consignor/api"
	"consignor/octet"
)

const (
	halves = 2
	blank  = "\x00"
)

// A head is these letters, Gen, Used, and bytes 0: all that differs lies in the half of a sector that no crash tears.
const (
	letters  = "led"
	genSize  = 6
	usedSize = 3
	genAt    = len(letters)
	usedAt   = genAt + genSize
	usedEnd  = usedAt + usedSize
)

// lengthSize is how many bytes tell a bound entry's length.
const lengthSize = 2

// half is one of a disk's halves: the place of its head, and that behind its room.
type half struct {
	head, end int
}

func halfOf(d api.Disk, n int) half {
	sectors := len(d.Sectors) / halves
	return half{n * sectors, (n + 1) * sectors}
}

// size is how many bytes its room has.
func (h half) size() int { return (h.end - h.head - 1) * api.Sector }

// room is its room's bytes.
func (h half) room(d api.Disk) string { return strings.Join(d.Sectors[h.head+1:h.end], "") }

// told is what its head tells, and zeros if it does not.
func (h half) told(d api.Disk) (gen, used int) {
	s := d.Sectors[h.head]
	gen, used = whole(s[genAt:usedAt]), whole(s[usedAt:usedEnd])
	if gen < 1 || gen > api.MaxTick || used > h.size() || s != headText(gen, used) {
		return 0, 0
	}
	return gen, used
}

// headed is the write that has its head tell this.
func (h half) headed(gen, used int) api.Write {
	return api.Write{At: h.head, Data: headText(gen, used)}
}

func headText(gen, used int) string {
	return sector(letters + wide(gen, genSize) + wide(used, usedSize))
}

// wide is a number in bytes; what heads tell has room in theirs.
func wide(n, size int) string {
	s, _ := octet.Wide(uint64(n), size)
	return s
}

// whole is the number that a few bytes are, too few for one that is refused.
func whole(s string) int {
	n, _ := octet.Whole(s)
	return int(n)
}

// loose is the entries that a room's bytes are: one by one, as there may be more of them than are bound at once.
func loose(s string) ([]string, api.Errno) {
	var all []string
	for s != "" {
		end := firstEnd(s)
		one, e := octet.Loose(s[:end])
		if e != api.OK {
			return nil, e
		}
		all = append(all, one...)
		s = s[end:]
	}
	return all, api.OK
}

// firstEnd is where the entry that s begins with ends, at most where s does.
func firstEnd(s string) int {
	return min(len(s), lengthSize+whole(s[:min(len(s), lengthSize)]))
}
