package ledger

import (
	"strings"

	"consignor/api"
)

// layer lays the steps that write bound entries.
type layer func(bound string) ([][]api.Write, api.Errno)

// adding lays entries behind those that a ledger has.
func adding(l api.Ledger) layer {
	h := halfOf(l.Disk, l.Half)
	return laying(h, l.Gen, h.room(l.Disk)[:l.Used])
}

// renewing lays entries into the half in which a ledger is not.
func renewing(l api.Ledger) layer {
	return laying(halfOf(l.Disk, 1-l.Half), l.Gen+1, "")
}

// laying lays entries into a half behind the bytes that stay there, and a head of that Gen.
func laying(h half, gen int, there string) layer {
	return func(bound string) ([][]api.Write, api.Errno) {
		used := len(there) + len(bound)
		if used > h.size() || gen > api.MaxTick {
			return nil, api.ErrFull
		}
		// a step of its own for the head: it must not tell of what is not safe yet
		return [][]api.Write{h.filled(there, bound), {h.headed(gen, used)}}, api.OK
	}
}

// filled is the writes that put fresh bytes into a half's room, behind those that stay there.
func (h half) filled(there, fresh string) []api.Write {
	if fresh == "" {
		return nil
	}
	// what stays is written anew in the sector that it shares with what is fresh, the same, so that a torn write does not hurt it
	text := there + fresh
	var l []api.Write
	for i := len(there) / api.Sector; i*api.Sector < len(text); i++ {
		l = append(l, api.Write{At: h.head + 1 + i, Data: sector(text[i*api.Sector:])})
	}
	return l
}

// sector is one that begins as s does, with bytes 0 behind it where s is shorter.
func sector(s string) string {
	s = s[:min(len(s), api.Sector)]
	return s + strings.Repeat(blank, api.Sector-len(s))
}
