package disk

import (
	"slices"

	"consignor/api"
)

// Crash is what is left of a disk whose writes have these fates, one by one; those that are told none are lost.
func Crash(d api.Disk, fates ...int) (api.Disk, api.Errno) {
	if !Right(d) {
		return api.Disk{}, api.ErrArg
	}
	sectors := slices.Clone(d.Sectors)
	for i, w := range d.Dirty[:min(len(d.Dirty), len(fates))] {
		sectors[w.At] = left(fates[i], sectors[w.At], w.Data)
	}
	return api.Disk{Sectors: sectors}, api.OK
}

// left is what a write's fate makes of a sector.
func left(fate int, sector, written string) string {
	first, second := sector[:half], sector[half:]
	switch fate {
	case api.Kept:
		second = written[half:]
		// no second half is written without the first one
		fallthrough
	case api.Half:
		first = written[:half]
	}
	return first + second
}
