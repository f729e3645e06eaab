package disk

import "consignor/api"

// Right tells whether a disk may be.
func Right(d api.Disk) bool {
	// ahead of what they hold, so that lists of any length are told fast
	if !mayHave(len(d.Sectors)) || len(d.Dirty) > api.MaxWrites {
		return false
	}
	for _, s := range d.Sectors {
		if !isSector(s) {
			return false
		}
	}
	return allFit(d, d.Dirty)
}

func mayHave(sectors int) bool { return fewest <= sectors && sectors <= api.MaxSectors }

// allFit tells whether writes are whole sectors, each at a place that the disk has.
func allFit(d api.Disk, l []api.Write) bool {
	for _, w := range l {
		if !isPlace(d, w.At) || !isSector(w.Data) {
			return false
		}
	}
	return true
}

func isPlace(d api.Disk, at int) bool { return 0 <= at && at < len(d.Sectors) }

func isSector(s string) bool { return len(s) == api.Sector }
