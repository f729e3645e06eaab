package manifest

import (
	"slices"

	"consignor/api"
	"consignor/digest"
)

const (
	mostLayers = 8
	mostKids   = 8 // fewer than the items that a row may have
)

func areLayers(layers []api.Layer) bool {
	if len(layers) > mostLayers {
		return false
	}
	for _, l := range layers {
		if !isDigest(l.Digest) || l.Size < 0 || l.Size > api.MaxText {
			return false
		}
	}
	return true
}

func areKids(kids []string) bool {
	if len(kids) == 0 || len(kids) > mostKids {
		return false
	}
	for i, k := range kids {
		if !isDigest(k) || slices.Contains(kids[:i], k) {
			return false
		}
	}
	return true
}

func isDigest(s string) bool {
	_, e := digest.Parse(s)
	return e == api.OK
}
