package blob

import (
	"consignor/api"
	"consignor/digest"
)

// kept is blobs, of lists of their own, that have an object now: behind all others, if they had it not.
func kept(b api.Blobs, o api.Object) (api.Blobs, api.Errno) {
	if e := digest.Fits(o.Digest, o.Data); e != api.OK {
		return api.Blobs{}, e
	}
	// ahead of whether there is room: what is there already needs none
	if has(b.Objects, o.Digest) {
		return b, api.OK
	}
	switch {
	case len(b.Objects) == api.MaxBlobs:
		return api.Blobs{}, api.ErrFull
	case size(b.Objects)+len(o.Data) > b.Quota:
		return api.Blobs{}, api.ErrQuota
	}
	b.Objects = append(b.Objects, o)
	return b, api.OK
}

// has tells whether there is an object of a digest.
func has(l []api.Object, digest string) bool {
	_, e := objectPlace(l, digest)
	return e == api.OK
}

// size is how many bytes objects have in all.
func size(l []api.Object) int {
	n := 0
	for _, o := range l {
		n += len(o.Data)
	}
	return n
}
