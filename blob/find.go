package blob

import (
	"slices"

	"consignor/api"
)

// first is the place of the first one in a list that is so.
func first[T any](l []T, so func(T) bool) (int, api.Errno) {
	place := slices.IndexFunc(l, so)
	if place < 0 {
		return 0, api.ErrNone
	}
	return place, api.OK
}

// uploadPlace is the place of an upload among blobs that may be.
func uploadPlace(b api.Blobs, id int) (int, api.Errno) {
	if !Right(b) {
		return 0, api.ErrArg
	}
	return first(b.Uploads, func(u api.Upload) bool { return u.Id == id })
}

// objectPlace is the place of an object among others.
func objectPlace(l []api.Object, digest string) (int, api.Errno) {
	return first(l, func(o api.Object) bool { return o.Digest == digest })
}

// dataOf is an object's bytes, among blobs that may be.
func dataOf(b api.Blobs, digest string) (string, api.Errno) {
	if !Right(b) {
		return "", api.ErrArg
	}
	place, e := objectPlace(b.Objects, digest)
	if e != api.OK {
		return "", e
	}
	return b.Objects[place].Data, api.OK
}
