package blob_test

import (
	"crypto/sha256"
	"encoding/hex"
	"fmt"
	"math"
	"slices"
	"strings"

	"consignor/api"
)

// What the chapter says, word by word, without the package that it stands on.

// wild are numbers that no quota, place or upload of blobs is.
var wild = []int{-1, -2, -64, math.MinInt, math.MinInt + 1, math.MaxInt, math.MaxInt - 1, -1 << 32, -1 << 40, 1<<40 + 1, 1 << 62}

// of is a text's digest, as the library sums it.
func of(s string) string {
	sum := sha256.Sum256([]byte(s))
	return "sha256:" + hex.EncodeToString(sum[:])
}

// isDigest tells whether a text is some digest.
func isDigest(s string) bool {
	digits, ok := strings.CutPrefix(s, "sha256:")
	raw, e := hex.DecodeString(digits)
	return ok && e == nil && len(raw) == 32 && hex.EncodeToString(raw) == digits
}

func right(b api.Blobs) bool {
	if len(b.Objects) > 64 || len(b.Uploads) > 16 || b.Last < 0 || b.Last > 1<<40 || b.Quota < 0 || b.Quota > 1<<20 {
		return false
	}
	bytes, digests := 0, map[string]bool{}
	for _, o := range b.Objects {
		if len(o.Data) > 4096 || of(o.Data) != o.Digest || digests[o.Digest] {
			return false
		}
		bytes += len(o.Data)
		digests[o.Digest] = true
	}
	for i, u := range b.Uploads {
		if len(u.Data) > 4096 || u.Id < 1 || u.Id > b.Last || i > 0 && u.Id <= b.Uploads[i-1].Id {
			return false
		}
	}
	return bytes <= b.Quota
}

// objects are the data by their digests.
func objects(b api.Blobs) map[string]string {
	all := map[string]string{}
	for _, o := range b.Objects {
		all[o.Digest] = o.Data
	}
	return all
}

func sizeOf(b api.Blobs, digest string) (int, api.Errno) {
	if !right(b) {
		return 0, api.ErrArg
	}
	s, ok := objects(b)[digest]
	if !ok {
		return 0, api.ErrNone
	}
	return len(s), api.OK
}

func readOf(b api.Blobs, digest string, from, many int) (string, api.Errno) {
	long, e := sizeOf(b, digest)
	if e != api.OK {
		return "", e
	}
	if from < 0 || from > long || many < 0 {
		return "", api.ErrRange
	}
	s := objects(b)[digest]
	var read []byte
	for i := from; i < long && len(read) < many; i++ {
		read = append(read, s[i])
	}
	return string(read), api.OK
}

func begun(b api.Blobs) (api.Blobs, int, api.Errno) {
	if !right(b) {
		return api.Blobs{}, 0, api.ErrArg
	}
	if len(b.Uploads) == 16 || b.Last == 1<<40 {
		return api.Blobs{}, 0, api.ErrFull
	}
	b = copied(b)
	b.Last++
	b.Uploads = append(b.Uploads, api.Upload{Id: b.Last})
	return b, b.Last, api.OK
}

// placeOf is where an upload stands.
func placeOf(b api.Blobs, id int) (int, api.Errno) {
	if !right(b) {
		return 0, api.ErrArg
	}
	for i, u := range b.Uploads {
		if u.Id == id {
			return i, api.OK
		}
	}
	return 0, api.ErrNone
}

func pushed(b api.Blobs, id, offset int, data string) (api.Blobs, api.Errno) {
	i, e := placeOf(b, id)
	if e != api.OK {
		return api.Blobs{}, e
	}
	if offset != len(b.Uploads[i].Data) {
		return api.Blobs{}, api.ErrRange
	}
	if offset+len(data) > 4096 {
		return api.Blobs{}, api.ErrLong
	}
	b = copied(b)
	b.Uploads[i].Data += data
	return b, api.OK
}

func offsetOf(b api.Blobs, id int) (int, api.Errno) {
	i, e := placeOf(b, id)
	if e != api.OK {
		return 0, e
	}
	return len(b.Uploads[i].Data), api.OK
}

func ended(b api.Blobs, id int, digest string) (api.Blobs, api.Errno) {
	i, e := placeOf(b, id)
	if e != api.OK {
		return api.Blobs{}, e
	}
	data := b.Uploads[i].Data
	if !isDigest(digest) {
		return api.Blobs{}, api.ErrSyntax
	}
	if of(data) != digest {
		return api.Blobs{}, api.ErrDigest
	}
	without, _ := droppedOf(b, id)
	if _, ok := objects(b)[digest]; ok {
		return without, api.OK
	}
	if len(b.Objects) == 64 {
		return api.Blobs{}, api.ErrFull
	}
	bytes := len(data)
	for _, s := range objects(b) {
		bytes += len(s)
	}
	if bytes > b.Quota {
		return api.Blobs{}, api.ErrQuota
	}
	without.Objects = append(without.Objects, api.Object{Digest: digest, Data: data})
	return without, api.OK
}

func droppedOf(b api.Blobs, id int) (api.Blobs, api.Errno) {
	if _, e := placeOf(b, id); e != api.OK {
		return api.Blobs{}, e
	}
	c := api.Blobs{Objects: slices.Clone(b.Objects), Quota: b.Quota, Last: b.Last}
	for _, u := range b.Uploads {
		if u.Id != id {
			c.Uploads = append(c.Uploads, u)
		}
	}
	return c, api.OK
}

func copied(b api.Blobs) api.Blobs {
	return api.Blobs{Objects: slices.Clone(b.Objects), Quota: b.Quota, Uploads: slices.Clone(b.Uploads), Last: b.Last}
}

func same(b, c api.Blobs) bool {
	return slices.Equal(b.Objects, c.Objects) && b.Quota == c.Quota && slices.Equal(b.Uploads, c.Uploads) && b.Last == c.Last
}

func tell(b api.Blobs) string {
	var l []string
	for _, o := range b.Objects {
		l = append(l, fmt.Sprintf("%.12s: %d bytes", o.Digest, len(o.Data)))
	}
	for _, u := range b.Uploads {
		l = append(l, fmt.Sprintf("%d: %d bytes", u.Id, len(u.Data)))
	}
	return fmt.Sprintf("{quota %d, last %d, %.600s}", b.Quota, b.Last, strings.Join(l, ", "))
}

// told is blobs that are told only where something is printed.
type told api.Blobs

func (b told) String() string { return tell(api.Blobs(b)) }
