package blob

import (
	"consignor/api"
	"consignor/digest"
)

const maxQuota = 1 << 20

// Right tells whether blobs may be.
func Right(b api.Blobs) bool {
	// ahead of what they hold, so that lists of any length are told fast
	if len(b.Objects) > api.MaxBlobs || len(b.Uploads) > api.MaxUploads {
		return false
	}
	return isQuota(b.Quota) && isLast(b.Last) && areUploads(b.Uploads, b.Last) && areObjects(b.Objects) && size(b.Objects) <= b.Quota
}

func isQuota(n int) bool { return 0 <= n && n <= maxQuota }

func isLast(n int) bool { return 0 <= n && n <= api.MaxTick }

// areUploads tells whether uploads' numbers rise from 1 to last at most, and no upload is too long.
func areUploads(l []api.Upload, last int) bool {
	ahead := 0
	for _, u := range l {
		if u.Id <= ahead || u.Id > last || !isShort(u.Data) {
			return false
		}
		ahead = u.Id
	}
	return true
}

// areObjects tells whether objects fit their digests, each of another one, and none is too long.
func areObjects(l []api.Object) bool {
	for i, o := range l {
		if !isShort(o.Data) || digest.Fits(o.Digest, o.Data) != api.OK || has(l[:i], o.Digest) {
			return false
		}
	}
	return true
}

func isShort(s string) bool { return len(s) <= api.MaxText }
