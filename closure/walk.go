package closure

import (
	"slices"

	"consignor/api"
	"consignor/manifest"
)

// walker is on its way through a manifest and all below it.
type walker struct {
	find  func(digest string) (string, api.Errno)
	depth int // of the manifest that it is at; 0 outside of all
	walk  api.Walk
}

// visit walks a manifest that was not walked yet, and by itself its kids.
func (w *walker) visit(digest string) api.Errno {
	// asked ahead of the depth, as what was walked already may stand at any depth, too
	if slices.Contains(w.walk.Manifests, digest) {
		return api.OK
	}
	w.depth++
	if w.depth > api.MaxDepth {
		return api.ErrDeep
	}
	m, e := w.manifest(digest)
	if e != api.OK {
		return e
	}
	if e := each(m.Kids, w.visit); e != api.OK {
		return e
	}
	w.depth--
	w.add(digest, manifest.Blobs(m))
	return api.OK
}

func (w *walker) manifest(digest string) (api.Manifest, api.Errno) {
	s, e := w.find(digest)
	if e != api.OK {
		return api.Manifest{}, e
	}
	return manifest.Parse(s)
}

func (w *walker) add(digest string, blobs []string) {
	for _, b := range blobs {
		if !slices.Contains(w.walk.Blobs, b) {
			w.walk.Blobs = append(w.walk.Blobs, b)
		}
	}
	w.walk.Manifests = append(w.walk.Manifests, digest)
}

// each calls one with each digest, up to the first error, and tells that.
func each(digests []string, one func(string) api.Errno) api.Errno {
	for _, d := range digests {
		if e := one(d); e != api.OK {
			return e
		}
	}
	return api.OK
}
