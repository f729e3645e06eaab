package registry

import (
	"slices"

	"consignor/api"
	"consignor/blob"
	"consignor/closure"
	"consignor/manifest"
	"consignor/name"
)

// Right tells whether a registry may be.
func Right(g api.Registry) bool {
	// ahead of what they hold, so that lists of any length are told fast
	if len(g.Repos) > api.MaxKids || !blob.Right(g.Blobs) {
		return false
	}
	s := store{g}
	if !rise(g.Repos, repoName) || !all(g.Repos, s.isRepo) {
		return false
	}
	known, e := s.manifests()
	return e == api.OK && all(g.Repos, func(r api.Repo) bool { return isWhole(r, known) && areTags(r) })
}

// isRepo tells whether a repository's name may be, and what it has are objects, none twice in a list.
func (s store) isRepo(r api.Repo) bool {
	return name.Repo(r.Name) && s.areObjects(r.Blobs) && s.areObjects(r.Manifests)
}

func (s store) areObjects(digests []string) bool {
	for i, d := range digests {
		if !s.holds(d) || slices.Contains(digests[:i], d) {
			return false
		}
	}
	return true
}

// manifests are those of all repositories, by their digests. Each is walked only once, as many repositories may have it.
func (s store) manifests() (map[string]api.Manifest, api.Errno) {
	known := map[string]api.Manifest{}
	for _, r := range s.Repos {
		for _, d := range r.Manifests {
			if _, ok := known[d]; ok {
				continue
			}
			m, e := s.manifest(d)
			if e != api.OK {
				return nil, e
			}
			known[d] = m
		}
	}
	return known, api.OK
}

// manifest is that of a digest, if it can be walked.
func (s store) manifest(digest string) (api.Manifest, api.Errno) {
	if _, e := closure.Of(s.Blobs.Objects, digest); e != api.OK {
		return api.Manifest{}, e
	}
	data, e := closure.Find(s.Blobs.Objects, digest)
	if e != api.OK {
		return api.Manifest{}, e
	}
	return manifest.Parse(data)
}

// isWhole tells whether a repository has what each of its manifests needs.
func isWhole(r api.Repo, known map[string]api.Manifest) bool {
	return all(r.Manifests, func(digest string) bool { return hasNeeds(r, known[digest]) })
}

// hasNeeds tells whether a repository has the blobs and the kids of a manifest.
func hasNeeds(r api.Repo, m api.Manifest) bool {
	return areAmong(manifest.Blobs(m), r.Blobs) && areAmong(m.Kids, r.Manifests)
}

func areTags(r api.Repo) bool {
	return len(r.Tags) <= api.MaxTags && rise(r.Tags, tagName) && all(r.Tags, func(t api.Tag) bool {
		return name.Tag(t.Name) && slices.Contains(r.Manifests, t.Digest)
	})
}

func areAmong(digests, others []string) bool {
	return all(digests, func(digest string) bool { return slices.Contains(others, digest) })
}

// all tells whether each one is so.
func all[T any](l []T, so func(T) bool) bool {
	return !slices.ContainsFunc(l, func(x T) bool { return !so(x) })
}

// rise tells whether each one's name is greater than that of the one ahead of it.
func rise[T any](l []T, nameOf func(T) string) bool {
	for i := 1; i < len(l); i++ {
		if nameOf(l[i]) <= nameOf(l[i-1]) {
			return false
		}
	}
	return true
}
