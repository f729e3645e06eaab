package registry

import (
	"slices"
	"strings"

	"consignor/api"
)

// store is a registry, and what calls ask of it.
type store struct{ api.Registry }

// find is the repository of a name: one that has nothing, if there is none.
func (s store) find(repo string) api.Repo {
	i := slices.IndexFunc(s.Repos, func(r api.Repo) bool { return r.Name == repo })
	if i < 0 {
		return api.Repo{Name: repo}
	}
	return s.Repos[i]
}

// holds tells whether there is an object of a digest.
func (s store) holds(digest string) bool {
	return slices.ContainsFunc(s.Blobs.Objects, func(o api.Object) bool { return o.Digest == digest })
}

// size is how many bytes the objects have in all.
func (s store) size() int {
	n := 0
	for _, o := range s.Blobs.Objects {
		n += len(o.Data)
	}
	return n
}

// copied is the same registry, whose lists are its own.
func (s store) copied() store {
	s.Blobs.Objects, s.Blobs.Uploads = slices.Clone(s.Blobs.Objects), slices.Clone(s.Blobs.Uploads)
	s.Repos = slices.Clone(s.Repos)
	for i, r := range s.Repos {
		s.Repos[i] = api.Repo{Name: r.Name, Blobs: slices.Clone(r.Blobs), Manifests: slices.Clone(r.Manifests), Tags: slices.Clone(r.Tags)}
	}
	return s
}

// place is where one of a name stands, or would, in a list that rises by names, and whether it does.
func place[T any](l []T, nameOf func(T) string, name string) (int, bool) {
	return slices.BinarySearchFunc(l, name, func(x T, name string) int { return strings.Compare(nameOf(x), name) })
}

func repoName(r api.Repo) string { return r.Name }

func tagName(t api.Tag) string { return t.Name }
