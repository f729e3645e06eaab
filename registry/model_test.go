package registry_test

import (
	"crypto/sha256"
	"fmt"
	"slices"
	"strings"

	"consignor/api"
	"consignor/blob"
	"consignor/closure"
	"consignor/manifest"
	"consignor/name"
)

// What the chapter says, word by word, on the packages that its words name.

// of is a text's digest, as the library sums it.
func of(s string) string { return fmt.Sprintf("sha256:%x", sha256.Sum256([]byte(s))) }

func objectAt(g api.Registry, digest string) (string, bool) {
	for _, o := range g.Blobs.Objects {
		if o.Digest == digest {
			return o.Data, true
		}
	}
	return "", false
}

// repoOf is a repository, and its place; -1, if there is none.
func repoOf(g api.Registry, repo string) (api.Repo, int) {
	for i, r := range g.Repos {
		if r.Name == repo {
			return r, i
		}
	}
	return api.Repo{Name: repo}, -1
}

// needs tells whether a repository has the blobs and the kids of a manifest.
func needs(r api.Repo, m api.Manifest) bool {
	for _, b := range manifest.Blobs(m) {
		if !slices.Contains(r.Blobs, b) {
			return false
		}
	}
	for _, k := range m.Kids {
		if !slices.Contains(r.Manifests, k) {
			return false
		}
	}
	return true
}

// once tells whether all are digests of objects, none twice.
func once(g api.Registry, digests []string) bool {
	count := map[string]int{}
	for _, d := range digests {
		_, ok := objectAt(g, d)
		count[d]++
		if !ok || count[d] > 1 {
			return false
		}
	}
	return true
}

func rightManifest(g api.Registry, r api.Repo, digest string, walks map[string]api.Errno) bool {
	data, _ := objectAt(g, digest)
	m, e := manifest.Parse(data)
	// what a walk tells is the same in all repositories
	if _, ok := walks[digest]; !ok {
		_, walks[digest] = closure.Of(g.Blobs.Objects, digest)
	}
	return e == api.OK && needs(r, m) && walks[digest] == api.OK
}

func rightTags(r api.Repo) bool {
	for i, t := range r.Tags {
		if !name.Tag(t.Name) || i > 0 && t.Name <= r.Tags[i-1].Name || !slices.Contains(r.Manifests, t.Digest) {
			return false
		}
	}
	return len(r.Tags) <= 64
}

func right(g api.Registry) bool {
	if !blob.Right(g.Blobs) || len(g.Repos) > 16 {
		return false
	}
	walks := map[string]api.Errno{}
	for i, r := range g.Repos {
		if !name.Repo(r.Name) || i > 0 && r.Name <= g.Repos[i-1].Name || !once(g, r.Blobs) || !once(g, r.Manifests) || !rightTags(r) {
			return false
		}
		for _, d := range r.Manifests {
			if !rightManifest(g, r, d, walks) {
				return false
			}
		}
	}
	return true
}

func hasOf(g api.Registry, repo, digest string) bool {
	r, i := repoOf(g, repo)
	return i >= 0 && slices.Contains(slices.Concat(r.Blobs, r.Manifests), digest)
}

func resolved(g api.Registry, repo, tag string) (string, api.Errno) {
	r, _ := repoOf(g, repo)
	for _, t := range r.Tags {
		if t.Name == tag {
			return t.Digest, api.OK
		}
	}
	return "", api.ErrNone
}

// refusal is the error that calls tell ahead of all that they do.
func refusal(g api.Registry, names ...bool) api.Errno {
	if !right(g) {
		return api.ErrArg
	}
	if slices.Contains(names, false) {
		return api.ErrName
	}
	return api.OK
}

// having is a registry with a repository that is another one now.
func having(g api.Registry, r api.Repo) (api.Registry, api.Errno) {
	_, i := repoOf(g, r.Name)
	if i < 0 && len(g.Repos) == 16 {
		return api.Registry{}, api.ErrFull
	}
	if i < 0 {
		g.Repos = append(g.Repos, r)
	} else {
		g.Repos[i] = r
	}
	slices.SortFunc(g.Repos, func(a, b api.Repo) int { return strings.Compare(a.Name, b.Name) })
	return g, api.OK
}

func linked(g api.Registry, repo, digest string) (api.Registry, api.Errno) {
	if e := refusal(g, name.Repo(repo)); e != api.OK {
		return api.Registry{}, e
	}
	if _, ok := objectAt(g, digest); !ok {
		return api.Registry{}, api.ErrNone
	}
	g = copied(g)
	r, _ := repoOf(g, repo)
	if !slices.Contains(r.Blobs, digest) {
		r.Blobs = append(r.Blobs, digest)
	}
	return having(g, r)
}

func mounted(g api.Registry, repo, from, digest string) (api.Registry, api.Errno) {
	if e := refusal(g, name.Repo(repo), name.Repo(from)); e != api.OK {
		return api.Registry{}, e
	}
	if other, _ := repoOf(g, from); !slices.Contains(other.Blobs, digest) {
		return api.Registry{}, api.ErrNone
	}
	return linked(g, repo, digest)
}

func put(g api.Registry, repo, data string) (api.Registry, string, api.Errno) {
	if e := refusal(g, name.Repo(repo)); e != api.OK {
		return api.Registry{}, "", e
	}
	m, e := manifest.Parse(data)
	if e != api.OK {
		return api.Registry{}, "", e
	}
	g = copied(g)
	r, _ := repoOf(g, repo)
	if !needs(r, m) {
		return api.Registry{}, "", api.ErrNone
	}
	d := of(data)
	more := append(slices.Clone(g.Blobs.Objects), api.Object{Digest: d, Data: data})
	if _, e := closure.Of(more, d); e == api.ErrDeep {
		return api.Registry{}, "", api.ErrDeep
	}
	if _, ok := objectAt(g, d); !ok {
		bytes := 0
		for _, o := range more {
			bytes += len(o.Data)
		}
		if len(more) > 64 {
			return api.Registry{}, "", api.ErrFull
		}
		if bytes > g.Blobs.Quota {
			return api.Registry{}, "", api.ErrQuota
		}
		g.Blobs.Objects = more
	}
	if !slices.Contains(r.Manifests, d) {
		r.Manifests = append(r.Manifests, d)
	}
	g, e = having(g, r)
	return g, d, e
}

func tagged(g api.Registry, repo, tag, digest string) (api.Registry, api.Errno) {
	if e := refusal(g, name.Repo(repo), name.Tag(tag)); e != api.OK {
		return api.Registry{}, e
	}
	g = copied(g)
	r, _ := repoOf(g, repo)
	if !slices.Contains(r.Manifests, digest) {
		return api.Registry{}, api.ErrNone
	}
	r.Tags = slices.DeleteFunc(r.Tags, func(t api.Tag) bool { return t.Name == tag })
	if len(r.Tags) == 64 {
		return api.Registry{}, api.ErrFull
	}
	r.Tags = append(r.Tags, api.Tag{Name: tag, Digest: digest})
	slices.SortFunc(r.Tags, func(a, b api.Tag) int { return strings.Compare(a.Name, b.Name) })
	return having(g, r)
}

func untagged(g api.Registry, repo, tag string) (api.Registry, api.Errno) {
	if e := refusal(g, name.Repo(repo), name.Tag(tag)); e != api.OK {
		return api.Registry{}, e
	}
	if _, e := resolved(g, repo, tag); e != api.OK {
		return api.Registry{}, e
	}
	g = copied(g)
	r, _ := repoOf(g, repo)
	r.Tags = slices.DeleteFunc(r.Tags, func(t api.Tag) bool { return t.Name == tag })
	return having(g, r)
}

func copied(g api.Registry) api.Registry {
	c := api.Registry{Blobs: g.Blobs}
	c.Blobs.Objects, c.Blobs.Uploads = slices.Clone(g.Blobs.Objects), slices.Clone(g.Blobs.Uploads)
	for _, r := range g.Repos {
		c.Repos = append(c.Repos, api.Repo{Name: r.Name, Blobs: slices.Clone(r.Blobs), Manifests: slices.Clone(r.Manifests), Tags: slices.Clone(r.Tags)})
	}
	return c
}

func same(g, h api.Registry) bool {
	b, c := g.Blobs, h.Blobs
	return slices.Equal(b.Objects, c.Objects) && b.Quota == c.Quota && slices.Equal(b.Uploads, c.Uploads) && b.Last == c.Last && slices.EqualFunc(g.Repos, h.Repos, sameRepo)
}

func sameRepo(r, q api.Repo) bool {
	return r.Name == q.Name && slices.Equal(r.Blobs, q.Blobs) && slices.Equal(r.Manifests, q.Manifests) && slices.Equal(r.Tags, q.Tags)
}

// short is a digest's first digits.
func short(d string) string { return fmt.Sprintf("%.6s", strings.TrimPrefix(d, "sha256:")) }

func tell(g api.Registry) string {
	var l []string
	for _, o := range g.Blobs.Objects {
		l = append(l, fmt.Sprintf("%s %.30q (%d)", short(o.Digest), o.Data, len(o.Data)))
	}
	for _, u := range g.Blobs.Uploads {
		l = append(l, fmt.Sprintf("upload %d of %d", u.Id, len(u.Data)))
	}
	for _, r := range g.Repos {
		l = append(l, fmt.Sprintf("%.20q:", r.Name))
		for _, d := range r.Blobs {
			l = append(l, "blob "+short(d))
		}
		for _, d := range r.Manifests {
			l = append(l, "manifest "+short(d))
		}
		for _, t := range r.Tags {
			l = append(l, fmt.Sprintf("%.20q "+short(t.Digest), t.Name))
		}
	}
	return fmt.Sprintf("{quota %d, last %d, %.2000s}", g.Blobs.Quota, g.Blobs.Last, strings.Join(l, ", "))
}

// told is a registry that is told only where something is printed.
type told api.Registry

func (g told) String() string { return tell(api.Registry(g)) }
