package registry

import (
	"slices"

	"consignor/api"
	"consignor/closure"
	"consignor/digest"
	"consignor/manifest"
)

// call is one that changes a repository. It has the registry's lists for its own, and puts the repository among them at its end.
type call struct {
	store
	repo api.Repo
}

func begun(g api.Registry, repo string) *call {
	s := store{g}.copied()
	return &call{store: s, repo: s.find(repo)}
}

// end puts the repository in its place, where it may not have stood yet.
func (c *call) end() api.Errno {
	i, there := place(c.Repos, repoName, c.repo.Name)
	switch {
	case there:
		c.Repos[i] = c.repo
	case len(c.Repos) == api.MaxKids:
		return api.ErrFull
	default:
		c.Repos = slices.Insert(c.Repos, i, c.repo)
	}
	return api.OK
}

func (c *call) link(digest string) api.Errno {
	if !c.holds(digest) {
		return api.ErrNone
	}
	c.repo.Blobs = with(c.repo.Blobs, digest)
	return api.OK
}

func (c *call) mount(from, digest string) api.Errno {
	if !slices.Contains(c.find(from).Blobs, digest) {
		return api.ErrNone
	}
	return c.link(digest)
}

func (c *call) put(data string) api.Errno {
	m, e := manifest.Parse(data)
	if e != api.OK {
		return e
	}
	o := api.Object{Digest: digest.Of(data), Data: data}
	switch {
	case !hasNeeds(c.repo, m):
		return api.ErrNone
	case c.isDeep(o):
		return api.ErrDeep
	}
	c.repo.Manifests = with(c.repo.Manifests, o.Digest)
	return c.keep(o)
}

// isDeep tells whether a manifest would stand too high above what it needs.
func (c *call) isDeep(o api.Object) bool {
	_, e := closure.Of(slices.Concat(c.Blobs.Objects, []api.Object{o}), o.Digest)
	return e == api.ErrDeep
}

// keep has an object be there, behind all others, if it was not.
func (c *call) keep(o api.Object) api.Errno {
	switch {
	case c.holds(o.Digest):
		return api.OK
	case len(c.Blobs.Objects) == api.MaxBlobs:
		return api.ErrFull
	case c.size()+len(o.Data) > c.Blobs.Quota:
		return api.ErrQuota
	}
	c.Blobs.Objects = append(c.Blobs.Objects, o)
	return api.OK
}

func (c *call) tag(tag, digest string) api.Errno {
	t := api.Tag{Name: tag, Digest: digest}
	i, there := place(c.repo.Tags, tagName, tag)
	switch {
	case !slices.Contains(c.repo.Manifests, digest):
		return api.ErrNone
	case there:
		c.repo.Tags[i] = t
	case len(c.repo.Tags) == api.MaxTags:
		return api.ErrFull
	default:
		c.repo.Tags = slices.Insert(c.repo.Tags, i, t)
	}
	return api.OK
}

func (c *call) untag(tag string) api.Errno {
	i, there := place(c.repo.Tags, tagName, tag)
	if !there {
		return api.ErrNone
	}
	c.repo.Tags = slices.Delete(c.repo.Tags, i, i+1)
	return api.OK
}

// with is digests with one more behind them, if they had it not.
func with(digests []string, digest string) []string {
	if slices.Contains(digests, digest) {
		return digests
	}
	return append(digests, digest)
}
