package registry_test

import (
	"math/rand"
	"slices"
	"strings"
	"testing"

	"consignor/api"
	"consignor/blob"
	"consignor/registry"
)

// roomy is the same registry, whose lists have room behind them, where others may write.
func roomy(g api.Registry) api.Registry {
	g = copied(g)
	g.Blobs.Objects, g.Blobs.Uploads = slices.Grow(g.Blobs.Objects, 9), slices.Grow(g.Blobs.Uploads, 9)
	g.Repos = slices.Grow(g.Repos, 9)
	for i, r := range g.Repos {
		g.Repos[i].Blobs, g.Repos[i].Manifests, g.Repos[i].Tags = slices.Grow(r.Blobs, 9), slices.Grow(r.Manifests, 9), slices.Grow(r.Tags, 9)
	}
	return g
}

// spoil writes to all of the lists of a registry, and behind them.
func spoil(g api.Registry) {
	for _, r := range g.Repos {
		clear(r.Blobs[:cap(r.Blobs)])
		clear(r.Manifests[:cap(r.Manifests)])
		clear(r.Tags[:cap(r.Tags)])
	}
	clear(g.Blobs.Objects[:cap(g.Blobs.Objects)])
	clear(g.Blobs.Uploads[:cap(g.Blobs.Uploads)])
	clear(g.Repos[:cap(g.Repos)])
}

// TestNothingShared: an answer is changed by nothing that becomes of an argument, or of another answer, nor changes these.
func TestNothingShared(t *testing.T) { // R1, R4
	one, other := image(0, 1), image(2, 1)
	for what, call := range map[string]func(api.Registry) (api.Registry, api.Errno){
		"Link":             func(g api.Registry) (api.Registry, api.Errno) { return registry.Link(g, "a", of(bytes(3))) },
		"Link of what is":  func(g api.Registry) (api.Registry, api.Errno) { return registry.Link(g, "a", of(bytes(0))) },
		"Link to another":  func(g api.Registry) (api.Registry, api.Errno) { return registry.Link(g, "b", of(bytes(0))) },
		"Mount":            func(g api.Registry) (api.Registry, api.Errno) { return registry.Mount(g, "a", "b/c", of(bytes(2))) },
		"Mount to another": func(g api.Registry) (api.Registry, api.Errno) { return registry.Mount(g, "z", "a", of(bytes(0))) },
		"Put": func(g api.Registry) (api.Registry, api.Errno) {
			g, _, e := registry.Put(g, "b/c", index(other))
			return g, e
		},
		"Put of what is": func(g api.Registry) (api.Registry, api.Errno) {
			g, _, e := registry.Put(g, "b/c", one)
			return g, e
		},
		"Name":             func(g api.Registry) (api.Registry, api.Errno) { return registry.Name(g, "a", "v0", of(one)) },
		"Name of another":  func(g api.Registry) (api.Registry, api.Errno) { return registry.Name(g, "b/c", "old", of(other)) },
		"Unname":           func(g api.Registry) (api.Registry, api.Errno) { return registry.Unname(g, "a", "v1") },
		"Unname of a last": func(g api.Registry) (api.Registry, api.Errno) { return registry.Unname(g, "b/c", "top") },
	} {
		g := roomy(two())
		before := copied(g)
		first, e := call(g)
		want := copied(first)
		if e != api.OK {
			t.Errorf("%s: %d", what, e)
		}
		checkApart(t, first, what)
		spoil(first)
		if !same(g, before) {
			t.Errorf("%s: its answer shares with its argument", what)
		}
		second, _ := call(g)
		if !same(second, want) {
			t.Errorf("%s: its answer hangs on the one ahead", what)
		}
		spoil(g)
		if !same(second, want) {
			t.Errorf("%s: its argument shares with its answer", what)
		}
	}
	g := two()
	l := registry.Tags(g, "a")
	l[0] = api.Tag{}
	if _ = append(l[:1], api.Tag{}); !same(g, two()) {
		t.Errorf("Tags shares with its argument")
	}
	l = registry.Tags(g, "a")
	spoil(g)
	if !slices.Equal(l, two().Repos[0].Tags) {
		t.Errorf("its argument shares with Tags")
	}
}

// checkApart holds that no two lists of an answer share any memory: what is put behind one is in no other.
func checkApart(t *testing.T, g api.Registry, what string) {
	t.Helper()
	before := copied(g)
	for i := range g.Repos {
		_ = append(g.Repos[i].Blobs, "spoilt")
		_ = append(g.Repos[i].Manifests, "spoilt")
		_ = append(g.Repos[i].Tags, api.Tag{Name: "spoilt"})
	}
	if !same(g, before) {
		t.Errorf("%s: lists of its answer share", what)
	}
}

// TestErrorsLeave: a call that tells an error changes nothing, so that all goes on as if it had not been.
func TestErrorsLeave(t *testing.T) { // P12.4, R2, R4
	g := roomy(tight(two()))
	before := copied(g)
	full := roomy(among(two(), empty(14)...))
	fullBefore := copied(full)
	one, other := image(0, 1), image(2, 1)
	for what, call := range map[string]func() (api.Registry, api.Errno){
		"Link of nothing":        func() (api.Registry, api.Errno) { return registry.Link(g, "a", of("unknown")) },
		"Link to no name":        func() (api.Registry, api.Errno) { return registry.Link(g, "A", of(bytes(0))) },
		"Link to a 17th":         func() (api.Registry, api.Errno) { return registry.Link(full, "c", of(bytes(0))) },
		"Mount of another":       func() (api.Registry, api.Errno) { return registry.Mount(g, "a", "a", of(bytes(2))) },
		"Mount to a 17th":        func() (api.Registry, api.Errno) { return registry.Mount(full, "c", "a", of(bytes(0))) },
		"Name of another":        func() (api.Registry, api.Errno) { return registry.Name(g, "a", "v1", of(other)) },
		"Name of no tag":         func() (api.Registry, api.Errno) { return registry.Name(g, "a", "", of(one)) },
		"Unname of nothing":      func() (api.Registry, api.Errno) { return registry.Unname(g, "a", "v3") },
		"Unname in nothing":      func() (api.Registry, api.Errno) { return registry.Unname(g, "b", "v1") },
		"Put of no manifest":     func() (api.Registry, api.Errno) { return putOnly(g, "a", "{") },
		"Put of what is not":     func() (api.Registry, api.Errno) { return putOnly(g, "a", other) },
		"Put beyond the quota":   func() (api.Registry, api.Errno) { return putOnly(g, "a", image(1)) },
		"Put to another beneath": func() (api.Registry, api.Errno) { return putOnly(g, "b/c", index(one)) },
	} {
		if got, e := call(); e == api.OK || !same(got, api.Registry{}) || !same(g, before) || !same(full, fullBefore) {
			t.Errorf("%s: %s, %d, of %s", what, tell(got), e, tell(g))
		}
	}
	if got, e := checkName(t, g, "a", "v3", of(one)); e != api.OK || len(got.Repos[0].Tags) != 3 {
		t.Errorf("Name behind all these: %s, %d", tell(got), e)
	}
}

func putOnly(g api.Registry, repo, data string) (api.Registry, api.Errno) {
	g, _, e := registry.Put(g, repo, data)
	return g, e
}

// Names that come by chance: few, so that the same ones come again.
var (
	repoNames = texts("b", "b/c", "a", "b", "b/c", "a", "b", "b0", "A")
	tagNames  = texts("1", "1.0", "a", "B", "_", "1", "1.0", "a", "-")
)

func pick(r *rand.Rand, l []string) string { return l[r.Intn(len(l))] }

// someData is bytes by chance: a manifest's, of what the repository may have, or another one's, or what is none.
func someData(r *rand.Rand, g api.Registry, repo string) string {
	all, kids := texts("unknown"), texts()
	x, _ := repoOf(g, repo)
	for _, o := range g.Blobs.Objects {
		all = append(all, o.Data)
		if slices.Contains(x.Manifests, o.Digest) {
			kids = append(kids, o.Data)
		}
	}
	switch n := r.Intn(12); {
	case n == 0:
		return pick(r, texts("", "{", "{}", image(0)+" "))
	case n == 1:
		return pick(r, all)
	case n == 2:
		return index(pick(r, all))
	case n < 6 || len(kids) == 0:
		return image(r.Intn(5), r.Perm(5)[:r.Intn(3)]...)
	}
	if r.Intn(2) == 0 {
		return index(kids[len(kids)-1])
	}
	r.Shuffle(len(kids), func(i, k int) { kids[i], kids[k] = kids[k], kids[i] })
	return index(kids[:1+r.Intn(min(3, len(kids)))]...)
}

// someDigest is one by chance, most times that of something that is there.
func someDigest(r *rand.Rand, g api.Registry) string {
	l := texts(of("unknown"))
	for _, o := range g.Blobs.Objects {
		l = append(l, o.Digest)
	}
	d := pick(r, l)
	switch r.Intn(16) {
	case 0:
		return d[:r.Intn(len(d))]
	case 1:
		return strings.ToUpper(d)
	}
	return d
}

// manifestDigest is that of one of a repository's manifests, if it has any.
func manifestDigest(r *rand.Rand, g api.Registry, repo string) string {
	if x, _ := repoOf(g, repo); len(x.Manifests) > 0 {
		return pick(r, x.Manifests)
	}
	return someDigest(r, g)
}

// step is one call by chance.
func step(t *testing.T, r *rand.Rand, g api.Registry) (api.Registry, api.Errno) {
	t.Helper()
	repo := pick(r, repoNames)
	switch r.Intn(10) {
	case 0, 1, 2:
		return checkLink(t, g, repo, someDigest(r, g))
	case 3:
		return checkMount(t, g, repo, pick(r, repoNames), someDigest(r, g))
	case 4, 5, 6:
		return checkPut(t, g, repo, someData(r, g, repo))
	case 7, 8:
		return checkName(t, g, repo, pick(r, tagNames), manifestDigest(r, g, repo))
	}
	return checkUnname(t, g, repo, pick(r, tagNames))
}

// begin is a registry of five blobs, and of some room.
func begin(r *rand.Rand) api.Registry {
	g := holding(some(5))
	g.Blobs.Quota = 100 << r.Intn(8)
	return g
}

// TestPlay: calls by chance, one behind the other, with pushes between, each error of which leaves all as it was.
func TestPlay(t *testing.T) { // P12.1, P12.2, P12.3, P12.4, P2
	r := rand.New(rand.NewSource(12))
	tells := map[api.Errno]int{}
	tagged := 0
	for range 50 {
		g := begin(r)
		for range 300 {
			next, e := step(t, r, g)
			tells[e]++
			if e == api.OK {
				g = next
			}
			g.Blobs = pushed(r, g)
			checkReads(t, g, pick(r, repoNames), pick(r, tagNames), someDigest(r, g))
			if !registry.Right(g) {
				t.Fatalf("%s may not be", tell(g))
			}
			checkTags(t, g)
			for _, x := range g.Repos {
				tagged += len(x.Tags)
			}
		}
	}
	for _, e := range []api.Errno{api.OK, api.ErrName, api.ErrSyntax, api.ErrSchema, api.ErrNone, api.ErrDeep, api.ErrQuota} {
		if tells[e] < 50 {
			t.Errorf("error %d was told %d times alone", e, tells[e])
		}
	}
	if tagged < 20000 {
		t.Errorf("%d tags alone", tagged)
	}
}

// pushed is blobs with a few bytes more as an object, now and then: a manifest's, too, that nobody put.
func pushed(r *rand.Rand, g api.Registry) api.Blobs {
	if r.Intn(20) > 0 {
		return g.Blobs
	}
	data := someData(r, g, pick(r, repoNames))
	b, id, e := blob.Begin(g.Blobs)
	if e == api.OK {
		b, e = blob.Push(b, id, 0, data)
	}
	if e == api.OK {
		b, e = blob.End(b, id, of(data))
	}
	if e != api.OK {
		return g.Blobs
	}
	return b
}

// spoilt is the same registry with something changed, so that it may be no more.
func spoilt(r *rand.Rand, g api.Registry) api.Registry {
	g = copied(g)
	if len(g.Repos) == 0 {
		g.Repos = append(g.Repos, api.Repo{Name: pick(r, repoNames)})
	}
	x := &g.Repos[r.Intn(len(g.Repos))]
	switch r.Intn(12) {
	case 0:
		x.Name = pick(r, repoNames)
	case 1:
		x.Blobs = append(x.Blobs, someDigest(r, g))
	case 2:
		x.Manifests = append(x.Manifests, someDigest(r, g))
	case 3:
		x.Tags = append(x.Tags, api.Tag{Name: pick(r, tagNames), Digest: manifestDigest(r, g, x.Name)})
	case 4:
		x.Tags = append(x.Tags, api.Tag{Name: "z", Digest: someDigest(r, g)})
	case 5:
		slices.Reverse(g.Repos)
	case 6:
		x.Blobs = x.Blobs[:r.Intn(len(x.Blobs)+1)]
	case 7:
		x.Manifests = x.Manifests[:r.Intn(len(x.Manifests)+1)]
	case 8:
		g.Blobs.Objects = g.Blobs.Objects[:r.Intn(len(g.Blobs.Objects)+1)]
	case 9:
		g.Blobs.Quota = r.Intn(1000)
	case 10:
		slices.Reverse(x.Tags)
	default:
		g.Repos = append(g.Repos, *x)
	}
	return g
}

// grown is a registry that calls by chance made.
func grown(r *rand.Rand) api.Registry {
	g := begin(r)
	for range r.Intn(60) {
		repo := pick(r, repoNames)
		next, e := g, api.OK
		switch r.Intn(4) {
		case 0, 1:
			next, e = linked(g, repo, someDigest(r, g))
		case 2:
			next, _, e = put(g, repo, someData(r, g, repo))
		default:
			next, e = tagged(g, repo, pick(r, tagNames), manifestDigest(r, g, repo))
		}
		if e == api.OK {
			g = next
		}
	}
	return g
}

// TestChance: all calls of registries that chance made, and of such that it spoilt.
func TestChance(t *testing.T) { // P12.1, P12.2, P12.3, P1, R1
	r := rand.New(rand.NewSource(13))
	rights, wrongs := 0, 0
	for range 300 {
		g := grown(r)
		if !checkRight(t, g) {
			t.Fatalf("%s may not be", tell(g))
		}
		for _, h := range []api.Registry{g, spoilt(r, g), spoilt(r, spoilt(r, g))} {
			if checkRight(t, h) {
				rights++
			} else {
				wrongs++
			}
			repo := pick(r, repoNames)
			checkCalls(t, h, repo, pick(r, repoNames), pick(r, tagNames), manifestDigest(r, h, repo), someData(r, h, repo))
			checkCalls(t, h, repo, pick(r, repoNames), pick(r, tagNames), someDigest(r, h), someData(r, h, repo))
		}
	}
	if rights < 350 || wrongs < 300 {
		t.Errorf("too few of a kind: %d and %d", rights, wrongs)
	}
}

// above are so many indexes of eight of these each, that all differ.
func above(row []string, n int) []string {
	var l []string
	for i := range n {
		kids := slices.Concat(row[i%len(row):], row[:i%len(row)])[:8]
		if i >= len(row) {
			slices.Reverse(kids)
		}
		l = append(l, index(kids...))
	}
	return l
}

// most is as much as may be: 64 objects that 16 repositories have, with 64 tags each: a blob, nine images, and indexes up to four deep.
func most() api.Registry {
	var images []string
	for i := range 9 {
		l := slices.Repeat([]api.Layer{{Digest: of(bytes(0)), Size: 4000 + i}}, 8)
		images = append(images, written(api.Manifest{Config: of(bytes(0)), Layers: l}))
	}
	two := above(images, 18)
	three := above(two, 18)
	all := slices.Concat(some(1), images, two, three, above(three, 18))
	g := holding(all)
	for _, s := range names(16) {
		g.Repos = append(g.Repos, repo(s, all, all[1:], tags(64, all[63])...))
	}
	return g
}

// TestMost: the greatest registry is told as any other one, and in time.
func TestMost(t *testing.T) { // P12.1, P12.2, P12.3, P1
	g := most()
	expect(t, g, true)
	if len(g.Blobs.Objects) != 64 {
		t.Errorf("%d objects", len(g.Blobs.Objects))
	}
	top := g.Blobs.Objects[63]
	checkCalls(t, g, "n000", "n010", "n000", top.Digest, top.Data)
	checkCalls(t, g, "n150", "n000", "z", top.Digest, image(0))
	_, e := checkPut(t, g, "n070", index(top.Data))
	wants(t, e, api.ErrDeep, "5 deep")
	_, e = checkPut(t, g, "n070", image(0))
	wants(t, e, api.ErrFull, "65 objects")
	for i := range g.Repos {
		h := copied(g)
		h.Repos[i].Blobs = h.Repos[i].Blobs[1:]
		if registry.Right(h) {
			t.Errorf("without the blob at %d it may be", i)
		}
	}
}

// TestLong: lists and texts of any length are told in time.
func TestLong(t *testing.T) { // P1, P12.1
	g := two()
	one := image(0, 1)
	long := strings.Repeat("a", 1<<20)
	l := slices.Repeat(texts(of(bytes(0)), of(bytes(1)), of(bytes(2))), 1<<16)
	for _, x := range []api.Repo{
		{Name: "a", Blobs: l},
		{Name: "a", Manifests: l},
		{Name: "a", Blobs: slices.Repeat(texts(long), 1<<10)},
		{Name: "a", Tags: slices.Repeat([]api.Tag{tag("v1", one)}, 1<<16)},
		{Name: "a", Tags: tags(100, one)},
		{Name: long},
		{Name: long, Blobs: l, Manifests: l},
	} {
		expect(t, among(g, x), false)
		h := copied(g)
		h.Repos[0] = x
		expect(t, h, false)
		h.Repos = slices.Repeat([]api.Repo{x}, 1<<10)
		if registry.Right(h) {
			t.Errorf("many of them may be")
		}
		checkReads(t, h, "a", "v1", of(bytes(0)))
	}
	checkCalls(t, g, long, "a", "v1", of(one), one)
	checkCalls(t, g, "a", long, "v1", of(one), one)
	checkCalls(t, g, "a", "a", long, of(one), one)
	checkCalls(t, g, "a", "a", "v1", long, one)
	checkCalls(t, g, "a", "a", "v1", of(one), long)
}

// FuzzRegistry: any arguments are told as the chapter's words tell them.
func FuzzRegistry(f *testing.F) { // P1, P12.1, P12.2, P12.3, P12.4
	f.Add("a", "b", "v1", of("x"), "{}", int64(1), 20)
	f.Add("lib/go", "lib/go", "1.0", of(image(0)), image(0), int64(2), 500)
	f.Add("A", "", "-", "sha256:", "", int64(3), -1)
	f.Add("a", "a", "1", of(index(image(0))), index(image(0)), int64(4), 1<<20)
	f.Fuzz(func(t *testing.T, repo, from, tag, d, data string, seed int64, quota int) {
		r := rand.New(rand.NewSource(seed))
		g := grown(r)
		wide := copied(g)
		wide.Blobs.Quota = quota
		wide.Repos = append(wide.Repos, api.Repo{Name: repo, Blobs: texts(d), Manifests: texts(of(data)), Tags: []api.Tag{{Name: tag, Digest: of(data)}}})
		wide.Blobs.Objects = append(wide.Blobs.Objects, api.Object{Digest: of(data), Data: data})
		for _, h := range []api.Registry{g, wide, spoilt(r, g)} {
			checkRight(t, h)
			checkCalls(t, h, repo, from, tag, d, data)
			checkCalls(t, h, pick(r, repoNames), repo, tag, of(data), someData(r, h, repo))
			checkCalls(t, h, repo, pick(r, repoNames), pick(r, tagNames), someDigest(r, h), data)
		}
	})
}
