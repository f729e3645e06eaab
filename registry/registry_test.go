package registry_test

import (
	"fmt"
	"slices"
	"strconv"
	"strings"
	"testing"

	"consignor/api"
	"consignor/closure"
	"consignor/digest"
	"consignor/manifest"
	"consignor/registry"
)

// bytes is the data of one of many blobs, by its number.
func bytes(i int) string { return "blob " + strconv.Itoa(i) }

// image is the text of an image: a config and layers by their numbers.
func image(config int, layers ...int) string {
	m := api.Manifest{Config: of(bytes(config))}
	for _, l := range layers {
		m.Layers = append(m.Layers, api.Layer{Digest: of(bytes(l)), Size: len(bytes(l))})
	}
	return written(m)
}

// index is the text of an index of these texts.
func index(kids ...string) string {
	return written(api.Manifest{Index: true, Kids: digests(kids)})
}

func written(m api.Manifest) string {
	s, e := manifest.Print(m)
	if e != api.OK {
		panic(fmt.Sprintf("no manifest: %+v", m))
	}
	return s
}

// chain is an image of a blob, and indexes, each of the one ahead of it.
func chain(config, long int) []string {
	l := []string{image(config)}
	for len(l) < long {
		l = append(l, index(l[len(l)-1]))
	}
	return l
}

func digests(data []string) []string {
	var l []string
	for _, s := range data {
		l = append(l, of(s))
	}
	return l
}

// texts is a list of texts.
func texts(l ...string) []string { return l }

// some are the data of so many blobs.
func some(n int) []string {
	var l []string
	for i := range n {
		l = append(l, bytes(i))
	}
	return l
}

// holding is a registry of a quota that has room for much, with these data as objects, an upload, and no repositories.
func holding(lists ...[]string) api.Registry {
	g := api.Registry{Blobs: api.Blobs{Quota: 1 << 20, Uploads: []api.Upload{{Id: 3, Data: "comes"}}, Last: 9}}
	for _, s := range slices.Concat(lists...) {
		g.Blobs.Objects = append(g.Blobs.Objects, api.Object{Digest: of(s), Data: s})
	}
	return g
}

// among is a registry with these repositories.
func among(g api.Registry, l ...api.Repo) api.Registry {
	g = copied(g)
	g.Repos = append(g.Repos, l...)
	return g
}

// tight is the same registry, of a quota that has no room for any byte more.
func tight(g api.Registry) api.Registry {
	g = copied(g)
	g.Blobs.Quota = 0
	for _, o := range g.Blobs.Objects {
		g.Blobs.Quota += len(o.Data)
	}
	return g
}

// repo is a repository of blobs and manifests of these data.
func repo(name string, blobs, manifests []string, tags ...api.Tag) api.Repo {
	return api.Repo{Name: name, Blobs: digests(blobs), Manifests: digests(manifests), Tags: tags}
}

// tag is one of a manifest of that text.
func tag(name, text string) api.Tag { return api.Tag{Name: name, Digest: of(text)} }

// names are so many names of repositories, or tags, that rise, with room between them.
func names(n int) []string {
	var l []string
	for i := range n {
		l = append(l, fmt.Sprintf("n%02d0", i))
	}
	return l
}

// empty are so many repositories that have nothing.
func empty(n int) []api.Repo {
	var l []api.Repo
	for _, s := range names(n) {
		l = append(l, api.Repo{Name: s})
	}
	return l
}

// tags are so many of one manifest.
func tags(n int, text string) []api.Tag {
	var l []api.Tag
	for _, s := range names(n) {
		l = append(l, tag(s, text))
	}
	return l
}

// noRepos are texts that are no repository's name, noTags those that are no tag.
var (
	noRepos = []string{"", "A", "a/", "/a", "a//b", "a_", "a___b", "a..b", "a b", "-a", "a:1", "a@b", "ä", "\x00", strings.Repeat("a", 129)}
	noTags  = []string{"", ".a", "-a", "a b", "a/b", "a:b", "a@b", "ä", "\x00", strings.Repeat("a", 129)}
)

// checkRight holds Right against the chapter's words, and, of what may not be, that the other calls tell ErrArg.
func checkRight(t *testing.T, g api.Registry) bool {
	t.Helper()
	before := copied(g)
	want := right(g)
	if got := registry.Right(g); got != want {
		t.Errorf("Right of %s = %v", tell(g), got)
	}
	if !same(g, before) {
		t.Errorf("%s is %s, once it was handed in", tell(before), tell(g))
	}
	if !want {
		checkRefused(t, g, "a", "b", "v1", of("blob 0"), image(0))
		checkRefused(t, g, "A", "", "", "", "{")
		return false
	}
	checkTags(t, g)
	return true
}

// expect holds what Right tells against what a test says.
func expect(t *testing.T, g api.Registry, want bool, what ...any) {
	t.Helper()
	if checkRight(t, g) != want {
		t.Errorf("%s: want %v: %s", fmt.Sprint(what...), want, tell(g))
	}
}

// checkRefused holds that calls that answer a registry tell ErrArg of one that may not be, whatever else is right or wrong.
func checkRefused(t *testing.T, g api.Registry, repo, from, tag, digest, data string) {
	t.Helper()
	for what, call := range changes(repo, from, tag, digest, data) {
		if got, e := call(g); e != api.ErrArg || !same(got, api.Registry{}) {
			t.Errorf("%s of %s = %s, %d", what, tell(g), tell(got), e)
		}
	}
}

// changes are all calls that answer a registry.
func changes(repo, from, tag, digest, data string) map[string]func(api.Registry) (api.Registry, api.Errno) {
	return map[string]func(api.Registry) (api.Registry, api.Errno){
		"Link":  func(g api.Registry) (api.Registry, api.Errno) { return registry.Link(g, repo, digest) },
		"Mount": func(g api.Registry) (api.Registry, api.Errno) { return registry.Mount(g, repo, from, digest) },
		"Put": func(g api.Registry) (api.Registry, api.Errno) {
			g, d, e := registry.Put(g, repo, data)
			if e != api.OK && d != "" {
				panic("a digest beside an error")
			}
			return g, e
		},
		"Name":   func(g api.Registry) (api.Registry, api.Errno) { return registry.Name(g, repo, tag, digest) },
		"Unname": func(g api.Registry) (api.Registry, api.Errno) { return registry.Unname(g, repo, tag) },
	}
}

// checkTags holds that all that a tag names is there whole.
func checkTags(t *testing.T, g api.Registry) {
	t.Helper()
	named := map[string]string{}
	for _, r := range g.Repos {
		for _, x := range registry.Tags(g, r.Name) {
			named[x.Digest] = r.Name + ":" + x.Name
		}
	}
	for d, s := range named {
		if e := closure.Whole(g.Blobs.Objects, d); e != api.OK {
			t.Errorf("%s: %s is not whole: %d", tell(g), s, e)
		}
	}
}

func checkAnswer(t *testing.T, g, before, got, want api.Registry, e, wantErr api.Errno, call string, args ...string) {
	t.Helper()
	if !same(got, want) || e != wantErr {
		t.Errorf("%s of %s, %.200q = %s, %d, want %s, %d", call, tell(before), args, tell(got), e, tell(want), wantErr)
	}
	if !same(g, before) {
		t.Errorf("%s, %.200q: %s is %s, once it was handed in", call, args, tell(before), tell(g))
	}
	if e == api.OK && !registry.Right(got) {
		t.Errorf("%s of %s, %.200q = %s, which may not be", call, tell(before), args, tell(got))
	}
	if e == api.OK {
		checkTags(t, got)
	}
}

func checkLink(t *testing.T, g api.Registry, repo, digest string) (api.Registry, api.Errno) {
	t.Helper()
	before := copied(g)
	want, wantErr := linked(g, repo, digest)
	got, e := registry.Link(g, repo, digest)
	checkAnswer(t, g, before, got, want, e, wantErr, "Link", repo, digest)
	return got, e
}

func checkMount(t *testing.T, g api.Registry, repo, from, digest string) (api.Registry, api.Errno) {
	t.Helper()
	before := copied(g)
	want, wantErr := mounted(g, repo, from, digest)
	got, e := registry.Mount(g, repo, from, digest)
	checkAnswer(t, g, before, got, want, e, wantErr, "Mount", repo, from, digest)
	return got, e
}

func checkPut(t *testing.T, g api.Registry, repo, data string) (api.Registry, api.Errno) {
	t.Helper()
	before := copied(g)
	want, wantDigest, wantErr := put(g, repo, data)
	got, d, e := registry.Put(g, repo, data)
	checkAnswer(t, g, before, got, want, e, wantErr, "Put", repo, data)
	if d != wantDigest {
		t.Errorf("Put of %s, %.100q tells %q, want %q", tell(g), data, d, wantDigest)
	}
	return got, e
}

func checkName(t *testing.T, g api.Registry, repo, tag, digest string) (api.Registry, api.Errno) {
	t.Helper()
	before := copied(g)
	want, wantErr := tagged(g, repo, tag, digest)
	got, e := registry.Name(g, repo, tag, digest)
	checkAnswer(t, g, before, got, want, e, wantErr, "Name", repo, tag, digest)
	return got, e
}

func checkUnname(t *testing.T, g api.Registry, repo, tag string) (api.Registry, api.Errno) {
	t.Helper()
	before := copied(g)
	want, wantErr := untagged(g, repo, tag)
	got, e := registry.Unname(g, repo, tag)
	checkAnswer(t, g, before, got, want, e, wantErr, "Unname", repo, tag)
	return got, e
}

// checkReads holds all calls that answer no registry against the chapter's words.
func checkReads(t *testing.T, g api.Registry, repo, tag, digest string) {
	t.Helper()
	if got, want := registry.Has(g, repo, digest), hasOf(g, repo, digest); got != want {
		t.Errorf("Has of %s, %.200q, %.100q = %v", tell(g), repo, digest, got)
	}
	want, wantErr := resolved(g, repo, tag)
	if got, e := registry.Resolve(g, repo, tag); got != want || e != wantErr {
		t.Errorf("Resolve of %s, %.200q, %.200q = %q, %d, want %q, %d", tell(g), repo, tag, got, e, want, wantErr)
	}
	r, _ := repoOf(g, repo)
	if got := registry.Tags(g, repo); !slices.Equal(got, r.Tags) {
		t.Errorf("Tags of %s, %.200q = %.200q", tell(g), repo, got)
	}
}

func checkCalls(t *testing.T, g api.Registry, repo, from, tag, digest, data string) {
	t.Helper()
	checkReads(t, g, repo, tag, digest)
	checkLink(t, g, repo, digest)
	checkMount(t, g, repo, from, digest)
	checkPut(t, g, repo, data)
	checkName(t, g, repo, tag, digest)
	checkUnname(t, g, repo, tag)
}

// wants holds an error against what a test says.
func wants(t *testing.T, e, want api.Errno, what ...any) {
	t.Helper()
	if e != want {
		t.Errorf("%s: %d, want %d", fmt.Sprint(what...), e, want)
	}
}

// two is a registry with an image in one repository, that is tagged, and an index of it and another one in another repository.
func two() api.Registry {
	one, other := image(0, 1), image(2, 1)
	top := index(one, other)
	g := holding(some(4), texts(one, other, top))
	return among(g,
		repo("a", texts(bytes(1), bytes(0)), texts(one), tag("v1", one), tag("v2", one)),
		repo("b/c", some(3), texts(other, one, top), tag("old", one), tag("top", top)))
}

func TestRightBlobs(t *testing.T) { // P12.1, R3
	expect(t, api.Registry{}, true, "none")
	expect(t, api.Registry{Blobs: api.Blobs{Objects: []api.Object{}, Uploads: []api.Upload{}}, Repos: []api.Repo{}}, true, "none")
	expect(t, two(), true, "two repositories")
	for what, spoil := range map[string]func(*api.Blobs){
		"a quota below 0":    func(b *api.Blobs) { b.Quota = -1 },
		"too small a quota":  func(b *api.Blobs) { b.Quota = 100 },
		"too great a quota":  func(b *api.Blobs) { b.Quota = 1<<20 + 1 },
		"no last number":     func(b *api.Blobs) { b.Last = 2 },
		"an upload of 0":     func(b *api.Blobs) { b.Uploads[0].Id = 0 },
		"another blob":       func(b *api.Blobs) { b.Objects[3].Data = "x" },
		"another manifest":   func(b *api.Blobs) { b.Objects[4].Data += " " },
		"an object twice":    func(b *api.Blobs) { b.Objects = append(b.Objects, b.Objects[0]) },
		"an object too long": func(b *api.Blobs) { *b = holding(texts(strings.Repeat("x", 4097))).Blobs },
		"65 objects":         func(b *api.Blobs) { *b = holding(some(65)).Blobs },
	} {
		g := two()
		spoil(&g.Blobs)
		expect(t, g, false, what)
		g.Repos = nil
		expect(t, g, false, what, ", no repositories")
	}
}

func TestRightRepos(t *testing.T) { // P12.1
	for n := range 40 {
		expect(t, among(holding(), empty(n)...), n <= 16, n, " repositories")
	}
	for _, count := range []int{1, 2, 16} {
		for place := range count {
			for _, s := range noRepos {
				g := among(holding(), empty(count)...)
				g.Repos[place].Name = s
				expect(t, g, false, "a repository ", s, " at ", place)
			}
			for other := range count {
				g := among(holding(), empty(count)...)
				g.Repos[place].Name = g.Repos[other].Name
				expect(t, g, place == other, "a name twice, at ", place, " and ", other)
				g = among(holding(), empty(count)...)
				g.Repos[place], g.Repos[other] = g.Repos[other], g.Repos[place]
				expect(t, g, place == other, "names that do not rise, at ", place, " and ", other)
			}
		}
	}
	long := strings.Repeat("a", 127)
	for _, l := range [][]string{{"a", "a-b", "a.b", "a/b", "a0", "aa", "b"}, {"a", "a/a", "a/a/a", "a/b", "b"}, {long, long + "a", long + "b"}, {"9", "a"}} {
		g := holding()
		for _, s := range l {
			g.Repos = append(g.Repos, api.Repo{Name: s})
		}
		expect(t, g, true, l)
		slices.Reverse(g.Repos)
		expect(t, g, false, l)
	}
}

// TestRightLists: what a repository has are objects, none twice in a list.
func TestRightLists(t *testing.T) { // P12.1
	blobs, manifests := some(6), texts(image(0), image(1), image(2), image(3), image(4), image(5))
	base := among(holding(manifests, blobs), repo("a", blobs, manifests), repo("b", blobs, manifests))
	expect(t, base, true, "all of them")
	unknown := texts("", "x", of("unknown"), of("comes"), of(bytes(0))[:70], of(bytes(0))+"0", strings.ToUpper(of(bytes(0))), of(bytes(0))[7:], bytes(0))
	for at := range base.Repos {
		for place := range blobs {
			for _, d := range unknown {
				g := copied(base)
				g.Repos[at].Blobs = append(g.Repos[at].Blobs, d)
				expect(t, g, false, "no object, among blobs")
				g = copied(base)
				g.Repos[at].Manifests = slices.Insert(g.Repos[at].Manifests, place, d)
				expect(t, g, false, "no object, among manifests at ", place)
			}
			for other := range blobs {
				g := copied(base)
				g.Repos[at].Blobs = slices.Insert(g.Repos[at].Blobs, place, g.Repos[at].Blobs[other])
				expect(t, g, false, "a blob twice, at ", place, " and ", other)
				g = copied(base)
				g.Repos[at].Manifests = slices.Insert(g.Repos[at].Manifests, place, g.Repos[at].Manifests[other])
				expect(t, g, false, "a manifest twice, at ", place, " and ", other)
			}
			// a digest may stand in both lists, as a manifest is an object, too
			g := copied(base)
			g.Repos[at].Blobs = slices.Insert(g.Repos[at].Blobs, place, of(manifests[place]))
			expect(t, g, true, "a manifest among blobs")
		}
	}
	// what a repository has may stand in any order, and need not be all
	g := copied(base)
	slices.Reverse(g.Repos[0].Blobs)
	slices.Reverse(g.Repos[1].Manifests)
	expect(t, g, true, "reversed")
	g = among(holding(blobs, manifests), repo("a", blobs[:1], nil), repo("b", nil, nil))
	expect(t, g, true, "few of them")
}

// TestRightManifests: manifests can be parsed, and their repository has what they need.
func TestRightManifests(t *testing.T) { // P12.1
	for _, s := range texts("", "{", "{}", "1", `"x"`, `{"kids":[],"kind":"index"}`, image(0)+" ", bytes(9), strings.Repeat("[", 4096)) {
		g := among(holding(some(4), texts(s, image(0))), repo("a", some(4), texts(image(0))))
		expect(t, g, true, "an object ", s)
		g.Repos[0].Manifests = append(g.Repos[0].Manifests, of(s))
		expect(t, g, false, "a manifest ", s)
		slices.Reverse(g.Repos[0].Manifests)
		expect(t, g, false, "a manifest ", s)
	}
	one, other := image(0, 1, 2), image(3, 4, 1)
	top := index(one, other)
	base := among(holding(some(6), texts(one, other, top)), repo("a", some(5), texts(top, other, one)), repo("b", some(6), texts(one, other, top)))
	expect(t, base, true, "an index of two")
	for at := range base.Repos {
		for i := range base.Repos[at].Blobs {
			g := copied(base)
			g.Repos[at].Blobs = slices.Delete(g.Repos[at].Blobs, i, i+1)
			expect(t, g, i == 5, "without blob ", i)
			g.Repos[at].Manifests = append(g.Repos[at].Manifests, of(bytes(i)))
			expect(t, g, false, "blob ", i, " among manifests")
		}
		for i, d := range base.Repos[at].Manifests {
			g := copied(base)
			g.Repos[at].Manifests = slices.Delete(g.Repos[at].Manifests, i, i+1)
			expect(t, g, d == of(top), "without manifest ", i)
			g.Repos[at].Blobs = append(g.Repos[at].Blobs, d)
			expect(t, g, d == of(top), "manifest ", i, " among blobs alone")
		}
	}
}

// TestRightDeep: what is too deep is no manifest of a repository, though it may be an object, or a blob.
func TestRightDeep(t *testing.T) { // P12.1
	c := chain(0, 6)
	g := holding(some(1), c)
	for n := range 7 {
		expect(t, among(g, repo("a", some(1), c[:n])), n <= 4, n, " deep")
		expect(t, among(g, repo("a", some(1), c[:min(n, 4)]), repo("b", slices.Concat(some(1), c), c[:n])), n <= 4, n, " deep")
	}
	// the order of kids tells whether one that is there twice stands too deep
	side := index(c[2], c[0])
	low, high := index(c[0], c[3]), index(c[3], c[0])
	ahead, behind := index(side, c[3]), index(c[3], side)
	all := texts(c[0], c[1], c[2], c[3], side, low, high, ahead, behind)
	for _, s := range texts(side, low, high, ahead, behind) {
		manifests := slices.Concat(c[:4], texts(side, s))
		if s == side {
			manifests = manifests[:5]
		}
		_, e := closure.Of(holding(all).Blobs.Objects, of(s))
		expect(t, among(holding(some(1), all), repo("a", some(1), manifests)), e == api.OK, "kids in this order: ", s)
	}
	expect(t, among(holding(some(1), all), repo("a", some(1), slices.Concat(c[:4], texts(low)))), true, "the image first")
	expect(t, among(holding(some(1), all), repo("a", some(1), slices.Concat(c[:4], texts(high)))), false, "the image last")
}

func TestRightTags(t *testing.T) { // P12.1
	one, other := image(0), image(1)
	base := among(holding(some(2), texts(one, other)), repo("a", some(2), texts(one, other)), repo("b", some(1), texts(one)))
	for n := range 70 {
		g := copied(base)
		g.Repos[n%2].Tags = tags(n, one)
		expect(t, g, n <= 64, n, " tags")
	}
	for at := range base.Repos {
		for _, count := range []int{1, 2, 5, 64} {
			for place := 0; place < count; place += 1 + count/9 {
				filled := func() api.Registry {
					g := copied(base)
					g.Repos[at].Tags = tags(count, one)
					return g
				}
				for _, s := range noTags {
					g := filled()
					g.Repos[at].Tags[place].Name = s
					expect(t, g, false, "a tag ", s)
				}
				for _, d := range texts("", "x", of("unknown"), of(one)[:70], strings.ToUpper(of(one)), of(bytes(0)), one) {
					g := filled()
					g.Repos[at].Tags[place].Digest = d
					expect(t, g, false, "a tag of ", d)
				}
				g := filled()
				g.Repos[at].Tags[place].Digest = of(other)
				expect(t, g, at == 0, "a tag of what the first repository has")
				for other := place % 4; other < count; other += 1 + count/9 {
					g, h := filled(), filled()
					g.Repos[at].Tags[place].Name = g.Repos[at].Tags[other].Name
					expect(t, g, place == other, "a tag twice, at ", place, " and ", other)
					l := h.Repos[at].Tags
					l[place], l[other] = l[other], l[place]
					expect(t, h, place == other, "tags that do not rise, at ", place, " and ", other)
				}
			}
		}
	}
	for _, l := range [][]string{{"-", "a"}, {"A", "Z", "_", "a", "z"}, {"0", "0-", "0.", "00", "0A", "0_", "0a"}, {strings.Repeat("z", 127), strings.Repeat("z", 128)}} {
		g := copied(base)
		for _, s := range l {
			g.Repos[1].Tags = append(g.Repos[1].Tags, tag(s, one))
		}
		expect(t, g, l[0] != "-", l)
		slices.Reverse(g.Repos[1].Tags)
		expect(t, g, false, l)
	}
}

func TestReads(t *testing.T) { // P12.1, R2
	g := two()
	one, other := image(0, 1), image(2, 1)
	top := index(one, other)
	for _, c := range []struct {
		repo, digest string
		has          bool
	}{
		{"a", of(bytes(0)), true},
		{"a", of(bytes(1)), true},
		{"a", of(one), true},
		{"a", of(bytes(2)), false},
		{"a", of(other), false},
		{"a", of(top), false},
		{"b/c", of(bytes(2)), true},
		{"b/c", of(bytes(3)), false},
		{"b/c", of(other), true},
		{"b/c", of(top), true},
		{"b/c", of("comes"), false},
		{"b", of(bytes(0)), false},
		{"b/c/", of(bytes(0)), false},
		{"A", of(bytes(0)), false},
		{"", of(bytes(0)), false},
		{"", "", false},
		{"a", "", false},
		{"a", "v1", false},
		{"a", of(bytes(0))[:70], false},
		{"a", of(bytes(0)) + " ", false},
		{"a", strings.ToUpper(of(bytes(0))), false},
		{"a", bytes(0), false},
	} {
		if got := registry.Has(g, c.repo, c.digest); got != c.has {
			t.Errorf("Has of %q, %q = %v", c.repo, c.digest, got)
		}
		checkReads(t, g, c.repo, "v1", c.digest)
	}
	for _, c := range []struct {
		repo, tag, digest string
	}{
		{"a", "v1", of(one)},
		{"a", "v2", of(one)},
		{"b/c", "old", of(one)},
		{"b/c", "top", of(top)},
		{"a", "top", ""},
		{"a", "v", ""},
		{"a", "v10", ""},
		{"a", "V1", ""},
		{"a", "", ""},
		{"b/c", "v1", ""},
		{"b", "v1", ""},
		{"A", "v1", ""},
		{"", "", ""},
		{"a", of(one), ""},
	} {
		want := api.ErrNone
		if c.digest != "" {
			want = api.OK
		}
		if got, e := registry.Resolve(g, c.repo, c.tag); got != c.digest || e != want {
			t.Errorf("Resolve of %q, %q = %q, %d, want %q, %d", c.repo, c.tag, got, e, c.digest, want)
		}
		checkReads(t, g, c.repo, c.tag, of(one))
	}
	if l := registry.Tags(g, "b/c"); !slices.Equal(l, []api.Tag{tag("old", one), tag("top", top)}) {
		t.Errorf("Tags = %q", l)
	}
	for _, s := range append(texts("b", "c", "n000"), noRepos...) {
		if l := registry.Tags(g, s); len(l) != 0 {
			t.Errorf("Tags of %q = %q", s, l)
		}
	}
}

// TestReadsEach: each of many repositories and tags is found, and nothing between them.
func TestReadsEach(t *testing.T) { // P12.1
	one := image(0)
	g := among(holding(some(1), texts(one)), empty(16)...)
	for i := range g.Repos {
		g.Repos[i] = repo(g.Repos[i].Name, some(1), texts(one), tags(4*i+4, one)[3*i:]...)
	}
	expect(t, g, true)
	for i, r := range g.Repos {
		for place, s := range names(70) {
			d, e := registry.Resolve(g, r.Name, s)
			if there := 3*i <= place && place < 4*i+4; there != (e == api.OK && d == of(one)) || there == (e == api.ErrNone && d == "") {
				t.Errorf("Resolve of %q, %q = %q, %d", r.Name, s, d, e)
			}
			checkReads(t, g, r.Name, s, of(one))
			checkReads(t, g, r.Name+"1", s, of(one))
		}
		if l := registry.Tags(g, r.Name); len(l) != i+4 {
			t.Errorf("%q has %d tags", r.Name, len(l))
		}
	}
}

// TestReadsAny: calls that answer no registry tell what stands there of one that may not be, too.
func TestReadsAny(t *testing.T) { // P12.1, P1
	g := two()
	slices.Reverse(g.Repos)
	slices.Reverse(g.Repos[0].Tags)
	g.Repos[0].Blobs = append(g.Repos[0].Blobs, "no digest")
	g.Repos = append(g.Repos, api.Repo{Name: "NO NAME", Tags: []api.Tag{{Name: "/", Digest: "x"}}})
	g.Blobs.Quota = -1
	expect(t, g, false)
	for _, repo := range texts("a", "b/c", "NO NAME", "b") {
		for _, tag := range texts("v1", "old", "top", "/", "") {
			for _, d := range texts(of(bytes(0)), "no digest", "x", of(image(0, 1))) {
				checkReads(t, g, repo, tag, d)
			}
		}
	}
	if d, e := registry.Resolve(g, "b/c", "old"); d != of(image(0, 1)) || e != api.OK {
		t.Errorf("Resolve = %q, %d", d, e)
	}
}

// TestNames: which names the calls refuse, whatever else is right or wrong, behind a registry that may not be.
func TestNames(t *testing.T) { // P12.1, P12.2, P12.3, R2
	g := two()
	one := image(0, 1)
	for _, bad := range noRepos {
		for _, d := range texts(of(bytes(0)), of(one), of("unknown"), "") {
			_, e := checkLink(t, g, bad, d)
			wants(t, e, api.ErrName, "Link to ", bad)
			_, e = checkMount(t, g, bad, "a", d)
			wants(t, e, api.ErrName, "Mount to ", bad)
			_, e = checkMount(t, g, "b/c", bad, d)
			wants(t, e, api.ErrName, "Mount from ", bad)
			_, e = checkMount(t, g, bad, bad, d)
			wants(t, e, api.ErrName, "Mount from and to ", bad)
			for _, s := range append(texts("v1", "unknown"), noTags...) {
				_, e = checkName(t, g, bad, s, d)
				wants(t, e, api.ErrName, "Name in ", bad)
			}
		}
		for _, s := range texts(one, image(9), "{", "{}", strings.Repeat("x", 4097)) {
			_, e := checkPut(t, g, bad, s)
			wants(t, e, api.ErrName, "Put to ", bad)
		}
		for _, s := range append(texts("v1", "unknown"), noTags...) {
			_, e := checkUnname(t, g, bad, s)
			wants(t, e, api.ErrName, "Unname in ", bad)
		}
	}
	for _, bad := range noTags {
		for _, repo := range texts("a", "b", "b/c") {
			for _, d := range texts(of(one), of("unknown"), "") {
				_, e := checkName(t, g, repo, bad, d)
				wants(t, e, api.ErrName, "Name of ", bad)
			}
			_, e := checkUnname(t, g, repo, bad)
			wants(t, e, api.ErrName, "Unname of ", bad)
		}
	}
	full := among(g, empty(14)...)
	for _, bad := range noRepos {
		_, e := checkLink(t, full, bad, of(bytes(0)))
		wants(t, e, api.ErrName, "Link to ", bad, " where all is full")
		_, e = checkMount(t, full, bad, "a", of(bytes(0)))
		wants(t, e, api.ErrName, "Mount to ", bad, " where all is full")
	}
	g.Blobs.Quota = -1
	expect(t, g, false)
}

func TestLink(t *testing.T) { // P12.2
	g := two()
	one := image(0, 1)
	for _, c := range []struct {
		repo, digest string
		want         api.Errno
		blobs        []string // what the repository has then
	}{
		{"a", of(bytes(2)), api.OK, texts(bytes(1), bytes(0), bytes(2))},
		{"a", of(bytes(3)), api.OK, texts(bytes(1), bytes(0), bytes(3))},
		{"a", of(bytes(1)), api.OK, texts(bytes(1), bytes(0))},
		{"a", of(bytes(0)), api.OK, texts(bytes(1), bytes(0))},
		{"b/c", of(bytes(0)), api.OK, some(3)},
		{"b/c", of(bytes(3)), api.OK, some(4)},
		{"b", of(bytes(3)), api.OK, texts(bytes(3))},
		{"0", of(bytes(0)), api.OK, texts(bytes(0))},
		{"z", of(bytes(0)), api.OK, texts(bytes(0))},
		// a manifest is an object as any other
		{"a", of(one), api.OK, texts(bytes(1), bytes(0), one)},
		{"b", of(one), api.OK, texts(one)},
		{"a", of("unknown"), api.ErrNone, nil},
		{"a", of("comes"), api.ErrNone, nil},
		{"b", of("unknown"), api.ErrNone, nil},
		{"a", "", api.ErrNone, nil},
		{"a", bytes(0), api.ErrNone, nil},
		{"a", of(bytes(0))[:70], api.ErrNone, nil},
		{"a", of(bytes(0)) + "0", api.ErrNone, nil},
		{"a", of(bytes(0))[7:], api.ErrNone, nil},
		{"a", strings.ToUpper(of(bytes(0))), api.ErrNone, nil},
	} {
		got, e := checkLink(t, g, c.repo, c.digest)
		wants(t, e, c.want, "Link of ", c.digest, " to ", c.repo)
		r, _ := repoOf(got, c.repo)
		if !slices.Equal(r.Blobs, digests(c.blobs)) || e == api.OK && !registry.Has(got, c.repo, c.digest) {
			t.Errorf("Link of %q to %q: %s", c.digest, c.repo, tell(got))
		}
	}
}

// TestMade: a repository that is not there is made in its place, if there are fewer than 16.
func TestMade(t *testing.T) { // P12.2
	d := of(bytes(0))
	from := "n"
	for n := range 16 {
		g := among(holding(some(2)), repo(from, some(1), nil))
		g = among(g, empty(n)...)
		expect(t, g, true)
		for i, s := range append(texts("m"), names(n)...) {
			for _, c := range []struct {
				what string
				call func(repo, digest string) (api.Registry, api.Errno)
			}{
				{"Link", func(repo, digest string) (api.Registry, api.Errno) { return checkLink(t, g, repo, digest) }},
				{"Mount", func(repo, digest string) (api.Registry, api.Errno) { return checkMount(t, g, repo, from, digest) }},
			} {
				made := s + "1"
				got, e := c.call(made, d)
				if n == 15 {
					wants(t, e, api.ErrFull, c.what, ", 16 repositories")
				} else {
					wants(t, e, api.OK, c.what, " to ", made)
				}
				// ahead of all others, or behind the one of the number ahead of it
				place := 0
				if i > 0 {
					place = i + 1
				}
				if e == api.OK && (len(got.Repos) != n+2 || !sameRepo(got.Repos[place], repo(made, some(1), nil))) {
					t.Errorf("%s to %s at %d: %s", c.what, made, place, tell(got))
				}
				// that there is none of it comes first
				_, e = c.call(made, of("unknown"))
				wants(t, e, api.ErrNone, c.what, " of nothing")
				// those that are there need no room
				if i > 0 {
					_, e = c.call(s, d)
					wants(t, e, api.OK, c.what, " to what is there")
				}
			}
		}
	}
}

func TestMount(t *testing.T) { // P12.2
	g := two()
	one := image(0, 1)
	g.Repos[0].Blobs = append(g.Repos[0].Blobs, of(index(one, image(2, 1))))
	expect(t, g, true)
	for _, c := range []struct {
		repo, from, digest string
		want               api.Errno
		blobs              []string // what the repository has then
	}{
		{"b", "a", of(bytes(0)), api.OK, texts(bytes(0))},
		{"b", "b/c", of(bytes(2)), api.OK, texts(bytes(2))},
		{"a", "b/c", of(bytes(2)), api.OK, append(texts(bytes(1), bytes(0), index(one, image(2, 1))), bytes(2))},
		{"b/c", "a", of(bytes(0)), api.OK, some(3)},
		{"b/c", "a", of(index(one, image(2, 1))), api.OK, append(some(3), index(one, image(2, 1)))},
		{"b/c", "b/c", of(bytes(2)), api.OK, some(3)},
		// an object that is there, but not the other repository's blob
		{"b", "a", of(bytes(2)), api.ErrNone, nil},
		{"b/c", "a", of(bytes(2)), api.ErrNone, nil},
		{"a", "b/c", of(bytes(3)), api.ErrNone, nil},
		{"a", "a", of(bytes(2)), api.ErrNone, nil},
		{"a", "a", of(one), api.ErrNone, nil},
		{"b", "a", of(one), api.ErrNone, nil},
		{"b", "b/c", of(one), api.ErrNone, nil},
		{"b", "unknown", of(bytes(0)), api.ErrNone, nil},
		{"a", "unknown", of(bytes(0)), api.ErrNone, nil},
		{"unknown", "unknown", of(bytes(0)), api.ErrNone, nil},
		{"b", "a", of("unknown"), api.ErrNone, nil},
		{"b", "a", "", api.ErrNone, nil},
		{"b", "unknown", "", api.ErrNone, nil},
		{"b", "a", strings.ToUpper(of(bytes(0))), api.ErrNone, nil},
	} {
		got, e := checkMount(t, g, c.repo, c.from, c.digest)
		wants(t, e, c.want, "Mount of ", c.digest, " to ", c.repo, " from ", c.from)
		r, _ := repoOf(got, c.repo)
		if !slices.Equal(r.Blobs, digests(c.blobs)) || e == api.OK && !registry.Has(got, c.repo, c.digest) {
			t.Errorf("Mount of %q to %q from %q: %s", c.digest, c.repo, c.from, tell(got))
		}
	}
}

func TestPut(t *testing.T) { // P12.2, R2
	one, other := image(0, 1, 2), image(3, 4, 1)
	top := index(one, other)
	g := among(holding(some(5)), repo("a", some(5), nil), repo("b", some(3), nil))
	for i, s := range texts(one, other, top, written(api.Manifest{Config: of(one)})) {
		if i == 3 {
			g, _ = checkLink(t, g, "a", of(one))
		}
		var e api.Errno
		if g, e = checkPut(t, g, "a", s); e != api.OK {
			t.Fatalf("Put of %q: %d", s, e)
		}
		r, _ := repoOf(g, "a")
		if n := len(g.Blobs.Objects); n != 6+i || g.Blobs.Objects[n-1] != (api.Object{Digest: of(s), Data: s}) || len(r.Manifests) != i+1 || r.Manifests[i] != of(s) || len(g.Blobs.Uploads) != 1 {
			t.Fatalf("Put of %q: %s", s, tell(g))
		}
		// once more: it is there, and stays where it is
		if again, e := checkPut(t, g, "a", s); e != api.OK || !same(again, g) {
			t.Errorf("Put of %q again: %s, %d", s, tell(again), e)
		}
	}
	// another repository has it by its own blobs and manifests alone
	for _, c := range []struct {
		data string
		want api.Errno
	}{
		{one, api.OK},
		{other, api.ErrNone},
		{top, api.ErrNone},
		{index(one), api.ErrNone},
	} {
		got, e := checkPut(t, g, "b", c.data)
		wants(t, e, c.want, "Put of ", c.data)
		if e == api.OK && (len(got.Blobs.Objects) != len(g.Blobs.Objects) || !slices.Equal(got.Repos[1].Manifests, texts(of(one)))) {
			t.Errorf("Put of %q: %s", c.data, tell(got))
		}
		_, e = checkPut(t, g, "unknown", c.data)
		wants(t, e, api.ErrNone, "Put to nowhere of ", c.data)
	}
}

// TestPutParse: the data's own errors come first.
func TestPutParse(t *testing.T) { // P12.2, R2
	full := tight(among(holding(some(64)), repo("a", nil, nil)))
	expect(t, full, true)
	for _, c := range []struct {
		data string
		want api.Errno
	}{
		{"", api.ErrSyntax},
		{"{", api.ErrSyntax},
		{"\x00\xff", api.ErrSyntax},
		{image(0) + " ", api.ErrSyntax},
		{" " + image(0), api.ErrSyntax},
		{image(0) + image(0), api.ErrSyntax},
		{"{}", api.ErrSchema},
		{"1", api.ErrSchema},
		{`{"kids":[],"kind":"index"}`, api.ErrSchema},
		{`{"config":"x","kind":"image","layers":[]}`, api.ErrSchema},
		{strings.Repeat("x", 4096), api.ErrSyntax},
		{strings.Repeat("x", 4097), api.ErrLong},
		{strings.Repeat("x", 1<<20), api.ErrLong},
	} {
		for _, g := range []api.Registry{two(), full, {}} {
			for _, repo := range texts("a", "b/c", "unknown") {
				_, e := checkPut(t, g, repo, c.data)
				wants(t, e, c.want, "Put of ", fmt.Sprintf("%.60q", c.data))
			}
		}
	}
}

// TestPutNeeds: each blob and each kid is asked for, in its own list.
func TestPutNeeds(t *testing.T) { // P12.2, the chapter's example
	whole := image(0, 1, 2, 3, 4, 5, 6, 7, 8)
	base := among(holding(some(10)), repo("a", some(9), nil), repo("b", some(9), nil))
	_, e := checkPut(t, base, "a", whole)
	wants(t, e, api.OK, "all there")
	for i := range 9 {
		g := copied(base)
		g.Repos[0].Blobs = slices.Delete(g.Repos[0].Blobs, i, i+1)
		_, e := checkPut(t, g, "a", whole)
		wants(t, e, api.ErrNone, "blob ", i, " is not linked")
		_, e = checkPut(t, g, "b", whole)
		wants(t, e, api.OK, "blob ", i, " is not linked elsewhere")
	}
	var kids []string
	for i := range 8 {
		kids = append(kids, image(i))
	}
	top := index(kids...)
	base = among(holding(some(10), kids), repo("a", some(9), kids), repo("b", some(9), kids))
	_, e = checkPut(t, base, "a", top)
	wants(t, e, api.OK, "all kids there")
	for i := range kids {
		g := copied(base)
		g.Repos[0].Manifests = slices.Delete(g.Repos[0].Manifests, i, i+1)
		_, e := checkPut(t, g, "a", top)
		wants(t, e, api.ErrNone, "kid ", i, " is not there")
		_, e = checkPut(t, g, "b", top)
		wants(t, e, api.OK, "kid ", i, " is not there elsewhere")
		// as a blob it is no kid
		g.Repos[0].Blobs = append(g.Repos[0].Blobs, of(kids[i]))
		_, e = checkPut(t, g, "a", top)
		wants(t, e, api.ErrNone, "kid ", i, " is there as a blob")
		// nor is a manifest a blob
		mixed := written(api.Manifest{Config: of(bytes(0)), Layers: []api.Layer{{Digest: of(kids[i]), Size: 1}}})
		_, e = checkPut(t, base, "a", mixed)
		wants(t, e, api.ErrNone, "kid ", i, " as a layer")
		_, e = checkPut(t, g, "a", mixed)
		wants(t, e, api.OK, "kid ", i, " as a layer that is linked")
	}
	// kids that are no manifests at all
	for _, s := range texts(bytes(0), bytes(9), "unknown", "comes") {
		_, e := checkPut(t, base, "a", index(kids[0], s))
		wants(t, e, api.ErrNone, "a kid ", s)
	}
}

// TestPutDeep: an index five deep is never there; that it would be comes behind what it needs, and ahead of room.
func TestPutDeep(t *testing.T) { // P12.2
	c := chain(0, 5)
	g := among(holding(some(2)), repo("a", some(2), nil))
	for n, s := range c {
		got, e := checkPut(t, g, "a", s)
		if n < 4 {
			wants(t, e, api.OK, n+1, " deep")
			g = got
			continue
		}
		wants(t, e, api.ErrDeep, "5 deep")
	}
	for _, k := range []struct {
		data string
		want api.Errno
	}{
		{index(c[0], c[3]), api.OK},
		{index(c[3], c[0]), api.ErrDeep},
		{index(c[1], c[3]), api.OK},
		{index(c[3], c[1]), api.ErrDeep},
		{index(c[2], c[1], c[0]), api.OK},
		{index(c[3], image(1)), api.ErrNone},
		{index(image(1), c[3]), api.ErrNone},
	} {
		_, e := checkPut(t, g, "a", k.data)
		wants(t, e, k.want, "Put of ", k.data)
	}
	// though it is there as an object, and linked as a blob
	there := copied(g)
	there.Blobs.Objects = append(there.Blobs.Objects, api.Object{Digest: of(c[4]), Data: c[4]})
	there.Repos[0].Blobs = append(there.Repos[0].Blobs, of(c[4]))
	expect(t, there, true)
	_, e := checkPut(t, there, "a", c[4])
	wants(t, e, api.ErrDeep, "5 deep, and there")
	_, e = checkPut(t, there, "a", index(c[4]))
	wants(t, e, api.ErrNone, "6 deep")
	// where there is no room
	full := copied(g)
	full.Blobs.Objects = append(full.Blobs.Objects, holding(some(70)[12:]).Blobs.Objects...)[:64]
	full = tight(full)
	expect(t, full, true)
	_, e = checkPut(t, full, "a", c[4])
	wants(t, e, api.ErrDeep, "5 deep, all full")
	_, e = checkPut(t, full, "a", index(c[2], c[1]))
	wants(t, e, api.ErrFull, "3 deep, all full")
	_, e = checkPut(t, full, "a", index(image(1)))
	wants(t, e, api.ErrNone, "no kid, all full")
	_, e = checkPut(t, full, "a", c[3])
	wants(t, e, api.OK, "there, all full")
}

// TestPutRoom: there are 64 objects at most, of as many bytes as the quota, but what is there needs no room.
func TestPutRoom(t *testing.T) { // P12.2
	s, there := image(0, 1), image(1)
	for n := 50; n <= 63; n++ {
		g := among(holding(some(n), texts(there)), repo("a", some(2), nil), repo("b", some(2), texts(there)))
		size := tight(g).Blobs.Quota
		for _, room := range []int{0, 1, len(s) - 1, len(s), len(s) + 1, 2 * len(s)} {
			g.Blobs.Quota = size + room
			got, e := checkPut(t, g, "a", s)
			switch {
			case n == 63:
				wants(t, e, api.ErrFull, "64 objects, room for ", room)
			case room < len(s):
				wants(t, e, api.ErrQuota, n+1, " objects, room for ", room)
			default:
				wants(t, e, api.OK, n+1, " objects, room for ", room)
			}
			if e != api.OK && !same(got, api.Registry{}) {
				t.Errorf("%s beside %d", tell(got), e)
			}
			for _, repo := range texts("a", "b") {
				got, e = checkPut(t, g, repo, there)
				wants(t, e, api.OK, "what is there, room for ", room)
				if len(got.Blobs.Objects) != n+1 || !registry.Has(got, repo, of(there)) {
					t.Errorf("Put of what is there: %s", tell(got))
				}
			}
		}
	}
}

// TestPutBlob: data that came as a blob is a manifest, too, once it is put, and stands where it stood.
func TestPutBlob(t *testing.T) { // P12.2
	s := image(0)
	g := among(holding(texts(bytes(0), s, bytes(1))), repo("a", texts(bytes(0)), nil), repo("b", texts(s), nil))
	got, e := checkPut(t, g, "a", s)
	if e != api.OK || !slices.Equal(got.Blobs.Objects, g.Blobs.Objects) || !slices.Equal(got.Repos[0].Manifests, texts(of(s))) || len(got.Repos[1].Manifests) != 0 {
		t.Errorf("Put = %s, %d", tell(got), e)
	}
	_, e = checkPut(t, g, "b", s)
	wants(t, e, api.ErrNone, "its own blob, not its config's")
	_, e = checkName(t, g, "b", "v1", of(s))
	wants(t, e, api.ErrNone, "Name of a blob")
}

func TestName(t *testing.T) { // P12.3
	g := two()
	one, other := image(0, 1), image(2, 1)
	top := index(one, other)
	for _, c := range []struct {
		repo, tag, digest string
		want              api.Errno
		tags              []api.Tag
	}{
		{"a", "v1", of(one), api.OK, []api.Tag{tag("v1", one), tag("v2", one)}},
		{"a", "v0", of(one), api.OK, []api.Tag{tag("v0", one), tag("v1", one), tag("v2", one)}},
		{"a", "v11", of(one), api.OK, []api.Tag{tag("v1", one), tag("v11", one), tag("v2", one)}},
		{"a", "w", of(one), api.OK, []api.Tag{tag("v1", one), tag("v2", one), tag("w", one)}},
		{"a", "V1", of(one), api.OK, []api.Tag{tag("V1", one), tag("v1", one), tag("v2", one)}},
		{"b/c", "old", of(other), api.OK, []api.Tag{tag("old", other), tag("top", top)}},
		{"b/c", "top", of(one), api.OK, []api.Tag{tag("old", one), tag("top", one)}},
		{"b/c", "_", of(top), api.OK, []api.Tag{tag("_", top), tag("old", one), tag("top", top)}},
		{"b/c", "v1", of(other), api.OK, []api.Tag{tag("old", one), tag("top", top), tag("v1", other)}},
		// what is there, but no manifest of the repository
		{"a", "v1", of(other), api.ErrNone, nil},
		{"a", "v1", of(top), api.ErrNone, nil},
		{"a", "v3", of(top), api.ErrNone, nil},
		{"a", "v1", of(bytes(0)), api.ErrNone, nil},
		{"a", "v1", of(bytes(3)), api.ErrNone, nil},
		{"b/c", "v1", of(bytes(2)), api.ErrNone, nil},
		{"b", "v1", of(one), api.ErrNone, nil},
		{"z", "v1", of(one), api.ErrNone, nil},
		{"a", "v1", of("unknown"), api.ErrNone, nil},
		{"a", "v1", "", api.ErrNone, nil},
		{"a", "v1", "v2", api.ErrNone, nil},
		{"a", "v1", one, api.ErrNone, nil},
		{"a", "v1", of(one)[:70], api.ErrNone, nil},
		{"a", "v1", strings.ToUpper(of(one)), api.ErrNone, nil},
	} {
		got, e := checkName(t, g, c.repo, c.tag, c.digest)
		wants(t, e, c.want, "Name of ", c.tag, " in ", c.repo, ": ", c.digest)
		if l := registry.Tags(got, c.repo); !slices.Equal(l, c.tags) {
			t.Errorf("Name of %q in %q: %q, want %q", c.tag, c.repo, l, c.tags)
		}
		if d, _ := registry.Resolve(got, c.repo, c.tag); e == api.OK && d != c.digest {
			t.Errorf("Name of %q in %q: it is of %q", c.tag, c.repo, d)
		}
	}
}

// TestNamePlaces: a tag comes to its place among each number of others, up to 64.
func TestNamePlaces(t *testing.T) { // P12.3
	one, other := image(0), image(1)
	for n := range 65 {
		g := among(holding(some(2), texts(one, other)), repo("a", some(2), texts(one, other), tags(n, one)...))
		for place := 0; place <= n; place += 1 + n/11 {
			s := "m"
			if place > 0 {
				s = names(n)[place-1] + "1"
			}
			want := slices.Insert(tags(n, one), place, tag(s, other))
			got, e := checkName(t, g, "a", s, of(other))
			if n == 64 {
				wants(t, e, api.ErrFull, "64 tags")
				_, e = checkName(t, g, "a", s, of(bytes(0)))
				wants(t, e, api.ErrNone, "64 tags, and no manifest")
			} else if e != api.OK || !slices.Equal(registry.Tags(got, "a"), want) {
				t.Errorf("Name of %q among %d: %q, %d", s, n, registry.Tags(got, "a"), e)
			}
			if place == n {
				break
			}
			s = names(n)[place]
			want = tags(n, one)
			want[place] = tag(s, other)
			got, e = checkName(t, g, "a", s, of(other))
			if e != api.OK || !slices.Equal(registry.Tags(got, "a"), want) {
				t.Errorf("Name of %q, that is there, among %d: %q, %d", s, n, registry.Tags(got, "a"), e)
			}
		}
	}
}

func TestUnname(t *testing.T) { // P12.3
	one := image(0)
	for n := range 65 {
		g := among(holding(some(2), texts(one)), repo("a", some(2), texts(one), tags(n, one)...), repo("b", some(1), texts(one), tags(64, one)...))
		for place := 0; place < n; place += 1 + n/11 {
			s := names(n)[place]
			got, e := checkUnname(t, g, "a", s)
			if e != api.OK || !slices.Equal(registry.Tags(got, "a"), slices.Delete(tags(n, one), place, place+1)) || !slices.Equal(registry.Tags(got, "b"), tags(64, one)) {
				t.Errorf("Unname of %q among %d: %s, %d", s, n, tell(got), e)
			}
			if _, e := registry.Resolve(got, "a", s); e != api.ErrNone {
				t.Errorf("Unname of %q among %d: it is there", s, n)
			}
			_, e = checkUnname(t, got, "a", s)
			wants(t, e, api.ErrNone, "Unname of what is gone")
			_, e = checkUnname(t, g, "a", s+"1")
			wants(t, e, api.ErrNone, "Unname of ", s, "1")
		}
		for _, s := range texts("m", "n", "z", "n640", "N000") {
			for _, repo := range texts("a", "b", "c", "0") {
				_, e := checkUnname(t, g, repo, s)
				wants(t, e, api.ErrNone, "Unname of ", s)
			}
		}
	}
	// the manifest, its blobs, and a repository that has no tag any more stay
	g, e := checkUnname(t, among(holding(some(1), texts(one)), repo("a", some(1), texts(one), tag("x", one))), "a", "x")
	if want := among(holding(some(1), texts(one)), repo("a", some(1), texts(one))); e != api.OK || !same(g, want) {
		t.Errorf("Unname of the last one: %s, %d", tell(g), e)
	}
}

func Example() {
	config := digest.Of("config")
	g := api.Registry{Blobs: api.Blobs{Quota: 1000, Objects: []api.Object{{Digest: config, Data: "config"}}}}
	image, _ := manifest.Print(api.Manifest{Config: config})
	_, _, e := registry.Put(g, "lib/go", image)
	fmt.Println(e)
	g, _ = registry.Link(g, "lib/go", config)
	g, d, _ := registry.Put(g, "lib/go", image)
	g, _ = registry.Name(g, "lib/go", "1.27", d)
	fmt.Println(registry.Tags(g, "lib/go")[0].Name, registry.Has(g, "lib/go", d))
	// Output:
	// 9
	// 1.27 true
}
