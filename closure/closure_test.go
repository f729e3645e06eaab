package closure_test

import (
	"crypto/sha256"
	"fmt"
	"math/rand"
	"slices"
	"strconv"
	"strings"
	"testing"

	"consignor/api"
	"consignor/closure"
	"consignor/digest"
	"consignor/manifest"
)

// of is a text's digest, as the library sums it.
func of(s string) string { return fmt.Sprintf("sha256:%x", sha256.Sum256([]byte(s))) }

// object is data by its own digest.
func object(s string) api.Object { return api.Object{Digest: of(s), Data: s} }

// blob is the data of one of many blobs, by its number, and b its digest.
func blob(i int) string { return "blob " + strconv.Itoa(i) }

func b(i int) string { return of(blob(i)) }

func blobs(numbers ...int) []string {
	var l []string
	for _, i := range numbers {
		l = append(l, b(i))
	}
	return l
}

// image is the object of an image's manifest: a config and layers by their numbers.
func image(config int, layers ...int) api.Object {
	m := api.Manifest{Config: b(config)}
	for _, l := range layers {
		m.Layers = append(m.Layers, api.Layer{Digest: b(l), Size: len(blob(l))})
	}
	return written(m)
}

// index is the object of an index of these.
func index(kids ...api.Object) api.Object {
	return written(api.Manifest{Index: true, Kids: digests(kids)})
}

func written(m api.Manifest) api.Object {
	s, e := manifest.Print(m)
	if e != api.OK {
		panic(fmt.Sprintf("no manifest: %+v", m))
	}
	return object(s)
}

func digests(l []api.Object) []string {
	var all []string
	for _, o := range l {
		all = append(all, o.Digest)
	}
	return all
}

// chain is an image of a blob, and indexes, each of the one ahead of it.
func chain(config, long int) []api.Object {
	l := []api.Object{image(config)}
	for len(l) < long {
		l = append(l, index(l[len(l)-1]))
	}
	return l
}

func last(l []api.Object) api.Object { return l[len(l)-1] }

// join is lists of objects, one behind the other, in a new list.
func join(lists ...[]api.Object) []api.Object { return slices.Concat(lists...) }

// found is what the chapter says of a digest's data.
func found(l []api.Object, d string) (string, api.Errno) {
	for _, o := range l {
		if o.Digest != d {
			continue
		}
		if of(o.Data) != d {
			return "", api.ErrDigest
		}
		return o.Data, api.OK
	}
	return "", api.ErrNone
}

// walked is what the chapter says of a walk, word by word, behind what was walked so far.
func walked(l []api.Object, d string, depth int, so api.Walk) (api.Walk, api.Errno) {
	if depth > 4 {
		return api.Walk{}, api.ErrDeep
	}
	s, e := found(l, d)
	if e != api.OK {
		return api.Walk{}, e
	}
	m, e := manifest.Parse(s)
	if e != api.OK {
		return api.Walk{}, e
	}
	for _, kid := range m.Kids {
		if !slices.Contains(so.Manifests, kid) {
			if so, e = walked(l, kid, depth+1, so); e != api.OK {
				return api.Walk{}, e
			}
		}
	}
	for _, b := range manifest.Blobs(m) {
		if !slices.Contains(so.Blobs, b) {
			so.Blobs = append(so.Blobs, b)
		}
	}
	so.Manifests = append(so.Manifests, d)
	return so, api.OK
}

// wholly is what the chapter says of what is whole.
func wholly(l []api.Object, d string) api.Errno {
	w, e := walked(l, d, 1, api.Walk{})
	for _, b := range w.Blobs {
		if _, blobErr := found(l, b); e == api.OK {
			e = blobErr
		}
	}
	return e
}

func same(w, v api.Walk) bool {
	return slices.Equal(w.Manifests, v.Manifests) && slices.Equal(w.Blobs, v.Blobs)
}

// check holds all calls of a digest among objects against the chapter's words, and tells what Of and Whole answered.
func check(t *testing.T, l []api.Object, d string) (api.Errno, api.Errno) {
	t.Helper()
	before := slices.Clone(l)
	want, wantErr := found(l, d)
	if got, e := closure.Find(l, d); got != want || e != wantErr {
		t.Errorf("Find(%q, %q) = %q, %d, want %q, %d", l, d, got, e, want, wantErr)
	}
	wantWalk, wantOf := walked(l, d, 1, api.Walk{})
	w, ofErr := closure.Of(l, d)
	if !same(w, wantWalk) || ofErr != wantOf {
		t.Errorf("Of(%q, %q) = %q, %d, want %q, %d", l, d, w, ofErr, wantWalk, wantOf)
	}
	wholeErr := closure.Whole(l, d)
	if want := wholly(l, d); wholeErr != want {
		t.Errorf("Whole(%q, %q) = %d, want %d", l, d, wholeErr, want)
	}
	if !slices.Equal(l, before) {
		t.Errorf("%q is %q, once it was handed in", before, l)
	}
	checkOrder(t, l, w)
	return ofErr, wholeErr
}

// checkOrder holds that in a walk each manifest stands behind all its kids, none twice, and no blob twice.
func checkOrder(t *testing.T, l []api.Object, w api.Walk) {
	t.Helper()
	for i, d := range w.Manifests {
		s, e := closure.Find(l, d)
		m, parseErr := manifest.Parse(s)
		if e != api.OK || parseErr != api.OK || slices.Contains(w.Manifests[:i], d) {
			t.Errorf("%q of %q: no manifest, or twice", d, w.Manifests)
		}
		for _, kid := range m.Kids {
			if !slices.Contains(w.Manifests[:i], kid) {
				t.Errorf("%q stands ahead of its kid %q", d, kid)
			}
		}
		for _, b := range manifest.Blobs(m) {
			if !slices.Contains(w.Blobs, b) {
				t.Errorf("%q: its blob %q is not among %q", d, b, w.Blobs)
			}
		}
	}
	for i, b := range w.Blobs {
		if slices.Contains(w.Blobs[:i], b) {
			t.Errorf("%q stands twice in %q", b, w.Blobs)
		}
	}
}

func TestFind(t *testing.T) { // P6.1, R3
	x, y, none := object("x"), object("y"), object("")
	spoilt := api.Object{Digest: x.Digest, Data: "spoilt"}
	digits := strings.TrimPrefix(x.Digest, "sha256:")
	for _, c := range []struct {
		l    []api.Object
		d    string
		data string
		e    api.Errno
	}{
		{nil, x.Digest, "", api.ErrNone},
		{nil, "", "", api.ErrNone},
		{[]api.Object{}, x.Digest, "", api.ErrNone},
		{[]api.Object{x}, x.Digest, "x", api.OK},
		{[]api.Object{none}, none.Digest, "", api.OK},
		{[]api.Object{y}, x.Digest, "", api.ErrNone},
		{[]api.Object{y, x}, x.Digest, "x", api.OK},
		{[]api.Object{x, y}, x.Digest, "x", api.OK},
		{[]api.Object{spoilt}, x.Digest, "", api.ErrDigest},
		{[]api.Object{{Digest: x.Digest}}, x.Digest, "", api.ErrDigest},
		{[]api.Object{{Digest: x.Digest, Data: "x\x00"}}, x.Digest, "", api.ErrDigest},
		// the first one of a digest tells, whatever comes behind it
		{[]api.Object{spoilt, x}, x.Digest, "", api.ErrDigest},
		{[]api.Object{x, spoilt}, x.Digest, "x", api.OK},
		{[]api.Object{y, spoilt, x}, x.Digest, "", api.ErrDigest},
		{[]api.Object{y, x, spoilt, y}, x.Digest, "x", api.OK},
		// data that fits is found by its digest alone
		{[]api.Object{{Digest: y.Digest, Data: "x"}}, x.Digest, "", api.ErrNone},
		{[]api.Object{{Digest: "", Data: "x"}}, x.Digest, "", api.ErrNone},
		{[]api.Object{x}, strings.ToUpper(x.Digest), "", api.ErrNone},
		{[]api.Object{x}, x.Digest[:70], "", api.ErrNone},
		{[]api.Object{x}, x.Digest + " ", "", api.ErrNone},
		{[]api.Object{x}, digits, "", api.ErrNone},
		{[]api.Object{x}, "x", "", api.ErrNone},
		{[]api.Object{x}, "", "", api.ErrNone},
		// what is no digest is fitted by no data
		{[]api.Object{{Digest: "", Data: ""}}, "", "", api.ErrDigest},
		{[]api.Object{{Digest: "x", Data: "x"}}, "x", "", api.ErrDigest},
		{[]api.Object{{Digest: digits, Data: "x"}}, digits, "", api.ErrDigest},
		{[]api.Object{{Digest: "SHA256:" + digits, Data: "x"}}, "SHA256:" + digits, "", api.ErrDigest},
		{[]api.Object{{Digest: "sha256:" + strings.ToUpper(digits), Data: "x"}}, "sha256:" + strings.ToUpper(digits), "", api.ErrDigest},
		{[]api.Object{{Digest: "\xff\x00", Data: "x"}}, "\xff\x00", "", api.ErrDigest},
	} {
		if data, e := closure.Find(c.l, c.d); data != c.data || e != c.e {
			t.Errorf("Find(%q, %q) = %q, %d, want %q, %d", c.l, c.d, data, e, c.data, c.e)
		}
		check(t, c.l, c.d)
	}
}

func TestOf(t *testing.T) { // P6.1, P6.3, R3
	one, two, three := image(1, 2, 3), image(4, 3, 5, 2), image(3)
	both, swapped := index(one, two), index(two, one)
	above := index(two, both, one)
	l := []api.Object{above, three, swapped, both, two, one}
	for _, c := range []struct {
		d         string
		manifests []api.Object
		blobs     []string
	}{
		{one.Digest, []api.Object{one}, blobs(1, 2, 3)},
		{three.Digest, []api.Object{three}, blobs(3)},
		// the document's example
		{both.Digest, []api.Object{one, two, both}, blobs(1, 2, 3, 4, 5)},
		{swapped.Digest, []api.Object{two, one, swapped}, blobs(4, 3, 5, 2, 1)},
		// kids that were walked are passed over, wherever they stand
		{above.Digest, []api.Object{two, one, both, above}, blobs(4, 3, 5, 2, 1)},
	} {
		want := api.Walk{Manifests: digests(c.manifests), Blobs: c.blobs}
		if w, e := closure.Of(l, c.d); !same(w, want) || e != api.OK {
			t.Errorf("Of(%q) = %q, %d, want %q", c.d, w, e, want)
		}
		check(t, l, c.d)
	}
	again := image(6, 7, 6, 7, 8)
	want := api.Walk{Manifests: []string{again.Digest}, Blobs: blobs(6, 7, 8)}
	if w, e := closure.Of([]api.Object{again}, again.Digest); !same(w, want) || e != api.OK {
		t.Errorf("Of(%q) = %q, %d, want %q", again, w, e, want)
	}
	for _, none := range [][]api.Object{nil, {}} {
		if w, e := closure.Of(none, one.Digest); !same(w, api.Walk{}) || e != api.ErrNone {
			t.Errorf("Of among none = %q, %d", w, e)
		}
	}
}

func TestDeep(t *testing.T) { // P6.1, P6.2, P1
	x := chain(1, 6)
	above := index(index(index(x[0])), x[0])
	for _, c := range []struct {
		what string
		l    []api.Object
		d    string
		e    api.Errno
	}{
		{"1 deep", x, x[0].Digest, api.OK},
		{"4 deep", x, x[3].Digest, api.OK},
		{"5 deep", x, x[4].Digest, api.ErrDeep},
		{"6 deep", x, x[5].Digest, api.ErrDeep},
		{"5 deep, with none there", x[1:], x[4].Digest, api.ErrDeep},
		{"5 deep, with the one at 4 gone", slices.Delete(slices.Clone(x), 1, 2), x[4].Digest, api.ErrNone},
		{"5 deep, spoilt", join([]api.Object{{Digest: x[0].Digest}}, x), x[4].Digest, api.ErrDeep},
		{"4 deep, spoilt", join([]api.Object{{Digest: x[0].Digest}}, x), x[3].Digest, api.ErrDigest},
		{"4 deep, with none there", x[1:], x[3].Digest, api.ErrNone},
	} {
		if _, e := closure.Of(c.l, c.d); e != c.e {
			t.Errorf("%s: Of = %d, want %d", c.what, e, c.e)
		}
		check(t, c.l, c.d)
	}
	// what was walked may stand at any depth, but not the other way round
	four := x[3]
	low, high := index(x[0], four), index(four, x[0])
	for _, top := range []api.Object{low, high, above, index(x[0], x[1], x[2], x[3]), index(x[3], x[2], x[1], x[0]), index(x[1], four), index(four, x[1])} {
		check(t, append(slices.Clone(x), low, high, above, top), top.Digest)
	}
	if w, e := closure.Of(append(slices.Clone(x), low), low.Digest); e != api.OK || !slices.Equal(w.Manifests, []string{x[0].Digest, x[1].Digest, x[2].Digest, x[3].Digest, low.Digest}) {
		t.Errorf("a kid ahead that stands 5 deep, too: %q, %d", w, e)
	}
	if w, e := closure.Of(append(slices.Clone(x), high), high.Digest); e != api.ErrDeep || !same(w, api.Walk{}) {
		t.Errorf("a kid behind that stands 5 deep, too: %q, %d", w, e)
	}
	// behind a kid that goes to the bottom the next one is as deep as it was
	side := chain(2, 3)
	wide := index(x[2], side[2])
	check(t, join(x, side, []api.Object{wide}), wide.Digest)
	if _, e := closure.Of(join(x, side, []api.Object{wide}), wide.Digest); e != api.OK {
		t.Errorf("two kids that go to the bottom: %d", e)
	}
}

// TestErrors: what is wrong with a manifest, by itself and as a kid, among kids, and which comes first.
func TestErrors(t *testing.T) { // P6.1, P6.2, R2
	good := image(1, 2)
	gone, noSyntax, noSchema, long := image(8), object("{"), object("{}"), object(strings.Repeat("1", 4097))
	spoilt := image(9)
	there := []api.Object{good, noSyntax, noSchema, long, {Digest: spoilt.Digest, Data: good.Data}}
	deep := chain(3, 4)
	there = join(there, deep)
	wrongs := []struct {
		o api.Object
		e api.Errno
	}{
		{gone, api.ErrNone},
		{spoilt, api.ErrDigest},
		{noSyntax, api.ErrSyntax},
		{noSchema, api.ErrSchema},
		{long, api.ErrLong},
	}
	for _, c := range wrongs {
		if w, e := closure.Of(there, c.o.Digest); !same(w, api.Walk{}) || e != c.e {
			t.Errorf("Of(%.100q) = %q, %d, want %d", c.o.Data, w, e, c.e)
		}
	}
	wrongs = append(wrongs, struct {
		o api.Object
		e api.Errno
	}{last(deep), api.ErrDeep}) // a kid of that stands too deep
	for _, c := range wrongs {
		tops := []api.Object{index(c.o), index(c.o, good), index(good, c.o)}
		for _, other := range wrongs {
			if other != c {
				tops = append(tops, index(c.o, other.o), index(good, c.o, other.o))
			}
		}
		for _, top := range tops {
			l := append(slices.Clone(there), top)
			if w, e := closure.Of(l, top.Digest); !same(w, api.Walk{}) || e != c.e {
				t.Errorf("Of(%q) = %q, %d, want %d", top.Data, w, e, c.e)
			}
			if e := closure.Whole(l, top.Digest); e != c.e {
				t.Errorf("Whole(%q) = %d, want %d", top.Data, e, c.e)
			}
			check(t, l, top.Digest)
		}
	}
	// data that does not fit is told ahead of what it says
	l := []api.Object{{Digest: good.Digest, Data: noSchema.Data}}
	if _, e := closure.Of(l, good.Digest); e != api.ErrDigest {
		t.Errorf("spoilt, and no manifest: %d", e)
	}
}

func TestWhole(t *testing.T) { // P6.2
	one, two := image(1, 2), image(3, 2, 4)
	top := index(one, two)
	manifests := []api.Object{top, one, two}
	data := []api.Object{object(blob(1)), object(blob(2)), object(blob(3)), object(blob(4))}
	spoil := func(i int) []api.Object {
		l := slices.Clone(data)
		l[i].Data += " "
		return l
	}
	without := func(i int) []api.Object { return slices.Delete(slices.Clone(data), i, i+1) }
	for _, c := range []struct {
		what string
		l    []api.Object
		e    api.Errno
	}{
		{"all", join(manifests, data), api.OK},
		{"blobs ahead", join(data, manifests), api.OK},
		{"no blobs", manifests, api.ErrNone},
		{"the first blob gone", join(manifests, without(0)), api.ErrNone},
		{"a blob of both gone", join(manifests, without(1)), api.ErrNone},
		{"the last blob gone", join(manifests, without(3)), api.ErrNone},
		{"the first blob spoilt", join(manifests, spoil(0)), api.ErrDigest},
		{"the last blob spoilt", join(manifests, spoil(3)), api.ErrDigest},
		{"one spoilt, a later one gone", join(manifests, spoil(1)[:2]), api.ErrDigest},
		{"one gone, a later one spoilt", join(manifests, spoil(3)[1:]), api.ErrNone},
		{"a right one behind a spoilt one", join(manifests, spoil(2), data), api.ErrDigest},
		{"a spoilt one behind a right one", join(manifests, data, spoil(2)), api.OK},
		{"a manifest gone, and blobs", []api.Object{top, one}, api.ErrNone},
		{"a manifest spoilt, and no blobs", []api.Object{top, one, {Digest: two.Digest}}, api.ErrDigest},
		{"a manifest gone, blobs spoilt", join([]api.Object{top, one}, spoil(0)), api.ErrNone},
		{"a manifest spoilt, blobs gone", []api.Object{top, {Digest: one.Digest, Data: two.Data}, two}, api.ErrDigest},
		{"the top gone", join(manifests[1:], data), api.ErrNone},
		{"none", nil, api.ErrNone},
	} {
		if e := closure.Whole(c.l, top.Digest); e != c.e {
			t.Errorf("%s: Whole = %d, want %d", c.what, e, c.e)
		}
		check(t, c.l, top.Digest)
	}
	// a blob is data of any kind: a manifest, or none, of any length
	long := object(strings.Repeat("x", 5000))
	mixed := written(api.Manifest{Config: one.Digest, Layers: []api.Layer{{Digest: of(""), Size: 7}, {Digest: long.Digest}}})
	l := []api.Object{mixed, one, object(""), long}
	if e := closure.Whole(l, l[0].Digest); e != api.OK {
		t.Errorf("Whole(%q) = %d", l, e)
	}
	if w, _ := closure.Of(l, l[0].Digest); len(w.Manifests) != 1 || len(w.Blobs) != 3 {
		t.Errorf("a manifest as a blob: %q", w)
	}
}

// rows are all rows of some of these, each once, in any order.
func rows(l []api.Object) [][]api.Object {
	all := [][]api.Object{nil}
	for i := range l {
		for _, row := range rows(slices.Delete(slices.Clone(l), i, i+1)) {
			all = append(all, append([]api.Object{l[i]}, row...))
		}
	}
	return all
}

// TestEachGraph: an image and up to four indexes above it, each of any of those ahead of it in any order, with each object gone or spoilt.
func TestEachGraph(t *testing.T) { // P6.1, P6.2, P6.3
	tells := map[api.Errno]int{}
	var grow func(l []api.Object)
	grow = func(l []api.Object) {
		top := last(l).Digest
		for i := range l {
			ofErr, _ := check(t, slices.Delete(slices.Clone(l), i, i+1), top)
			tells[ofErr]++
			broken := slices.Clone(l)
			broken[i].Data += " "
			check(t, broken, top)
		}
		ofErr, _ := check(t, append(slices.Clone(l), object(blob(1))), top)
		tells[ofErr]++
		if len(l) == 5 {
			return
		}
		for _, row := range rows(l) {
			if len(row) == 0 {
				continue
			}
			if o := index(row...); !slices.Contains(l, o) {
				grow(append(slices.Clone(l), o))
			}
		}
	}
	grow([]api.Object{image(1)})
	if tells[api.OK] < 500 || tells[api.ErrDeep] < 5 || tells[api.ErrNone] < 500 {
		t.Errorf("too few of a kind: %d", tells)
	}
}

// chance is objects that fit together, with something wrong here and there.
func chance(r *rand.Rand) []api.Object {
	var l []api.Object
	for i := range 8 {
		l = append(l, object(blob(i)))
	}
	var manifests []api.Object
	for range 1 + r.Intn(4) {
		manifests = append(manifests, image(r.Intn(8), r.Perm(8)[:r.Intn(4)]...))
	}
	for range r.Intn(8) {
		row := []api.Object{}
		for range 1 + r.Intn(3) {
			if m := manifests[len(manifests)-1-r.Intn(min(4, len(manifests)))]; !slices.Contains(row, m) {
				row = append(row, m)
			}
		}
		if r.Intn(12) == 0 {
			row = append(row, object([]string{"", "1", "[", strings.Repeat("[", 4097)}[r.Intn(4)]))
			l = append(l, last(row))
		}
		manifests = append(manifests, index(row...))
	}
	l = append(l, manifests...)
	r.Shuffle(len(l), func(i, k int) { l[i], l[k] = l[k], l[i] })
	for r.Intn(3) == 0 {
		i, k := r.Intn(len(l)), r.Intn(len(l))
		switch r.Intn(4) {
		case 0:
			l = slices.Delete(l, i, i+1)
		case 1:
			l[i].Data += "\n"
		case 2:
			l[i].Data = l[k].Data
		case 3:
			l = slices.Insert(l, k, api.Object{Digest: l[i].Digest, Data: "spoilt"})
		}
	}
	return l
}

// TestChance: objects by chance, of each digest there is; what is whole stays whole when objects come behind the others, and does not hang on their order.
func TestChance(t *testing.T) { // P6.1, P6.2, P6.3, P1
	r := rand.New(rand.NewSource(6))
	ofs, wholes := map[api.Errno]int{}, map[api.Errno]int{}
	for range 1000 {
		l := chance(r)
		behind := join(l, chance(r))
		for _, o := range l {
			behind = append(behind, api.Object{Digest: o.Digest, Data: "spoilt"})
		}
		for _, o := range l {
			ofErr, wholeErr := check(t, l, o.Digest)
			ofs[ofErr]++
			wholes[wholeErr]++
			if wholeErr != api.OK {
				continue
			}
			before, _ := closure.Of(l, o.Digest)
			w, _ := closure.Of(behind, o.Digest)
			if e := closure.Whole(behind, o.Digest); e != api.OK || !same(w, before) {
				t.Errorf("%q of %q is not whole among %q: %d, %q", o.Digest, l, behind, e, w)
			}
		}
		check(t, l, b(9))
		check(t, l, "")
	}
	for _, e := range []api.Errno{api.OK, api.ErrNone, api.ErrDigest, api.ErrDeep, api.ErrSyntax, api.ErrSchema, api.ErrLong} {
		if ofs[e] < 10 || wholes[e] < 10 {
			t.Errorf("%d: too few of them: %d of Of, %d of Whole", e, ofs[e], wholes[e])
		}
	}
}

// TestMost: the greatest closure there is: eight kids each, four deep, nine blobs an image.
func TestMost(t *testing.T) { // P6.1, P6.2, P6.3, P1
	var l, row []api.Object
	n := 0
	for range 8 * 8 * 8 {
		at := n
		n += 9
		row = append(row, image(at, at+1, at+2, at+3, at+4, at+5, at+6, at+7, at+8))
	}
	for i := range n {
		l = append(l, object(blob(i)))
	}
	for len(row) > 1 {
		l = append(l, row...)
		var above []api.Object
		for kids := range slices.Chunk(row, 8) {
			above = append(above, index(kids...))
		}
		row = above
	}
	top := row[0]
	l = append(l, top)
	w, e := closure.Of(l, top.Digest)
	if e != api.OK || len(w.Manifests) != 512+64+8+1 || len(w.Blobs) != n || last(l).Digest != w.Manifests[584] {
		t.Fatalf("%d manifests, %d blobs, %d", len(w.Manifests), len(w.Blobs), e)
	}
	for i, d := range w.Blobs {
		if d != b(i) {
			t.Fatalf("blob %d is not in its place", i)
		}
	}
	if e := closure.Whole(l, top.Digest); e != api.OK {
		t.Errorf("Whole = %d", e)
	}
	if e := closure.Whole(slices.Delete(slices.Clone(l), n-1, n), top.Digest); e != api.ErrNone {
		t.Errorf("Whole without the last blob = %d", e)
	}
}

// TestShared: kids that all have are walked once, on the first way down.
func TestShared(t *testing.T) { // P6.1, P6.3, P1
	row := []api.Object{}
	for i := range 8 {
		row = append(row, image(i))
	}
	l := slices.Clone(row)
	for range 3 {
		var above []api.Object
		for i := range row {
			above = append(above, index(slices.Concat(row[i:], row[:i])...))
		}
		l = append(l, above...)
		row = above
	}
	top := row[0]
	w, e := closure.Of(l, top.Digest)
	if e != api.OK || len(w.Manifests) != 8+8+8+1 || !slices.Equal(w.Blobs, blobs(0, 1, 2, 3, 4, 5, 6, 7)) {
		t.Errorf("Of = %d manifests, %q, %d", len(w.Manifests), w.Blobs, e)
	}
	check(t, l, top.Digest)
}

// TestKeepsNothing: no answer hangs on an earlier call, and none shares a list with another one.
func TestKeepsNothing(t *testing.T) { // R1, R4
	one, two := image(1, 2), image(3, 2)
	top := index(one, two)
	l := []api.Object{one, two, top}
	before := slices.Clone(l)
	first, _ := closure.Of(l, top.Digest)
	again, _ := closure.Of(l, top.Digest)
	for i := range first.Manifests {
		first.Manifests[i] = "spoilt"
	}
	first.Blobs = append(first.Blobs[:0], "spoilt", "spoilt", "spoilt")
	if !slices.Equal(l, before) {
		t.Errorf("%q is %q, once an answer was changed", before, l)
	}
	third, e := closure.Of(l, top.Digest)
	if !same(again, third) || e != api.OK || slices.Contains(third.Manifests, "spoilt") || slices.Contains(third.Blobs, "spoilt") {
		t.Errorf("Of = %q, then %q, %d", again, third, e)
	}
	if _, e := closure.Of(nil, top.Digest); e != api.ErrNone {
		t.Errorf("Of among none, behind another call = %d", e)
	}
}

// FuzzClosure: objects by chance with any others beside them, and any digest, as the chapter says.
func FuzzClosure(f *testing.F) { // P1, P6.1, P6.2, P6.3
	f.Add(int64(1), "{}", "", 0, 0)
	f.Add(int64(2), image(1).Data, image(1).Digest, 3, 1)
	f.Add(int64(3), index(image(1)).Data, digest.Of("x"), -1, 20)
	f.Fuzz(func(t *testing.T, seed int64, s, d string, at, pick int) {
		l := chance(rand.New(rand.NewSource(seed)))
		if at >= 0 {
			l = slices.Insert(l, at%(len(l)+1), object(s), api.Object{Digest: d, Data: s})
		}
		if len(l) > 0 && pick >= 0 {
			// an index of one that is there, and of any other
			if m := (api.Manifest{Index: true, Kids: []string{l[pick%len(l)].Digest, of(s)}}); manifest.Right(m) {
				l = append(l, written(m))
				check(t, l, last(l).Digest)
			}
		}
		check(t, l, d)
		check(t, l, of(s))
		for _, o := range l {
			check(t, l, o.Digest)
		}
	})
}
