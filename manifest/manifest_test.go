package manifest_test

import (
	"encoding/json"
	"math"
	"math/rand"
	"reflect"
	"regexp"
	"slices"
	"strconv"
	"strings"
	"testing"

	"consignor/api"
	"consignor/digest"
	"consignor/manifest"
	"consignor/text"
)

// d is one of many digests, by its number.
func d(i int) string { return digest.Of(strconv.Itoa(i)) }

// image is an image's manifest, whose layers are of digests by these numbers, each of the size of its place.
func image(config int, layers ...int) api.Manifest {
	m := api.Manifest{Config: d(config)}
	for i, l := range layers {
		m.Layers = append(m.Layers, api.Layer{Digest: d(l), Size: i})
	}
	return m
}

// index is one of kids by these numbers.
func index(kids ...int) api.Manifest {
	m := api.Manifest{Index: true}
	for _, k := range kids {
		m.Kids = append(m.Kids, d(k))
	}
	return m
}

// upTo is the numbers 1 to n.
func upTo(n int) []int {
	l := make([]int, n)
	for i := range l {
		l[i] = i + 1
	}
	return l
}

func imageText(config string, layers ...string) string {
	return `{"config":"` + config + `","kind":"image","layers":[` + strings.Join(layers, ",") + `]}`
}

func layerText(digest, size string) string {
	return `{"digest":"` + digest + `","size":` + size + `}`
}

func indexText(kids ...string) string {
	return `{"kids":["` + strings.Join(kids, `","`) + `"],"kind":"index"}`
}

// clone is a copy, with lists that are not nil.
func clone(m api.Manifest) api.Manifest {
	m.Layers = append([]api.Layer{}, m.Layers...)
	m.Kids = append([]string{}, m.Kids...)
	return m
}

// same tells whether two manifests are, with a nil list as an empty one.
func same(m, n api.Manifest) bool { return reflect.DeepEqual(clone(m), clone(n)) }

var digests = regexp.MustCompile(`\Asha256:[0-9a-f]{64}\z`)

// mayBe is what the chapter says of a manifest, word by word.
func mayBe(m api.Manifest) bool {
	if m.Index {
		once := map[string]int{}
		for _, k := range m.Kids {
			once[k]++
			if !digests.MatchString(k) || once[k] > 1 {
				return false
			}
		}
		return 1 <= len(m.Kids) && len(m.Kids) <= 8 && m.Config == "" && len(m.Layers) == 0
	}
	for _, l := range m.Layers {
		if !digests.MatchString(l.Digest) || l.Size < 0 || l.Size > 4096 {
			return false
		}
	}
	return digests.MatchString(m.Config) && len(m.Layers) <= 8 && len(m.Kids) == 0
}

type (
	jsonLayer struct {
		Digest string `json:"digest"`
		Size   int    `json:"size"`
	}
	jsonImage struct {
		Config string      `json:"config"`
		Kind   string      `json:"kind"`
		Layers []jsonLayer `json:"layers"`
	}
	jsonIndex struct {
		Kids []string `json:"kids"`
		Kind string   `json:"kind"`
	}
)

// printed is a manifest's text as the library writes it, if it may be.
func printed(m api.Manifest) (string, api.Errno) {
	if !mayBe(m) {
		return "", api.ErrArg
	}
	var s []byte
	if m.Index {
		s, _ = json.Marshal(jsonIndex{m.Kids, "index"})
		return string(s), api.OK
	}
	layers := []jsonLayer{}
	for _, l := range m.Layers {
		layers = append(layers, jsonLayer(l))
	}
	s, _ = json.Marshal(jsonImage{m.Config, "image", layers})
	return string(s), api.OK
}

// parsed is the manifest of a text as the library reads it: the one that is written so.
func parsed(s string) (api.Manifest, api.Errno) {
	if _, e := text.Parse(s); e != api.OK {
		return api.Manifest{}, e
	}
	var asIndex jsonIndex
	if json.Unmarshal([]byte(s), &asIndex) == nil {
		m := api.Manifest{Index: true, Kids: asIndex.Kids}
		if again, e := printed(m); e == api.OK && again == s {
			return m, api.OK
		}
	}
	var asImage jsonImage
	if json.Unmarshal([]byte(s), &asImage) == nil {
		m := api.Manifest{Config: asImage.Config}
		for _, l := range asImage.Layers {
			m.Layers = append(m.Layers, api.Layer(l))
		}
		if again, e := printed(m); e == api.OK && again == s {
			return m, api.OK
		}
	}
	return api.Manifest{}, api.ErrSchema
}

// checkManifest holds Right, Print and Blobs of a manifest against what is said of it, and the way back.
func checkManifest(t *testing.T, m api.Manifest) {
	t.Helper()
	want, wantErr := printed(m)
	if got := manifest.Right(m); got != (wantErr == api.OK) {
		t.Errorf("Right(%+v) = %t", m, got)
	}
	s, e := manifest.Print(m)
	if s != want || e != wantErr {
		t.Errorf("Print(%+v) = %q, %d, want %q, %d", m, s, e, want, wantErr)
	}
	if back, e := manifest.Parse(s); wantErr == api.OK && (!same(back, m) || e != api.OK) {
		t.Errorf("Parse(%q) = %+v, %d, want %+v", s, back, e, m)
	}
	var blobs []string
	if wantErr == api.OK && !m.Index {
		blobs = append(blobs, m.Config)
		for _, l := range m.Layers {
			blobs = append(blobs, l.Digest)
		}
		blobs = firsts(blobs)
	}
	if got := manifest.Blobs(m); !slices.Equal(got, blobs) {
		t.Errorf("Blobs(%+v) = %q, want %q", m, got, blobs)
	}
}

// firsts is a list without what came before.
func firsts(l []string) []string {
	var once []string
	came := map[string]int{}
	for _, s := range l {
		if came[s]++; came[s] == 1 {
			once = append(once, s)
		}
	}
	return once
}

// checkText holds Parse of a text against the library's reader, and the way back.
func checkText(t *testing.T, s string) {
	t.Helper()
	want, wantErr := parsed(s)
	got, e := manifest.Parse(s)
	if !same(got, want) || e != wantErr {
		t.Errorf("Parse(%.600q) = %+v, %d, want %+v, %d", s, got, e, want, wantErr)
		return
	}
	if again, e := manifest.Print(got); wantErr == api.OK && (again != s || e != api.OK || !manifest.Right(got)) {
		t.Errorf("Print of Parse(%q) = %q, %d", s, again, e)
	}
}

// rights are manifests that may be, with their texts, and the numbers of their blobs.
var rights = []struct {
	m     api.Manifest
	text  string
	blobs []int
}{
	{image(1), imageText(d(1)), []int{1}},
	{api.Manifest{Config: d(1), Layers: []api.Layer{}, Kids: []string{}}, imageText(d(1)), []int{1}},
	{image(1, 2), imageText(d(1), layerText(d(2), "0")), []int{1, 2}},
	{image(1, 2, 3), imageText(d(1), layerText(d(2), "0"), layerText(d(3), "1")), []int{1, 2, 3}},
	{image(1, 3, 2), imageText(d(1), layerText(d(3), "0"), layerText(d(2), "1")), []int{1, 3, 2}},
	{image(1, 2, 2), imageText(d(1), layerText(d(2), "0"), layerText(d(2), "1")), []int{1, 2}},
	{image(1, 1), imageText(d(1), layerText(d(1), "0")), []int{1}},
	{image(1, 2, 1, 3, 2), imageText(d(1), layerText(d(2), "0"), layerText(d(1), "1"), layerText(d(3), "2"), layerText(d(2), "3")), []int{1, 2, 3}},
	{image(9, upTo(8)...), imageText(d(9), layerText(d(1), "0"), layerText(d(2), "1"), layerText(d(3), "2"), layerText(d(4), "3"), layerText(d(5), "4"), layerText(d(6), "5"), layerText(d(7), "6"), layerText(d(8), "7")), []int{9, 1, 2, 3, 4, 5, 6, 7, 8}},
	{api.Manifest{Config: d(1), Layers: []api.Layer{{Digest: d(2), Size: 4096}}}, imageText(d(1), layerText(d(2), "4096")), []int{1, 2}},
	{index(1), indexText(d(1)), nil},
	{api.Manifest{Index: true, Layers: []api.Layer{}, Kids: []string{d(1)}}, indexText(d(1)), nil},
	{index(1, 2), indexText(d(1), d(2)), nil},
	{index(2, 1), indexText(d(2), d(1)), nil},
	{index(upTo(8)...), indexText(d(1), d(2), d(3), d(4), d(5), d(6), d(7), d(8)), nil},
}

// TestRightOnes: what may be is told, written, read, and has its blobs.
func TestRightOnes(t *testing.T) { // P5.1, P5.2, P5.3, R3
	for _, c := range rights {
		if !manifest.Right(c.m) {
			t.Errorf("Right(%+v) is false", c.m)
		}
		if s, e := manifest.Print(c.m); s != c.text || e != api.OK {
			t.Errorf("Print(%+v) = %q, %d, want %q", c.m, s, e, c.text)
		}
		if m, e := manifest.Parse(c.text); !same(m, c.m) || e != api.OK {
			t.Errorf("Parse(%q) = %+v, %d, want %+v", c.text, m, e, c.m)
		}
		var blobs []string
		for _, b := range c.blobs {
			blobs = append(blobs, d(b))
		}
		if got := manifest.Blobs(c.m); !slices.Equal(got, blobs) {
			t.Errorf("Blobs(%+v) = %q, want %q", c.m, got, blobs)
		}
		checkManifest(t, c.m)
		checkText(t, c.text)
	}
}

// TestWrongOnes: what may not be has neither text nor blobs.
func TestWrongOnes(t *testing.T) { // P5.1, P5.2, R2
	for name, m := range map[string]api.Manifest{
		"nothing":                      {},
		"an image without a config":    {Layers: []api.Layer{{Digest: d(1)}}},
		"an image with a kid":          {Config: d(1), Kids: []string{d(2)}},
		"an image with an empty kid":   {Config: d(1), Kids: []string{""}},
		"kids alone":                   {Kids: []string{d(1)}},
		"an image of 9 layers":         image(1, upTo(9)...),
		"an image of 9 layers alike":   image(1, 2, 2, 2, 2, 2, 2, 2, 2, 2),
		"a layer without a digest":     {Config: d(1), Layers: []api.Layer{{Size: 1}}},
		"a last layer without one":     {Config: d(1), Layers: []api.Layer{{Digest: d(1)}, {}}},
		"a layer of a size below 0":    {Config: d(1), Layers: []api.Layer{{Digest: d(1), Size: -1}}},
		"a layer of a size above":      {Config: d(1), Layers: []api.Layer{{Digest: d(1), Size: 4097}}},
		"an empty index":               {Index: true},
		"an index of an empty list":    {Index: true, Kids: []string{}},
		"an index of 9":                index(upTo(9)...),
		"an index with a config":       {Index: true, Config: d(1), Kids: []string{d(2)}},
		"an index with any config":     {Index: true, Config: "x", Kids: []string{d(2)}},
		"an index with a layer":        {Index: true, Layers: []api.Layer{{Digest: d(1)}}, Kids: []string{d(2)}},
		"an index with an empty layer": {Index: true, Layers: []api.Layer{{}}, Kids: []string{d(2)}},
		"an image called an index":     {Index: true, Config: d(1), Layers: []api.Layer{{Digest: d(1)}}},
		"a kid twice":                  index(1, 1),
		"a kid twice, others between":  index(1, 2, 3, 1),
		"the last kid twice":           index(1, 2, 3, 3),
		"a kid that is no digest":      {Index: true, Kids: []string{d(1), "x"}},
		"an empty kid":                 {Index: true, Kids: []string{""}},
	} {
		if manifest.Right(m) {
			t.Errorf("%s: right", name)
		}
		if s, e := manifest.Print(m); s != "" || e != api.ErrArg {
			t.Errorf("%s: Print = %q, %d", name, s, e)
		}
		if l := manifest.Blobs(m); len(l) != 0 {
			t.Errorf("%s: Blobs = %q", name, l)
		}
		checkManifest(t, m)
	}
}

// TestEachDigest: whatever is no digest may not be a config, nor a layer's, nor a kid, whichever of them it is; nor may its text.
func TestEachDigest(t *testing.T) { // P5.1, P5.2
	right := d(100)
	texts := []string{right, digest.Of(""), "sha256:" + strings.Repeat("0", 64), "sha256:" + strings.Repeat("f", 64)}
	wrong := []string{"", "x", "sha256:", right[7:], right[:70], right + "0", right + " ", " " + right, strings.ToUpper(right), "sha256:" + strings.ToUpper(right[7:]), "sha512" + right[6:], right + right, right[:70] + "g", right[:70] + "\x00", right[:70] + "\"", right[:69] + "é", "\xff", strings.Repeat("a", 1<<20)}
	for i, s := range append(texts, wrong...) {
		for n := 1; n <= 8; n++ {
			for place := range n {
				layers := image(20, upTo(n)...)
				layers.Layers[place].Digest = s
				kids := index(upTo(n)...)
				kids.Kids[place] = s
				config := image(20, upTo(n)...)
				config.Config = s
				for _, m := range []api.Manifest{layers, kids, config} {
					checkManifest(t, m)
					if got := manifest.Right(m); got != (i < len(texts)) {
						t.Errorf("Right with the digest %.80q: %t", s, got)
					}
				}
			}
		}
		checkText(t, imageText(s))
		checkText(t, imageText(d(1), layerText(d(1), "1"), layerText(s, "1")))
		checkText(t, indexText(d(1), s))
	}
}

// TestEachCount: how many layers and kids there may be.
func TestEachCount(t *testing.T) { // P5.1, P5.2
	for n := range 40 {
		layers, kids := image(50, upTo(n)...), index(upTo(n)...)
		checkManifest(t, layers)
		checkManifest(t, kids)
		if got := manifest.Right(layers); got != (n <= 8) {
			t.Errorf("Right of %d layers: %t", n, got)
		}
		if got := manifest.Right(kids); got != (n >= 1 && n <= 8) {
			t.Errorf("Right of %d kids: %t", n, got)
		}
		var layerTexts, kidTexts []string
		for i := range n {
			layerTexts = append(layerTexts, layerText(d(i), "5"))
			kidTexts = append(kidTexts, d(i))
		}
		_, ofLayers := manifest.Parse(imageText(d(1), layerTexts...))
		_, ofKids := manifest.Parse(indexText(kidTexts...))
		want := api.OK
		switch {
		case n > 16:
			// more than a row may have
			want = api.ErrSyntax
		case n > 8:
			want = api.ErrSchema
		}
		if ofLayers != want && n > 0 {
			t.Errorf("Parse of %d layers: %d, want %d", n, ofLayers, want)
		}
		if ofKids != want && n > 0 {
			t.Errorf("Parse of %d kids: %d, want %d", n, ofKids, want)
		}
		checkText(t, imageText(d(1), layerTexts...))
		checkText(t, indexText(kidTexts...))
	}
	huge := make([]int, 1<<16)
	checkManifest(t, image(1, huge...))
	checkManifest(t, index(huge...))
}

// TestEachSize: which sizes a layer may have, whichever of the layers it is.
func TestEachSize(t *testing.T) { // P5.1
	for _, size := range []int{math.MinInt, -4096, -1, 0, 1, 9, 10, 4095, 4096, 4097, 1 << 20, 1 << 40, 1<<40 + 1, math.MaxInt} {
		for n := 1; n <= 8; n++ {
			m := image(20, upTo(n)...)
			m.Layers[n-1].Size = size
			checkManifest(t, m)
			if got := manifest.Right(m); got != (0 <= size && size <= 4096) {
				t.Errorf("Right of size %d: %t", size, got)
			}
		}
		checkText(t, imageText(d(1), layerText(d(2), strconv.Itoa(size))))
	}
	for size, want := range map[string]api.Errno{
		"4096":                 api.OK,
		"4097":                 api.ErrSchema,
		"1099511627776":        api.ErrSchema,
		"1099511627777":        api.ErrSyntax,
		"18446744073709551616": api.ErrSyntax,
		"-1":                   api.ErrSyntax,
		"01":                   api.ErrSyntax,
		"1.0":                  api.ErrSyntax,
		`"1"`:                  api.ErrSchema,
		`[1]`:                  api.ErrSchema,
	} {
		if m, e := manifest.Parse(imageText(d(1), layerText(d(2), size))); e != want || want != api.OK && !same(m, api.Manifest{}) {
			t.Errorf("Parse with size %s: %+v, %d, want %d", size, m, e, want)
		}
	}
}

// TestEachField: of configs, layers and kids that are not there, may be, and may not be, each with each, in images and indexes.
func TestEachField(t *testing.T) { // P5.1, P5.2, P5.3
	for _, isIndex := range []bool{false, true} {
		for _, config := range []string{"", d(1), d(2), "x", d(1)[7:]} {
			for _, layers := range [][]api.Layer{nil, {}, {{Digest: d(1), Size: 3}}, {{Digest: d(2)}, {Digest: d(2)}}, {{}}, {{Digest: d(1), Size: -1}}, image(0, upTo(8)...).Layers, image(0, upTo(9)...).Layers} {
				for _, kids := range [][]string{nil, {}, {d(1)}, {d(2), d(1)}, {d(1), d(1)}, {""}, {"x"}, index(upTo(8)...).Kids, index(upTo(9)...).Kids} {
					checkManifest(t, api.Manifest{Index: isIndex, Config: config, Layers: layers, Kids: kids})
				}
			}
		}
	}
}

// TestParseWrong: text.Parse's errors come first, then whatever is no manifest.
func TestParseWrong(t *testing.T) { // P5.1, R2
	right := imageText(d(1), layerText(d(2), "1"))
	layer := layerText(d(2), "1")
	for _, c := range []struct {
		s string
		e api.Errno
	}{
		{"", api.ErrSyntax},
		{"{", api.ErrSyntax},
		{" " + right, api.ErrSyntax},
		{right + "\n", api.ErrSyntax},
		{right + right, api.ErrSyntax},
		{right[1:], api.ErrSyntax},
		{right[:len(right)-1], api.ErrSyntax},
		{strings.Replace(right, ":", ": ", 1), api.ErrSyntax},
		{strings.Replace(right, `"kind"`, `"Kind"`, 1), api.ErrSyntax}, // great letters are ahead of small ones
		{`{"kind":"image","config":"` + d(1) + `","layers":[]}`, api.ErrSyntax},
		{`{"config":"` + d(1) + `","layers":[],"kind":"image"}`, api.ErrSyntax},
		{`{"kind":"index","kids":["` + d(1) + `"]}`, api.ErrSyntax},
		{`{"config":"` + d(1) + `","config":"` + d(1) + `","kind":"image","layers":[]}`, api.ErrSyntax},
		{imageText(d(1), `{"size":1,"digest":"`+d(2)+`"}`), api.ErrSyntax},
		{`[[[[[[[]]]]]]]`, api.ErrSyntax},
		{imageText(d(1), strings.TrimSuffix(strings.Repeat(layer+",", 40), ",")), api.ErrSyntax},
		{imageText(d(1), strings.TrimSuffix(strings.Repeat(layer+",", 50), ",")), api.ErrLong},
		{strings.Repeat("{", 4097), api.ErrLong},
		{right + strings.Repeat(" ", 4096), api.ErrLong},
		{`"` + strings.Repeat("x", 200) + `"`, api.ErrSchema},
		{`0`, api.ErrSchema},
		{`""`, api.ErrSchema},
		{`"image"`, api.ErrSchema},
		{`"` + d(1) + `"`, api.ErrSchema},
		{`[]`, api.ErrSchema},
		{`{}`, api.ErrSchema},
		{`[` + right + `]`, api.ErrSchema},
		{`{"":` + right + `}`, api.ErrSchema},
		{`["` + d(1) + `"]`, api.ErrSchema},
		{`{"kind":"image"}`, api.ErrSchema},
		{`{"kind":"index"}`, api.ErrSchema},
		{`{"config":"` + d(1) + `","kind":"image"}`, api.ErrSchema},
		{`{"config":"` + d(1) + `","layers":[]}`, api.ErrSchema},
		{`{"kind":"image","layers":[]}`, api.ErrSchema},
		{`{"kids":["` + d(1) + `"]}`, api.ErrSchema},
		{`{"kids":[],"kind":"index"}`, api.ErrSchema},
		{`{"kids":{},"kind":"index"}`, api.ErrSchema},
		{`{"kids":{"a":"` + d(1) + `"},"kind":"index"}`, api.ErrSchema},
		{`{"kids":"` + d(1) + `","kind":"index"}`, api.ErrSchema},
		{`{"kids":[["` + d(1) + `"]],"kind":"index"}`, api.ErrSchema},
		{`{"kids":["` + d(1) + `",0],"kind":"index"}`, api.ErrSchema},
		{`{"kids":["` + d(1) + `"],"kind":"image"}`, api.ErrSchema},
		{`{"kids":["` + d(1) + `"],"kind":"Index"}`, api.ErrSchema},
		{`{"kids":["` + d(1) + `"],"kind":"index "}`, api.ErrSchema},
		{`{"kids":["` + d(1) + `"],"kind":["index"]}`, api.ErrSchema},
		{`{"kids":["` + d(1) + `"],"kind":0}`, api.ErrSchema},
		{`{"kids":["` + d(1) + `"],"kind":""}`, api.ErrSchema},
		{`{"kids":["` + d(1) + `"],"kind":"index","layers":[]}`, api.ErrSchema},
		{`{"config":"","kids":["` + d(1) + `"],"kind":"index"}`, api.ErrSchema},
		{`{"config":"` + d(1) + `","kids":["` + d(1) + `"],"kind":"index"}`, api.ErrSchema},
		{`{"config":"` + d(1) + `","kids":[],"kind":"image","layers":[]}`, api.ErrSchema},
		{`{"":0,"kids":["` + d(1) + `"],"kind":"index"}`, api.ErrSchema},
		{`{"kids":["` + d(1) + `"],"kind":"index","z":0}`, api.ErrSchema},
		{`{"config":"` + d(1) + `","kind":"image","layers":[],"z":0}`, api.ErrSchema},
		{`{"config":"` + d(1) + `","kind":"index","layers":[]}`, api.ErrSchema},
		{`{"config":"` + d(1) + `","kind":"","layers":[]}`, api.ErrSchema},
		{`{"config":"` + d(1) + `","kind":"IMAGE","layers":[]}`, api.ErrSchema},
		{`{"config":["` + d(1) + `"],"kind":"image","layers":[]}`, api.ErrSchema},
		{`{"config":1,"kind":"image","layers":[]}`, api.ErrSchema},
		{`{"config":"","kind":"image","layers":[]}`, api.ErrSchema},
		{`{"config":"` + d(1) + `","kind":"image","layers":{}}`, api.ErrSchema},
		{`{"config":"` + d(1) + `","kind":"image","layers":0}`, api.ErrSchema},
		{`{"config":"` + d(1) + `","kind":"image","layers":""}`, api.ErrSchema},
		{`{"config":"` + d(1) + `","kind":"image","layers":` + layer + `}`, api.ErrSchema},
		{imageText(d(1), layer, `0`), api.ErrSchema},
		{imageText(d(1), layer, `[]`), api.ErrSchema},
		{imageText(d(1), layer, `{}`), api.ErrSchema},
		{imageText(d(1), `"`+d(2)+`"`), api.ErrSchema},
		{imageText(d(1), `["`+d(2)+`",1]`), api.ErrSchema},
		{imageText(d(1), `[`+layer+`]`), api.ErrSchema},
		{imageText(d(1), `{"digest":"`+d(2)+`"}`), api.ErrSchema},
		{imageText(d(1), `{"size":1}`), api.ErrSchema},
		{imageText(d(1), `{"digest":"`+d(2)+`","size":1,"z":1}`), api.ErrSchema},
		{imageText(d(1), `{"digest":1,"size":1}`), api.ErrSchema},
		{imageText(d(1), `{"digest":"`+d(2)+`","size":{}}`), api.ErrSchema},
		{imageText(d(1), `{"digest":"","size":0}`), api.ErrSchema},
		{indexText(d(1), d(1)), api.ErrSchema},
		{indexText(d(1), d(2), d(3), d(1)), api.ErrSchema},
	} {
		if m, e := manifest.Parse(c.s); !same(m, api.Manifest{}) || e != c.e {
			t.Errorf("Parse(%.300q) = %+v, %d, want %d", c.s, m, e, c.e)
		}
		checkText(t, c.s)
	}
}

// TestParseNear: each text that is one byte from a manifest's: cut there, taken off, put in, or another one.
func TestParseNear(t *testing.T) { // P5.1, P5.3, R5
	const others = "09afgxi\"\\[]{},: \x00\xff"
	for _, s := range []string{imageText(d(1)), imageText(d(1), layerText(d(2), "1")), indexText(d(1)), indexText(d(1), d(2))} {
		for i := range len(s) {
			checkText(t, s[:i])
			checkText(t, s[i:])
			checkText(t, s[:i]+s[i+1:])
			for k := range len(others) {
				checkText(t, s[:i]+others[k:k+1]+s[i:])
				checkText(t, s[:i]+others[k:k+1]+s[i+1:])
			}
		}
	}
}

// nodes calls visit with each value in a value, and may change it there.
func nodes(v *api.Value, visit func(*api.Value)) {
	visit(v)
	for i := range v.Items {
		nodes(&v.Items[i], visit)
	}
}

// TestParseEachNode: of each value in a manifest's, another one in its place, one taken off, and one more.
func TestParseEachNode(t *testing.T) { // P5.1, P5.3
	extra := []string{`0`, `1`, `4096`, `4097`, `""`, `"image"`, `"index"`, `"` + d(1) + `"`, `"` + d(9) + `"`, `[]`, `["` + d(9) + `"]`, `[` + layerText(d(9), "9") + `]`, `{}`, layerText(d(9), "9")}
	for _, c := range rights {
		whole, _ := text.Parse(c.text)
		nodes(&whole, func(v *api.Value) {
			was := *v
			check := func() {
				// what has no text may not be a value at all
				if s, e := text.Print(whole); e == api.OK {
					checkText(t, s)
				}
				*v = was
			}
			for _, s := range extra {
				*v, _ = text.Parse(s)
				check()
				other, _ := text.Parse(s)
				v.Items = append(slices.Clone(was.Items), other)
				check()
				for _, name := range []string{"", "config", "digest", "j", "kids", "kind", "layers", "size", "z"} {
					at, _ := slices.BinarySearch(was.Names, name)
					v.Items = slices.Insert(slices.Clone(was.Items), min(at, len(was.Items)), other)
					v.Names = slices.Insert(slices.Clone(was.Names), at, name)
					check()
				}
			}
			for i := range was.Items {
				v.Items = slices.Delete(slices.Clone(was.Items), i, i+1)
				if len(was.Names) > 0 {
					v.Names = slices.Delete(slices.Clone(was.Names), i, i+1)
				}
				check()
			}
			for i := range was.Names {
				v.Names = slices.Clone(was.Names)
				v.Names[i] += "0"
				check()
			}
		})
	}
}

// chance is a manifest that may be, or nearly.
func chance(r *rand.Rand) api.Manifest {
	m := api.Manifest{}
	if r.Intn(2) == 0 {
		m = index(r.Perm(12)[:r.Intn(10)]...)
	} else {
		m.Config = d(r.Intn(6))
		for range r.Intn(10) {
			m.Layers = append(m.Layers, api.Layer{Digest: d(r.Intn(6)), Size: r.Intn(4097)})
		}
	}
	switch r.Intn(20) {
	case 0:
		m.Index = !m.Index
	case 1:
		m.Config = d(3)
	case 2:
		m.Kids = append(m.Kids, d(3))
	case 3:
		m.Layers = append(m.Layers, api.Layer{Digest: d(3), Size: r.Intn(3) * 4096})
	}
	return m
}

// TestThereAndBack: what is printed is parsed, and no two manifests have one text.
func TestThereAndBack(t *testing.T) { // P5.1, P5.2, P5.3, P7
	r := rand.New(rand.NewSource(5))
	texts := map[string]api.Manifest{}
	for range 5000 {
		m := chance(r)
		checkManifest(t, m)
		s, e := manifest.Print(m)
		if e != api.OK {
			continue
		}
		if n, is := texts[s]; is && !same(m, n) {
			t.Fatalf("%q is the text of %+v and of %+v", s, m, n)
		}
		texts[s] = m
		checkText(t, s)
	}
	if len(texts) < 1000 {
		t.Errorf("%d texts alone", len(texts))
	}
}

// TestKeepsNothing: no call changes what it is handed, nor does an answer hang on an earlier one.
func TestKeepsNothing(t *testing.T) { // R1, R4
	for _, c := range rights {
		before := clone(c.m)
		manifest.Right(c.m)
		manifest.Print(c.m)
		blobs := manifest.Blobs(c.m)
		for i := range blobs {
			blobs[i] = "spoilt"
		}
		if !same(c.m, before) {
			t.Errorf("%s: changed", c.text)
		}
		if again := manifest.Blobs(c.m); slices.Contains(again, "spoilt") {
			t.Errorf("Blobs of %s = %q, once another answer was changed", c.text, again)
		}
		m, _ := manifest.Parse(c.text)
		for i := range m.Layers {
			m.Layers[i] = api.Layer{}
		}
		for i := range m.Kids {
			m.Kids[i] = "spoilt"
		}
		if again, e := manifest.Parse(c.text); !same(again, before) || e != api.OK {
			t.Errorf("Parse(%s) = %+v, %d, once another answer was changed", c.text, again, e)
		}
	}
}

// FuzzManifest: any text, and any manifest of a few fields, as the chapter says.
func FuzzManifest(f *testing.F) { // P1, P5.1, P5.2, P5.3
	for _, c := range rights {
		f.Add(c.text, c.m.Index, c.m.Config, d(1), len(c.m.Layers), len(c.m.Kids))
	}
	f.Add(strings.Repeat("[", 4097), true, "", "", -1, -1)
	f.Fuzz(func(t *testing.T, s string, isIndex bool, config, other string, layers, kids int) {
		checkText(t, s)
		m := api.Manifest{Index: isIndex, Config: config}
		for i := range layers % 12 {
			m.Layers = append(m.Layers, api.Layer{Digest: d(i), Size: layers}, api.Layer{Digest: other, Size: i})
		}
		for i := range kids % 12 {
			m.Kids = append(m.Kids, d(i))
		}
		if kids > 12 {
			m.Kids = append(m.Kids, other)
		}
		checkManifest(t, m)
	})
}
