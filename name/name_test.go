package name_test

import (
	"regexp"
	"strings"
	"testing"

	"consignor/api"
	"consignor/digest"
	"consignor/name"
)

const (
	small = "abcdefghijklmnopqrstuvwxyz"
	great = "ABCDEFGHIJKLMNOPQRSTUVWXYZ"
	ten   = "0123456789"
)

// What the chapter says in words, as grammars; how long a text may be, they leave open.
var (
	repos = regexp.MustCompile(`\A[a-z0-9]+((\.|_|__|-+)[a-z0-9]+)*(/[a-z0-9]+((\.|_|__|-+)[a-z0-9]+)*)*\z`)
	tags  = regexp.MustCompile(`\A[A-Za-z0-9_][A-Za-z0-9_.-]*\z`)
)

func mayRepo(s string) bool { return len(s) <= 128 && repos.MatchString(s) }

func mayTag(s string) bool { return len(s) <= 128 && tags.MatchString(s) }

func mayDigest(s string) bool {
	_, e := digest.Parse(s)
	return e == api.OK
}

// each calls visit with each text of at most n of the letters.
func each(letters string, n int, visit func(string)) {
	text := make([]byte, 0, n)
	var longer func()
	longer = func() {
		visit(string(text))
		if len(text) == n {
			return
		}
		for i := range len(letters) {
			text = append(text, letters[i])
			longer()
			text = text[:len(text)-1]
		}
	}
	longer()
}

func TestRepo(t *testing.T) { // P3.1
	for _, c := range []struct {
		in   string
		want bool
	}{
		{"a", true},
		{"0", true},
		{"z9", true},
		{"9z", true},
		{"007", true},
		{"lib/go__x", true},
		{"a.b", true},
		{"a_b", true},
		{"a__b", true},
		{"a-b", true},
		{"a--b", true},
		{"a---b", true},
		{"a" + strings.Repeat("-", 126) + "b", true},
		{"a.b_c__d-e--f.0", true},
		{"a.b/c_d/e__f/g-h", true},
		{"a/b/c/d/e/f/g/h/i/j/k/l/m/n/o/p/q/r/s/t/u/v/w/x/y/z", true},
		{small + ten, true},
		{"", false},
		{"/", false},
		{"//", false},
		{"a/", false},
		{"/a", false},
		{"a//b", false},
		{"a/b/", false},
		{"a/.b", false},
		{"a./b", false},
		{"a/-b", false},
		{"a-/b", false},
		{"a/_b", false},
		{"a_/b", false},
		{"a__/b", false},
		{".", false},
		{"_", false},
		{"-", false},
		{".a", false},
		{"_a", false},
		{"__a", false},
		{"-a", false},
		{"--a", false},
		{"a.", false},
		{"a_", false},
		{"a__", false},
		{"a-", false},
		{"a--", false},
		{"a..b", false},
		{"a...b", false},
		{"a___b", false},
		{"a____b", false},
		{"a._b", false},
		{"a_.b", false},
		{"a.-b", false},
		{"a-.b", false},
		{"a_-b", false},
		{"a-_b", false},
		{"a__-b", false},
		{"a--_b", false},
		{"a__.b", false},
		{"a_-_b", false},
		{"a-_-b", false},
		{"A", false},
		{"aB", false},
		{"a/B", false},
		{"a b", false},
		{" a", false},
		{"a ", false},
		{"a\n", false},
		{"a\x00", false},
		{"a:b", false},
		{"a@b", false},
		{"a:1.0", false},
		{"a+b", false},
		{"a~b", false},
		{"a\\b", false},
		{"é", false},
		{"aé", false},
		{"\xff", false},
		{"٣", false},
	} {
		if got := name.Repo(c.in); got != c.want {
			t.Errorf("Repo(%q) = %t", c.in, got)
		}
	}
}

// TestRepoEachByte: which bytes may stand at the begin, in the middle and at the end of a part, and behind each mark.
func TestRepoEachByte(t *testing.T) { // P3.1, R5
	for _, c := range []struct{ ahead, behind, may string }{
		{"", "", small + ten},
		{"", "a", small + ten},
		{"a", "", small + ten},
		{"a", "b", small + ten + "._-/"},
		{"a/", "b", small + ten},
		{"a", "/b", small + ten},
		{"a.", "b", small + ten},
		{"a_", "b", small + ten + "_"},
		{"a__", "b", small + ten},
		{"a-", "b", small + ten + "-"},
		{"a--", "b", small + ten + "-"},
		{"a", ".b", small + ten},
		{"a", "_b", small + ten + "_"},
		{"a", "__b", small + ten},
		{"a", "-b", small + ten + "-"},
	} {
		for i := range 256 {
			b := string([]byte{byte(i)})
			s := c.ahead + b + c.behind
			if got, want := name.Repo(s), strings.Contains(c.may, b); got != want {
				t.Errorf("Repo(%q) = %t", s, got)
			}
		}
	}
}

// TestRepoEachShort: each text of at most 7 bytes of those that matter.
func TestRepoEachShort(t *testing.T) { // P3.1
	each("a0._-/A", 7, func(s string) {
		if got, want := name.Repo(s), mayRepo(s); got != want {
			t.Errorf("Repo(%q) = %t", s, got)
		}
	})
}

// TestRepoLength: the limit is of the whole name, not of a part.
func TestRepoLength(t *testing.T) { // P3.1
	for _, c := range []struct {
		in   string
		want bool
	}{
		{strings.Repeat("a", 127), true},
		{strings.Repeat("a", 128), true},
		{strings.Repeat("a", 129), false},
		{strings.Repeat("a/", 63) + "b", true},
		{strings.Repeat("a/", 63) + "bc", true},
		{strings.Repeat("a/", 64) + "b", false},
		{strings.Repeat("a", 64) + "/" + strings.Repeat("b", 63), true},
		{strings.Repeat("a", 64) + "/" + strings.Repeat("b", 64), false},
		{strings.Repeat("a", 127) + "-", false},
		{strings.Repeat("a", 127) + "/", false},
		{strings.Repeat("a", 128) + "/", false},
		{"a" + strings.Repeat("-", 127), false},
		{"a" + strings.Repeat("-", 127) + "b", false},
		{strings.Repeat("a", 4096), false},
		{strings.Repeat("/", 1<<20), false},
		{strings.Repeat("a", 1<<20), false},
	} {
		if got := name.Repo(c.in); got != c.want {
			t.Errorf("Repo of %d bytes, %.8q: %t", len(c.in), c.in, got)
		}
	}
}

func TestTag(t *testing.T) { // P3.1
	for _, c := range []struct {
		in   string
		want bool
	}{
		{"1.0", true},
		{"v1.0-X_y", true},
		{"latest", true},
		{"LATEST", true},
		{"a", true},
		{"Z", true},
		{"0", true},
		{"_", true},
		{"_.-", true},
		{"a.", true},
		{"a-", true},
		{"a..b", true},
		{"a--b", true},
		{"a___b", true},
		{"a.-_-.", true},
		{small + great + ten, true},
		{"", false},
		{".", false},
		{"-", false},
		{".a", false},
		{"-a", false},
		{"..", false},
		{"a/b", false},
		{"a:b", false},
		{"a@b", false},
		{"a b", false},
		{" a", false},
		{"a ", false},
		{"a+b", false},
		{"a\n", false},
		{"\na", false},
		{"a\x00", false},
		{"é", false},
		{"aé", false},
		{"\xff", false},
		{"a٣", false},
		{digest.Of("x"), false},
	} {
		if got := name.Tag(c.in); got != c.want {
			t.Errorf("Tag(%q) = %t", c.in, got)
		}
	}
}

// TestTagEachByte: which bytes may be the first, and which may stand behind it.
func TestTagEachByte(t *testing.T) { // P3.1, R5
	const first = small + great + ten + "_"
	for _, c := range []struct{ ahead, behind, may string }{
		{"", "", first},
		{"", "a", first},
		{"a", "", first + ".-"},
		{"a", "b", first + ".-"},
		{"_.-", "-._", first + ".-"},
	} {
		for i := range 256 {
			b := string([]byte{byte(i)})
			s := c.ahead + b + c.behind
			if got, want := name.Tag(s), strings.Contains(c.may, b); got != want {
				t.Errorf("Tag(%q) = %t", s, got)
			}
		}
	}
}

func TestTagLength(t *testing.T) { // P3.1
	for n := range 300 {
		for _, one := range []string{"a", "Z", "0", "_"} {
			s := strings.Repeat(one, n)
			if got, want := name.Tag(s), n >= 1 && n <= 128; got != want {
				t.Errorf("Tag of %d times %q: %t", n, one, got)
			}
		}
	}
	if name.Tag(strings.Repeat("a", 1<<20)) {
		t.Error("Tag of 2^20 bytes")
	}
}

func TestPrint(t *testing.T) { // P3.1, R2
	d := digest.Of("x")
	long := strings.Repeat("a", 128)
	for _, c := range []struct {
		in   api.Ref
		want string
		e    api.Errno
	}{
		{api.Ref{Repo: "lib/go__x", Tag: "1.0"}, "lib/go__x:1.0", api.OK},
		{api.Ref{Repo: "a", Tag: "_"}, "a:_", api.OK},
		{api.Ref{Repo: "a", Digest: d}, "a@" + d, api.OK},
		{api.Ref{Repo: "a.b/c--d", Digest: d}, "a.b/c--d@" + d, api.OK},
		{api.Ref{Repo: long, Tag: long}, long + ":" + long, api.OK},
		{api.Ref{Repo: long, Digest: d}, long + "@" + d, api.OK},
		{api.Ref{}, "", api.ErrArg},
		{api.Ref{Repo: "a"}, "", api.ErrArg},
		{api.Ref{Tag: "1"}, "", api.ErrArg},
		{api.Ref{Digest: d}, "", api.ErrArg},
		{api.Ref{Tag: "1", Digest: d}, "", api.ErrArg},
		{api.Ref{Repo: "a", Tag: "1", Digest: d}, "", api.ErrArg},
		{api.Ref{Repo: "a", Tag: ".", Digest: d}, "", api.ErrArg},
		{api.Ref{Repo: "a", Tag: "1", Digest: "x"}, "", api.ErrArg},
		{api.Ref{Repo: "A", Tag: "1"}, "", api.ErrArg},
		{api.Ref{Repo: "a/", Tag: "1"}, "", api.ErrArg},
		{api.Ref{Repo: "A", Digest: d}, "", api.ErrArg},
		{api.Ref{Repo: "a:b", Tag: "1"}, "", api.ErrArg},
		{api.Ref{Repo: long + "a", Tag: "1"}, "", api.ErrArg},
		{api.Ref{Repo: long + "a", Digest: d}, "", api.ErrArg},
		{api.Ref{Repo: "a", Tag: ".1"}, "", api.ErrArg},
		{api.Ref{Repo: "a", Tag: "-1"}, "", api.ErrArg},
		{api.Ref{Repo: "a", Tag: "1:2"}, "", api.ErrArg},
		{api.Ref{Repo: "a", Tag: long + "a"}, "", api.ErrArg},
		{api.Ref{Repo: "a", Tag: d}, "", api.ErrArg},
		{api.Ref{Repo: "a", Digest: "1"}, "", api.ErrArg},
		{api.Ref{Repo: "a", Digest: d[7:]}, "", api.ErrArg},
		{api.Ref{Repo: "a", Digest: d[:70]}, "", api.ErrArg},
		{api.Ref{Repo: "a", Digest: d + "0"}, "", api.ErrArg},
		{api.Ref{Repo: "a", Digest: "@" + d}, "", api.ErrArg},
		{api.Ref{Repo: "a", Digest: strings.ToUpper(d)}, "", api.ErrArg},
		{api.Ref{Repo: "a", Digest: "sha512" + d[6:]}, "", api.ErrArg},
	} {
		if got, e := name.Print(c.in); got != c.want || e != c.e {
			t.Errorf("Print(%+v) = %q, %d, want %q, %d", c.in, got, e, c.want, c.e)
		}
	}
}

// TestPrintEachOf: of names, tags and digests that may be, may not be and are not there, each with each.
func TestPrintEachOf(t *testing.T) { // P3.1, P3.3, R2
	d := digest.Of("x")
	for _, repo := range []string{"", "a", "lib/go__x", "A", "a:b", "a@b", strings.Repeat("a", 129)} {
		for _, tag := range []string{"", "1.0", "_", ".", "a b", "a:b", d, strings.Repeat("a", 129)} {
			for _, dig := range []string{"", d, digest.Of(""), d[7:], d + "0", strings.ToUpper(d), "sha256:"} {
				r := api.Ref{Repo: repo, Tag: tag, Digest: dig}
				want, wantErr := "", api.ErrArg
				switch {
				case mayRepo(repo) && mayTag(tag) && dig == "":
					want, wantErr = repo+":"+tag, api.OK
				case mayRepo(repo) && tag == "" && mayDigest(dig):
					want, wantErr = repo+"@"+dig, api.OK
				}
				got, e := name.Print(r)
				if got != want || e != wantErr {
					t.Errorf("Print(%+v) = %q, %d, want %q, %d", r, got, e, want, wantErr)
				}
				if back, e := name.Parse(got); wantErr == api.OK && (back != r || e != api.OK) {
					t.Errorf("Parse(%q) = %+v, %d, want %+v", got, back, e, r)
				}
			}
		}
	}
}

func TestParse(t *testing.T) { // P3.2, R2
	d := digest.Of("x")
	long := strings.Repeat("a", 128)
	for _, c := range []struct {
		in   string
		want api.Ref
		e    api.Errno
	}{
		{"lib/go__x:1.0", api.Ref{Repo: "lib/go__x", Tag: "1.0"}, api.OK},
		{"a:_.-", api.Ref{Repo: "a", Tag: "_.-"}, api.OK},
		{"a@" + d, api.Ref{Repo: "a", Digest: d}, api.OK},
		{"a/b/c@" + digest.Of(""), api.Ref{Repo: "a/b/c", Digest: digest.Of("")}, api.OK},
		{long + ":" + long, api.Ref{Repo: long, Tag: long}, api.OK},
		{long + "@" + d, api.Ref{Repo: long, Digest: d}, api.OK},
		// a tag that looks like the begin of a digest
		{"a:sha256", api.Ref{Repo: "a", Tag: "sha256"}, api.OK},
		{"sha256:" + d[7:], api.Ref{Repo: "sha256", Tag: d[7:]}, api.OK},
		{"", api.Ref{}, api.ErrName},
		{"a", api.Ref{}, api.ErrName},
		{"a/b", api.Ref{}, api.ErrName},
		{":", api.Ref{}, api.ErrName},
		{"@", api.Ref{}, api.ErrName},
		{":@", api.Ref{}, api.ErrName},
		{"a:", api.Ref{}, api.ErrName},
		{"a@", api.Ref{}, api.ErrName},
		{":1", api.Ref{}, api.ErrName},
		{"@" + d, api.Ref{}, api.ErrName},
		{d[7:], api.Ref{}, api.ErrName},
		{"A:1", api.Ref{}, api.ErrName},
		{"A@" + d, api.Ref{}, api.ErrName},
		{"a/:1", api.Ref{}, api.ErrName},
		{"a..b:1", api.Ref{}, api.ErrName},
		{"a:.1", api.Ref{}, api.ErrName},
		{"a:-1", api.Ref{}, api.ErrName},
		{"a::1", api.Ref{}, api.ErrName},
		{"a:1:2", api.Ref{}, api.ErrName},
		{"a:1/2", api.Ref{}, api.ErrName},
		{"a: 1", api.Ref{}, api.ErrName},
		{" a:1", api.Ref{}, api.ErrName},
		{"a:1\n", api.Ref{}, api.ErrName},
		{"host:5000/a:1", api.Ref{}, api.ErrName},
		{"a:1@" + d, api.Ref{}, api.ErrName},
		{"a@" + d + ":1", api.Ref{}, api.ErrName},
		{"a@" + d + "@" + d, api.Ref{}, api.ErrName},
		{"a@@" + d, api.Ref{}, api.ErrName},
		{"a:" + d, api.Ref{}, api.ErrName},
		{"a:@" + d, api.Ref{}, api.ErrName},
		{"a@:" + d, api.Ref{}, api.ErrName},
		{"a@" + d[7:], api.Ref{}, api.ErrName},
		{"a@" + d[:70], api.Ref{}, api.ErrName},
		{"a@" + d + "0", api.Ref{}, api.ErrName},
		{"a@" + d + "\n", api.Ref{}, api.ErrName},
		{"a@ " + d, api.Ref{}, api.ErrName},
		{"a@" + strings.ToUpper(d), api.Ref{}, api.ErrName},
		{"a@sha512" + d[6:], api.Ref{}, api.ErrName},
		{"a@1.0", api.Ref{}, api.ErrName},
		{long + "a:1", api.Ref{}, api.ErrName},
		{long + "a@" + d, api.Ref{}, api.ErrName},
		{"a:" + long + "a", api.Ref{}, api.ErrName},
		{strings.Repeat(":", 1<<20), api.Ref{}, api.ErrName},
		{strings.Repeat("a", 1<<20), api.Ref{}, api.ErrName},
		{"a@" + strings.Repeat("0", 1<<20), api.Ref{}, api.ErrName},
	} {
		if got, e := name.Parse(c.in); got != c.want || e != c.e {
			t.Errorf("Parse(%.300q) = %+v, %d, want %+v, %d", c.in, got, e, c.want, c.e)
		}
	}
}

// TestParseEachShort: of each short text of bytes that matter, whether it is a reference's, and which.
func TestParseEachShort(t *testing.T) { // P3.2, P3.3
	visit := func(s string) {
		want, wantErr := api.Ref{}, api.ErrName
		if repo, tag, found := strings.Cut(s, ":"); found && mayRepo(repo) && mayTag(tag) {
			want, wantErr = api.Ref{Repo: repo, Tag: tag}, api.OK
		}
		got, e := name.Parse(s)
		if got != want || e != wantErr {
			t.Errorf("Parse(%q) = %+v, %d, want %+v, %d", s, got, e, want, wantErr)
		}
		if back, e := name.Print(got); wantErr == api.OK && (back != s || e != api.OK) {
			t.Errorf("Print(%+v) = %q, %d, want %q", got, back, e, s)
		}
	}
	each("a._-/:@A", 6, visit)
	each("a-:@", 8, visit)
}

// TestParseEachByte: at each place of a reference, each byte: what is read is what stands there, or nothing.
func TestParseEachByte(t *testing.T) { // P3.2, P3.3
	for _, whole := range []string{"lib/go__x:1.0", "a--b.c@" + digest.Of("x")} {
		for place := range len(whole) {
			for i := range 256 {
				s := whole[:place] + string([]byte{byte(i)}) + whole[place+1:]
				repo, tag, tagged := strings.Cut(s, ":")
				front, dig, named := strings.Cut(s, "@")
				want, wantErr := api.Ref{}, api.ErrName
				switch {
				case tagged && mayRepo(repo) && mayTag(tag):
					want, wantErr = api.Ref{Repo: repo, Tag: tag}, api.OK
				case named && mayRepo(front) && mayDigest(dig):
					want, wantErr = api.Ref{Repo: front, Digest: dig}, api.OK
				}
				if got, e := name.Parse(s); got != want || e != wantErr {
					t.Errorf("Parse(%q) = %+v, %d, want %+v, %d", s, got, e, want, wantErr)
				}
			}
		}
	}
}

// FuzzName: any texts are told as the grammars tell them, and what is parsed, printed, is the text.
func FuzzName(f *testing.F) { // P1, P3.1, P3.2, P3.3, P7, R2
	d := digest.Of("x")
	for _, s := range []string{"", "a", "lib/go__x:1.0", "a@" + d, "a:1@" + d, "a/", "a_-b:1", d} {
		f.Add(s, "a", "1.0", "")
		f.Add(s, s, s, d)
	}
	f.Fuzz(func(t *testing.T, s, repo, tag, dig string) {
		if got := name.Repo(s); got != mayRepo(s) {
			t.Errorf("Repo(%q) = %t", s, got)
		}
		if got := name.Tag(s); got != mayTag(s) {
			t.Errorf("Tag(%q) = %t", s, got)
		}
		r, e := name.Parse(s)
		if back, print := name.Print(r); e == api.OK && (back != s || print != api.OK) {
			t.Errorf("Parse(%q) = %+v, whose text is %q, %d", s, r, back, print)
		}
		if e != api.OK && (e != api.ErrName || r != api.Ref{}) {
			t.Errorf("Parse(%q) = %+v, %d", s, r, e)
		}
		r = api.Ref{Repo: repo, Tag: tag, Digest: dig}
		text, e := name.Print(r)
		if back, parse := name.Parse(text); e == api.OK && (back != r || parse != api.OK) {
			t.Errorf("Print(%+v) = %q, which is %+v, %d", r, text, back, parse)
		}
		if e != api.OK && (e != api.ErrArg || text != "") {
			t.Errorf("Print(%+v) = %q, %d", r, text, e)
		}
		may := mayRepo(repo) && (dig == "" && mayTag(tag) || tag == "" && mayDigest(dig))
		if may != (e == api.OK) {
			t.Errorf("Print(%+v) = %q, %d", r, text, e)
		}
	})
}
