package glob_test

import (
	"math/rand"
	"regexp"
	"slices"
	"strings"
	"testing"

	"consignor/api"
	"consignor/glob"
)

// latin is a text with a rune for each byte, so that a grammar goes by bytes.
func latin(s string) string {
	var runes []rune
	for i := range len(s) {
		runes = append(runes, rune(s[i]))
	}
	return string(runes)
}

// What the chapter says in words of a pattern's bytes and braces, as a grammar; how long it may be, this leaves open.
var patterns = regexp.MustCompile(`\A([!-z|~]|\{[!-z|~]*\})+\z`)

func mayBe(p string) bool { return len(p) <= 128 && patterns.MatchString(latin(p)) }

// What stands for what, as the chapter says it, read from the left.
var pieces = regexp.MustCompile(`\*\*|\*|\?|\{[^}]*\}|[^*?{]`)

// grammar is a pattern's; of one that may not be there is none.
func grammar(p string) *regexp.Regexp {
	if !mayBe(p) {
		return nil
	}
	whole := pieces.ReplaceAllStringFunc(p, func(piece string) string {
		switch {
		case piece == "**":
			return `(?s:.*)`
		case piece == "*":
			return `[^/]*`
		case piece == "?":
			return `[^/]`
		case piece[0] == '{':
			inner := regexp.QuoteMeta(piece[1 : len(piece)-1])
			return "(" + strings.ReplaceAll(inner, ",", "|") + ")"
		}
		return regexp.QuoteMeta(piece)
	})
	return regexp.MustCompile(`\A(` + whole + `)\z`)
}

// isOne tells whether a text is one of a grammar's pattern.
func isOne(g *regexp.Regexp, s string) bool {
	return g != nil && len(s) <= 200 && g.MatchString(latin(s))
}

// each calls visit with each text of at most n of the letters.
func each(letters string, n int, visit func(string)) {
	text := make([]byte, 0, n)
	var longer func()
	longer = func() {
		visit(string(text))
		if len(text) == n {
			return
		}
		for i := range len(letters) {
			text = append(text, letters[i])
			longer()
			text = text[:len(text)-1]
		}
	}
	longer()
}

// check holds Match and Some of a pattern and a text against what they are to tell.
func check(t *testing.T, p, s string, right, want bool) {
	t.Helper()
	if got := glob.Match(p, s); got != want {
		t.Errorf("Match(%.300q, %.300q) = %t", p, s, got)
	}
	wantErr := api.OK
	if !right || len(s) > 200 {
		wantErr = api.ErrArg
	}
	if got, e := glob.Some(s, p); got != want || e != wantErr {
		t.Errorf("Some(%.300q, %.300q) = %t, %d", s, p, got, e)
	}
}

func TestRight(t *testing.T) { // P7.1
	for _, c := range []struct {
		in   string
		want bool
	}{
		{"a", true},
		{"!", true},
		{"~", true},
		{"*", true},
		{"**", true},
		{"***", true},
		{"?", true},
		{"/", true},
		{"//", true},
		{",", true},
		{"lib/*", true},
		{"v{1,2}.?", true},
		{"a,b", true},
		{"{}", true},
		{"{,}", true},
		{"{,,}", true},
		{"{a}", true},
		{"{*}", true},
		{"{**,?}", true},
		{"{a/b}", true},
		{"{a}{b}", true},
		{"{}{}", true},
		{"x{a}y{b}z", true},
		{`\[^$.|()+]`, true},
		{"", false},
		{" ", false},
		{"a b", false},
		{" a", false},
		{"a ", false},
		{"{ }", false},
		{"a\n", false},
		{"a\t", false},
		{"a\x00", false},
		{"a\x7f", false},
		{"a\x80", false},
		{"\xff", false},
		{"é", false},
		{"{é}", false},
		{"{", false},
		{"}", false},
		{"a{", false},
		{"a}", false},
		{"{a", false},
		{"a}b", false},
		{"}{", false},
		{"{{", false},
		{"}}", false},
		{"{{}", false},
		{"{}}", false},
		{"{a}}", false},
		{"{{a}", false},
		{"{{a}}", false},
		{"{a{b}c}", false},
		{"{a{b}", false},
		{"{a}b}", false},
		{"{a}{", false},
		{"{a}}{b}", false},
		{"{a},{b", false},
		{"a},{b}", false},
	} {
		if got := glob.Right(c.in); got != c.want {
			t.Errorf("Right(%q) = %t", c.in, got)
		}
		if !c.want {
			check(t, c.in, "", false, false)
			check(t, c.in, c.in, false, false)
		}
	}
}

// TestRightEachByte: which bytes a pattern may have, at its begin, in its middle, at its end and between braces.
func TestRightEachByte(t *testing.T) { // P7.1, R5
	for _, c := range []struct{ ahead, behind string }{{"", ""}, {"", "a"}, {"a", ""}, {"a", "b"}, {"{", "}"}, {"{a,", "b}"}} {
		for i := range 256 {
			if c := byte(i); c == '{' || c == '}' {
				continue
			}
			p := c.ahead + string([]byte{byte(i)}) + c.behind
			if got, want := glob.Right(p), i >= 33 && i <= 126; got != want {
				t.Errorf("Right(%q) = %t", p, got)
			}
		}
	}
}

// brackets tells, word by word of the chapter, whether a pattern's braces may be.
func brackets(p string) bool {
	for i := range len(p) {
		ahead, behind := p[:i], p[i+1:]
		switch p[i] {
		case '{':
			other := strings.IndexByte(behind, '}')
			if other < 0 || strings.Contains(behind[:other], "{") {
				return false
			}
		case '}':
			other := strings.LastIndexByte(ahead, '{')
			if other < 0 || strings.Contains(ahead[other:], "}") {
				return false
			}
		}
	}
	return true
}

func TestRightEachShort(t *testing.T) { // P7.1
	each("{},*a ", 7, func(p string) {
		want := p != "" && brackets(p) && !strings.Contains(p, " ")
		if got := glob.Right(p); got != want || got != mayBe(p) {
			t.Errorf("Right(%q) = %t", p, got)
		}
	})
}

func TestRightLength(t *testing.T) { // P7.1
	for n := range 400 {
		for _, one := range []string{"a", "*", "?", ",", "/"} {
			p := strings.Repeat(one, n)
			if got, want := glob.Right(p), n >= 1 && n <= 128; got != want {
				t.Errorf("Right of %d times %q: %t", n, one, got)
			}
		}
		p := "{" + strings.Repeat(",", n) + "}"
		if got, want := glob.Right(p), n <= 126; got != want {
			t.Errorf("Right of braces about %d bytes: %t", n, got)
		}
		p = strings.Repeat("{}", n)
		if got, want := glob.Right(p), n >= 1 && n <= 64; got != want {
			t.Errorf("Right of %d pairs of braces: %t", n, got)
		}
	}
	for _, one := range []string{"a", "*", "{", "}", "{}"} {
		if glob.Right(strings.Repeat(one, 1<<20)) {
			t.Errorf("Right of 2^20 times %q", one)
		}
	}
}

func TestMatch(t *testing.T) { // P7.1
	for _, c := range []struct {
		p       string
		is, not []string
	}{
		{"lib/*", []string{"lib/a", "lib/", "lib/a.b", "lib/*", "lib/\n", "lib/\x00\xff"}, []string{"lib/a/b", "lib", "lib/a/", "lib//", "", "xlib/a", "Lib/a"}},
		{"v{1,2}.?", []string{"v1.0", "v2.9", "v1.*", "v1. "}, []string{"v3.0", "v1.", "v1./", "v1.00", "v1,2.0", "v{1,2}.0", "v.0", "v12.0", "v1x0"}},
		{"*", []string{"", "a", "abc", "*", "**", " ", "\xff"}, []string{"/", "a/", "/a", "a/b"}},
		{"**", []string{"", "a", "/", "a/b", "//", "\n", "\xff/\x00"}, nil},
		{"***", []string{"", "a", "/", "a/b", "//a/"}, nil},
		{"****", []string{"", "a", "/", "a/b/c"}, nil},
		{"**/*", []string{"/", "a/b", "a/b/c", "/a", "a/", "//"}, []string{"", "a", "ab"}},
		{"*/**", []string{"/", "a/b", "a/b/c", "/a", "a/", "//"}, []string{"", "a", "ab"}},
		{"*/*", []string{"/", "a/b", "/b", "a/"}, []string{"", "a", "a/b/c", "//"}},
		{"a**z", []string{"az", "abz", "a/z", "a/b/z", "azz", "az/z"}, []string{"a", "z", "", "aza", "az/", "xaz"}},
		{"a*z", []string{"az", "abz", "azz", "azaz"}, []string{"a", "z", "", "a/z", "az/z", "aza"}},
		{"*a*", []string{"a", "aa", "bab"}, []string{"", "b", "a/", "/a", "b/a"}},
		// stars that a pair of braces stands between are no two stars
		{"*{}*", []string{"", "ab"}, []string{"/", "a/b"}},
		{"*{/}*", []string{"/", "a/b"}, []string{"", "a", "a/b/c"}},
		{"?", []string{"a", "?", "*", " ", "\x00", "\xff", "\n"}, []string{"", "/", "ab", "é"}},
		{"??", []string{"ab", "é", "??"}, []string{"", "a", "abc", "a/", "/a"}},
		{"?*", []string{"a", "ab"}, []string{"", "/", "a/", "/a"}},
		{"?**", []string{"a", "ab", "a/", "a//"}, []string{"", "/", "/a"}},
		{"a?", []string{"ab", "aa"}, []string{"a", "a/", "b", "abc"}},
		{"{*}", []string{"*"}, []string{"", "a", "**", "{*}"}},
		{"{**}", []string{"**"}, []string{"", "*", "a", "***", "a/b"}},
		{"{?}", []string{"?"}, []string{"", "a", "??"}},
		{"{a*,?b}", []string{"a*", "?b"}, []string{"a", "ab", "bb", "a**", "*", "?"}},
		{"{a,b}", []string{"a", "b"}, []string{"", "c", ",", "ab", "a,b", "{a,b}", "{a", "b}"}},
		{"{}", []string{""}, []string{"{}", "a", "{", "}"}},
		{"{,}", []string{""}, []string{",", "{,}", "a"}},
		{"a{}b", []string{"ab"}, []string{"a{}b", "a", "b", "acb"}},
		{"a{,b}", []string{"a", "ab"}, []string{"", "b", "abb", "a,", "a,b"}},
		{"a{b,}", []string{"a", "ab"}, []string{"", "b", "abb", "ab,"}},
		{"a{b,,c}d", []string{"ad", "abd", "acd"}, []string{"a", "abcd", "ab,d", "a,d", "abd,"}},
		{"{a,a}", []string{"a"}, []string{"", "aa"}},
		{"{a/b,c}/d", []string{"a/b/d", "c/d"}, []string{"a/d", "b/d", "a/b", "c"}},
		{"{/}", []string{"/"}, []string{"", "a", "//"}},
		// a word that is the begin of another one, in either order
		{"{a,ab}b", []string{"ab", "abb"}, []string{"a", "b", "abbb", "aab"}},
		{"{ab,a}b", []string{"ab", "abb"}, []string{"a", "b", "abbb", "aab"}},
		{"{a,ab}{c,bcd}", []string{"ac", "abc", "abcd", "abbcd"}, []string{"a", "ab", "abcbcd", "bcd"}},
		{"{a}{b}", []string{"ab"}, []string{"a", "b", "ba", ""}},
		{"{a,b}{a,b}", []string{"aa", "ab", "ba", "bb"}, []string{"", "a", "b", "aaa"}},
		// a comma outside of braces, and what means something elsewhere, are bytes as others
		{"a,b", []string{"a,b"}, []string{"a", "b", "ab"}},
		{",", []string{","}, []string{"", ",,"}},
		{"a,{b,c},d", []string{"a,b,d", "a,c,d"}, []string{"a", "a,b", "a,b,c,d"}},
		{"[ab]", []string{"[ab]"}, []string{"a", "b", "[a]"}},
		{`\*`, []string{`\`, `\a`, `\*`}, []string{"*", "", `\/`}},
		{"a.c+(d|e)^$", []string{"a.c+(d|e)^$"}, []string{"abc+(d|e)^$", "acd"}},
		{"!a", []string{"!a"}, []string{"a", "b", ""}},
		{"{!a}", []string{"!a"}, []string{"a", "b", ""}},
		{"{1-3}", []string{"1-3"}, []string{"1", "2", "3"}},
		{"{1..3}", []string{"1..3"}, []string{"1", "2", "3"}},
		{"/", []string{"/"}, []string{"", "a", "//"}},
		{"a", []string{"a"}, []string{"", "A", "b", "aa", "a ", " a", "a\n", "a\x00"}},
		{"lib/**/x", []string{"lib//x", "lib/a/x", "lib/a/b/x"}, []string{"lib/x", "lib/a", "lib/ax"}},
	} {
		for _, s := range c.is {
			check(t, c.p, s, true, true)
		}
		for _, s := range c.not {
			check(t, c.p, s, true, false)
		}
	}
}

// TestMatchEachShort: each short pattern with each short text, of bytes that matter.
func TestMatchEachShort(t *testing.T) { // P7.1, P7.2
	for _, c := range []struct {
		letters        string
		n              int
		textLetters    string
		textN          int
		least, leastIs int
	}{
		{"*?{},/a", 5, "a/*,", 4, 1000, 1000},
		{"*a/?", 6, "a/b", 5, 1000, 1000},
		{"{a,}b", 7, "ab,", 5, 1000, 1000},
	} {
		var texts []string
		each(c.textLetters, c.textN, func(s string) { texts = append(texts, s) })
		rights, ones := 0, 0
		each(c.letters, c.n, func(p string) {
			g := grammar(p)
			if g == nil {
				check(t, p, p, false, false)
				return
			}
			rights++
			for _, s := range texts {
				want := isOne(g, s)
				if got := glob.Match(p, s); got != want {
					t.Errorf("Match(%q, %q) = %t", p, s, got)
				}
				if want {
					ones++
				}
			}
		})
		if rights < c.least || ones < c.leastIs {
			t.Errorf("too few of %q: %d patterns, %d texts of them", c.letters, rights, ones)
		}
	}
}

// TestMatchEachByte: which bytes a star and a question mark stand for, and that any other stands for itself alone.
func TestMatchEachByte(t *testing.T) { // P7.1, P7.2, R5
	for i := range 256 {
		b := string([]byte{byte(i)})
		check(t, "**", b, true, true)
		check(t, "*", b, true, b != "/")
		check(t, "?", b, true, b != "/")
		check(t, "a**b", "a"+b+"b", true, true)
		check(t, "a*b", "a"+b+"b", true, b != "/")
		check(t, "a?b", "a"+b+"b", true, b != "/")
		seen := i >= 33 && i <= 126
		if strings.Contains("*?{}", b) {
			continue
		}
		for k := range 256 {
			check(t, "x"+b+"y", "x"+string([]byte{byte(k)})+"y", seen, seen && k == i)
		}
	}
}

// TestTextLength: a text of at most 200 bytes may be one, a longer one may not, of whatever pattern.
func TestTextLength(t *testing.T) { // P7.1, P7.2
	ten := strings.Repeat("a", 10)
	for n := range 500 {
		s := strings.Repeat("a", n)
		few := n <= 200
		check(t, "**", s, true, few)
		check(t, "**", strings.Repeat("/", n), true, few)
		check(t, "*", s, true, few)
		check(t, "a**", s, true, few && n >= 1)
		check(t, "**a", s, true, few && n >= 1)
		check(t, "{}**{}", s, true, few)
		check(t, "**{aa,a}", s, true, few && n >= 1)
		check(t, strings.Repeat("?", 100)+"*", s, true, few && n >= 100)
		check(t, strings.Repeat("?", 128), s, true, n == 128)
		check(t, strings.Repeat("a", 128), s, true, n == 128)
		check(t, "{"+strings.Repeat("a", 126)+"}", s, true, n == 126)
		check(t, strings.Repeat("{"+ten+"}", 10), s, true, n == 100)
		if n >= 1 {
			check(t, strings.Repeat("?", n), s, n <= 128, n <= 128)
			check(t, s, s, n <= 128, n <= 128)
		}
	}
	for _, one := range []string{"a", "/", "\xff"} {
		long := strings.Repeat(one, 1<<20)
		check(t, "**", long, true, false)
		check(t, long, long, false, false)
		check(t, long, "a", false, false)
	}
}

// TestEnds: patterns that have very many ways to go through a text.
func TestEnds(t *testing.T) { // P1, P7.1
	s := strings.Repeat("a", 200)
	for _, one := range []string{"*a", "**a", "*", "**", "{,a}", "{a,aa}", "{a,a,a}", "*{}", "*{a}", "*?", "**{,a,aa,aaa}", "{a,aa,aaa,aaaa}*"} {
		most := strings.Repeat(one, 127/len(one))
		for _, end := range []string{"", "b", "/", "a"} {
			p := most + end
			g := grammar(p)
			for _, text := range []string{s, s[1:] + "b", s[1:] + "/", s[1:] + "c", s[2:] + "/b", "", s[:50], s[:50] + "b", s + "a"} {
				check(t, p, text, true, isOne(g, text))
			}
		}
	}
}

func TestSome(t *testing.T) { // P7.1, R2, R3
	most := strings.Repeat("a", 200)
	long := most + "a"
	for _, c := range []struct {
		s        string
		patterns []string
		want     bool
		e        api.Errno
	}{
		{"a", nil, true, api.OK},
		{"a", []string{}, true, api.OK},
		{"", nil, true, api.OK},
		{"\x00 \xff", nil, true, api.OK},
		{most, nil, true, api.OK},
		{long, nil, false, api.ErrArg},
		{long, []string{}, false, api.ErrArg},
		{"a", []string{"a"}, true, api.OK},
		{"a", []string{"b"}, false, api.OK},
		{"a", []string{"b", "a"}, true, api.OK},
		{"a", []string{"a", "b"}, true, api.OK},
		{"a", []string{"b", "c", "?", "d"}, true, api.OK},
		{"a", []string{"a", "a"}, true, api.OK},
		{"a", []string{"b", "c", "b"}, false, api.OK},
		{"a/b", []string{"*", "a", "b"}, false, api.OK},
		{"a/b", []string{"*", "*/*"}, true, api.OK},
		{"", []string{"*"}, true, api.OK},
		{"", []string{"a"}, false, api.OK},
		{"", []string{"{}"}, true, api.OK},
		{most, []string{"*"}, true, api.OK},
		{most, []string{"a"}, false, api.OK},
		{long, []string{"*"}, false, api.ErrArg},
		{long, []string{"**", "a"}, false, api.ErrArg},
		{long, []string{""}, false, api.ErrArg},
		{"", []string{""}, false, api.ErrArg},
		{"a", []string{"}"}, false, api.ErrArg},
		{"a", []string{"a", "}"}, false, api.ErrArg},
		{"a", []string{"}", "a"}, false, api.ErrArg},
		{"a", []string{"a", "a", "", "a"}, false, api.ErrArg},
		{"a", []string{"**", "a b"}, false, api.ErrArg},
		{"a", []string{"**", strings.Repeat("a", 129)}, false, api.ErrArg},
		{"a", []string{"b", "{a}}"}, false, api.ErrArg},
		{"a", []string{"b", "a\x80"}, false, api.ErrArg},
	} {
		if got, e := glob.Some(c.s, c.patterns...); got != c.want || e != c.e {
			t.Errorf("Some(%q, %q) = %t, %d, want %t, %d", c.s, c.patterns, got, e, c.want, c.e)
		}
	}
	if got, e := glob.Some("a"); !got || e != api.OK {
		t.Errorf("Some of none = %t, %d", got, e)
	}
}

// TestSomeMany: of very many patterns, the last one tells as the first one does.
func TestSomeMany(t *testing.T) { // P7.1, P1
	many := slices.Repeat([]string{"b", "{c,d}", "?/*"}, 5000)
	for _, c := range []struct {
		last string
		want bool
		e    api.Errno
	}{{"b", false, api.OK}, {"a", true, api.OK}, {"{", false, api.ErrArg}} {
		if got, e := glob.Some("a", append(slices.Clone(many), c.last)...); got != c.want || e != c.e {
			t.Errorf("Some of very many and %q = %t, %d", c.last, got, e)
		}
		if got, e := glob.Some("a", append([]string{c.last}, many...)...); got != c.want || e != c.e {
			t.Errorf("Some of %q and very many = %t, %d", c.last, got, e)
		}
	}
}

// TestAll: two stars have all texts.
func TestAll(t *testing.T) { // P7.2
	r := rand.New(rand.NewSource(7))
	for n := range 201 {
		for range 20 {
			s := make([]byte, n)
			r.Read(s)
			check(t, "**", string(s), true, true)
		}
	}
}

// TestPlain: a pattern without a mark is one of itself, and no text but it is.
func TestPlain(t *testing.T) { // P7.2
	r := rand.New(rand.NewSource(8))
	for range 300 {
		p := make([]byte, 1+r.Intn(128))
		for i := range p {
			p[i] = "!,-./09:@AZ[]^_az|~\\"[r.Intn(20)]
		}
		plain := string(p)
		check(t, plain, plain, true, true)
		check(t, plain, "", true, false)
		for i := range len(plain) {
			check(t, plain, plain[:i]+plain[i+1:], true, false)
			check(t, plain, plain[:i]+"b"+plain[i+1:], true, false)
			check(t, plain, plain[:i]+plain[i:i+1]+plain[i:], true, false)
			check(t, plain, plain[:i]+"/"+plain[i:], true, false)
		}
		check(t, plain, plain+plain[:1], true, false)
	}
}

// TestJustWords: braces have each of their words, and no other text.
func TestJustWords(t *testing.T) { // P7.2
	var texts []string
	each("a*?/,", 4, func(s string) { texts = append(texts, s) })
	each("a*?/,", 5, func(inner string) {
		words := strings.Split(inner, ",")
		for _, w := range words {
			check(t, "{"+inner+"}", w, true, true)
			check(t, "x{"+inner+"}y", "x"+w+"y", true, true)
		}
		for _, s := range texts {
			if got, want := glob.Match("{"+inner+"}", s), slices.Contains(words, s); got != want {
				t.Errorf("Match(%q, %q) = %t", "{"+inner+"}", s, got)
			}
		}
	})
}

// chance is a pattern by chance, and a text that is one of it or almost is.
func chance(r *rand.Rand) (string, string) {
	var p, s strings.Builder
	some := func(letters string, n int) string {
		b := make([]byte, n)
		for i := range b {
			b[i] = letters[r.Intn(len(letters))]
		}
		return string(b)
	}
	for range 1 + r.Intn(12) {
		switch r.Intn(6) {
		case 0:
			p.WriteString("**")
			s.WriteString(some("ab/", r.Intn(6)))
		case 1:
			p.WriteString("*")
			s.WriteString(some("ab", r.Intn(6)))
		case 2:
			p.WriteString("?")
			s.WriteString(some("ab\xff", 1))
		case 3:
			words := strings.Split(some("ab,/*?", 1+r.Intn(8)), ",")
			p.WriteString("{" + strings.Join(words, ",") + "}")
			s.WriteString(words[r.Intn(len(words))])
		default:
			plain := some("ab/,", 1+r.Intn(3))
			p.WriteString(plain)
			s.WriteString(plain)
		}
	}
	return p.String(), spoilt(r, spoilt(r, s.String()))
}

// spoilt is a text that may lack a byte, or have one more.
func spoilt(r *rand.Rand, s string) string {
	at := r.Intn(len(s) + 1)
	switch r.Intn(4) {
	case 0:
		return s[:at] + "/" + s[at:]
	case 1:
		return s[:at] + s[min(at+1, len(s)):]
	}
	return s
}

func TestChance(t *testing.T) { // P7.1, P7.2
	r := rand.New(rand.NewSource(9))
	ones, others := 0, 0
	for range 20000 {
		p, s := chance(r)
		want := isOne(grammar(p), s)
		check(t, p, s, mayBe(p), want)
		if want {
			ones++
		} else {
			others++
		}
	}
	if ones < 4000 || others < 4000 {
		t.Errorf("too few of a kind: %d and %d", ones, others)
	}
}

// TestSomeChance: one of some, as one of one of them.
func TestSomeChance(t *testing.T) { // P7.1, R2, R4
	r := rand.New(rand.NewSource(10))
	for range 3000 {
		var all []string
		want, wantErr := false, api.OK
		_, s := chance(r)
		for range 1 + r.Intn(5) {
			p, other := chance(r)
			if r.Intn(3) == 0 {
				s = other
			}
			if r.Intn(20) == 0 {
				p += "}"
			}
			all = append(all, p)
		}
		for _, p := range all {
			want = want || isOne(grammar(p), s)
			if !mayBe(p) || len(s) > 200 {
				wantErr = api.ErrArg
			}
		}
		want = want && wantErr == api.OK
		before := slices.Clone(all)
		if got, e := glob.Some(s, all...); got != want || e != wantErr {
			t.Errorf("Some(%q, %q) = %t, %d, want %t, %d", s, all, got, e, want, wantErr)
		}
		if got, e := glob.Some(s, all...); got != want || e != wantErr {
			t.Errorf("Some(%q, %q), once more = %t, %d", s, all, got, e)
		}
		if !slices.Equal(all, before) {
			t.Errorf("%q is %q, once it was handed in", before, all)
		}
	}
}

// FuzzGlob: any patterns and texts are told as the grammars tell them.
func FuzzGlob(f *testing.F) { // P1, P7.1, P7.2, R1
	f.Add("lib/*", "lib/a", int64(1))
	f.Add("v{1,2}.?", "v2.9", int64(2))
	f.Add("{a}}", "a", int64(3))
	f.Add("***{*,}", "a/b*", int64(4))
	f.Add(strings.Repeat("{a,aa}", 21), strings.Repeat("a", 30), int64(5))
	f.Add("", "", int64(6))
	f.Fuzz(func(t *testing.T, p, s string, seed int64) {
		if got := glob.Right(p); got != mayBe(p) {
			t.Errorf("Right(%q) = %t", p, got)
		}
		check(t, p, s, mayBe(p), isOne(grammar(p), s))
		other, text := chance(rand.New(rand.NewSource(seed)))
		check(t, other, text, mayBe(other), isOne(grammar(other), text))
		both := p + other
		check(t, both, s+text, mayBe(both), isOne(grammar(both), s+text))
	})
}
