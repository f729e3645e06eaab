package digest_test

import (
	"crypto/sha256"
	"slices"
	"strings"
	"testing"

	"consignor/api"
	"consignor/digest"
	"consignor/octet"
)

const (
	nothing = "e3b0c44298fc1c149afbf4c8996fb92427ae41e4649b934ca495991b7852b855"
	abc     = "ba7816bf8f01cfea414140de5dae2223b00361a396177a9cb410ff61f20015ad"
)

// mixture is n bytes that go through all of them, and do not fall in with blocks.
func mixture(n int) string {
	b := make([]byte, n)
	for i := range b {
		b[i] = byte(i*7 + i/251)
	}
	return string(b)
}

// expected is a sum as Go's own library has it.
func expected(s string) string {
	sum := sha256.Sum256([]byte(s))
	return string(sum[:])
}

// TestKnownSums: what FIPS 180-4's examples, and others that are well known, come to.
func TestKnownSums(t *testing.T) { // P2.1
	for _, c := range []struct{ in, want string }{
		{"", nothing},
		{"abc", abc},
		{"a", "ca978112ca1bbdcafac231b39a23dc4da786eff8147c4e72b9807785afee48bb"},
		{"\xbd", "68325720aabd7c82f30f554b313d0570c95accbb7dc4b5aae11204c08ffe732b"},
		{"abcdbcdecdefdefgefghfghighijhijkijkljklmklmnlmnomnopnopq", "248d6a61d20638b8e5c026930c3e6039a33ce45964ff2167f6ecedd419db06c1"},
		{"abcdefghbcdefghicdefghijdefghijkefghijklfghijklmghijklmnhijklmnoijklmnopjklmnopqklmnopqrlmnopqrsmnopqrstnopqrstu", "cf5b16a778af8380036ce59e7b0492370b249b11e8f07a51afac45037afee9d1"},
		{strings.Repeat("a", 1000000), "cdc76e5c9914fb9281a1c7e284d73e67f1809a48a497200e046d39ccc7112cd0"},
	} {
		if got := octet.Hex(digest.Sum(c.in)); got != c.want {
			t.Errorf("the sum of %.20q is %s, want %s", c.in, got, c.want)
		}
		if got := digest.Of(c.in); got != "sha256:"+c.want {
			t.Errorf("the digest of %.20q is %s, want sha256:%s", c.in, got, c.want)
		}
	}
}

// TestEachLength: of each length through several blocks, so that the filling is met at each place.
func TestEachLength(t *testing.T) { // P2.1
	for n := range 400 {
		for _, s := range []string{mixture(n), strings.Repeat("\x00", n), strings.Repeat("\xff", n), strings.Repeat("\x80", n)} {
			if got, want := digest.Sum(s), expected(s); got != want {
				t.Errorf("the sum of %d bytes is %x, want %x", n, got, want)
			}
		}
	}
	for _, n := range []int{4095, 4096, 4097, 65535, 65536, 1 << 20} {
		if got, want := digest.Sum(mixture(n)), expected(mixture(n)); got != want {
			t.Errorf("the sum of %d bytes is %x, want %x", n, got, want)
		}
	}
}

// TestEachBit: a sum hangs on each bit of the text.
func TestEachBit(t *testing.T) { // P2.1
	was := []byte(mixture(70))
	for i := range 8 * len(was) {
		is := slices.Clone(was)
		is[i/8] ^= 1 << (i % 8)
		if got, want := digest.Sum(string(is)), expected(string(is)); got != want || got == digest.Sum(string(was)) {
			t.Errorf("with bit %d turned the sum is %x, want %x", i, got, want)
		}
	}
}

func TestNoTexts(t *testing.T) { // P2.1, R3
	for name, got := range map[string]string{
		"none":           digest.Sum(),
		"no list":        digest.Sum([]string(nil)...),
		"an empty list":  digest.Sum([]string{}...),
		"an empty text":  digest.Sum(""),
		"three of these": digest.Sum("", "", ""),
	} {
		if octet.Hex(got) != nothing {
			t.Errorf("%s: %x", name, got)
		}
	}
}

func TestOf(t *testing.T) { // P2.1
	for _, s := range []string{"", "abc", "\x00", "\xff\xfe", "sha256:" + abc, mixture(64), mixture(4096)} {
		want := "sha256:" + octet.Hex(expected(s))
		if got := digest.Of(s); got != want || len(got) != 71 {
			t.Errorf("Of(%.20q) = %q, want %q", s, got, want)
		}
	}
}

func TestParse(t *testing.T) { // P2.2
	for _, c := range []struct {
		in string
		e  api.Errno
	}{
		{"sha256:" + abc, api.OK},
		{"sha256:" + nothing, api.OK},
		{"sha256:" + strings.Repeat("0", 64), api.OK},
		{"sha256:" + strings.Repeat("f", 64), api.OK},
		{"sha256:" + strings.Repeat("0123456789abcdef", 4), api.OK},
		{"", api.ErrSyntax},
		{"s", api.ErrSyntax},
		{"sha256", api.ErrSyntax},
		{"sha256:", api.ErrSyntax},
		{abc, api.ErrSyntax},
		{":" + abc, api.ErrSyntax},
		{"sha256" + abc, api.ErrSyntax},
		{"sha256 " + abc, api.ErrSyntax},
		{"sha256::" + abc, api.ErrSyntax},
		{"sha256:" + abc[1:], api.ErrSyntax},
		{"sha256:" + abc[2:], api.ErrSyntax},
		{"sha256:" + abc + "0", api.ErrSyntax},
		{"sha256:" + abc + "00", api.ErrSyntax},
		{"sha256:" + abc + "\n", api.ErrSyntax},
		{"sha256:" + abc + "\x00", api.ErrSyntax},
		{"sha256: " + abc[1:], api.ErrSyntax},
		{" sha256:" + abc, api.ErrSyntax},
		{"sha256:" + strings.ToUpper(abc), api.ErrSyntax},
		{"sha256:" + abc[:63] + "A", api.ErrSyntax},
		{"sha256:g" + abc[1:], api.ErrSyntax},
		{"sha256:" + abc[:62] + "é", api.ErrSyntax},
		{"sha256:" + digest.Sum("abc"), api.ErrSyntax},
		{digest.Sum("abc"), api.ErrSyntax},
		{"SHA256:" + abc, api.ErrSyntax},
		{"Sha256:" + abc, api.ErrSyntax},
		{"sha255:" + abc, api.ErrSyntax},
		{"sha512:" + abc, api.ErrSyntax},
		{"sha512:" + abc + abc, api.ErrSyntax},
		{"sha256:" + abc + abc, api.ErrSyntax},
		{"sha256:sha256:" + abc, api.ErrSyntax},
		{"sha256:sha256:" + abc[7:], api.ErrSyntax},
		{strings.Repeat("sha256:", 1000), api.ErrSyntax},
	} {
		want := ""
		if c.e == api.OK {
			want, _ = octet.Bytes(c.in[7:])
		}
		if got, e := digest.Parse(c.in); got != want || e != c.e {
			t.Errorf("Parse(%q) = %q, %d, want %q, %d", c.in, got, e, want, c.e)
		}
	}
}

// TestParseEachByte: at each place of a digest, which bytes may stand there.
func TestParseEachByte(t *testing.T) { // P2.2
	whole := "sha256:" + abc
	for place := range len(whole) {
		for c := range 256 {
			s := whole[:place] + string([]byte{byte(c)}) + whole[place+1:]
			may := s == whole
			if place >= 7 {
				may = strings.IndexByte("0123456789abcdef", byte(c)) >= 0
			}
			got, e := digest.Parse(s)
			if may && (e != api.OK || "sha256:"+octet.Hex(got) != s) || !may && (e != api.ErrSyntax || got != "") {
				t.Errorf("Parse(%q) = %q, %d", s, got, e)
			}
		}
	}
}

func TestFits(t *testing.T) { // P2.2
	for _, c := range []struct {
		digest, data string
		e            api.Errno
	}{
		{"sha256:" + abc, "abc", api.OK},
		{"sha256:" + nothing, "", api.OK},
		{"sha256:" + abc, "abd", api.ErrDigest},
		{"sha256:" + abc, "", api.ErrDigest},
		{"sha256:" + abc, "abc\x00", api.ErrDigest},
		{"sha256:" + abc, "ab", api.ErrDigest},
		{"sha256:" + abc, "ABC", api.ErrDigest},
		{"sha256:" + nothing, "abc", api.ErrDigest},
		{"sha256:" + nothing, "\x00", api.ErrDigest},
		{"sha256:" + abc[:63] + "c", "abc", api.ErrDigest},
		{"sha256:c" + abc[1:], "abc", api.ErrDigest},
		{"sha256:" + strings.Repeat("0", 64), "", api.ErrDigest},
		{"", "", api.ErrSyntax},
		{"", "abc", api.ErrSyntax},
		{abc, "abc", api.ErrSyntax},
		{"sha256:" + abc[1:], "abc", api.ErrSyntax},
		{"sha256:" + abc + "0", "abc", api.ErrSyntax},
		{"sha256:" + strings.ToUpper(abc), "abc", api.ErrSyntax},
		{"sha256:" + strings.ToUpper(abc), "abd", api.ErrSyntax},
		{"sha256:g" + abc[1:], "abd", api.ErrSyntax},
		{"sha512:" + abc, "abc", api.ErrSyntax},
		{digest.Sum("abc"), "abc", api.ErrSyntax},
		{"abc", "sha256:" + abc, api.ErrSyntax},
	} {
		if e := digest.Fits(c.digest, c.data); e != c.e {
			t.Errorf("Fits(%q, %q) = %d, want %d", c.digest, c.data, e, c.e)
		}
	}
}

func TestOwnDigestFits(t *testing.T) { // P2.3
	for n := range 200 {
		s := mixture(n)
		d := digest.Of(s)
		if e := digest.Fits(d, s); e != api.OK {
			t.Errorf("%d bytes do not fit their digest: %d", n, e)
		}
		if e := digest.Fits(d, s+"\x00"); e != api.ErrDigest {
			t.Errorf("%d bytes fit the digest of %d: %d", n+1, n, e)
		}
	}
}

func TestParsedIsWritten(t *testing.T) { // P2.3
	for n := range 200 {
		d := digest.Of(mixture(n))
		raw, e := digest.Parse(d)
		if e != api.OK || len(raw) != 32 || raw != digest.Sum(mixture(n)) || "sha256:"+octet.Hex(raw) != d {
			t.Errorf("Parse(%q) = %q, %d", d, raw, e)
		}
	}
	for i := range 256 {
		raw := strings.Repeat(string([]byte{byte(i)}), 31) + "\x5a"
		if got, e := digest.Parse("sha256:" + octet.Hex(raw)); got != raw || e != api.OK {
			t.Errorf("Parse of the digest of %x: %x, %d", raw, got, e)
		}
	}
}

// TestCuts: a text cut once and twice, wherever, and into single bytes.
func TestCuts(t *testing.T) { // P2.3
	s := mixture(150)
	want := expected(s)
	for i := range len(s) + 1 {
		if got := digest.Sum(s[:i], s[i:]); got != want {
			t.Errorf("cut at %d: %x, want %x", i, got, want)
		}
		for j := i; j <= len(s); j += 5 {
			if got := digest.Sum(s[:i], "", s[i:j], s[j:]); got != want {
				t.Errorf("cut at %d and %d: %x, want %x", i, j, got, want)
			}
		}
	}
	if got := digest.Sum(strings.Split(s, "")...); got != want {
		t.Errorf("cut at all: %x, want %x", got, want)
	}
	// more texts than may be bound are no fault here
	many := slices.Repeat([]string{"", "ab", mixture(63)}, 1000)
	if got, want := digest.Sum(many...), expected(strings.Join(many, "")); got != want {
		t.Errorf("%d texts: %x, want %x", len(many), got, want)
	}
}

// TestOrderOfTexts: the texts stand one behind the other, as they came.
func TestOrderOfTexts(t *testing.T) { // P2.1
	if digest.Sum("a", "bc") == digest.Sum("bc", "a") {
		t.Error("the order of texts is not to be seen")
	}
	parts := []string{"a", "", mixture(100), "bc"}
	was := slices.Clone(parts)
	if digest.Sum(parts...) != expected(strings.Join(was, "")) {
		t.Error("the sum of four texts")
	}
	if !slices.Equal(parts, was) { // R4
		t.Error("Sum changed what it was handed")
	}
}

// FuzzDigest: any text has the sum that Go's own library has, however it is cut; and Parse reads a digest's one text, and nothing else.
func FuzzDigest(f *testing.F) { // P1, P2.3, P7, R2
	for _, s := range []string{"", "abc", "sha256:", "sha256:" + abc, "sha256:" + strings.ToUpper(abc), mixture(64), mixture(119)} {
		f.Add(s, uint(1))
	}
	f.Fuzz(func(t *testing.T, s string, place uint) {
		cut := int(place % uint(len(s)+1))
		if got, want := digest.Sum(s[:cut], s[cut:]), expected(s); got != want {
			t.Errorf("the sum of %q is %x, want %x", s, got, want)
		}
		if e := digest.Fits(digest.Of(s), s); e != api.OK {
			t.Errorf("%q does not fit its digest: %d", s, e)
		}
		raw, e := digest.Parse(s)
		if e == api.OK && "sha256:"+octet.Hex(raw) != s || e != api.OK && (e != api.ErrSyntax || raw != "") {
			t.Errorf("Parse(%q) = %q, %d", s, raw, e)
		}
		if got := digest.Fits(s, s); e != api.OK && got != e || e == api.OK && got != api.ErrDigest {
			t.Errorf("Fits(%q, the same) = %d", s, got)
		}
	})
}

func BenchmarkSum(b *testing.B) {
	s := mixture(4096)
	b.SetBytes(int64(len(s)))
	for b.Loop() {
		digest.Sum(s)
	}
}
