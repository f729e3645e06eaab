package octet_test

import (
	"math"
	"slices"
	"strings"
	"testing"

	"consignor/api"
	"consignor/octet"
)

// every is each byte once, in order.
func every() string {
	b := make([]byte, 256)
	for i := range b {
		b[i] = byte(i)
	}
	return string(b)
}

// many is a list of n texts.
func many(n int, text string) []string {
	return slices.Repeat([]string{text}, n)
}

// bound is a text behind a length in 2 bytes, which need not be its own.
func bound(length int, text string) string {
	return string([]byte{byte(length), byte(length >> 8)}) + text
}

func TestHex(t *testing.T) { // P1.1
	for _, c := range []struct{ in, want string }{
		{"", ""},
		{"\x00", "00"},
		{"\x0f\xa0", "0fa0"},
		{"\x01\x23\x45\x67\x89\xab\xcd\xef", "0123456789abcdef"},
		{"\xff\xfe\x80\x7f", "fffe807f"},
		{"a\nz", "610a7a"},
		{"é", "c3a9"},
	} {
		if got := octet.Hex(c.in); got != c.want {
			t.Errorf("Hex(%q) = %q, want %q", c.in, got, c.want)
		}
	}
}

func TestBytes(t *testing.T) { // P1.1
	for _, c := range []struct {
		in, want string
		e        api.Errno
	}{
		{"", "", api.OK},
		{"00", "\x00", api.OK},
		{"0fa0", "\x0f\xa0", api.OK},
		{"0123456789abcdef", "\x01\x23\x45\x67\x89\xab\xcd\xef", api.OK},
		{"fffe", "\xff\xfe", api.OK},
		{"0", "", api.ErrHex},
		{"00f", "", api.ErrHex},
		{"0F", "", api.ErrHex},
		{"F0", "", api.ErrHex},
		{"61g1", "", api.ErrHex},
		{"611g", "", api.ErrHex},
		{" 61", "", api.ErrHex},
		{"0x61", "", api.ErrHex},
		{"61\n", "", api.ErrHex},
		{"\xc3\xa9", "", api.ErrHex},
		{"g", "", api.ErrHex},
	} {
		if got, e := octet.Bytes(c.in); got != c.want || e != c.e {
			t.Errorf("Bytes(%q) = %q, %d, want %q, %d", c.in, got, e, c.want, c.e)
		}
	}
}

// TestBytesEachDigit: what is a digit, in both places, and what it says.
func TestBytesEachDigit(t *testing.T) { // P1.1
	const digits = "0123456789abcdef"
	for i := range 256 {
		d := string([]byte{byte(i)})
		n := strings.Index(digits, d)
		low, high, want := "", "", api.ErrHex
		if n >= 0 {
			low, high, want = string([]byte{byte(n)}), string([]byte{byte(n << 4)}), api.OK
		}
		if got, e := octet.Bytes("0" + d); got != low || e != want {
			t.Errorf("Bytes(%q) = %q, %d", "0"+d, got, e)
		}
		if got, e := octet.Bytes(d + "0"); got != high || e != want {
			t.Errorf("Bytes(%q) = %q, %d", d+"0", got, e)
		}
	}
}

func TestWide(t *testing.T) { // P1.1
	for _, c := range []struct {
		n    uint64
		size int
		want string
		e    api.Errno
	}{
		{258, 2, "\x02\x01", api.OK},
		{0, 0, "", api.OK},
		{1, 0, "", api.ErrLong},
		{math.MaxUint64, 0, "", api.ErrLong},
		{0, 1, "\x00", api.OK},
		{255, 1, "\xff", api.OK},
		{256, 1, "", api.ErrLong},
		{258, 1, "", api.ErrLong},
		{1, 3, "\x01\x00\x00", api.OK},
		{0, 8, "\x00\x00\x00\x00\x00\x00\x00\x00", api.OK},
		{0x0123456789abcdef, 8, "\xef\xcd\xab\x89\x67\x45\x23\x01", api.OK},
		{math.MaxUint64, 8, "\xff\xff\xff\xff\xff\xff\xff\xff", api.OK},
		{math.MaxUint64, 7, "", api.ErrLong},
		{0, 9, "", api.ErrArg},
		{0, -1, "", api.ErrArg},
		{math.MaxUint64, 9, "", api.ErrArg},
		{math.MaxUint64, -1, "", api.ErrArg},
		{1, 64, "", api.ErrArg},
		{1, math.MaxInt, "", api.ErrArg},
		{1, math.MinInt, "", api.ErrArg},
	} {
		if got, e := octet.Wide(c.n, c.size); got != c.want || e != c.e {
			t.Errorf("Wide(%d, %d) = %q, %d, want %q, %d", c.n, c.size, got, e, c.want, c.e)
		}
	}
}

// TestWideRoom: of each size, the greatest number that has room, and the one above it.
func TestWideRoom(t *testing.T) { // P1.1
	for size := range 8 {
		above := uint64(1) << (8 * size)
		if got, e := octet.Wide(above-1, size); got != strings.Repeat("\xff", size) || e != api.OK {
			t.Errorf("Wide(%d, %d) = %q, %d", above-1, size, got, e)
		}
		if got, e := octet.Wide(above, size); got != "" || e != api.ErrLong {
			t.Errorf("Wide(%d, %d) = %q, %d", above, size, got, e)
		}
	}
}

func TestWhole(t *testing.T) { // P1.1
	for _, c := range []struct {
		in   string
		want uint64
		e    api.Errno
	}{
		{"", 0, api.OK},
		{"\x00", 0, api.OK},
		{"\xff", 255, api.OK},
		{"\x02\x01", 258, api.OK},
		{"\x02\x01\x00\x00", 258, api.OK},
		{"\x00\x00\x01", 65536, api.OK},
		{"\xef\xcd\xab\x89\x67\x45\x23\x01", 0x0123456789abcdef, api.OK},
		{strings.Repeat("\xff", 8), math.MaxUint64, api.OK},
		{strings.Repeat("\xff", 9), 0, api.ErrLong},
		{strings.Repeat("\x00", 9), 0, api.ErrLong},
		{"\x01" + strings.Repeat("\x00", 8), 0, api.ErrLong},
		{every(), 0, api.ErrLong},
	} {
		if got, e := octet.Whole(c.in); got != c.want || e != c.e {
			t.Errorf("Whole(%q) = %d, %d, want %d, %d", c.in, got, e, c.want, c.e)
		}
	}
}

func TestBind(t *testing.T) { // P1.2
	most, over := strings.Repeat("m", 4096), strings.Repeat("m", 4097)
	for _, c := range []struct {
		name  string
		parts []string
		want  string
		e     api.Errno
	}{
		{"no list", nil, "", api.OK},
		{"none", []string{}, "", api.OK},
		{"an empty one", []string{""}, "\x00\x00", api.OK},
		{"some", []string{"a", "", "bc"}, "\x01\x00a\x00\x00\x02\x00bc", api.OK},
		{"every byte", []string{every()}, "\x00\x01" + every(), api.OK},
		{"4096 bytes", []string{most}, "\x00\x10" + most, api.OK},
		{"4097 bytes", []string{over}, "", api.ErrLong},
		{"4097 bytes behind others", []string{"a", most, over}, "", api.ErrLong},
		{"4097 bytes ahead of others", []string{over, "a"}, "", api.ErrLong},
		{"64 texts", many(64, "x"), strings.Repeat("\x01\x00x", 64), api.OK},
		{"65 texts", many(65, "x"), "", api.ErrLong},
		{"65 empty texts", many(65, ""), "", api.ErrLong},
		{"64 of 4096", many(64, most), strings.Repeat("\x00\x10"+most, 64), api.OK},
	} {
		if got, e := octet.Bind(c.parts...); got != c.want || e != c.e {
			t.Errorf("%s: %d bytes, %d, want %d bytes, %d", c.name, len(got), e, len(c.want), c.e)
		}
	}
	if got, e := octet.Bind(); got != "" || e != api.OK {
		t.Errorf("Bind() = %q, %d", got, e)
	}
}

func TestLoose(t *testing.T) { // P1.2
	most := strings.Repeat("m", 4096)
	full := strings.Repeat("\x01\x00x", 64)
	for _, c := range []struct {
		name, in string
		want     []string
		e        api.Errno
	}{
		{"nothing", "", nil, api.OK},
		{"an empty one", "\x00\x00", []string{""}, api.OK},
		{"some", "\x01\x00a\x00\x00\x02\x00bc", []string{"a", "", "bc"}, api.OK},
		{"every byte", "\x00\x01" + every(), []string{every()}, api.OK},
		{"one byte left", "\x00", nil, api.ErrShort},
		{"one byte left behind a text", "\x01\x00a\x01", nil, api.ErrShort},
		{"a length alone", "\x01\x00", nil, api.ErrShort},
		{"one byte too few", "\x02\x00b", nil, api.ErrShort},
		{"one byte too few behind a text", "\x01\x00a\x02\x00b", nil, api.ErrShort},
		{"255 too few", "\x00\x01b", nil, api.ErrShort},
		{"4096 bytes", bound(4096, most), []string{most}, api.OK},
		{"4096 bytes, less one", bound(4096, most[1:]), nil, api.ErrShort},
		{"4097 bytes", bound(4097, most+"m"), nil, api.ErrLong},
		{"4097 bytes that are not there", bound(4097, "b"), nil, api.ErrLong},
		{"4097 bytes, none there", bound(4097, ""), nil, api.ErrLong},
		{"4097 bytes behind a text", "\x01\x00a" + bound(4097, most+"m"), nil, api.ErrLong},
		{"65535 bytes", "\xff\xff" + strings.Repeat("m", 65535), nil, api.ErrLong},
		{"64 texts", full, many(64, "x"), api.OK},
		{"65 texts", full + "\x01\x00x", nil, api.ErrLong},
		{"a 65th, empty", full + "\x00\x00", nil, api.ErrLong},
		{"a 65th whose bytes are not there", full + "\x02\x00x", nil, api.ErrLong},
		{"a 65th that is too long", full + "\x01\x10x", nil, api.ErrLong},
		{"one byte left behind 64", full + "\x00", nil, api.ErrShort},
		{"a 64th whose bytes are not there", full[3:] + "\x02\x00x", nil, api.ErrShort},
		{"too few ahead of too long", "\x10\x00\xff\xff", nil, api.ErrShort},
		{"too long ahead of too few", "\xff\xff\x01\x00", nil, api.ErrLong},
	} {
		got, e := octet.Loose(c.in)
		if !slices.Equal(got, c.want) || e != c.e {
			t.Errorf("%s: %d texts, %d, want %d texts, %d", c.name, len(got), e, len(c.want), c.e)
		}
	}
}

// TestTextByText: 64 texts, which is most, differ, so that none is left out, doubled or moved.
func TestTextByText(t *testing.T) { // P1.2, P1.3
	var parts []string
	for i := range 64 {
		parts = append(parts, strings.Repeat(string([]byte{byte(i * 3)}), i*5))
	}
	was := slices.Clone(parts)
	s, e := octet.Bind(parts...)
	if e != api.OK {
		t.Fatal(e)
	}
	if !slices.Equal(parts, was) {
		t.Error("Bind changed what it was handed")
	}
	if got, e := octet.Loose(s); e != api.OK || !slices.Equal(got, parts) {
		t.Error(got, e)
	}
}

func TestDigitsAreRead(t *testing.T) { // P1.3
	for i := range 256 {
		for _, s := range []string{string([]byte{byte(i)}), every()[i:], every()[:i]} {
			if got, e := octet.Bytes(octet.Hex(s)); got != s || e != api.OK {
				t.Errorf("Bytes of Hex(%q) = %q, %d", s, got, e)
			}
		}
	}
	long := strings.Repeat(every(), 1<<10)
	if got, e := octet.Bytes(octet.Hex(long)); got != long || e != api.OK {
		t.Errorf("Bytes of Hex of %d bytes: %d bytes, %d", len(long), len(got), e)
	}
	for _, s := range []string{"", "00", "0fa0", "deadbeef", "ffffffff"} {
		if b, e := octet.Bytes(s); e != api.OK || octet.Hex(b) != s {
			t.Errorf("Hex of Bytes(%q) = %q, %d", s, octet.Hex(b), e)
		}
	}
}

func TestNumbersAreRead(t *testing.T) { // P1.3
	for size := range 9 {
		for shift := range 8 * size {
			for _, n := range []uint64{0, 1 << shift, 1<<shift - 1, 0xa5a5a5a5a5a5a5a5 >> (64 - 8*size)} {
				s, e := octet.Wide(n, size)
				if e != api.OK || len(s) != size {
					t.Errorf("Wide(%d, %d) = %q, %d", n, size, s, e)
				}
				if got, e := octet.Whole(s); got != n || e != api.OK {
					t.Errorf("Whole of Wide(%d, %d) = %d, %d", n, size, got, e)
				}
			}
		}
	}
	for size := range 9 {
		s := every()[0xf8:][:size]
		n, e := octet.Whole(s)
		if got, f := octet.Wide(n, size); got != s || e != api.OK || f != api.OK {
			t.Errorf("Wide of Whole(%q) = %q, %d, %d", s, got, e, f)
		}
	}
}

func TestTextsAreRead(t *testing.T) { // P1.3
	for _, parts := range [][]string{
		nil,
		{""},
		{"", "", ""},
		{"a", "", "bc"},
		{"\x01\x00a", "\x00", "\xff\xff"},
		{every(), "", every()},
		many(64, strings.Repeat("\x00", 4096)),
	} {
		s, e := octet.Bind(parts...)
		if e != api.OK {
			t.Errorf("Bind of %d texts: %d", len(parts), e)
		}
		got, e := octet.Loose(s)
		if e != api.OK || !slices.Equal(got, parts) {
			t.Errorf("Loose of Bind of %d texts: %d texts, %d", len(parts), len(got), e)
		}
		if again, e := octet.Bind(got...); again != s || e != api.OK {
			t.Errorf("Bind of Loose of %d bytes: %d bytes, %d", len(s), len(again), e)
		}
	}
}

// FuzzReaders: whatever they are given, the readers end, tell their own errors alone, nothing beside an error, and of what they read the one text.
func FuzzReaders(f *testing.F) { // P1, P7, R2
	for _, s := range []string{"", "0", "0f", "0F", "\x00", "\x01\x00a", "\x02\x00a", "\x01\x10", strings.Repeat("\x00", 130), every()} {
		f.Add(s)
	}
	f.Fuzz(func(t *testing.T, s string) {
		switch b, e := octet.Bytes(s); e {
		case api.OK:
			if octet.Hex(b) != s {
				t.Errorf("Bytes(%q) = %q", s, b)
			}
		default:
			if e != api.ErrHex || b != "" {
				t.Errorf("Bytes(%q) = %q, %d", s, b, e)
			}
		}
		switch n, e := octet.Whole(s); e {
		case api.OK:
			if got, _ := octet.Wide(n, len(s)); got != s {
				t.Errorf("Whole(%q) = %d", s, n)
			}
		default:
			if e != api.ErrLong || n != 0 || len(s) < 9 {
				t.Errorf("Whole(%q) = %d, %d", s, n, e)
			}
		}
		switch l, e := octet.Loose(s); e {
		case api.OK:
			if got, _ := octet.Bind(l...); got != s {
				t.Errorf("Loose(%q) = %q", s, l)
			}
		default:
			if e != api.ErrShort && e != api.ErrLong || len(l) != 0 {
				t.Errorf("Loose(%q) = %q, %d", s, l, e)
			}
		}
	})
}
