package text_test

import (
	"encoding/json"
	"io"
	"maps"
	"math"
	"math/rand"
	"reflect"
	"slices"
	"strconv"
	"strings"
	"testing"

	"consignor/api"
	"consignor/text"
)

const most = 1 << 40

func whole(n int) api.Value { return api.Value{Kind: api.VWhole, N: n} }

func word(s string) api.Value { return api.Value{Kind: api.VWord, S: s} }

func row(items ...api.Value) api.Value { return api.Value{Kind: api.VRow, Items: items} }

// object is members by names, which are one text, parted by commas.
func object(names string, items ...api.Value) api.Value {
	v := api.Value{Kind: api.VObj, Items: items}
	if len(items) > 0 {
		v.Names = strings.Split(names, ",")
	}
	return v
}

// many is n values alike.
func many(n int, v api.Value) []api.Value {
	l := make([]api.Value, n)
	for i := range l {
		l[i] = v
	}
	return l
}

// letters is n names, one behind the other, parted by commas.
func letters(n int) string {
	return strings.Join(strings.Split("abcdefghijklmnopqrstuvwxyz"[:n], ""), ",")
}

// around is a value in so many rows.
func around(v api.Value, rows int) api.Value {
	for range rows {
		v = row(v)
	}
	return v
}

// sized is a value that may be, whose text has n bytes (4000 to 4900 of them) with a tail's text at its end: a row of a row of 16 words, which is full, of one of words, and of the tail.
func sized(n int, tail api.Value, tailText string) api.Value {
	full := row(many(16, word(strings.Repeat("f", 200)))...)
	left := n - len("[,,]") - (len("[]") + 16*202 + 15) - len("[]") - len(tailText)
	var words []api.Value
	for left > 202 {
		words = append(words, word(strings.Repeat("w", 100)))
		left -= 103
	}
	words = append(words, word(strings.Repeat("l", left-2)))
	return row(full, row(words...), tail)
}

// endless is a row that has itself in it.
func endless() api.Value {
	items := make([]api.Value, 1)
	items[0] = row(items...)
	return items[0]
}

// oracle reads a text with the library's reader, and tells of each thing whether it may be: the value, whether it is one, and how deep it is.
type oracle struct {
	in    *json.Decoder
	again strings.Builder // what was read, without blanks
}

func may(s string) (api.Value, bool) {
	for i := range len(s) {
		if s[i] < 32 || s[i] > 126 || s[i] == '\\' {
			return api.Value{}, false
		}
	}
	o := oracle{in: json.NewDecoder(strings.NewReader(s))}
	o.in.UseNumber()
	v, deep, ok := o.value()
	if _, err := o.in.Token(); !ok || err != io.EOF || deep > 6 || o.again.String() != s {
		return api.Value{}, false
	}
	return v, true
}

func (o *oracle) value() (v api.Value, deep int, ok bool) {
	t, err := o.in.Token()
	if err != nil {
		return v, 0, false
	}
	switch t := t.(type) {
	case json.Number:
		o.again.WriteString(t.String())
		n, err := strconv.ParseUint(t.String(), 10, 64)
		return whole(int(n)), 1, err == nil && n <= most
	case string:
		o.again.WriteString(`"` + t + `"`)
		return word(t), 1, len(t) <= 200
	case json.Delim:
		o.again.WriteString(t.String())
		v.Kind = map[json.Delim]int{'[': api.VRow, '{': api.VObj}[t]
		deep, ok := o.members(&v)
		return v, deep + 1, ok && len(v.Items) <= 16
	}
	return v, 0, false
}

func (o *oracle) members(v *api.Value) (deep int, ok bool) {
	for o.in.More() {
		if len(v.Items) > 0 {
			o.again.WriteString(",")
		}
		if v.Kind == api.VObj {
			t, err := o.in.Token()
			name, isWord := t.(string)
			if err != nil || !isWord || len(name) > 200 {
				return 0, false
			}
			if n := len(v.Names); n > 0 && strings.Compare(v.Names[n-1], name) != -1 {
				return 0, false
			}
			o.again.WriteString(`"` + name + `":`)
			v.Names = append(v.Names, name)
		}
		item, d, ok := o.value()
		if !ok {
			return 0, false
		}
		v.Items = append(v.Items, item)
		deep = max(deep, d)
	}
	t, err := o.in.Token()
	if end, is := t.(json.Delim); is && err == nil {
		o.again.WriteString(end.String())
		return deep, true
	}
	return 0, false
}

// same tells whether two values are, with a nil list as an empty one; no call of the package is asked.
func same(v, w api.Value) bool { return reflect.DeepEqual(clone(v), clone(w)) }

func clone(v api.Value) api.Value {
	c := api.Value{Kind: v.Kind, N: v.N, S: v.S, Items: []api.Value{}, Names: []string{}}
	c.Names = append(c.Names, v.Names...)
	for _, item := range v.Items {
		c.Items = append(c.Items, clone(item))
	}
	return c
}

// rights are values that may be, with their texts.
var rights = []struct {
	v    api.Value
	text string
}{
	{whole(0), `0`},
	{whole(7), `7`},
	{whole(10), `10`},
	{whole(4096), `4096`},
	{whole(most - 1), `1099511627775`},
	{whole(most), `1099511627776`},
	{word(""), `""`},
	{word("x"), `"x"`},
	{word(" ~"), `" ~"`},
	{word("[1,{}]:"), `"[1,{}]:"`},
	{word("007"), `"007"`},
	{word("/'<>&"), `"/'<>&"`},
	{word(strings.Repeat("w", 200)), `"` + strings.Repeat("w", 200) + `"`},
	{row(), `[]`},
	{api.Value{Kind: api.VRow, Items: []api.Value{}, Names: []string{}}, `[]`},
	{row(whole(1)), `[1]`},
	{row(whole(1), word("x")), `[1,"x"]`},
	{row(row(), row(), object("")), `[[],[],{}]`},
	{row(many(16, whole(3))...), `[3` + strings.Repeat(",3", 15) + `]`},
	{object(""), `{}`},
	{api.Value{Kind: api.VObj, Items: []api.Value{}, Names: []string{}}, `{}`},
	{object("a", row(whole(1), word("x"))), `{"a":[1,"x"]}`},
	{object("a,b", row(whole(1), word("x")), object("")), `{"a":[1,"x"],"b":{}}`},
	{object("", whole(1)), `{"":1}`},
	{object(",a", whole(1), whole(2)), `{"":1,"a":2}`},
	{object("a,aa,b", whole(1), whole(2), whole(3)), `{"a":1,"aa":2,"b":3}`},
	{object("10,9,A,Z,a,z", many(6, whole(0))...), `{"10":0,"9":0,"A":0,"Z":0,"a":0,"z":0}`},
	{object(" ,~", word(""), word(" ")), `{" ":"","~":" "}`},
	{object(strings.Repeat("n", 199)+","+strings.Repeat("n", 200), row(), row()), `{"` + strings.Repeat("n", 199) + `":[],"` + strings.Repeat("n", 200) + `":[]}`},
	{object(letters(16), many(16, whole(1))...), `{"` + strings.Join(strings.Split(letters(16), ","), `":1,"`) + `":1}`},
	{around(whole(1), 5), `[[[[[1]]]]]`},
	{around(row(), 5), `[[[[[[]]]]]]`},
	{around(object(""), 5), `[[[[[{}]]]]]`},
	{object("a", object("b", object("c", object("d", object("e", word("f")))))), `{"a":{"b":{"c":{"d":{"e":"f"}}}}}`},
	{row(whole(1), around(word("x"), 4), whole(2)), `[1,[[[["x"]]]],2]`},
}

// wrongs are values that may not be.
var wrongs = []struct {
	name string
	v    api.Value
}{
	{"of no kind", api.Value{}},
	{"kind -1", api.Value{Kind: -1}},
	{"kind 5", api.Value{Kind: 5}},
	{"kind 0 with fields", api.Value{N: 1, S: "x"}},
	{"a number below 0", whole(-1)},
	{"the least number", whole(math.MinInt)},
	{"a number above 2^40", whole(most + 1)},
	{"the greatest number", whole(math.MaxInt)},
	{"a number with a word", api.Value{Kind: api.VWhole, N: 1, S: "x"}},
	{"a number with an item", api.Value{Kind: api.VWhole, N: 1, Items: []api.Value{whole(1)}}},
	{"a number with a name", api.Value{Kind: api.VWhole, N: 1, Names: []string{""}}},
	{"a number with a member", api.Value{Kind: api.VWhole, Items: []api.Value{whole(1)}, Names: []string{"a"}}},
	{"a word of 201", word(strings.Repeat("w", 201))},
	{"a word of 2^20", word(strings.Repeat("w", 1<<20))},
	{"a word with a quote", word(`a"`)},
	{"a word with a backslash", word(`a\`)},
	{"a word with a line's end", word("\n")},
	{"a word of byte 31", word("\x1f")},
	{"a word of byte 127", word("\x7f")},
	{"a word of byte 0", word("\x00")},
	{"a word beyond ASCII", word("é")},
	{"a word of byte 255", word("\xff")},
	{"a word with a number", api.Value{Kind: api.VWord, N: 1, S: "x"}},
	{"a word with a number below 0", api.Value{Kind: api.VWord, N: -1}},
	{"a word with an item", api.Value{Kind: api.VWord, S: "x", Items: []api.Value{whole(1)}}},
	{"a word with a name", api.Value{Kind: api.VWord, S: "x", Names: []string{"a"}}},
	{"a row of 17", row(many(17, whole(1))...)},
	{"a row with a number", api.Value{Kind: api.VRow, N: 1}},
	{"a row with a word", api.Value{Kind: api.VRow, S: "x"}},
	{"a row with a name", api.Value{Kind: api.VRow, Names: []string{"a"}}},
	{"a row with names", api.Value{Kind: api.VRow, Items: []api.Value{whole(1)}, Names: []string{"a"}}},
	{"a row of nothing that may be", row(api.Value{})},
	{"a row whose last may not be", row(whole(1), word("x"), whole(-1))},
	{"a row whose first may not be", row(word("\n"), word("x"))},
	{"an object of 17", object(letters(17), many(17, whole(1))...)},
	{"an object with a number", api.Value{Kind: api.VObj, N: 1}},
	{"an object with a word", api.Value{Kind: api.VObj, S: "x"}},
	{"an object with too few names", api.Value{Kind: api.VObj, Items: many(2, whole(1)), Names: []string{"a"}}},
	{"an object with too many names", api.Value{Kind: api.VObj, Items: many(1, whole(1)), Names: []string{"a", "b"}}},
	{"an object without names", api.Value{Kind: api.VObj, Items: many(1, whole(1))}},
	{"an object of names alone", api.Value{Kind: api.VObj, Names: []string{"a"}}},
	{"names that fall", object("b,a", whole(1), whole(2))},
	{"names that fall at the end", object("a,c,b", many(3, whole(1))...)},
	{"names twice", object("a,a", whole(1), whole(1))},
	{"empty names twice", object(",", whole(1), whole(1))},
	{"names by numbers", object("9,10", whole(1), whole(2))},
	{"names by letters, great or small", object("a,B", whole(1), whole(2))},
	{"a longer name ahead of what it begins with", object("aa,a", whole(1), whole(2))},
	{"a name of 201", object(strings.Repeat("n", 201), whole(1))},
	{"a name with a quote", object(`a"`, whole(1))},
	{"a name with a backslash", object(`a,b\`, whole(1), whole(1))},
	{"a name of byte 31", object("\x1f", whole(1))},
	{"a name beyond ASCII", object("a,é", whole(1), whole(2))},
	{"an object whose last may not be", object("a,b", whole(1), object("b,a", whole(1), whole(2)))},
	{"7 deep", around(whole(1), 6)},
	{"7 deep, a row in the middle", around(row(), 6)},
	{"7 deep behind others", row(whole(1), around(word("x"), 5))},
	{"7 deep in objects", object("a", object("b", object("c", object("d", object("e", object("f", whole(1)))))))},
	{"2^16 deep", around(row(), 1<<16-1)},
	{"without an end", endless()},
}

func TestRight(t *testing.T) { // P4.1, P1, R3
	for _, c := range rights {
		if !text.Right(c.v) {
			t.Errorf("%s: not right", c.text)
		}
	}
	for _, c := range wrongs {
		if text.Right(c.v) {
			t.Errorf("%s: right", c.name)
		}
	}
}

// TestRightEachByte: which bytes a word and a name may have, at which place soever.
func TestRightEachByte(t *testing.T) { // P4.1, R5
	for i := range 256 {
		b := string([]byte{byte(i)})
		want := i >= 32 && i <= 126 && b != `"` && b != `\`
		for _, s := range []string{b, b + "a", "a" + b, "a" + b + "a", strings.Repeat("a", 199) + b} {
			if got := text.Right(word(s)); got != want {
				t.Errorf("Right of the word %q: %t", s, got)
			}
			named := api.Value{Kind: api.VObj, Items: many(1, whole(1)), Names: []string{s}}
			if got := text.Right(named); got != want {
				t.Errorf("Right of the name %q: %t", s, got)
			}
		}
	}
}

// TestRightEachPair: of all pairs of names, those that may stand one behind the other.
func TestRightEachPair(t *testing.T) { // P4.1
	var names []string
	for i := 32; i < 127; i++ {
		if i != '"' && i != '\\' {
			names = append(names, string(rune(i)), string(rune(i))+" ", "a"+string(rune(i)))
		}
	}
	for _, a := range names {
		for _, b := range names {
			v := api.Value{Kind: api.VObj, Items: many(2, whole(1)), Names: []string{a, b}}
			if got, want := text.Right(v), strings.Compare(a, b) < 0; got != want {
				t.Errorf("Right of names %q, %q: %t", a, b, got)
			}
		}
	}
}

// TestRightItems: how many items there may be, at each depth.
func TestRightItems(t *testing.T) { // P4.1
	for n := range 20 {
		for rows := range 8 {
			want := n <= 16 && (rows <= 4 || n == 0 && rows == 5)
			if got := text.Right(around(row(many(n, whole(1))...), rows)); got != want {
				t.Errorf("Right of %d items in %d rows: %t", n, rows, got)
			}
			if got := text.Right(around(object(letters(n), many(n, whole(1))...), rows)); got != want {
				t.Errorf("Right of %d members in %d rows: %t", n, rows, got)
			}
		}
	}
}

func TestPrint(t *testing.T) { // P4.1, R2, R3
	for _, c := range rights {
		if got, e := text.Print(c.v); got != c.text || e != api.OK {
			t.Errorf("Print = %q, %d, want %q", got, e, c.text)
		}
	}
	for _, c := range wrongs {
		if got, e := text.Print(c.v); got != "" || e != api.ErrArg {
			t.Errorf("%s: Print = %q, %d", c.name, got, e)
		}
	}
}

// TestPrintLong: how many bytes a text may have, whatever it ends with.
func TestPrintLong(t *testing.T) { // P4.1, R2
	for _, tail := range []struct {
		v    api.Value
		text string
	}{
		{whole(0), `0`},
		{whole(most), `1099511627776`},
		{word(""), `""`},
		{word("tail"), `"tail"`},
		{row(), `[]`},
		{object(""), `{}`},
		{row(row(whole(1)), word("")), `[[1],""]`},
		{object("a,b", whole(1), row()), `{"a":1,"b":[]}`},
	} {
		for n := 4000; n < 4200; n++ {
			v := sized(n, tail.v, tail.text)
			if !text.Right(v) {
				t.Fatalf("%d with %s: not right", n, tail.text)
			}
			got, e := text.Print(v)
			switch {
			case n <= 4096 && (len(got) != n || !strings.HasSuffix(got, ","+tail.text+"]") || e != api.OK):
				t.Errorf("%d with %s: Print is %d bytes, %d", n, tail.text, len(got), e)
			case n > 4096 && (got != "" || e != api.ErrLong):
				t.Errorf("%d with %s: Print is %d bytes, %d", n, tail.text, len(got), e)
			}
		}
	}
}

// TestPrintWide: a value that may be, of as many words as there may be, and one that might, but for its very last word.
func TestPrintWide(t *testing.T) { // P4.1, P1, R2
	wide, last := word("w"), word("\n")
	for range 5 {
		last = row(append(many(15, wide), last)...)
		wide = row(many(16, wide)...)
	}
	if got, e := text.Print(wide); got != "" || e != api.ErrLong {
		t.Errorf("Print is %d bytes, %d", len(got), e)
	}
	if got, e := text.Print(last); got != "" || e != api.ErrArg {
		t.Errorf("Print is %d bytes, %d", len(got), e)
	}
}

func TestParse(t *testing.T) { // P4.2, R2
	for _, c := range rights {
		if got, e := text.Parse(c.text); !same(got, c.v) || e != api.OK {
			t.Errorf("Parse(%s) = %v, %d", c.text, got, e)
		}
	}
	for _, s := range []string{
		``, ` `, `  `, "\n", "\x00", `x`, `a`, `null`, `true`, `false`, `NaN`, `é`, "\xff", "\ufeff1",
		`00`, `01`, `007`, `00x`, `-1`, `-0`, `+1`, `1.0`, `1.`, `.1`, `1e2`, `1E2`, `0x1`, `1_0`, `1a`, `1-`, `１`,
		`1099511627777`, `9223372036854775807`, `9223372036854775808`, `18446744073709551616`, strings.Repeat("9", 4096), strings.Repeat("0", 4096),
		`1 `, ` 1`, "1\n", "\t1", `1,`, `,1`, `1,2`, `1 2`, `1]`, `1}`, `1:1`, `1"`, `""1`, `1""`, `""""`, `[][]`, `{}{}`, `[]{}`, `[]1`,
		`"`, `"a`, `a"`, `'a'`, `"a""`, `"a"b"`, `"\n"`, `"\"`, `"\\"`, `"\""`, `"\u0041"`, `"a\b"`, "\"\n\"", "\"\x1f\"", "\"\x7f\"", "\"\x00\"", `"é"`, "\"\xff\"", "\"\t\"",
		`"` + strings.Repeat("w", 201) + `"`, `"` + strings.Repeat("w", 4094) + `"`, `"` + strings.Repeat("w", 4095),
		`[`, `]`, `[[`, `]]`, `[]]`, `[[]`, `[1`, `1]`, `[1,`, `[1,]`, `[,1]`, `[,]`, `[,`, `[1,,2]`, `[1 ,2]`, `[1, 2]`, `[ 1]`, `[1 ]`, `[ ]`, `[1;2]`, `[1 2]`, `["a""b"]`, `[1}`, `[}`, `{]`, `["a":1]`, `[01]`, `[x]`, `(1)`,
		`[1` + strings.Repeat(",1", 16) + `]`, `[[1` + strings.Repeat(",1", 16) + `]]`,
		`{`, `}`, `{{`, `{}}`, `{{}`, `{{}}`, `{1}`, `{"a"}`, `{"a":}`, `{"a":1`, `{"a":1,`, `{"a":1,}`, `{,"a":1}`, `{,}`, `{:1}`, `{:}`, `{"a",1}`, `{"a"1}`, `{"a"::1}`, `{"a":1:2}`, `{"a":1,,"b":2}`, `{"a":1"b":2}`, `{"a":1,"b"}`, `{"a":1,2}`,
		`{a:1}`, `{1:1}`, `{'a':1}`, `{[]:1}`, `{"a" :1}`, `{"a": 1}`, `{ "a":1}`, `{"a":1 }`, `{ }`, `{"a":1]`, `{"a":01}`, `{"a":1;"b":2}`,
		`{"b":1,"a":1}`, `{"a":1,"a":1}`, `{"":1,"":1}`, `{"aa":1,"a":1}`, `{"9":1,"10":1}`, `{"a":1,"B":1}`, `{"a":1,"c":1,"b":1}`, `{"\n":1}`, `{"é":1}`, "{\"\x7f\":1}",
		`{"` + strings.Repeat("n", 201) + `":1}`,
		`{"` + strings.Join(strings.Split(letters(17), ","), `":1,"`) + `":1}`,
		`[[[[[[1]]]]]]`, `[[[[[[[]]]]]]]`, `[1,[[[[[""]]]]]]`, `[[[[[{"a":1}]]]]]`, `{"a":{"a":{"a":{"a":{"a":{"a":1}}}}}}`,
		strings.Repeat("[", 4096), strings.Repeat("]", 4096), strings.Repeat("[", 2048) + strings.Repeat("]", 2048), strings.Repeat(`{"":`, 1024), strings.Repeat("{", 4096), strings.Repeat(`"`, 4096), strings.Repeat(`[1,`, 1365), strings.Repeat(" ", 4096),
	} {
		if got, e := text.Parse(s); !same(got, api.Value{}) || e != api.ErrSyntax {
			t.Errorf("Parse(%.40q) = %v, %d", s, got, e)
		}
	}
}

// TestParseLong: a text of 4096 bytes may be that of a value; how long one is, is asked ahead of what it says.
func TestParseLong(t *testing.T) { // P4.2, P1
	for n := 4000; n <= 4096; n++ {
		v := sized(n, whole(7), "7")
		s, _ := text.Print(v)
		if got, e := text.Parse(s); len(s) != n || !same(got, v) || e != api.OK {
			t.Errorf("Parse of %d bytes: %d", len(s), e)
		}
	}
	longest, _ := text.Print(sized(4096, whole(7), "7"))
	for _, c := range []struct {
		s    string
		want api.Errno
	}{
		{longest[:4095], api.ErrSyntax},
		{longest[:4095] + " ", api.ErrSyntax},
		{longest + " ", api.ErrLong},
		{longest + "]", api.ErrLong},
		{longest + longest, api.ErrLong},
		{strings.Replace(longest, "l", "ll", 1), api.ErrLong},
		{strings.Replace(longest, ",7]", ",77]", 1), api.ErrLong},
		{strings.Repeat(" ", 4096), api.ErrSyntax},
		{strings.Repeat(" ", 4097), api.ErrLong},
		{strings.Repeat("\xff", 4097), api.ErrLong},
		{strings.Repeat("[", 4097), api.ErrLong},
		{strings.Repeat("[", 1<<20), api.ErrLong},
		{strings.Repeat("0", 4097), api.ErrLong},
		{`"` + strings.Repeat("w", 4095) + `"`, api.ErrLong},
	} {
		if got, e := text.Parse(c.s); !same(got, api.Value{}) || e != c.want {
			t.Errorf("Parse of %d bytes, %.20q: %v, %d, want %d", len(c.s), c.s, got, e, c.want)
		}
	}
}

// check holds Parse against the oracle, and the way back.
func check(t *testing.T, s string) {
	t.Helper()
	want, ok := may(s)
	got, e := text.Parse(s)
	switch {
	case len(s) > 4096:
		if e != api.ErrLong || !same(got, api.Value{}) {
			t.Errorf("Parse of %d bytes = %v, %d", len(s), got, e)
		}
	case !ok:
		if e != api.ErrSyntax || !same(got, api.Value{}) {
			t.Errorf("Parse(%q) = %v, %d", s, got, e)
		}
	case e != api.OK || !same(got, want):
		t.Errorf("Parse(%q) = %v, %d, want %v", s, got, e, want)
	default:
		if again, e := text.Print(got); again != s || e != api.OK || !text.Right(got) {
			t.Errorf("Print of Parse(%q) = %q, %d", s, again, e)
		}
	}
}

// TestParseEach: each text of at most 5 of the bytes that matter.
func TestParseEach(t *testing.T) { // P4.2, P4.3
	const marks = `01"a[]{},:`
	s := make([]byte, 0, 5)
	var longer func()
	longer = func() {
		check(t, string(s))
		if len(s) == cap(s) {
			return
		}
		for i := range len(marks) {
			s = append(s, marks[i])
			longer()
			s = s[:len(s)-1]
		}
	}
	longer()
}

// TestParseNear: each text that is one byte from that of a value: cut there, taken off, put in, or another one.
func TestParseNear(t *testing.T) { // P4.2, P4.3
	const others = "019-+.eE\"\\/[]{},: \n\t\x00\x1f~\x7f\x80\xffaAbz"
	for _, c := range rights {
		if len(c.text) > 100 {
			continue
		}
		check(t, c.text)
		for i := range len(c.text) + 1 {
			check(t, c.text[:i])
			check(t, c.text[i:])
			for k := range len(others) {
				check(t, c.text[:i]+others[k:k+1]+c.text[i:])
				if i < len(c.text) {
					check(t, c.text[:i]+others[k:k+1]+c.text[i+1:])
				}
			}
			if i < len(c.text) {
				check(t, c.text[:i]+c.text[i+1:])
			}
		}
	}
}

// TestParseEachByte: which bytes a word and a name may have, and which may stand alone.
func TestParseEachByte(t *testing.T) { // P4.2, R5
	for i := range 256 {
		b := string([]byte{byte(i)})
		for _, s := range []string{b, b + "1", "1" + b, `"` + b + `"`, `"a` + b + `a"`, `{"` + b + `":1}`, `{"a":` + b + `}`, `[` + b + `]`, `[1` + b + `1]`} {
			check(t, s)
		}
	}
}

// chance is a value that may be, at most so deep.
func chance(r *rand.Rand, deep int) api.Value {
	kind := 1 + r.Intn(4)
	if deep == 1 && r.Intn(4) > 0 {
		kind = 1 + r.Intn(2)
	}
	n := 0
	if deep > 1 {
		n = r.Intn(5)
	}
	v := api.Value{Kind: kind}
	switch kind {
	case api.VWhole:
		v.N = r.Intn(most+1) >> r.Intn(41)
	case api.VWord:
		v.S = chanceWord(r)
	case api.VObj:
		names := map[string]int{}
		for range n {
			names[chanceWord(r)]++
		}
		v.Names = slices.Sorted(maps.Keys(names))
		n = len(v.Names)
		fallthrough
	case api.VRow:
		for range n {
			v.Items = append(v.Items, chance(r, deep-1))
		}
	}
	return v
}

func chanceWord(r *rand.Rand) string {
	const letters = " !#$%&'()*+,-./0123456789:;<=>?@AZ[]^_`az{|}~"
	b := make([]byte, r.Intn(4))
	for i := range b {
		b[i] = letters[r.Intn(len(letters))]
	}
	return string(b)
}

// TestThereAndBack: what is printed is parsed, and is like what it was; no other value has its text.
func TestThereAndBack(t *testing.T) { // P4.3, P7
	r := rand.New(rand.NewSource(4))
	texts := map[string]api.Value{}
	for range 20000 {
		v := chance(r, 6)
		if !text.Right(v) {
			t.Fatalf("not right: %v", v)
		}
		s, e := text.Print(v)
		if e == api.ErrLong {
			continue
		}
		got, f := text.Parse(s)
		if e != api.OK || f != api.OK || !same(got, v) || !text.Like(got, v) {
			t.Fatalf("%q, %d, %d: %v is not %v", s, e, f, got, v)
		}
		if w, is := texts[s]; is && !same(v, w) {
			t.Fatalf("%q is the text of %v and of %v", s, v, w)
		}
		texts[s] = v
	}
	if len(texts) < 5000 {
		t.Errorf("%d texts alone", len(texts))
	}
}

// TestLike: each value that is told of here against each other one.
func TestLike(t *testing.T) { // P4.1, P1, R3
	var all []api.Value
	for _, c := range rights {
		all = append(all, c.v)
	}
	for _, c := range wrongs {
		if !strings.Contains(c.name, "without an end") {
			all = append(all, c.v)
		}
	}
	for i, v := range all {
		for k, w := range all {
			// those with themselves, and the empty lists that are nil with those that are not
			want := i == k || len(v.Items)+len(w.Items)+len(v.Names)+len(w.Names) == 0 && v.Kind == w.Kind && v.N == w.N && v.S == w.S
			if got := text.Like(v, w); got != want {
				t.Errorf("Like of %d and %d: %t", i, k, got)
			}
		}
	}
}

// TestLikeEachField: what two differ in, be it alone, or in their last items, or deep in them; no kind leaves a field out.
func TestLikeEachField(t *testing.T) { // P4.1
	for kind := -1; kind <= 5; kind++ {
		make1 := func() api.Value {
			return api.Value{Kind: kind, N: 3, S: "s", Items: []api.Value{whole(1), row(word("x"), whole(2))}, Names: []string{"a", "b"}}
		}
		for name, change := range map[string]func(v *api.Value){
			"kind":          func(v *api.Value) { v.Kind += 10 },
			"number":        func(v *api.Value) { v.N = -v.N },
			"word":          func(v *api.Value) { v.S = "S" },
			"longer word":   func(v *api.Value) { v.S += "\x00" },
			"first name":    func(v *api.Value) { v.Names[0] = "A" },
			"last name":     func(v *api.Value) { v.Names[1] = "" },
			"names' order":  func(v *api.Value) { v.Names[0], v.Names[1] = v.Names[1], v.Names[0] },
			"fewer names":   func(v *api.Value) { v.Names = v.Names[:1] },
			"more names":    func(v *api.Value) { v.Names = append(v.Names, "") },
			"no names":      func(v *api.Value) { v.Names = nil },
			"first item":    func(v *api.Value) { v.Items[0].N++ },
			"last item":     func(v *api.Value) { v.Items[1].Kind = api.VObj },
			"deep item":     func(v *api.Value) { v.Items[1].Items[1].N++ },
			"deep word":     func(v *api.Value) { v.Items[1].Items[0].S = "y" },
			"deep names":    func(v *api.Value) { v.Items[1].Names = []string{""} },
			"items' order":  func(v *api.Value) { v.Items[0], v.Items[1] = v.Items[1], v.Items[0] },
			"fewer items":   func(v *api.Value) { v.Items = v.Items[:1] },
			"more items":    func(v *api.Value) { v.Items = append(v.Items, api.Value{}) },
			"no items":      func(v *api.Value) { v.Items = []api.Value{} },
			"fewer, deeper": func(v *api.Value) { v.Items[1].Items = v.Items[1].Items[:1] },
		} {
			v, w := make1(), make1()
			if !text.Like(v, w) || !text.Like(row(v), row(w)) {
				t.Fatalf("kind %d: not like itself", kind)
			}
			change(&w)
			if text.Like(v, w) || text.Like(w, v) || text.Like(around(v, 9), around(w, 9)) {
				t.Errorf("kind %d: like one of another %s", kind, name)
			}
		}
	}
	a, b := around(row(), 1<<15), around(object(""), 1<<15)
	if text.Like(a, b) || text.Like(b, a) || !text.Like(b, b) {
		t.Error("deep ones")
	}
}

func TestGet(t *testing.T) { // P4.2, R2
	v := object("a,b,c,d", whole(7), word("x"), row(whole(1), row()), object("a", word("inner")))
	for _, c := range []struct {
		name string
		kind int
		want api.Value
	}{
		{"a", api.VWhole, v.Items[0]},
		{"b", api.VWord, v.Items[1]},
		{"c", api.VRow, v.Items[2]},
		{"d", api.VObj, v.Items[3]},
	} {
		for kind := -1; kind <= 5; kind++ {
			got, e := text.Get(v, c.name, kind)
			if kind == c.kind && (!same(got, c.want) || e != api.OK) {
				t.Errorf("Get(%s, %d) = %v, %d", c.name, kind, got, e)
			}
			if kind != c.kind && (!same(got, api.Value{}) || e != api.ErrSchema) {
				t.Errorf("Get(%s, %d) = %v, %d", c.name, kind, got, e)
			}
		}
	}
	for _, name := range []string{"", "A", "aa", "e", "a\x00", `"a"`, "inner"} {
		for kind := -1; kind <= 5; kind++ {
			if got, e := text.Get(v, name, kind); !same(got, api.Value{}) || e != api.ErrSchema {
				t.Errorf("Get(%q, %d) = %v, %d", name, kind, got, e)
			}
		}
	}
}

// TestGetOdd: of what may not be, too: it has to be an object with as many names as items, and no more.
func TestGetOdd(t *testing.T) { // P4.2, P1
	items := []api.Value{whole(1), word("x"), whole(2)}
	for _, c := range []struct {
		name string
		v    api.Value
		get  string
		kind int
		want api.Value
		e    api.Errno
	}{
		{"names in no order", object("c,b,a", items...), "a", api.VWhole, whole(2), api.OK},
		{"the first of a name twice", object("a,b,a", items...), "a", api.VWhole, whole(1), api.OK},
		{"the first of a name twice, of another kind", object("b,a,a", items...), "a", api.VWhole, api.Value{}, api.ErrSchema},
		{"the first of a name twice, of that kind", object("b,a,a", items...), "a", api.VWord, word("x"), api.OK},
		{"a name that may not be", object("a,\n,c", items...), "\n", api.VWord, word("x"), api.OK},
		{"an empty name", object("a,,c", items...), "", api.VWord, word("x"), api.OK},
		{"a number and a word beside", api.Value{Kind: api.VObj, N: -1, S: "\n", Items: items, Names: []string{"a", "b", "c"}}, "c", api.VWhole, whole(2), api.OK},
		{"a member that may not be", object("a", whole(-1)), "a", api.VWhole, whole(-1), api.OK},
		{"a member of no kind", object("a", api.Value{N: 4}), "a", 0, api.Value{N: 4}, api.OK},
		{"a member of kind 9", object("a", api.Value{Kind: 9}), "a", 9, api.Value{Kind: 9}, api.OK},
		{"20 members", object(letters(20), many(20, whole(5))...), "t", api.VWhole, whole(5), api.OK},
		{"a deep member", object("a", around(row(), 1<<10)), "a", api.VRow, around(row(), 1<<10), api.OK},
		{"too few names", api.Value{Kind: api.VObj, Items: items, Names: []string{"a", "b"}}, "a", api.VWhole, api.Value{}, api.ErrSchema},
		{"too many names", api.Value{Kind: api.VObj, Items: items[:1], Names: []string{"a", "b"}}, "a", api.VWhole, api.Value{}, api.ErrSchema},
		{"the name that has no item", api.Value{Kind: api.VObj, Items: items[:1], Names: []string{"a", "b"}}, "b", api.VWhole, api.Value{}, api.ErrSchema},
		{"names alone", api.Value{Kind: api.VObj, Names: []string{"a"}}, "a", 0, api.Value{}, api.ErrSchema},
		{"an empty object", object(""), "", 0, api.Value{}, api.ErrSchema},
		{"a row", api.Value{Kind: api.VRow, Items: items, Names: []string{"a", "b", "c"}}, "a", api.VWhole, api.Value{}, api.ErrSchema},
		{"a word", api.Value{Kind: api.VWord, S: "a", Items: items, Names: []string{"a", "b", "c"}}, "a", api.VWhole, api.Value{}, api.ErrSchema},
		{"a number", whole(1), "a", api.VWhole, api.Value{}, api.ErrSchema},
		{"no kind", api.Value{Items: items, Names: []string{"a", "b", "c"}}, "a", api.VWhole, api.Value{}, api.ErrSchema},
		{"nothing", api.Value{}, "", 0, api.Value{}, api.ErrSchema},
		{"kind 5", api.Value{Kind: 5, Items: items, Names: []string{"a", "b", "c"}}, "a", api.VWhole, api.Value{}, api.ErrSchema},
	} {
		if got, e := text.Get(c.v, c.get, c.kind); !same(got, c.want) || e != c.e {
			t.Errorf("%s: %v, %d", c.name, got, e)
		}
	}
}

// TestKeepsNothing: no call changes what it is handed, nor does an answer hang on an earlier one.
func TestKeepsNothing(t *testing.T) { // R1, R4
	for _, c := range rights {
		before := clone(c.v)
		text.Right(c.v)
		text.Print(c.v)
		text.Like(c.v, before)
		for _, n := range c.v.Names {
			text.Get(c.v, n, api.VWhole)
		}
		if !same(c.v, before) {
			t.Errorf("%s: changed", c.text)
		}
		first, _ := text.Parse(c.text)
		spoil(first)
		if second, e := text.Parse(c.text); !same(second, before) || e != api.OK {
			t.Errorf("Parse(%s) = %v, %d, once another answer was changed", c.text, second, e)
		}
	}
}

func spoil(v api.Value) {
	for i := range v.Items {
		spoil(v.Items[i])
		v.Items[i] = api.Value{}
	}
	for i := range v.Names {
		v.Names[i] = "spoilt"
	}
}

// FuzzText: Parse against the library's reader, at any text.
func FuzzText(f *testing.F) { // P4.2, P4.3, P1
	for _, c := range rights {
		f.Add(c.text)
	}
	f.Add(strings.Repeat("[", 4097))
	f.Fuzz(check)
}
