package blob_test

import (
	"fmt"
	"slices"
	"strconv"
	"strings"
	"testing"

	"consignor/api"
	"consignor/blob"
	"consignor/digest"
)

// mixture is n bytes that go through all of them, other ones for another number.
func mixture(n, number int) string {
	b := make([]byte, n)
	for i := range b {
		b[i] = byte(i*7 + i/251 + number)
	}
	return string(b)
}

// object is data by its own digest.
func object(s string) api.Object { return api.Object{Digest: of(s), Data: s} }

// holding is blobs of a quota that has room for much, with these data as objects.
func holding(data ...string) api.Blobs {
	b := api.Blobs{Quota: 1 << 20, Last: 9}
	for _, s := range data {
		b.Objects = append(b.Objects, object(s))
	}
	return b
}

// coming is blobs with uploads of these bytes, of every other number from 2 on.
func coming(b api.Blobs, data ...string) api.Blobs {
	b = copied(b)
	for i, s := range data {
		b.Uploads = append(b.Uploads, api.Upload{Id: 2*i + 2, Data: s})
	}
	b.Last = 2*len(data) + 3
	return b
}

// few are so many short data that all differ.
func few(n int) []string {
	var l []string
	for i := range n {
		l = append(l, "data "+strconv.Itoa(i))
	}
	return l
}

// checkRight holds Right against the chapter's words.
func checkRight(t *testing.T, b api.Blobs) bool {
	t.Helper()
	want := right(b)
	if got := blob.Right(b); got != want {
		t.Errorf("Right of %s = %v", tell(b), got)
	}
	if !want {
		checkRefused(t, b)
	}
	return want
}

// checkRefused holds that all calls but New and Right tell ErrArg of blobs that may not be, whatever else is right or wrong.
func checkRefused(t *testing.T, b api.Blobs) {
	t.Helper()
	d, id := of("x"), 1
	if len(b.Objects) > 0 {
		d = b.Objects[0].Digest
	}
	if len(b.Uploads) > 0 {
		id = b.Uploads[0].Id
	}
	checkRefusals(t, b, id, 0, d, "y", 0)
	checkRefusals(t, b, -1, -1, "x", strings.Repeat("y", 4097), -1)
}

func checkRefusals(t *testing.T, b api.Blobs, id, offset int, d, data string, many int) {
	t.Helper()
	check := func(call string, zero bool, e api.Errno) {
		if e != api.ErrArg || !zero {
			t.Errorf("%s of %s: %d, and its answer is zero: %v", call, tell(b), e, zero)
		}
	}
	n, e := blob.Size(b, d)
	check("Size", n == 0, e)
	s, e := blob.Read(b, d, offset, many)
	check("Read", s == "", e)
	n, e = blob.Offset(b, id)
	check("Offset", n == 0, e)
	c, n, e := blob.Begin(b)
	check("Begin", same(c, api.Blobs{}) && n == 0, e)
	c, e = blob.Push(b, id, offset, data)
	check("Push", same(c, api.Blobs{}), e)
	c, e = blob.End(b, id, d)
	check("End", same(c, api.Blobs{}), e)
	c, e = blob.Drop(b, id)
	check("Drop", same(c, api.Blobs{}), e)
}

// checkCalls holds all calls that blobs are handed to against the chapter's words.
func checkCalls(t *testing.T, b api.Blobs, id, offset int, d, data string, many int) {
	t.Helper()
	before := copied(b)
	checkSize(t, b, d)
	checkRead(t, b, d, offset, many)
	checkBegin(t, b)
	checkPush(t, b, id, offset, data)
	checkOffset(t, b, id)
	checkEnd(t, b, id, d)
	checkDrop(t, b, id)
	if !same(b, before) {
		t.Errorf("%s is %s, once it was handed in", tell(before), tell(b))
	}
}

// checkAnswer holds blobs that a call answers against those that it should, and that they may be.
func checkAnswer(t *testing.T, got, want api.Blobs, e, wantErr api.Errno, call string, args ...any) {
	t.Helper()
	if !same(got, want) || e != wantErr {
		t.Errorf("%s%v = %s, %d, want %s, %d", call, args, tell(got), e, tell(want), wantErr)
	}
	if e == api.OK && !blob.Right(got) {
		t.Errorf("%s%v = %s, which may not be", call, args, tell(got))
	}
}

func checkSize(t *testing.T, b api.Blobs, d string) {
	t.Helper()
	want, wantErr := sizeOf(b, d)
	if got, e := blob.Size(b, d); got != want || e != wantErr {
		t.Errorf("Size(%s, %.80q) = %d, %d, want %d, %d", tell(b), d, got, e, want, wantErr)
	}
}

func checkRead(t *testing.T, b api.Blobs, d string, from, many int) (string, api.Errno) {
	t.Helper()
	want, wantErr := readOf(b, d, from, many)
	got, e := blob.Read(b, d, from, many)
	if got != want || e != wantErr {
		t.Errorf("Read(%s, %.80q, %d, %d) = %.80q, %d, want %.80q, %d", tell(b), d, from, many, got, e, want, wantErr)
	}
	return got, e
}

func checkBegin(t *testing.T, b api.Blobs) (api.Blobs, api.Errno) {
	t.Helper()
	want, wantId, wantErr := begun(b)
	got, id, e := blob.Begin(b)
	checkAnswer(t, got, want, e, wantErr, "Begin", told(b))
	if id != wantId {
		t.Errorf("Begin(%s) begins %d, want %d", tell(b), id, wantId)
	}
	return got, e
}

func checkPush(t *testing.T, b api.Blobs, id, offset int, data string) (api.Blobs, api.Errno) {
	t.Helper()
	want, wantErr := pushed(b, id, offset, data)
	got, e := blob.Push(b, id, offset, data)
	checkAnswer(t, got, want, e, wantErr, "Push", told(b), id, offset, len(data))
	return got, e
}

func checkOffset(t *testing.T, b api.Blobs, id int) api.Errno {
	t.Helper()
	want, wantErr := offsetOf(b, id)
	got, e := blob.Offset(b, id)
	if got != want || e != wantErr {
		t.Errorf("Offset(%s, %d) = %d, %d, want %d, %d", tell(b), id, got, e, want, wantErr)
	}
	return e
}

func checkEnd(t *testing.T, b api.Blobs, id int, d string) (api.Blobs, api.Errno) {
	t.Helper()
	want, wantErr := ended(b, id, d)
	got, e := blob.End(b, id, d)
	checkAnswer(t, got, want, e, wantErr, "End", told(b), id, d)
	return got, e
}

func checkDrop(t *testing.T, b api.Blobs, id int) (api.Blobs, api.Errno) {
	t.Helper()
	want, wantErr := droppedOf(b, id)
	got, e := blob.Drop(b, id)
	checkAnswer(t, got, want, e, wantErr, "Drop", told(b), id)
	return got, e
}

func TestNew(t *testing.T) { // P11.1, R2, P1
	check := func(n int) {
		b, e := blob.New(n)
		if n < 0 || n > 1<<20 {
			if !same(b, api.Blobs{}) || e != api.ErrArg {
				t.Errorf("New(%d) = %s, %d", n, tell(b), e)
			}
			return
		}
		if !same(b, api.Blobs{Quota: n}) || e != api.OK {
			t.Errorf("New(%d) = %s, %d", n, tell(b), e)
		}
		if !checkRight(t, b) {
			t.Errorf("New(%d) may not be", n)
		}
	}
	for n := -300; n <= 300; n++ {
		check(n)
		check(1<<20 + n)
		check(1<<18 + n)
	}
	for _, n := range wild {
		check(n)
	}
}

func TestRightObjects(t *testing.T) { // P11.1, R3
	rights := 0
	for n := range 130 {
		if checkRight(t, holding(few(n)...)) {
			rights++
		}
	}
	if rights != 65 {
		t.Errorf("blobs of %d counts of objects may be", rights)
	}
	for _, count := range []int{1, 2, 64} {
		for place := range count {
			for _, long := range []int{0, 1, 55, 56, 64, 4095, 4096, 4097, 8192} {
				b := holding(few(count)...)
				b.Objects[place] = object(mixture(long, place))
				if checkRight(t, b) != (long <= 4096) {
					t.Errorf("%d objects, the one at %d of %d bytes", count, place, long)
				}
			}
		}
	}
	for _, b := range []api.Blobs{{}, {Objects: []api.Object{}, Uploads: []api.Upload{}}} {
		if !checkRight(t, b) {
			t.Errorf("blobs of which there are none may not be")
		}
	}
}

// TestRightDigests: each object fits its digest.
func TestRightDigests(t *testing.T) { // P11.1
	x := of("x")
	wrong := []string{"", "x", "sha256:", x[:70], x + "0", " " + x, strings.ToUpper(x), "sha256:" + strings.ToUpper(x[7:]), "sha512:" + x[7:], x[7:], "sha256:" + strings.Repeat("g", 64), of("y"), of("")}
	for _, count := range []int{1, 3, 64} {
		for place := 0; place < count; place += 1 + count/9 {
			for _, d := range wrong {
				b := holding(few(count)...)
				b.Objects[place] = api.Object{Digest: d, Data: "x"}
				if checkRight(t, b) {
					t.Errorf("%d objects, the digest at %d is %q", count, place, d)
				}
			}
			b := holding(few(count)...)
			b.Objects[place].Data += "x"
			if checkRight(t, b) {
				t.Errorf("%d objects, the data at %d is another one", count, place)
			}
		}
	}
}

// TestRightTwice: no digest stands twice, wherever.
func TestRightTwice(t *testing.T) { // P11.1
	for _, count := range []int{2, 3, 9, 64} {
		for place := range count {
			for other := place % 5; other < count; other += 1 + count/9 {
				b := holding(few(count)...)
				b.Objects[place] = b.Objects[other]
				if checkRight(t, b) != (place == other) {
					t.Errorf("%d objects, the one at %d stands at %d, too", count, other, place)
				}
			}
		}
	}
}

// TestRightQuota: the objects' bytes are at most the quota, which has bounds of its own.
func TestRightQuota(t *testing.T) { // P11.1
	for _, data := range [][]string{nil, {""}, {"x"}, {"ab", "c"}, few(64), {mixture(4096, 1), mixture(4096, 2), "z"}} {
		b := holding(data...)
		bytes := len(strings.Join(data, ""))
		for _, quota := range []int{-1, 0, 1, bytes - 1, bytes, bytes + 1, 1<<20 - 1, 1 << 20, 1<<20 + 1} {
			b.Quota = quota
			if checkRight(t, b) != (max(bytes, 0) <= quota && quota <= 1<<20) {
				t.Errorf("%d bytes, a quota of %d", bytes, quota)
			}
		}
		for _, quota := range wild {
			b.Quota = quota
			if checkRight(t, b) {
				t.Errorf("a quota of %d may be", quota)
			}
		}
	}
	// the bytes of uploads count for none
	b := coming(holding("ab"), mixture(4096, 1), "x")
	for _, quota := range []int{1, 2, 3} {
		b.Quota = quota
		if checkRight(t, b) != (quota >= 2) {
			t.Errorf("2 bytes of objects, more of uploads, a quota of %d", quota)
		}
	}
}

// TestRightAll: as much as may be at all: all objects and uploads of all bytes.
func TestRightAll(t *testing.T) { // P11.1, P11.3
	var data []string
	for i := range 64 {
		data = append(data, mixture(4096, i))
	}
	b := coming(holding(data...), slices.Repeat([]string{mixture(4096, 1)}, 16)...)
	for _, quota := range []int{1<<18 - 1, 1 << 18, 1 << 20} {
		b.Quota = quota
		if checkRight(t, b) != (quota >= 1<<18) {
			t.Errorf("all of 2^18 bytes, a quota of %d", quota)
		}
	}
	checkCalls(t, b, 2, 4096, of(data[1]), "", 4096)
	if got, e := checkEnd(t, b, 2, of(data[1])); e != api.OK || len(got.Objects) != 64 || len(got.Uploads) != 15 {
		t.Errorf("End of what is there already: %s, %d", tell(got), e)
	}
}

func TestRightUploads(t *testing.T) { // P11.1
	rights := 0
	for n := range 40 {
		if checkRight(t, coming(holding("x"), few(n)...)) {
			rights++
		}
	}
	if rights != 17 {
		t.Errorf("blobs of %d counts of uploads may be", rights)
	}
	for _, count := range []int{1, 2, 16} {
		for place := range count {
			for _, long := range []int{0, 1, 4095, 4096, 4097, 8192} {
				b := coming(holding("x"), few(count)...)
				b.Uploads[place].Data = mixture(long, 1)
				if checkRight(t, b) != (long <= 4096) {
					t.Errorf("%d uploads, the one at %d of %d bytes", count, place, long)
				}
			}
			checkEachId(t, coming(holding("x"), few(count)...), place)
		}
	}
	// the same bytes may come twice
	if !checkRight(t, coming(holding("x"), "x", "y", "y")) {
		t.Errorf("two uploads of the same bytes may not be")
	}
}

// checkEachId gives an upload each number, where those around it have every other one from 2 on.
func checkEachId(t *testing.T, b api.Blobs, place int) {
	t.Helper()
	for id := -3; id <= b.Last+3; id++ {
		c := copied(b)
		c.Uploads[place].Id = id
		low, high := max(1, 2*place+1), 2*place+3
		if place == len(b.Uploads)-1 {
			high = b.Last
		}
		if checkRight(t, c) != (low <= id && id <= high) {
			t.Errorf("%s: the upload at %d is %d", tell(c), place, id)
		}
	}
	for _, id := range wild {
		c := copied(b)
		c.Uploads[place].Id = id
		if checkRight(t, c) {
			t.Errorf("%s: the upload at %d is %d", tell(c), place, id)
		}
	}
}

// TestRightLast: Last has bounds of its own, and is that of the last upload at least.
func TestRightLast(t *testing.T) { // P11.1
	for _, uploads := range [][]api.Upload{nil, {{Id: 1}}, {{Id: 1}, {Id: 5}}, {{Id: 3}, {Id: 1 << 40}}} {
		high := 0
		for _, u := range uploads {
			high = u.Id
		}
		for _, last := range []int{-2, -1, 0, 1, 2, 4, 5, 6, 1<<40 - 1, 1 << 40, 1<<40 + 1} {
			if checkRight(t, api.Blobs{Uploads: uploads, Last: last}) != (max(high, 0) <= last && last <= 1<<40) {
				t.Errorf("uploads up to %d, Last is %d", high, last)
			}
		}
		for _, last := range wild {
			if checkRight(t, api.Blobs{Uploads: uploads, Last: last}) {
				t.Errorf("Last is %d", last)
			}
		}
	}
	if checkRight(t, api.Blobs{Uploads: []api.Upload{{Id: 1<<40 + 1}}, Last: 1<<40 + 1}) {
		t.Errorf("an upload of 2^40 + 1 may be")
	}
}

func TestSize(t *testing.T) { // P11.1, R2
	data := []string{"", "x", "abc", mixture(4096, 1), mixture(4095, 2)}
	b := coming(holding(data...), "uploaded")
	for _, s := range data {
		if got, e := blob.Size(b, of(s)); got != len(s) || e != api.OK {
			t.Errorf("Size of %d bytes: %d, %d", len(s), got, e)
		}
		if got, e := blob.Size(b, digest.Of(s)); got != len(s) || e != api.OK {
			t.Errorf("Size of %d bytes: %d, %d", len(s), got, e)
		}
	}
	x := of("x")
	for _, d := range []string{"", "x", x[:70], x + "0", strings.ToUpper(x), x[7:], of("y"), of("uploaded")} {
		if got, e := blob.Size(b, d); got != 0 || e != api.ErrNone {
			t.Errorf("Size of %q: %d, %d", d, got, e)
		}
		if got, e := blob.Read(b, d, -1, -1); got != "" || e != api.ErrNone {
			t.Errorf("Read of %q: %q, %d", d, got, e)
		}
	}
}

// TestRead: each place and count of a few bytes, and those that are no such at all.
func TestRead(t *testing.T) { // P11.1, R2, P1
	data := []string{"", "a", "abcdef", "\x00\xff\xc3\xa9\n", mixture(4096, 3)}
	b := holding(data...)
	for _, s := range data {
		for _, from := range around(0, len(s)) {
			for _, many := range around(0, len(s)) {
				got, e := checkRead(t, b, of(s), from, many)
				if wrong := from < 0 || from > len(s) || many < 0; wrong != (e == api.ErrRange) || !wrong && got != s[from:min(len(s), from+min(many, len(s)))] {
					t.Errorf("Read(.., %d, %d) of %.20q = %.20q, %d", from, many, s, got, e)
				}
			}
		}
	}
}

// around are the numbers around these, and those that are far off.
func around(numbers ...int) []int {
	l := slices.Clone(wild)
	for _, n := range numbers {
		for m := n - 7; m <= n+7; m++ {
			l = append(l, m)
		}
	}
	return l
}

// TestBegin: of each number of uploads, and at each edge of Last.
func TestBegin(t *testing.T) { // P11.2, R2
	for n := range 17 {
		b := coming(holding("x", "y"), few(n)...)
		for _, last := range []int{b.Last, b.Last + 1, 1<<40 - 2, 1<<40 - 1, 1 << 40} {
			b.Last = last
			got, e := checkBegin(t, b)
			switch {
			case n == 16 || last == 1<<40:
				if !same(got, api.Blobs{}) || e != api.ErrFull {
					t.Errorf("Begin of %s = %s, %d", tell(b), tell(got), e)
				}
			case e != api.OK || got.Last != last+1 || got.Uploads[n] != (api.Upload{Id: last + 1}) || !slices.Equal(got.Uploads[:n], b.Uploads):
				t.Errorf("Begin of %s = %s, %d", tell(b), tell(got), e)
			}
		}
	}
	b := api.Blobs{}
	for n := range 16 {
		var id int
		var e api.Errno
		if b, id, e = blob.Begin(b); id != n+1 || e != api.OK {
			t.Errorf("Begin number %d: %d, %d", n, id, e)
		}
	}
}

// TestNumbersNew: a number is never told again, whatever becomes of its upload.
func TestNumbersNew(t *testing.T) { // P11.2, P11.4
	b := holding()
	b.Last = 0
	for n := 1; n <= 100; n++ {
		next, id, e := blob.Begin(b)
		if id != n || e != api.OK {
			t.Fatalf("Begin number %d: %d, %d", n, id, e)
		}
		if n%3 == 0 {
			b, e = checkEnd(t, next, id, of(""))
		} else {
			b, e = checkDrop(t, next, id)
		}
		if e != api.OK || len(b.Uploads) != 0 || b.Last != n {
			t.Fatalf("%s, %d", tell(b), e)
		}
	}
}

// TestPush: each offset around the bytes that came, with each length around what there is room for.
func TestPush(t *testing.T) { // P11.2, R2, P1
	for _, came := range []int{0, 1, 16, 2048, 4095, 4096} {
		b := coming(holding("x"), "other", mixture(came, 1), "another")
		for _, long := range []int{0, 1, 16, 4096 - came - 1, 4096 - came, 4096 - came + 1, 4096, 4097, 10000} {
			if long < 0 {
				continue
			}
			data := mixture(long, 2)
			for _, offset := range append(around(0, came, came+long), 4096, 4097) {
				got, e := checkPush(t, b, 4, offset, data)
				want := api.OK
				switch {
				case offset != came:
					want = api.ErrRange
				case came+long > 4096:
					want = api.ErrLong
				}
				if e != want || e == api.OK && got.Uploads[1].Data != mixture(came, 1)+data {
					t.Errorf("Push of %d bytes at %d, where %d came: %d", long, offset, came, e)
				}
			}
		}
	}
}

// TestQuotaOfPush: neither Begin nor Push asks for room: only what is kept needs it.
func TestQuotaOfPush(t *testing.T) { // P11.2, P11.3
	b, e := blob.New(0)
	if b, e = checkBegin(t, b); e != api.OK {
		t.Fatal(e)
	}
	if b, e = checkPush(t, b, 1, 0, "x"); e != api.OK {
		t.Fatal(e)
	}
	if _, e = checkEnd(t, b, 1, of("x")); e != api.ErrQuota {
		t.Errorf("End of a byte, where there is room for none: %d", e)
	}
}

// TestIds: calls with an id find just the upload of it, each at its place.
func TestIds(t *testing.T) { // P11.2, P11.3, R2
	for _, count := range []int{0, 1, 2, 16} {
		b := coming(holding("x", "data 1"), few(count)...)
		for _, id := range around(0, b.Last) {
			i := id/2 - 1
			there := id > 0 && id%2 == 0 && i < count
			want := api.ErrNone
			if there {
				want = api.OK
			}
			if e := checkOffset(t, b, id); e != want {
				t.Errorf("Offset of %d: %d, want %d", id, e, want)
			}
			if got, e := checkDrop(t, b, id); e != want || there && !slices.Equal(got.Uploads, slices.Concat(b.Uploads[:i], b.Uploads[i+1:])) {
				t.Errorf("Drop of %d = %s, %d, want %d", id, tell(got), e, want)
			}
			d, offset := of("nothing"), 0
			if there {
				d, offset = of(b.Uploads[i].Data), len(b.Uploads[i].Data)
			}
			if _, e := checkPush(t, b, id, offset, "y"); e != want {
				t.Errorf("Push of %d: %d, want %d", id, e, want)
			}
			if _, e := checkEnd(t, b, id, d); e != want {
				t.Errorf("End of %d: %d, want %d", id, e, want)
			}
			if there {
				continue
			}
			// ahead of all else that is wrong
			checkCalls(t, b, id, -1, "x", strings.Repeat("y", 5000), -1)
			if _, e := blob.End(b, id, "x"); e != api.ErrNone {
				t.Errorf("End of %d, by no digest: %d", id, e)
			}
			if _, e := blob.Push(b, id, -1, strings.Repeat("y", 5000)); e != api.ErrNone {
				t.Errorf("Push of %d, at no offset: %d", id, e)
			}
		}
	}
}

// TestEndErrors: which error comes first, where several apply.
func TestEndErrors(t *testing.T) { // P11.3, R2
	x, y := of("x"), of("y")
	full, tight := holding(few(64)...), holding("ab", "c")
	tight.Quota = 3
	both := holding(few(64)...)
	both.Quota = len(strings.Join(few(64), ""))
	for _, c := range []struct {
		what string
		b    api.Blobs
		data string
		d    string
		want api.Errno
	}{
		{"room", holding("a"), "x", x, api.OK},
		{"no digest", holding("a"), "x", "x", api.ErrSyntax},
		{"no digest, an empty one", holding("a"), "", "", api.ErrSyntax},
		{"too few digits", holding("a"), "x", x[:70], api.ErrSyntax},
		{"too many digits", holding("a"), "x", x + "0", api.ErrSyntax},
		{"great digits", holding("a"), "x", "sha256:" + strings.ToUpper(x[7:]), api.ErrSyntax},
		{"another prefix", holding("a"), "x", "sha512:" + x[7:], api.ErrSyntax},
		{"no digest, all full", both, "x", "x", api.ErrSyntax},
		{"no digest, though there", holding("x"), "x", x[7:], api.ErrSyntax},
		{"another digest", holding("a"), "x", y, api.ErrDigest},
		{"another digest, all full", both, "x", y, api.ErrDigest},
		{"another digest that is there", holding("x", "y"), "x", y, api.ErrDigest},
		{"another digest that is there, all full", both, "x", both.Objects[5].Digest, api.ErrDigest},
		{"64 objects", full, "x", x, api.ErrFull},
		{"64 objects, and no byte more", full, "", of(""), api.ErrFull},
		{"64 objects, and no quota left", both, "x", x, api.ErrFull},
		{"64 objects, one of it", both, "data 63", of("data 63"), api.OK},
		{"63 objects", holding(few(63)...), "x", x, api.OK},
		{"no quota left", tight, "x", x, api.ErrQuota},
		{"no quota left, and no byte more", tight, "", of(""), api.OK},
		{"no quota left, an object of it", tight, "ab", of("ab"), api.OK},
		{"no quota left, the other object of it", tight, "c", of("c"), api.OK},
	} {
		if !right(c.b) {
			t.Errorf("%s: blobs that may not be", c.what)
		}
		for _, more := range [][]string{nil, {"z"}, few(15)} {
			b := coming(c.b, append([]string{c.data}, more...)...)
			got, e := checkEnd(t, b, 2, c.d)
			if e != c.want || e == api.OK && !slices.Equal(got.Uploads, b.Uploads[1:]) {
				t.Errorf("%s: %s, %d, want %d", c.what, tell(got), e, c.want)
			}
		}
	}
}

// TestEndQuota: at each quota around the bytes that there would be.
func TestEndQuota(t *testing.T) { // P11.3
	for _, there := range []string{"", "a", "abc", mixture(4096, 1)} {
		for _, comes := range []string{"x", "xyz", mixture(4096, 2)} {
			b := coming(holding(there), "other", comes)
			bytes := len(there) + len(comes)
			for quota := bytes - 4; quota <= bytes+4; quota++ {
				b.Quota = quota
				if quota < len(there) {
					continue
				}
				got, e := checkEnd(t, b, 4, of(comes))
				if quota < bytes {
					if !same(got, api.Blobs{}) || e != api.ErrQuota {
						t.Errorf("%d bytes, a quota of %d: %s, %d", bytes, quota, tell(got), e)
					}
					continue
				}
				if e != api.OK || !slices.Equal(got.Objects, []api.Object{object(there), object(comes)}) || len(got.Uploads) != 1 {
					t.Errorf("%d bytes, a quota of %d: %s, %d", bytes, quota, tell(got), e)
				}
			}
		}
	}
}

// TestEndThere: what is there already is kept once, where it stands.
func TestEndThere(t *testing.T) { // P11.3
	for n := range 5 {
		s := few(5)[n]
		b := coming(holding(few(5)...), "other", s, s)
		got, e := checkEnd(t, b, 4, of(s))
		if e != api.OK || !slices.Equal(got.Objects, b.Objects) || !slices.Equal(got.Uploads, []api.Upload{b.Uploads[0], b.Uploads[2]}) {
			t.Errorf("End of object %d = %s, %d", n, tell(got), e)
		}
		if got, e = checkEnd(t, got, 6, of(s)); e != api.OK || !slices.Equal(got.Objects, b.Objects) || len(got.Uploads) != 1 {
			t.Errorf("End of object %d again = %s, %d", n, tell(got), e)
		}
		if _, e = checkEnd(t, got, 6, of(s)); e != api.ErrNone {
			t.Errorf("End of what is gone: %d", e)
		}
	}
}

func TestExample(t *testing.T) { // P11.2, P11.3, the chapter's example
	b, e := blob.New(3)
	if b, e = checkBegin(t, b); e != api.OK {
		t.Fatal(e)
	}
	if b, e = checkPush(t, b, 1, 0, "ab"); e != api.OK {
		t.Fatal(e)
	}
	if b, e = checkPush(t, b, 1, 2, "c"); e != api.OK {
		t.Fatal(e)
	}
	if b, e = checkEnd(t, b, 1, of("abc")); e != api.OK {
		t.Fatal(e)
	}
	if n, e := blob.Size(b, of("abc")); n != 3 || e != api.OK {
		t.Errorf("Size: %d, %d", n, e)
	}
}

func Example() {
	b, _ := blob.New(100)
	b, id, _ := blob.Begin(b)
	b, _ = blob.Push(b, id, 0, "ab")
	b, _ = blob.Push(b, id, 2, "c")
	b, _ = blob.End(b, id, digest.Of("abc"))
	n, _ := blob.Size(b, digest.Of("abc"))
	s, e := blob.Read(b, digest.Of("abc"), 1, 9)
	fmt.Println(n, s, e)
	// Output: 3 bc 0
}
