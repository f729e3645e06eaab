package blob_test

import (
	"math"
	"math/rand"
	"slices"
	"strings"
	"testing"

	"consignor/api"
	"consignor/blob"
)

// roomy is the same blobs, whose lists have room behind them, where others may write.
func roomy(b api.Blobs) api.Blobs {
	b = copied(b)
	b.Objects, b.Uploads = slices.Grow(b.Objects, 20), slices.Grow(b.Uploads, 20)
	return b
}

// spoil writes to all of the lists of blobs, and behind them.
func spoil(b api.Blobs) {
	clear(b.Objects[:cap(b.Objects)])
	clear(b.Uploads[:cap(b.Uploads)])
}

// TestNothingShared: an answer is changed by nothing that becomes of an argument, or of another answer, nor changes these.
func TestNothingShared(t *testing.T) { // R1, R4
	for what, call := range map[string]func(api.Blobs) (api.Blobs, api.Errno){
		"Begin": func(b api.Blobs) (api.Blobs, api.Errno) {
			b, _, e := blob.Begin(b)
			return b, e
		},
		"Push":               func(b api.Blobs) (api.Blobs, api.Errno) { return blob.Push(b, 4, 6, "more") },
		"Push of none":       func(b api.Blobs) (api.Blobs, api.Errno) { return blob.Push(b, 4, 6, "") },
		"End":                func(b api.Blobs) (api.Blobs, api.Errno) { return blob.End(b, 4, of("fourth")) },
		"End of what is":     func(b api.Blobs) (api.Blobs, api.Errno) { return blob.End(b, 6, of("there")) },
		"Drop of the first":  func(b api.Blobs) (api.Blobs, api.Errno) { return blob.Drop(b, 2) },
		"Drop of the middle": func(b api.Blobs) (api.Blobs, api.Errno) { return blob.Drop(b, 4) },
		"Drop of the last":   func(b api.Blobs) (api.Blobs, api.Errno) { return blob.Drop(b, 8) },
	} {
		b := roomy(coming(holding("there", "too"), "second", "fourth", "there", "x"))
		before := copied(b)
		first, e := call(b)
		want := copied(first)
		if e != api.OK {
			t.Errorf("%s: %d", what, e)
		}
		spoil(first)
		if !same(b, before) {
			t.Errorf("%s: its answer shares with its argument", what)
		}
		second, _ := call(b)
		if !same(second, want) {
			t.Errorf("%s: its answer hangs on the one ahead", what)
		}
		spoil(b)
		if !same(second, want) {
			t.Errorf("%s: its argument shares with its answer", what)
		}
	}
}

// TestErrorsLeave: a call that tells an error changes nothing, so that all goes on as if it had not been.
func TestErrorsLeave(t *testing.T) { // P11.4, R2
	b := coming(holding("ab"), "x", "abc")
	b.Quota = 4
	before := copied(b)
	for what, call := range map[string]func() (api.Blobs, api.Errno){
		"Push of no upload":    func() (api.Blobs, api.Errno) { return blob.Push(b, 3, 0, "y") },
		"Push at no offset":    func() (api.Blobs, api.Errno) { return blob.Push(b, 2, 0, "y") },
		"Push of too much":     func() (api.Blobs, api.Errno) { return blob.Push(b, 2, 1, strings.Repeat("y", 4096)) },
		"End of no upload":     func() (api.Blobs, api.Errno) { return blob.End(b, 3, of("x")) },
		"End by no digest":     func() (api.Blobs, api.Errno) { return blob.End(b, 2, "x") },
		"End by another":       func() (api.Blobs, api.Errno) { return blob.End(b, 2, of("y")) },
		"End above the quota":  func() (api.Blobs, api.Errno) { return blob.End(b, 4, of("abc")) },
		"Drop of no upload":    func() (api.Blobs, api.Errno) { return blob.Drop(b, 3) },
		"Drop of no number":    func() (api.Blobs, api.Errno) { return blob.Drop(b, math.MinInt) },
		"End of no number":     func() (api.Blobs, api.Errno) { return blob.End(b, 0, "") },
		"Push of no number":    func() (api.Blobs, api.Errno) { return blob.Push(b, -1, 0, "") },
		"Push at the greatest": func() (api.Blobs, api.Errno) { return blob.Push(b, 2, math.MaxInt, "") },
	} {
		if got, e := call(); e == api.OK || !same(got, api.Blobs{}) || !same(b, before) {
			t.Errorf("%s: %s, %d, of %s", what, tell(got), e, tell(b))
		}
	}
	if got, e := checkEnd(t, b, 2, of("x")); e != api.OK || len(got.Objects) != 2 {
		t.Errorf("End behind all these: %s, %d", tell(got), e)
	}
}

// pieces cuts a text by chance.
func pieces(r *rand.Rand, s string, most int) []string {
	var l []string
	for s != "" {
		n := min(len(s), r.Intn(most+1))
		l = append(l, s[:n])
		s = s[n:]
	}
	return l
}

// TestPieces: what is pushed in pieces is read in pieces, however both are cut, other uploads between.
func TestPieces(t *testing.T) { // P11.2, P11.3, P11.4
	r := rand.New(rand.NewSource(1))
	for n := range 300 {
		s := mixture(r.Intn(4097), n)
		if n < 40 {
			s = mixture(n, n)
		}
		b, other := holding("x"), ""
		b, e := checkBegin(t, b)
		id := b.Last
		b, _ = checkBegin(t, b)
		offset := 0
		for _, p := range pieces(r, s, 1+r.Intn(700)) {
			if b, e = blob.Push(b, id, offset, p); e != api.OK {
				t.Fatalf("Push of %d bytes at %d: %d", len(p), offset, e)
			}
			offset += len(p)
			if b, e = blob.Push(b, id+1, len(other), "o"); e != api.OK {
				t.Fatalf("Push of the other one at %d: %d", len(other), e)
			}
			other += "o"
			if came, e := blob.Offset(b, id); came != offset || e != api.OK {
				t.Fatalf("Offset: %d, %d, want %d", came, e, offset)
			}
		}
		b, e = checkEnd(t, b, id, of(s))
		if e != api.OK || len(b.Uploads) != 1 || b.Uploads[0].Data != other {
			t.Fatalf("End: %s, %d", tell(b), e)
		}
		checkPieces(t, b, s, 1+r.Intn(700))
	}
}

// checkPieces reads a text in pieces of so many bytes.
func checkPieces(t *testing.T, b api.Blobs, s string, many int) {
	t.Helper()
	read := ""
	for {
		p, e := blob.Read(b, of(s), len(read), many)
		if e != api.OK || len(p) > many {
			t.Fatalf("Read of %d bytes at %d: %d, %d", many, len(read), len(p), e)
		}
		if p == "" {
			break
		}
		read += p
	}
	if read != s {
		t.Errorf("%d bytes, read by %d, are %d other ones", len(s), many, len(read))
	}
}

// texts are few, so that the same ones come again.
var texts = []string{"", "a", "ab", "abc", "b", "ba", "bab", "\x00", "\xff\xfe"}

// someBlobs are blobs by chance that may be.
func someBlobs(r *rand.Rand) api.Blobs {
	b := api.Blobs{Last: r.Intn(3)}
	for _, i := range r.Perm(len(texts))[:r.Intn(len(texts)+1)] {
		b.Objects = append(b.Objects, object(texts[i]))
	}
	if r.Intn(4) == 0 {
		b.Objects = append(b.Objects, holding(few(64-len(b.Objects))...).Objects...)
	}
	for _, o := range b.Objects {
		b.Quota += len(o.Data)
	}
	b.Quota += r.Intn(6)
	for range r.Intn(17) {
		b.Last += 1 + r.Intn(2)
		b.Uploads = append(b.Uploads, api.Upload{Id: b.Last, Data: texts[r.Intn(len(texts))]})
	}
	if r.Intn(4) == 0 {
		b.Last = []int{1 << 40, 1<<40 - 1, b.Last + 1}[r.Intn(3)]
	}
	return b
}

// spoilt is the same blobs with something changed, so that they may be no more.
func spoilt(r *rand.Rand, b api.Blobs) api.Blobs {
	b = copied(b)
	switch i, j := r.Intn(max(1, len(b.Objects))), r.Intn(max(1, len(b.Uploads))); r.Intn(9) {
	case 0:
		b.Quota = []int{-1, 0, 1<<20 + 1, 1 << 20}[r.Intn(4)]
	case 1:
		b.Last = []int{-1, 0, 1<<40 + 1, 3}[r.Intn(4)]
	case 2:
		b.Quota -= r.Intn(8)
	case 3:
		b.Objects = append(b.Objects, object(texts[r.Intn(len(texts))]))
	case 4:
		b.Uploads = append(b.Uploads, api.Upload{Id: b.Last + r.Intn(3) - 1})
	case 5:
		if len(b.Objects) > 0 {
			b.Objects[i].Data += texts[r.Intn(len(texts))]
		}
	case 6:
		if len(b.Objects) > 0 {
			b.Objects[i].Digest = b.Objects[r.Intn(len(b.Objects))].Digest
		}
	case 7:
		if len(b.Uploads) > 0 {
			b.Uploads[j].Id += r.Intn(5) - 2
		}
	default:
		if len(b.Uploads) > 0 {
			b.Uploads[j].Data = strings.Repeat("x", 4095+r.Intn(3))
		}
	}
	return b
}

// someDigest is one by chance, most times that of a text of the few.
func someDigest(r *rand.Rand) string {
	d := of(texts[r.Intn(len(texts))])
	switch r.Intn(12) {
	case 0:
		return d[:r.Intn(len(d))]
	case 1:
		return strings.ToUpper(d)
	}
	return d
}

// checkChance holds all calls of blobs, with other arguments by chance, against the chapter's words.
func checkChance(t *testing.T, r *rand.Rand, b api.Blobs) {
	t.Helper()
	id := r.Intn(40) - 1
	d := someDigest(r)
	if n := len(b.Uploads); n > 0 && r.Intn(4) > 0 {
		u := b.Uploads[r.Intn(n)]
		id = u.Id
		if r.Intn(2) == 0 {
			d = of(u.Data)
		}
	}
	checkCalls(t, b, id, r.Intn(6)-1, d, texts[r.Intn(len(texts))], r.Intn(6)-1)
}

func TestChance(t *testing.T) { // P11.1, P11.2, P11.3, R1
	r := rand.New(rand.NewSource(2))
	rights, wrongs := 0, 0
	for range 3000 {
		b := someBlobs(r)
		if !checkRight(t, b) {
			t.Errorf("%s may not be", tell(b))
		}
		checkChance(t, r, b)
		b = spoilt(r, b)
		checkChance(t, r, b)
		if checkRight(t, b) {
			rights++
		} else {
			wrongs++
		}
	}
	if rights < 300 || wrongs < 700 {
		t.Errorf("too few of a kind: %d and %d", rights, wrongs)
	}
}

// TestPlay: calls by chance, one behind the other, each error of which leaves all as it was.
func TestPlay(t *testing.T) { // P11.1, P11.2, P11.3, P11.4
	r := rand.New(rand.NewSource(3))
	tells := map[api.Errno]int{}
	for range 200 {
		b, _ := blob.New(r.Intn(20))
		for range 150 {
			var next api.Blobs
			var e api.Errno
			id := b.Last - r.Intn(5)
			came, _ := blob.Offset(b, id)
			switch r.Intn(8) {
			case 0, 1:
				next, e = checkBegin(t, b)
			case 2, 3, 4:
				next, e = checkPush(t, b, id, came+r.Intn(8)/7, texts[r.Intn(len(texts))])
			case 5, 6:
				i, e2 := placeOf(b, id)
				d := someDigest(r)
				if e2 == api.OK && r.Intn(3) > 0 {
					d = of(b.Uploads[i].Data)
				}
				next, e = checkEnd(t, b, id, d)
			default:
				next, e = checkDrop(t, b, id)
			}
			tells[e]++
			if e == api.OK {
				b = next
			}
			if !blob.Right(b) {
				t.Fatalf("%s may not be", tell(b))
			}
		}
	}
	for _, e := range []api.Errno{api.OK, api.ErrNone, api.ErrRange, api.ErrSyntax, api.ErrDigest, api.ErrQuota, api.ErrFull} {
		if tells[e] < 50 {
			t.Errorf("error %d was told %d times alone", e, tells[e])
		}
	}
}

// FuzzBlob: any arguments are told as the chapter's words tell them.
func FuzzBlob(f *testing.F) { // P1, P11.1, P11.2, P11.3, P11.4
	f.Add(4, 1, 0, 1, of("abc"), "abc", int64(1))
	f.Add(1<<20, 2, -1, math.MaxInt, "sha256:", strings.Repeat("x", 4097), int64(2))
	f.Add(-1, math.MinInt, math.MaxInt, -1, of(""), "", int64(3))
	f.Add(0, 1<<40, 3, 0, strings.ToUpper(of("a")), "\x00\xff", int64(4))
	f.Fuzz(func(t *testing.T, quota, id, offset, many int, d, data string, seed int64) {
		b, e := blob.New(quota)
		if (e == api.OK) != (0 <= quota && quota <= 1<<20) || e == api.OK && !blob.Right(b) {
			t.Errorf("New(%d) = %s, %d", quota, tell(b), e)
		}
		r := rand.New(rand.NewSource(seed))
		full := someBlobs(r)
		uploaded := coming(full, data, data)
		uploaded.Quota = quota
		for _, b := range []api.Blobs{b, full, uploaded, spoilt(r, full), {Objects: []api.Object{{Digest: d, Data: data}}, Quota: quota, Uploads: []api.Upload{{Id: id, Data: data}}, Last: id}} {
			checkRight(t, b)
			checkCalls(t, b, id, offset, d, data, many)
			checkCalls(t, b, 2, len(data), of(data), data, many)
		}
	})
}
