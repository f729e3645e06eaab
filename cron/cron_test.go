package cron_test

import (
	"math"
	"math/rand"
	"regexp"
	"strconv"
	"strings"
	"testing"
	"time"

	"consignor/api"
	"consignor/cron"
)

const stars = "* * * * *"

// The fields as the chapter says them: from where to where their values go.
var ranges = [5][2]int{{0, 59}, {0, 23}, {1, 31}, {1, 12}, {0, 6}}

// What the chapter says of a part in words, as a grammar; which numbers are within the bounds, this leaves open.
var parts = regexp.MustCompile(`\A(?:(?:\*|(0|[1-9][0-9]?)-(0|[1-9][0-9]?))(?:/([1-9]|[1-5][0-9]))?|(0|[1-9][0-9]?))\z`)

// setOf is what a field's text says, read by the grammar.
func setOf(field int, s string) (uint64, bool) {
	least, most := ranges[field][0], ranges[field][1]
	var set uint64
	for _, p := range strings.Split(s, ",") {
		m := parts.FindStringSubmatch(p)
		if m == nil {
			return 0, false
		}
		first, last, by := least, most, 1
		if m[1] != "" {
			first, last = number(m[1]), number(m[2])
		}
		if m[3] != "" {
			by = number(m[3])
		}
		if m[4] != "" {
			first, last = number(m[4]), number(m[4])
		}
		if first < least || last > most || first > last {
			return 0, false
		}
		for n := least; n <= most; n++ {
			if first <= n && n <= last && (n-first)%by == 0 {
				set |= 1 << n
			}
		}
	}
	return set, true
}

func number(s string) int {
	n, err := strconv.Atoi(s)
	if err != nil {
		panic(err)
	}
	return n
}

// oracle is what Parse is to tell of a text.
func oracle(s string) (api.Cron, api.Errno) {
	fields := strings.Split(s, " ")
	if len(s) > 200 || len(fields) != 5 {
		return api.Cron{}, api.ErrSyntax
	}
	var sets [5]uint64
	for i, f := range fields {
		set, right := setOf(i, f)
		if !right {
			return api.Cron{}, api.ErrSyntax
		}
		sets[i] = set
	}
	return api.Cron{
		Minutes: sets[0], Hours: sets[1], Days: sets[2], Months: sets[3], Week: sets[4],
		AnyDay: fields[2] == "*", AnyWeek: fields[4] == "*",
	}, api.OK
}

func checkParse(t *testing.T, s string) api.Errno {
	t.Helper()
	want, wantErr := oracle(s)
	if got, e := cron.Parse(s); got != want || e != wantErr {
		t.Errorf("Parse(%.300q) = %+v, %d, want %+v, %d", s, got, e, want, wantErr)
	}
	return wantErr
}

// among is a schedule of four stars, and a text as one of its fields.
func among(field int, s string) string {
	fields := strings.Split(stars, " ")
	fields[field] = s
	return strings.Join(fields, " ")
}

// each calls visit with each text of at most n of the letters.
func each(letters string, n int, visit func(string)) {
	text := make([]byte, 0, n)
	var longer func()
	longer = func() {
		visit(string(text))
		if len(text) == n {
			return
		}
		for i := range len(letters) {
			text = append(text, letters[i])
			longer()
			text = text[:len(text)-1]
		}
	}
	longer()
}

func TestParse(t *testing.T) { // P8.1
	const (
		allMinutes = 1<<60 - 1
		allHours   = 1<<24 - 1
		allDays    = 1<<32 - 2
		allMonths  = 1<<13 - 2
		allWeek    = 1<<7 - 1
	)
	for _, c := range []struct {
		in   string
		want api.Cron
	}{
		{stars, api.Cron{Minutes: allMinutes, Hours: allHours, Days: allDays, Months: allMonths, Week: allWeek, AnyDay: true, AnyWeek: true}},
		{"*/15 0 1 * *", api.Cron{Minutes: 1 | 1<<15 | 1<<30 | 1<<45, Hours: 1, Days: 1 << 1, Months: allMonths, Week: allWeek, AnyWeek: true}},
		{"0 0 1 1 0", api.Cron{Minutes: 1, Hours: 1, Days: 2, Months: 2, Week: 1}},
		{"59 23 31 12 6", api.Cron{Minutes: 1 << 59, Hours: 1 << 23, Days: 1 << 31, Months: 1 << 12, Week: 1 << 6}},
		{"0-59 0-23 1-31 1-12 0-6", api.Cron{Minutes: allMinutes, Hours: allHours, Days: allDays, Months: allMonths, Week: allWeek}},
		{"*/1 */1 */1 */1 */1", api.Cron{Minutes: allMinutes, Hours: allHours, Days: allDays, Months: allMonths, Week: allWeek}},
		{"*,* *,* *,* *,* *,*", api.Cron{Minutes: allMinutes, Hours: allHours, Days: allDays, Months: allMonths, Week: allWeek}},
		{"*/59 */59 */59 */59 */59", api.Cron{Minutes: 1 | 1<<59, Hours: 1, Days: 2, Months: 2, Week: 1}},
		// a step begins at the first value, which is no 0 of days and months
		{"*/20 */7 */10 */5 */3", api.Cron{Minutes: 1 | 1<<20 | 1<<40, Hours: 1 | 1<<7 | 1<<14 | 1<<21, Days: 1<<1 | 1<<11 | 1<<21 | 1<<31, Months: 1<<1 | 1<<6 | 1<<11, Week: 1 | 1<<3 | 1<<6}},
		{"5-20/5 3-9/4 5-6/1 2-11/9 1-6/2", api.Cron{Minutes: 1<<5 | 1<<10 | 1<<15 | 1<<20, Hours: 1<<3 | 1<<7, Days: 1<<5 | 1<<6, Months: 1<<2 | 1<<11, Week: 1<<1 | 1<<3 | 1<<5}},
		{"5-19/5 7-7 7-7/59 3-4/59 5-5", api.Cron{Minutes: 1<<5 | 1<<10 | 1<<15, Hours: 1 << 7, Days: 1 << 7, Months: 1 << 3, Week: 1 << 5}},
		// in any order, and more than once
		{"30,0,30 9,8-10,10 2,1 12,1-2 6,0,3-4", api.Cron{Minutes: 1 | 1<<30, Hours: 1<<8 | 1<<9 | 1<<10, Days: 1<<1 | 1<<2, Months: 1<<1 | 1<<2 | 1<<12, Week: 1 | 1<<3 | 1<<4 | 1<<6}},
		{"1,*/30,10-11 1 */31,2 1 *,1", api.Cron{Minutes: 1 | 1<<1 | 1<<10 | 1<<11 | 1<<30, Hours: 1 << 1, Days: 1<<1 | 1<<2, Months: 1 << 1, Week: allWeek}},
		{"0 0 * 1 1", api.Cron{Minutes: 1, Hours: 1, Days: allDays, Months: 2, Week: 2, AnyDay: true}},
		{"0 0 *,1 1 *", api.Cron{Minutes: 1, Hours: 1, Days: allDays, Months: 2, Week: allWeek, AnyWeek: true}},
		{"0 0 1,* 1 */1", api.Cron{Minutes: 1, Hours: 1, Days: allDays, Months: 2, Week: allWeek}},
	} {
		if got, e := cron.Parse(c.in); got != c.want || e != api.OK {
			t.Errorf("Parse(%q) = %+v, %d, want %+v", c.in, got, e, c.want)
		}
		checkParse(t, c.in)
	}
}

func TestParseWrongFields(t *testing.T) { // P8.1
	for _, s := range []string{
		"", " ", "    ", "*", "* * * *", "* * * * * *", "*****", "*  * * * *", " * * * * *", "* * * * * ", "* * * * *\n",
		"*\t* * * *", "*\n* * * *", "*\u00a0* * * *", "* * * *  *", "  * * *", "* *  * *", "*,* * * *", "* * * * ", " * * * *",
		"@daily", "0 0 1 jan *", "0 0 1 * mon", "0 0 ? * *", "0 0 L * *", "\x00 * * * *", "* * * * *\x00", "\xff * * * *",
	} {
		if got, e := cron.Parse(s); got != (api.Cron{}) || e != api.ErrSyntax {
			t.Errorf("Parse(%q) = %+v, %d", s, got, e)
		}
	}
}

func TestParseWrongParts(t *testing.T) { // P8.1
	for _, s := range []string{
		"", ",", "*,", ",*", "1,", ",1", "1,,2", "**", "*1", "1*", "*-1", "1-*", "*-*", "*/*", "*/", "*/0", "*/00", "*/01", "*/60", "*/100", "*/-1", "*/+1", "*/1-2",
		"*//2", "*/2/2", "*/ ", "/2", "/", "-", "--", "1-", "-1", "+1", "-0", "1--2", "1-2-3", "2-1", "6-5/1", "1-2/", "1-2/0", "1-2/60", "1-2/1/1", "1/2", "5/1", "0/2", "1-2,3/2",
		"00", "01", "06", "007", "1-02", "01-2", "1-2/05", "60", "99", "100", "1e1", "0x1", "1_0", "1.0", "a", "1a", "a1", "1-a", "1-2/a", "*/a", "1;2", "1 ,2", "1, 2", "１", "۱",
		"18446744073709551617", "9223372036854775808", "*/18446744073709551617", "4294967297", "1-4294967298",
	} {
		for field := range 5 {
			in := among(field, s)
			if got, e := cron.Parse(in); got != (api.Cron{}) || e != api.ErrSyntax {
				t.Errorf("Parse(%q) = %+v, %d", in, got, e)
			}
			in = among(field, "1,"+s)
			if got, e := cron.Parse(in); got != (api.Cron{}) || e != api.ErrSyntax {
				t.Errorf("Parse(%q) = %+v, %d", in, got, e)
			}
		}
	}
}

// TestParseOnes: each number alone, and each of those a field is not to have.
func TestParseOnes(t *testing.T) { // P8.1
	for field, r := range ranges {
		for n := range 300 {
			s := among(field, strconv.Itoa(n))
			e := checkParse(t, s)
			if right := r[0] <= n && n <= r[1]; right != (e == api.OK) {
				t.Errorf("%q: %d", s, e)
			}
			checkParse(t, among(field, "0"+strconv.Itoa(n)))
			checkParse(t, among(field, "-"+strconv.Itoa(n)))
			checkParse(t, among(field, strconv.Itoa(n)+"/1"))
		}
	}
}

// TestParseManys: each two numbers with each step, about the bounds, too.
func TestParseManys(t *testing.T) { // P8.1
	for field, r := range ranges {
		rights := 0
		for by := -1; by <= 62; by++ {
			behind := "/" + strconv.Itoa(by)
			if by < 0 {
				behind = ""
			}
			checkParse(t, among(field, "*"+behind))
			for first := range r[1] + 3 {
				for last := range r[1] + 3 {
					s := strconv.Itoa(first) + "-" + strconv.Itoa(last) + behind
					if checkParse(t, among(field, s)) == api.OK {
						rights++
					}
				}
			}
		}
		values := r[1] - r[0] + 1
		if want := 60 * values * (values + 1) / 2; rights != want {
			t.Errorf("field %d: %d right ones, want %d", field, rights, want)
		}
	}
}

// TestParseEachShort: each short text of bytes that matter as each field, against the grammar.
func TestParseEachShort(t *testing.T) { // P8.1
	for _, c := range []struct {
		letters string
		n       int
		least   int
	}{{"01269*-/,", 4, 50}, {"1*-/,", 6, 30}, {"3-/2", 7, 20}} {
		for field := range 5 {
			rights := 0
			each(c.letters, c.n, func(s string) {
				if checkParse(t, among(field, s)) == api.OK {
					rights++
				}
			})
			if rights < c.least {
				t.Errorf("%q in field %d: too few that may be: %d", c.letters, field, rights)
			}
		}
	}
	each("* 1", 9, func(s string) { checkParse(t, s) })
}

// TestParseEachByte: each byte at each place of a schedule, instead of what is there, and ahead of it.
func TestParseEachByte(t *testing.T) { // P8.1, R5
	for _, s := range []string{stars, "*/15 0 1 * *", "1,2-3/4 5-6 7 8/9 *", "10-20/30 1,2 11 12 6"} {
		for i := range len(s) {
			checkParse(t, s[:i]+s[i+1:])
			checkParse(t, s[:i])
			for b := range 256 {
				one := string([]byte{byte(b)})
				checkParse(t, s[:i]+one+s[i+1:])
				checkParse(t, s[:i]+one+s[i:])
			}
		}
	}
}

// filled is a schedule of n bytes, most of them of one field.
func filled(field, n int) string {
	n -= len(among(field, ""))
	last := "1"
	if n%2 == 0 {
		last = "*/10"
	}
	return among(field, strings.Repeat("1,", (n-len(last))/2)+last)
}

func TestParseLength(t *testing.T) { // P8.1
	for field := range 5 {
		for n := 12; n < 500; n++ {
			s := filled(field, n)
			e := checkParse(t, s)
			if right := n <= 200; len(s) != n || right != (e == api.OK) {
				t.Errorf("%d bytes, %d asked for: %d", len(s), n, e)
			}
		}
	}
	for _, one := range []string{"*", " ", "* ", "1,", "1-", "*/1,", "\x00"} {
		if got, e := cron.Parse(strings.Repeat(one, 1<<22)); got != (api.Cron{}) || e != api.ErrSyntax {
			t.Errorf("Parse of 2^22 times %q: %+v, %d", one, got, e)
		}
	}
}

// chance is a schedule's text by chance, that mostly may be.
func chance(r *rand.Rand) string {
	fields := make([]string, 5)
	for i := range fields {
		least, most := ranges[i][0], ranges[i][1]
		some := func() int { return least + r.Intn(most-least+1) }
		var all []string
		for range 1 + r.Intn(3) {
			first, last := some(), some()
			p := strconv.Itoa(first)
			switch r.Intn(4) {
			case 0:
				p = "*"
			case 1:
				p = strconv.Itoa(min(first, last)) + "-" + strconv.Itoa(max(first, last))
			case 2:
				p = "*/" + strconv.Itoa(1+r.Intn(59))
			}
			all = append(all, p)
		}
		if r.Intn(3) == 0 {
			all = []string{"*"}
		}
		fields[i] = strings.Join(all, ",")
	}
	s := strings.Join(fields, " ")
	if r.Intn(4) == 0 {
		at := r.Intn(len(s))
		s = s[:at] + "0123456789*-/, "[r.Intn(15):][:1] + s[at+r.Intn(2):]
	}
	return s
}

func TestParseChance(t *testing.T) { // P8.1, R1
	r := rand.New(rand.NewSource(1))
	rights, wrongs := 0, 0
	for range 50000 {
		s := chance(r)
		if checkParse(t, s) == api.OK {
			rights++
		} else {
			wrongs++
		}
		checkParse(t, s)
	}
	if rights < 20000 || wrongs < 2000 {
		t.Errorf("too few of a kind: %d and %d", rights, wrongs)
	}
}

// timeOf is a tick's time by the library's calendar.
func timeOf(tick int) api.Clock {
	u := time.Unix(int64(tick)*60, 0).UTC()
	return api.Clock{Minute: u.Minute(), Hour: u.Hour(), Day: u.Day(), Month: int(u.Month()), Year: u.Year(), Week: int(u.Weekday())}
}

func checkAt(t *testing.T, tick int) {
	t.Helper()
	if got, e := cron.At(tick); got != timeOf(tick) || e != api.OK {
		t.Errorf("At(%d) = %+v, %d, want %+v", tick, got, e, timeOf(tick))
	}
}

// tickOf is the tick of a time of day of a date.
func tickOf(year, month, day, hour, minute int) int {
	return int(time.Date(year, time.Month(month), day, hour, minute, 0, 0, time.UTC).Unix() / 60)
}

func TestAt(t *testing.T) { // P8.1
	for _, c := range []struct {
		tick int
		want api.Clock
	}{
		{0, api.Clock{Minute: 0, Hour: 0, Day: 1, Month: 1, Year: 1970, Week: 4}},
		{1, api.Clock{Minute: 1, Hour: 0, Day: 1, Month: 1, Year: 1970, Week: 4}},
		{59, api.Clock{Minute: 59, Hour: 0, Day: 1, Month: 1, Year: 1970, Week: 4}},
		{60, api.Clock{Minute: 0, Hour: 1, Day: 1, Month: 1, Year: 1970, Week: 4}},
		{1439, api.Clock{Minute: 59, Hour: 23, Day: 1, Month: 1, Year: 1970, Week: 4}},
		{1440, api.Clock{Minute: 0, Hour: 0, Day: 2, Month: 1, Year: 1970, Week: 5}},
		{3 * 1440, api.Clock{Minute: 0, Hour: 0, Day: 4, Month: 1, Year: 1970, Week: 0}},
		{365*1440 - 1, api.Clock{Minute: 59, Hour: 23, Day: 31, Month: 12, Year: 1970, Week: 4}},
		{365 * 1440, api.Clock{Day: 1, Month: 1, Year: 1971, Week: 5}},
		{(365 + 365 + 31 + 28) * 1440, api.Clock{Day: 29, Month: 2, Year: 1972, Week: 2}},
		{15778080, api.Clock{Day: 1, Month: 1, Year: 2000, Week: 6}},
		{15778080 + 59*1440, api.Clock{Day: 29, Month: 2, Year: 2000, Week: 2}},
		{15778080 + 366*1440 - 1, api.Clock{Minute: 59, Hour: 23, Day: 31, Month: 12, Year: 2000, Week: 0}},
		{tickOf(2100, 2, 28, 23, 59) + 1, api.Clock{Day: 1, Month: 3, Year: 2100, Week: 1}},
		{tickOf(2400, 2, 28, 23, 59) + 1, api.Clock{Day: 29, Month: 2, Year: 2400, Week: 2}},
	} {
		if got, e := cron.At(c.tick); got != c.want || e != api.OK {
			t.Errorf("At(%d) = %+v, %d, want %+v", c.tick, got, e, c.want)
		}
		checkAt(t, c.tick)
	}
	for _, tick := range []int{api.MaxTick, api.MaxTick - 1, api.MaxTick - 1440, api.MaxTick / 2} {
		checkAt(t, tick)
	}
}

// wrongTicks are none.
var wrongTicks = []int{-1, -2, -60, -1440, -api.MaxTick, math.MinInt, math.MinInt + 1, api.MaxTick + 1, api.MaxTick + 2, 2 * api.MaxTick, math.MaxInt, math.MaxInt - 1}

func TestAtWrong(t *testing.T) { // P8.1, R2
	for _, tick := range wrongTicks {
		if got, e := cron.At(tick); got != (api.Clock{}) || e != api.ErrArg {
			t.Errorf("At(%d) = %+v, %d", tick, got, e)
		}
	}
}

// TestAtEachDay: the days go on one by one, by the chapter's words of how long months and years are.
func TestAtEachDay(t *testing.T) { // P8.1
	lengths := []int{31, 28, 31, 30, 31, 30, 31, 31, 30, 31, 30, 31}
	day := 0
	for year := 1970; year < 1970+1300; year++ {
		long := year%4 == 0
		if year%100 == 0 && year%400 != 0 {
			long = false
		}
		for month, length := range lengths {
			if month == 1 && long {
				length++
			}
			for n := 1; n <= length; n++ {
				want := api.Clock{Day: n, Month: month + 1, Year: year, Week: (day + 4) % 7}
				if got, e := cron.At(day * 1440); got != want || e != api.OK {
					t.Fatalf("At(%d) = %+v, %d, want %+v", day*1440, got, e, want)
				}
				want.Hour, want.Minute = 23, 59
				if got, e := cron.At(day*1440 + 1439); got != want || e != api.OK {
					t.Fatalf("At(%d) = %+v, %d, want %+v", day*1440+1439, got, e, want)
				}
				day++
			}
		}
	}
}

func TestAtEachMinute(t *testing.T) { // P8.1
	for _, from := range []int{0, tickOf(2000, 2, 28, 0, 0), tickOf(2026, 11, 19, 0, 0), api.MaxTick - 2880} {
		for tick := from; tick <= from+2880; tick++ {
			checkAt(t, tick)
		}
	}
}

func TestAtChance(t *testing.T) { // P8.1
	r := rand.New(rand.NewSource(2))
	for range 200000 {
		checkAt(t, r.Intn(api.MaxTick+1))
		checkAt(t, r.Intn(1<<(1+r.Intn(40))))
	}
}

// fires is what Fires is to tell, by the chapter's words.
func fires(c api.Cron, tick int) bool {
	if tick < 0 || tick > api.MaxTick {
		return false
	}
	x := timeOf(tick)
	set := func(bits uint64, n int) bool { return bits>>n&1 == 1 }
	if !set(c.Minutes, x.Minute) || !set(c.Hours, x.Hour) || !set(c.Months, x.Month) {
		return false
	}
	if c.AnyDay && c.AnyWeek {
		return true
	}
	if c.AnyDay {
		return set(c.Week, x.Week)
	}
	if c.AnyWeek {
		return set(c.Days, x.Day)
	}
	return set(c.Days, x.Day) || set(c.Week, x.Week)
}

func checkFires(t *testing.T, c api.Cron, tick int) bool {
	t.Helper()
	want := fires(c, tick)
	if got := cron.Fires(c, tick); got != want {
		t.Errorf("Fires(%+v, %d) = %t", c, tick, got)
	}
	return want
}

// schedule is that of a text that may be.
func schedule(t testing.TB, s string) api.Cron {
	t.Helper()
	c, e := cron.Parse(s)
	if e != api.OK {
		t.Fatalf("Parse(%q): %d", s, e)
	}
	return c
}

func TestFires(t *testing.T) { // P8.2
	for _, c := range []struct {
		s       string
		at, not []int
	}{
		{"*/15 0 1 * *",
			[]int{0, 15, 30, 45, tickOf(2000, 1, 1, 0, 0), tickOf(2026, 12, 1, 0, 45)},
			[]int{1, 14, 16, 60, 75, 1440, tickOf(2000, 1, 1, 0, 1), tickOf(2000, 1, 2, 0, 0), tickOf(2000, 1, 1, 1, 0)}},
		{"30 12 * 6 *",
			[]int{tickOf(2026, 6, 1, 12, 30), tickOf(2026, 6, 30, 12, 30)},
			[]int{tickOf(2026, 5, 31, 12, 30), tickOf(2026, 7, 1, 12, 30), tickOf(2026, 6, 1, 12, 31), tickOf(2026, 6, 1, 13, 30)}},
		{"0 0 29 2 *",
			[]int{tickOf(1972, 2, 29, 0, 0), tickOf(2000, 2, 29, 0, 0), tickOf(2400, 2, 29, 0, 0)},
			[]int{tickOf(2100, 3, 1, 0, 0), tickOf(2100, 2, 28, 0, 0), tickOf(2001, 3, 1, 0, 0)}},
		// the day of the week alone, as that of the month is just a star
		{"0 0 * * 1",
			[]int{tickOf(2026, 11, 16, 0, 0), tickOf(2026, 11, 23, 0, 0)},
			[]int{tickOf(2026, 11, 19, 0, 0), tickOf(2026, 11, 1, 0, 0)}},
		// the day of the month alone
		{"0 0 13 * *",
			[]int{tickOf(2026, 11, 13, 0, 0), tickOf(2026, 12, 13, 0, 0)},
			[]int{tickOf(2026, 11, 19, 0, 0), tickOf(2026, 11, 20, 0, 0)}},
		// one of both
		{"0 0 13 * 5",
			[]int{tickOf(2026, 11, 13, 0, 0), tickOf(2026, 11, 20, 0, 0), tickOf(2026, 12, 13, 0, 0)},
			[]int{tickOf(2026, 11, 19, 0, 0), tickOf(2026, 12, 14, 0, 0)}},
		// a day that has all its bits, but is not just a star, leaves no other one out
		{"0 0 */1 * 1",
			[]int{tickOf(2026, 11, 16, 0, 0), tickOf(2026, 11, 17, 0, 0), tickOf(2026, 11, 22, 0, 0)},
			[]int{tickOf(2026, 11, 16, 0, 1)}},
		{"0 0 1 * 0-6",
			[]int{tickOf(2026, 11, 1, 0, 0), tickOf(2026, 11, 17, 0, 0)},
			[]int{tickOf(2026, 11, 17, 1, 0)}},
		// a Sunday is 0
		{"0 0 * * 0",
			[]int{tickOf(2026, 11, 22, 0, 0)},
			[]int{tickOf(2026, 11, 21, 0, 0), tickOf(2026, 11, 23, 0, 0)}},
		{"0 0 31 2,4,6,9,11 *", nil, []int{tickOf(2026, 12, 31, 0, 0), tickOf(2026, 5, 1, 0, 0), tickOf(2026, 3, 3, 0, 0)}},
	} {
		x := schedule(t, c.s)
		for _, tick := range c.at {
			if !cron.Fires(x, tick) {
				t.Errorf("%q does not fire at %d", c.s, tick)
			}
		}
		for _, tick := range c.not {
			if cron.Fires(x, tick) {
				t.Errorf("%q fires at %d", c.s, tick)
			}
		}
	}
}

// all is a schedule with each bit, those of no value, too.
func all(anyDay, anyWeek bool) api.Cron {
	const bits = math.MaxUint64
	return api.Cron{Minutes: bits, Hours: bits, Days: bits, Months: bits, Week: bits, AnyDay: anyDay, AnyWeek: anyWeek}
}

// eachAny calls visit with each choice of AnyDay and AnyWeek.
func eachAny(visit func(anyDay, anyWeek bool)) {
	for n := range 4 {
		visit(n&1 != 0, n&2 != 0)
	}
}

func TestFiresWrong(t *testing.T) { // P8.2
	eachAny(func(anyDay, anyWeek bool) {
		for _, tick := range wrongTicks {
			if cron.Fires(all(anyDay, anyWeek), tick) {
				t.Errorf("fires at %d", tick)
			}
		}
		for _, tick := range []int{0, 1, api.MaxTick - 1, api.MaxTick} {
			if !cron.Fires(all(anyDay, anyWeek), tick) {
				t.Errorf("does not fire at %d", tick)
			}
			if cron.Fires(api.Cron{AnyDay: anyDay, AnyWeek: anyWeek}, tick) {
				t.Errorf("none fires at %d", tick)
			}
		}
	})
}

// TestFiresEachBit: of each field the bit of the tick's value tells, and no other one.
func TestFiresEachBit(t *testing.T) { // P8.2
	r := rand.New(rand.NewSource(3))
	for range 300 {
		tick := r.Intn(api.MaxTick + 1)
		eachAny(func(anyDay, anyWeek bool) {
			for n := range 64 {
				for field := range 5 {
					one, rest := all(anyDay, anyWeek), all(anyDay, anyWeek)
					// of the days one alone tells nothing, where the other one tells yes
					one.Week, rest.Week = 0, 0
					if field == 4 {
						one.Week, rest.Week = math.MaxUint64, math.MaxUint64
						one.Days, rest.Days = 0, 0
					}
					*fieldOf(&one, field) = 1 << n
					*fieldOf(&rest, field) = ^(1 << n)
					checkFires(t, one, tick)
					checkFires(t, rest, tick)
				}
			}
		})
	}
}

func fieldOf(c *api.Cron, field int) *uint64 {
	return [...]*uint64{&c.Minutes, &c.Hours, &c.Days, &c.Months, &c.Week}[field]
}

// anySchedule is one by chance, which may be that of no text.
func anySchedule(r *rand.Rand) api.Cron {
	var c api.Cron
	for field := range 5 {
		*fieldOf(&c, field) = r.Uint64() | r.Uint64()
	}
	if r.Intn(3) == 0 {
		c.Days &= r.Uint64()
		c.Week &= r.Uint64()
	}
	c.AnyDay, c.AnyWeek = r.Intn(2) == 0, r.Intn(2) == 0
	return c
}

func TestFiresChance(t *testing.T) { // P8.2, R1
	r := rand.New(rand.NewSource(4))
	ons, offs := 0, 0
	for range 300000 {
		c, tick := anySchedule(r), r.Intn(api.MaxTick+1)
		if checkFires(t, c, tick) {
			ons++
		} else {
			offs++
		}
		checkFires(t, c, tick)
	}
	if ons < 50000 || offs < 50000 {
		t.Errorf("too few of a kind: %d and %d", ons, offs)
	}
}

// next is what Next is to tell, where its arguments may be: tick by tick, by the chapter's words.
func next(c api.Cron, tick, most int) (int, api.Errno) {
	for n := 1; n <= most; n++ {
		if tick+n <= api.MaxTick && fires(c, tick+n) {
			return tick + n, api.OK
		}
	}
	return 0, api.ErrNone
}

func checkNext(t *testing.T, c api.Cron, tick, most int) api.Errno {
	t.Helper()
	want, wantErr := next(c, tick, most)
	if got, e := cron.Next(c, tick, most); got != want || e != wantErr {
		t.Errorf("Next(%+v, %d, %d) = %d, %d, want %d, %d", c, tick, most, got, e, want, wantErr)
	}
	return wantErr
}

func TestNext(t *testing.T) { // P8.2
	day := tickOf(2026, 11, 19, 0, 0)
	for _, c := range []struct {
		s          string
		tick, most int
		want       int
		e          api.Errno
	}{
		{stars, 0, 0, 0, api.ErrNone},
		{stars, 0, 1, 1, api.OK},
		{stars, 0, 100000, 1, api.OK},
		{stars, day, 5, day + 1, api.OK},
		{stars, api.MaxTick - 1, 1, api.MaxTick, api.OK},
		{stars, api.MaxTick - 1, 100000, api.MaxTick, api.OK},
		{stars, api.MaxTick, 0, 0, api.ErrNone},
		{stars, api.MaxTick, 1, 0, api.ErrNone},
		{stars, api.MaxTick, 100000, 0, api.ErrNone},
		{"*/15 0 1 * *", 15778080, 100, 15778095, api.OK},
		{"*/15 0 1 * *", 15778080, 15, 15778095, api.OK},
		{"*/15 0 1 * *", 15778080, 14, 0, api.ErrNone},
		{"*/15 0 1 * *", 15778079, 1, 15778080, api.OK},
		{"*/15 0 1 * *", 15778079, 0, 0, api.ErrNone},
		{"*/15 0 1 * *", 15778080 + 45, 100000, 15778080 + 31*1440, api.OK},
		{"0 0 * * *", day, 1440, day + 1440, api.OK},
		{"0 0 * * *", day, 1439, 0, api.ErrNone},
		{"0 0 * * *", day - 1, 1439, day, api.OK},
		{"59 23 * * *", day, 1440, day + 1439, api.OK},
		{"0 0 * * 1", day, 100000, day + 4*1440, api.OK},
		{"0 0 25 * 1", day, 100000, day + 4*1440, api.OK},
		{"0 0 21 * 1", day, 100000, day + 2*1440, api.OK},
		{"0 0 1 1 *", day, 100000, day + 43*1440, api.OK},
		{"0 0 1 2 *", day, 100000, 0, api.ErrNone},
		{"0 0 30 2 *", day, 100000, 0, api.ErrNone},
		// 100000 ticks are 69 days, 10 hours and 40 minutes
		{"40 10 27 1 *", day, 100000, day + 100000, api.OK},
		{"40 10 27 1 *", day, 99999, 0, api.ErrNone},
		{"41 10 27 1 *", day, 100000, 0, api.ErrNone},
		{"41 10 27 1 *", day + 1, 100000, day + 100001, api.OK},
	} {
		x := schedule(t, c.s)
		if got, e := cron.Next(x, c.tick, c.most); got != c.want || e != c.e {
			t.Errorf("Next(%q, %d, %d) = %d, %d, want %d, %d", c.s, c.tick, c.most, got, e, c.want, c.e)
		}
		checkNext(t, x, c.tick, c.most)
	}
}

func TestNextWrong(t *testing.T) { // P8.2, P1, R2
	for _, c := range []api.Cron{all(true, true), {}} {
		for _, tick := range wrongTicks {
			for _, most := range []int{0, 1, 100000, -1, 100001, math.MaxInt, math.MinInt} {
				if got, e := cron.Next(c, tick, most); got != 0 || e != api.ErrArg {
					t.Errorf("Next(.., %d, %d) = %d, %d", tick, most, got, e)
				}
			}
		}
		for _, most := range []int{-1, -2, -100000, math.MinInt, 100001, 100002, api.MaxTick, math.MaxInt} {
			for _, tick := range []int{0, 1, 1000000, api.MaxTick - 1, api.MaxTick} {
				if got, e := cron.Next(c, tick, most); got != 0 || e != api.ErrArg {
					t.Errorf("Next(.., %d, %d) = %d, %d", tick, most, got, e)
				}
			}
		}
	}
}

// TestNextEachMost: with one tick less than it takes there is none, and with more it is the same.
func TestNextEachMost(t *testing.T) { // P8.2
	for _, s := range []string{stars, "*/7 * * * *", "30 */2 * * *", "0 3 * * 5", "0 0 20 * *"} {
		x := schedule(t, s)
		from := tickOf(2026, 11, 19, 1, 10)
		first, e := cron.Next(x, from, 100000)
		if e != api.OK {
			t.Fatalf("%q: %d", s, e)
		}
		for most := range 2000 {
			got, e := cron.Next(x, from, most)
			if most < first-from && (got != 0 || e != api.ErrNone) || most >= first-from && (got != first || e != api.OK) {
				t.Errorf("Next(%q, %d, %d) = %d, %d", s, from, most, got, e)
			}
		}
	}
}

func TestNextChance(t *testing.T) { // P8.2, R1
	r := rand.New(rand.NewSource(5))
	founds, nones := 0, 0
	for range 4000 {
		c := anySchedule(r)
		c.Minutes, c.Hours = 1<<r.Intn(60), 1<<r.Intn(24)
		tick, most := r.Intn(api.MaxTick+1), r.Intn(4000)
		if r.Intn(5) == 0 {
			tick = api.MaxTick - r.Intn(3000)
		}
		if checkNext(t, c, tick, most) == api.OK {
			founds++
		} else {
			nones++
		}
	}
	if founds < 500 || nones < 500 {
		t.Errorf("too few of a kind: %d and %d", founds, nones)
	}
}

// TestNextWhole: of some schedules, all that Next finds from a day on, one behind the other, is all at which they fire.
func TestNextWhole(t *testing.T) { // P8.2, P8.3
	from, to := tickOf(2027, 12, 30, 0, 0), tickOf(2028, 3, 3, 0, 0)
	for _, s := range []string{stars, "*/15 0 1 * *", "7,50-59/3 */5 13 * 5", "0 12 29 2 *", "0 0 * 1-2 0", "59 23 31 * *"} {
		x := schedule(t, s)
		at := from
		for tick := from + 1; tick <= to; tick++ {
			if !fires(x, tick) {
				continue
			}
			got, e := cron.Next(x, at, 100000)
			if got != tick || e != api.OK {
				t.Fatalf("Next(%q, %d) = %d, %d, want %d", s, at, got, e, tick)
			}
			at = got
		}
	}
}

// TestStars: five stars fire at each tick, and Next leaves none out.
func TestStars(t *testing.T) { // P8.3
	x := schedule(t, stars)
	check := func(tick int) {
		if !cron.Fires(x, tick) {
			t.Errorf("does not fire at %d", tick)
		}
		for _, most := range []int{1, 2, 100000} {
			if got, e := cron.Next(x, tick, most); tick < api.MaxTick && (got != tick+1 || e != api.OK) {
				t.Errorf("Next(.., %d, %d) = %d, %d", tick, most, got, e)
			}
		}
	}
	for tick := range 2 * 366 * 1440 / 8 {
		check(8 * tick)
	}
	for n := range 5000 {
		check(n)
		check(api.MaxTick - n)
		check(tickOf(2028, 2, 28, 0, 0) + n)
	}
	r := rand.New(rand.NewSource(6))
	for range 100000 {
		check(r.Intn(api.MaxTick + 1))
	}
}

// FuzzCron: any arguments are told as the chapter's words tell them.
func FuzzCron(f *testing.F) { // P1, P8.1, P8.2, R1
	f.Add(stars, 0, 10, int64(1))
	f.Add("*/15 0 1 * *", 15778080, 100, int64(2))
	f.Add("", -1, -1, int64(3))
	f.Add("59 23 29 2 6", api.MaxTick, 100001, int64(4))
	f.Add("1-2/3,4 * * * 5", math.MaxInt, math.MaxInt, int64(5))
	f.Fuzz(func(t *testing.T, s string, tick, most int, seed int64) {
		checkParse(t, s)
		r := rand.New(rand.NewSource(seed))
		other := chance(r)
		checkParse(t, other)
		parsed, _ := cron.Parse(other)
		for _, c := range []api.Cron{parsed, anySchedule(r)} {
			checkFires(t, c, tick)
			right := 0 <= tick && tick <= api.MaxTick
			if _, e := cron.At(tick); right != (e == api.OK) {
				t.Errorf("At(%d): %d", tick, e)
			}
			if right {
				checkAt(t, tick)
			}
			if right && 0 <= most && most <= 100000 {
				checkNext(t, c, tick, most)
			} else if got, e := cron.Next(c, tick, most); got != 0 || e != api.ErrArg {
				t.Errorf("Next(.., %d, %d) = %d, %d", tick, most, got, e)
			}
		}
	})
}
