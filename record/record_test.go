package record

import (
	"math"
	"math/rand"
	"reflect"
	"regexp"
	"slices"
	"strconv"
	"strings"
	"testing"

	"parallax/api"
)

// The chapter's words, written out as patterns of a value that lists them.
var (
	closing  = regexp.MustCompile(`(\A|,)[ \t]*[Cc][Ll][Oo][Ss][Ee][ \t]*(,|\z)`)
	keeping  = regexp.MustCompile(`(\A|,)[ \t]*[Kk][Ee][Ee][Pp]-[Aa][Ll][Ii][Vv][Ee][ \t]*(,|\z)`)
	going    = regexp.MustCompile(`(\A|,)[ \t]*100-[Cc][Oo][Nn][Tt][Ii][Nn][Uu][Ee][ \t]*(,|\z)`)
	ofLink   = regexp.MustCompile(`\A[Cc][Oo][Nn][Nn][Ee][Cc][Tt][Ii][Oo][Nn]\z`)
	ofExpect = regexp.MustCompile(`\A[Ee][Xx][Pp][Ee][Cc][Tt]\z`)
)

// minors: those that there are, and others.
var minors = []int{0, 1, 2, 9, -1, 10, math.MinInt, math.MaxInt}

// fields answers the fields of names and values, one behind the other.
func fields(x ...string) []api.Field {
	var l []api.Field
	for i := 0; i < len(x); i += 2 {
		l = append(l, api.Field{Name: x[i], Value: x[i+1]})
	}
	return l
}

// some answers a record with something in each field.
func some() api.Record {
	return api.Record{Method: "PUT", Target: "/a?b", Minor: 1, Fields: fields("Host", "a", "B", "", "b", "1"), Chunked: true, Body: []byte("a\x00b"), Trailers: fields("C", "d", "E", "f")}
}

// wide answers r with lists that have spare room, and something in it.
func wide(r api.Record) api.Record {
	r.Fields = append(slices.Clone(r.Fields), fields("spare", "1", "spare", "2")...)[:len(r.Fields)]
	r.Body = append(slices.Clone(r.Body), "spare"...)[:len(r.Body)]
	r.Trailers = append(slices.Clone(r.Trailers), fields("spare", "3")...)[:len(r.Trailers)]
	return r
}

// whole answers r's lists with their spare room, as they are now.
func whole(r api.Record) api.Record {
	r.Fields = slices.Clone(r.Fields[:cap(r.Fields)])
	r.Body = slices.Clone(r.Body[:cap(r.Body)])
	r.Trailers = slices.Clone(r.Trailers[:cap(r.Trailers)])
	return r
}

// told: a record by texts alone, so that lists that are nil and empty are one.
func told(r api.Record) [4]string {
	spell := func(l []api.Field) string {
		s := ""
		for _, f := range l {
			s += quote(f.Name) + quote(f.Value)
		}
		return s
	}
	plain := quote(r.Method) + quote(r.Target) + quote(strconv.Itoa(r.Minor)) + strconv.FormatBool(r.Chunked)
	return [4]string{plain, spell(r.Fields), string(r.Body), spell(r.Trailers)}
}

// quote answers s so that it can be told from what stands behind it.
func quote(s string) string { return strings.ReplaceAll(s, "|", "||") + "|;" }

// changes: each way to make some into another record.
var changes = []func(r *api.Record){
	func(r *api.Record) { r.Method = "put" },
	func(r *api.Record) { r.Method = "" },
	func(r *api.Record) { r.Method += " " },
	func(r *api.Record) { r.Target = "/a" },
	func(r *api.Record) { r.Target = "/A?b" },
	func(r *api.Record) { r.Method, r.Target = r.Target, r.Method },
	func(r *api.Record) { r.Method, r.Target = "PU", "T/a?b" },
	func(r *api.Record) { r.Minor = 0 },
	func(r *api.Record) { r.Minor = 2 },
	func(r *api.Record) { r.Minor = -1 },
	func(r *api.Record) { r.Chunked = false },
	func(r *api.Record) { r.Fields = nil },
	func(r *api.Record) { r.Fields = r.Fields[:2] },
	func(r *api.Record) { r.Fields = r.Fields[1:] },
	func(r *api.Record) { r.Fields[0].Name = "host" },
	func(r *api.Record) { r.Fields[2].Name = "B" },
	func(r *api.Record) { r.Fields[0].Value = "A" },
	func(r *api.Record) { r.Fields[0].Value = "a " },
	func(r *api.Record) { r.Fields[2].Value = "" },
	func(r *api.Record) { r.Fields[0] = api.Field{Name: "Hos", Value: "ta"} },
	func(r *api.Record) { r.Fields[1], r.Fields[2] = r.Fields[2], r.Fields[1] },
	func(r *api.Record) { r.Fields = append(r.Fields, api.Field{}) },
	func(r *api.Record) { r.Body = nil },
	func(r *api.Record) { r.Body = r.Body[:2] },
	func(r *api.Record) { r.Body = append(r.Body, 0) },
	func(r *api.Record) { r.Body[0] = 'A' },
	func(r *api.Record) { r.Body[1] = ' ' },
	func(r *api.Record) { r.Body[2] = 'a' },
	func(r *api.Record) { r.Trailers = nil },
	func(r *api.Record) { r.Trailers = r.Trailers[:1] },
	func(r *api.Record) { r.Trailers[0].Name = "c" },
	func(r *api.Record) { r.Trailers[1].Value = "F" },
	func(r *api.Record) { r.Trailers[0], r.Trailers[1] = r.Trailers[1], r.Trailers[0] },
	func(r *api.Record) { r.Trailers = append(r.Trailers, r.Trailers[0]) },
	func(r *api.Record) { r.Fields, r.Trailers = r.Trailers, r.Fields },
	func(r *api.Record) { r.Fields, r.Trailers = append(r.Fields, r.Trailers[0]), r.Trailers[1:] },
	func(r *api.Record) { *r = api.Record{} },
}

// random answers a record of few choices, so that two are often alike.
func random(r *rand.Rand) api.Record {
	text := func() string { return []string{"", "a", "A", "ab"}[r.Intn(4)] }
	list := func() []api.Field {
		l := []api.Field{}
		for range r.Intn(3) {
			l = append(l, api.Field{Name: text(), Value: text()})
		}
		return l
	}
	out := api.Record{Minor: 1}
	for range r.Intn(4) {
		switch r.Intn(7) {
		case 0:
			out.Method = text()
		case 1:
			out.Target = text()
		case 2:
			out.Minor = r.Intn(2)
		case 3:
			out.Fields = list()
		case 4:
			out.Chunked = r.Intn(2) == 0
		case 5:
			out.Body = []byte(text())
		case 6:
			out.Trailers = list()
		}
	}
	return out
}

// texts calls f with each text of these pieces of at most so many.
func texts(pieces []string, most int, f func(s string)) {
	l := []string{""}
	for range most + 1 {
		var longer []string
		for _, s := range l {
			f(s)
			for _, piece := range pieces {
				longer = append(longer, s+piece)
			}
		}
		l = longer
	}
}

// one answers the text of just that byte.
func one(c int) string { return string([]byte{byte(c)}) }

// listed: has a field of a name like that a value like this?
func listed(l []api.Field, name, value *regexp.Regexp) bool {
	return slices.ContainsFunc(l, func(f api.Field) bool { return name.MatchString(f.Name) && value.MatchString(f.Value) })
}

// closesAsWritten: the chapter's Closes.
func closesAsWritten(r api.Record) bool {
	if listed(r.Fields, ofLink, closing) {
		return true
	}
	return r.Minor == 0 && !listed(r.Fields, ofLink, keeping)
}

// expectsAsWritten: the chapter's Expects.
func expectsAsWritten(r api.Record) bool {
	return r.Minor == 1 && listed(r.Fields, ofExpect, going)
}

// holds holds Closes and Expects of these fields against the chapter's words,
// of each minor, whatever else the record has.
func holds(t *testing.T, l []api.Field) {
	t.Helper()
	for _, minor := range minors {
		for _, r := range []api.Record{{Minor: minor, Fields: l}, {Method: "close", Target: "keep-alive", Minor: minor, Fields: l, Chunked: true, Body: []byte("100-continue"), Trailers: fields("Connection", "close, keep-alive", "Expect", "100-continue")}} {
			if got, want := Closes(r), closesAsWritten(r); got != want {
				t.Fatalf("P12.1: Closes(%+q of minor %d): %v", l, minor, got)
			}
			if got, want := Expects(r), expectsAsWritten(r); got != want {
				t.Fatalf("P12.1: Expects(%+q of minor %d): %v", l, minor, got)
			}
		}
	}
}

// P12.1: records that are alike.
func TestSameAlike(t *testing.T) {
	for i, x := range []api.Record{some(), {}, {Minor: 1}, {Minor: math.MinInt}, {Body: make([]byte, 1<<20)}, {Fields: make([]api.Field, 10000)}, {Method: strings.Repeat("M", 1<<20), Trailers: fields("", "\x00\xff")}} {
		if !Same(x, x) || !Same(x, wide(x)) || !Same(wide(x), x) {
			t.Errorf("P12.1: Same of record %d and itself: false", i)
		}
	}
	empty := api.Record{Fields: []api.Field{}, Body: []byte{}, Trailers: []api.Field{}}
	if !Same(empty, api.Record{}) || !Same(api.Record{}, empty) {
		t.Error("P12.1: Same tells nil lists from empty ones")
	}
	if !Same(some(), some()) {
		t.Error("P12.1: Same of two alike: false")
	}
}

// P12.1: records of which one thing isn't alike; each two of them.
func TestSameEachChange(t *testing.T) {
	all := []api.Record{some()}
	for _, change := range changes {
		x := some()
		change(&x)
		all = append(all, x)
	}
	for i, a := range all {
		for k, b := range all {
			if got, want := Same(a, b), told(a) == told(b); got != want || want != (i == k) {
				t.Errorf("P12.1: Same of changes %d and %d: %v", i-1, k-1, got)
			}
		}
	}
}

// P12.1: each byte of a text, each place of a list.
func TestSameEachPlace(t *testing.T) {
	long := strings.Repeat("a", 40)
	full := func() api.Record {
		r := api.Record{Method: long, Target: long, Body: []byte(long)}
		for range 20 {
			r.Fields = append(r.Fields, api.Field{Name: "a", Value: "b"})
			r.Trailers = append(r.Trailers, api.Field{Name: "a", Value: "b"})
		}
		return r
	}
	differ := func(what string, i int, change func(r *api.Record)) {
		t.Helper()
		x := full()
		if change(&x); Same(x, full()) || Same(full(), x) {
			t.Errorf("P12.1: Same at place %d of %s: true", i, what)
		}
	}
	for i := range long {
		other := long[:i] + "A" + long[i+1:]
		differ("Method", i, func(r *api.Record) { r.Method = other })
		differ("Method's length", i, func(r *api.Record) { r.Method = long[:i] })
		differ("Target", i, func(r *api.Record) { r.Target = other })
		differ("Target's length", i, func(r *api.Record) { r.Target = long[:i] })
		differ("Body", i, func(r *api.Record) { r.Body[i] = 'A' })
		differ("Body's length", i, func(r *api.Record) { r.Body = r.Body[:i] })
	}
	for i := range 20 {
		differ("Fields' names", i, func(r *api.Record) { r.Fields[i].Name = "A" })
		differ("Fields' values", i, func(r *api.Record) { r.Fields[i].Value = "B" })
		differ("Fields", i, func(r *api.Record) { r.Fields = r.Fields[:i] })
		differ("Trailers' names", i, func(r *api.Record) { r.Trailers[i].Name = "A" })
		differ("Trailers' values", i, func(r *api.Record) { r.Trailers[i].Value = "B" })
		differ("Trailers", i, func(r *api.Record) { r.Trailers = r.Trailers[:i] })
	}
	for i := range 256 {
		for k := range 256 {
			if got := Same(api.Record{Body: []byte{byte(i)}}, api.Record{Body: []byte{byte(k)}}); got != (i == k) {
				t.Fatalf("P12.1: Same of bodies %d and %d: %v", i, k, got)
			}
			if got := Same(api.Record{Method: one(i)}, api.Record{Method: one(k)}); got != (i == k) {
				t.Fatalf("P12.1: Same of methods %q and %q: %v", one(i), one(k), got)
			}
		}
	}
	for _, i := range minors {
		for _, k := range minors {
			if got := Same(api.Record{Minor: i}, api.Record{Minor: k}); got != (i == k) {
				t.Errorf("P12.1: Same of minors %d and %d: %v", i, k, got)
			}
		}
	}
}

// P12.1: records and lists of them at random.
func TestRandomSame(t *testing.T) {
	r := rand.New(rand.NewSource(121))
	alike := 0
	for range 20000 {
		a, b := random(r), random(r)
		want := told(a) == told(b)
		if got := Same(a, b); got != want {
			t.Fatalf("P12.1: Same(%+v, %+v): %v", a, b, got)
		}
		if want {
			alike++
		}
		var l, m []api.Record
		same := true
		for range r.Intn(4) {
			l, m = append(l, a), append(m, b)
			same = same && want
			if r.Intn(3) > 0 {
				a = random(r)
				b, want = Copy(a), true
			}
		}
		if got := All(l, m); got != same {
			t.Fatalf("P12.1: All(%+v, %+v): %v", l, m, got)
		}
	}
	if alike < 100 {
		t.Errorf("P12.1: %d records were alike", alike)
	}
}

// P12.1: lists of any length, with another record at any place.
func TestAll(t *testing.T) {
	if !All(nil, nil) || !All(nil, []api.Record{}) || !All([]api.Record{}, nil) || !All([]api.Record{}, []api.Record{}) {
		t.Error("P12.1: All of none: false")
	}
	list := func(n int) []api.Record {
		var l []api.Record
		for i := range n {
			r := some()
			r.Minor = i
			l = append(l, r)
		}
		return l
	}
	for n := range 8 {
		for k := range 8 {
			if got := All(list(n), list(k)); got != (n == k) {
				t.Errorf("P12.1: All of %d and %d: %v", n, k, got)
			}
		}
		for i := range n {
			for j, change := range changes {
				l := list(n)
				change(&l[i])
				same := told(l[i]) == told(list(n)[i])
				if All(l, list(n)) != same || All(list(n), l) != same || !All(l, l) {
					t.Errorf("P12.1: All of %d with change %d at %d", n, j, i)
				}
			}
			turned := list(n)
			turned[0], turned[i] = turned[i], turned[0]
			if got := All(turned, list(n)); got != (i == 0) {
				t.Errorf("P12.1: All of %d, the first at %d: %v", n, i, got)
			}
		}
	}
	if All([]api.Record{{}}, nil) || All(nil, []api.Record{{}}) {
		t.Error("P12.1: All takes a record of nothing for none")
	}
	if !All([]api.Record{{Body: []byte{}}, {Fields: []api.Field{}}}, []api.Record{{Trailers: []api.Field{}}, {}}) {
		t.Error("P12.1: All tells nil lists from empty ones")
	}
}

// P12.1: what Copy answers is the same, and no change of one is the other's.
func TestCopy(t *testing.T) {
	for i, change := range changes {
		a := wide(some())
		b := Copy(a)
		if !Same(a, b) || told(a) != told(b) {
			t.Fatalf("P12.1: Copy: %+v", b)
		}
		if change(&a); told(b) != told(some()) {
			t.Errorf("P12.1: change %d of what was copied changed the copy", i)
		}
		a = wide(some())
		b = Copy(a)
		if change(&b); !reflect.DeepEqual(whole(a), whole(wide(some()))) {
			t.Errorf("P12.1: change %d of the copy changed what was copied", i)
		}
	}
}

// P12.1: no place of a copy, its spare room included, is one of what was copied,
// nor of another list of it.
func TestCopyIsNew(t *testing.T) {
	shared := fields("a", "1", "b", "2", "c", "3", "d", "4")
	given := api.Record{Method: "GET", Fields: shared[:2], Trailers: shared[1:3], Body: append([]byte("body"), "spare"...)[:4]}
	ahead := whole(given)
	got := Copy(given)
	wipe(got)
	if !reflect.DeepEqual(whole(given), ahead) {
		t.Errorf("P12.1: the copy shares with what was copied: %+v", whole(given))
	}
	got = Copy(given)
	clear(got.Fields[:cap(got.Fields)])
	if !slices.Equal(got.Trailers, fields("b", "2", "c", "3")) {
		t.Errorf("P12.1: the copy's lists share: %+v", got.Trailers)
	}
	again := Copy(given)
	wipe(got)
	if !Same(again, given) {
		t.Errorf("P12.1: two copies share: %+v", again)
	}
}

// P12.1: of lists of any length, too, the spare room of one is not another's.
func TestCopyListsShareNothing(t *testing.T) {
	for n := range 70 {
		for _, k := range []int{0, 1, 2, n} {
			given := api.Record{Fields: make([]api.Field, n), Trailers: make([]api.Field, k)}
			for i := range given.Fields {
				given.Fields[i].Name = "a"
			}
			for i := range given.Trailers {
				given.Trailers[i].Value = "b"
			}
			got := Copy(given)
			clear(got.Fields[:cap(got.Fields)])
			if !slices.Equal(got.Trailers, given.Trailers) {
				t.Fatalf("P12.1: the copy of %d fields shares them with %d trailers", n, k)
			}
			got = Copy(given)
			clear(got.Trailers[:cap(got.Trailers)])
			if !slices.Equal(got.Fields, given.Fields) {
				t.Fatalf("P12.1: the copy of %d trailers shares them with %d fields", k, n)
			}
		}
	}
}

// wipe clears r's lists, their spare room included.
func wipe(r api.Record) {
	clear(r.Fields[:cap(r.Fields)])
	clear(r.Body[:cap(r.Body)])
	clear(r.Trailers[:cap(r.Trailers)])
}

// P12.1: records of nothing, of much, and others at random.
func TestCopyOthers(t *testing.T) {
	if got := Copy(api.Record{}); len(got.Fields)+len(got.Body)+len(got.Trailers) != 0 || told(got) != told(api.Record{}) {
		t.Errorf("P12.1: Copy of nothing: %+v", got)
	}
	for _, minor := range minors {
		if got := Copy(api.Record{Minor: minor}); got.Minor != minor {
			t.Errorf("P12.1: Copy of minor %d: %+v", minor, got)
		}
	}
	long := api.Record{Method: strings.Repeat("M", 1<<16), Body: []byte(strings.Repeat("\x00\xff", 1<<19)), Fields: make([]api.Field, 10000), Trailers: make([]api.Field, 10000)}
	if got := Copy(long); told(got) != told(long) {
		t.Error("P12.1: Copy of a long record isn't the same")
	}
	r := rand.New(rand.NewSource(122))
	for range 5000 {
		x := random(r)
		if got := Copy(x); told(got) != told(x) {
			t.Fatalf("P12.1: Copy(%+v): %+v", x, got)
		}
	}
}

// P12.1: the bytes of each text there is, and no others.
func TestSize(t *testing.T) {
	for _, x := range []struct {
		r    api.Record
		want int
	}{
		{api.Record{}, 0},
		{api.Record{Minor: 1, Chunked: true}, 0},
		{api.Record{Minor: math.MaxInt}, 0},
		{api.Record{Method: "GET"}, 3},
		{api.Record{Target: "/a?b"}, 4},
		{api.Record{Body: []byte{0, 0, 0, 0, 0}}, 5},
		{api.Record{Fields: fields("ab", "")}, 2},
		{api.Record{Fields: fields("", "abc")}, 3},
		{api.Record{Fields: fields("", "", "", "")}, 0},
		{api.Record{Fields: fields("a", "bc", "defg", "hijklmno")}, 15},
		{api.Record{Trailers: fields("ab", "")}, 2},
		{api.Record{Trailers: fields("", "abc", "d", "")}, 4},
		{api.Record{Method: "\u00e4", Target: "\u20ac", Fields: fields("\U0001f600", "\xff")}, 10},
		{some(), 3 + 4 + 4 + 1 + 1 + 1 + 1 + 3 + 1 + 1 + 1 + 1},
		{wide(some()), 22},
		{api.Record{Body: make([]byte, 3, 100), Fields: fields("ab", "c", "d", "e")[:1]}, 6},
	} {
		if got := Size(x.r); got != x.want {
			t.Errorf("P12.1: Size(%+v): %d, want %d", x.r, got, x.want)
		}
	}
	long := api.Record{Method: strings.Repeat("a", 1<<20), Target: strings.Repeat("b", 1<<21), Body: make([]byte, 1<<22)}
	for range 1000 {
		long.Fields = append(long.Fields, fields(long.Method[:1<<10], long.Target[:1<<11])...)
		long.Trailers = append(long.Trailers, fields(long.Method[:1<<12], long.Target[:1<<13])...)
	}
	if got, want := Size(long), 1<<20+1<<21+1<<22+1000*(1<<10+1<<11+1<<12+1<<13); got != want {
		t.Errorf("P12.1: Size of a long record: %d, want %d", got, want)
	}
}

// P12.1: each byte more, wherever it is, is one more.
func TestSizeOfOneMore(t *testing.T) {
	more := []func(r *api.Record){
		func(r *api.Record) { r.Method += "\x00" },
		func(r *api.Record) { r.Target += " " },
		func(r *api.Record) { r.Body = append(r.Body, 0) },
		func(r *api.Record) { r.Fields[0].Name += "a" },
		func(r *api.Record) { r.Fields[1].Value += "a" },
		func(r *api.Record) { r.Fields[2].Name += "a" },
		func(r *api.Record) { r.Trailers[0].Value += "a" },
		func(r *api.Record) { r.Trailers[1].Name += "a" },
	}
	x, want := some(), 22
	for i := range 200 {
		more[i*5%len(more)](&x)
		want++
		if got := Size(x); got != want {
			t.Fatalf("P12.1: Size %d: %d, want %d", i, got, want)
		}
		x.Minor, x.Chunked = i, !x.Chunked
		x.Fields, x.Trailers = append(x.Fields, api.Field{}), append(x.Trailers, api.Field{})
	}
}

// P12.1: which requests are the last ones, and which wait for a word.
func TestClosesAndExpects(t *testing.T) {
	for _, x := range []struct {
		minor           int
		l               []api.Field
		closes, expects bool
	}{
		{0, nil, true, false},
		{1, nil, false, false},
		{2, nil, false, false},
		{-1, nil, false, false},
		{0, fields("Connection", ""), true, false},
		{1, fields("Connection", ""), false, false},
		{1, fields("Connection", "close"), true, false},
		{0, fields("Connection", "close"), true, false},
		{9, fields("Connection", "close"), true, false},
		{1, fields("CONNECTION", "CLOSE"), true, false},
		{1, fields("connection", "cLoSe"), true, false},
		{1, fields("Connection", " \tclose\t "), true, false},
		{1, fields("Connection", "a,close"), true, false},
		{1, fields("Connection", "close, a"), true, false},
		{1, fields("Connection", ",,close,,"), true, false},
		{1, fields("Connection", "a", "Connection", "close"), true, false},
		{1, fields("Connection", "close", "Connection", "a"), true, false},
		{1, fields("Connection", "clo", "Connection", "se"), false, false},
		{1, fields("Connection", "a close"), false, false},
		{1, fields("Connection", "close;q=1"), false, false},
		{1, fields("Connection", "\"close\""), false, false},
		{1, fields("Connection", "closed"), false, false},
		{1, fields("Connection", "close\v"), false, false},
		{1, fields("Connection", "clo\u017fe"), false, false},
		{1, fields("Connection ", "close"), false, false},
		{1, fields("Proxy-Connection", "close"), false, false},
		{1, fields("close", "Connection"), false, false},
		{0, fields("Connection", "keep-alive"), false, false},
		{0, fields("Connection", "KEEP-Alive"), false, false},
		{0, fields("Connection", "a, keep-alive"), false, false},
		{0, fields("Connection", "a", "connection", "keep-alive,b"), false, false},
		{0, fields("Connection", "\u212aeep-alive"), true, false},
		{0, fields("Connection", "keepalive"), true, false},
		{0, fields("Connection", "keep-alive=1"), true, false},
		{0, fields("Keep-Alive", "1"), true, false},
		{0, fields("Connection", "keep-alive, close"), true, false},
		{1, fields("Connection", "keep-alive, close"), true, false},
		{0, fields("Connection", "close", "Connection", "keep-alive"), true, false},
		{1, fields("Connection", "close", "Connection", "keep-alive"), true, false},
		{1, fields("Connection", "keep-alive"), false, false},
		{2, fields("Connection", "keep-alive"), false, false},
		{1, fields("Expect", "100-continue"), false, true},
		{0, fields("Expect", "100-continue"), true, false},
		{2, fields("Expect", "100-continue"), false, false},
		{-1, fields("Expect", "100-continue"), false, false},
		{1, fields("EXPECT", "100-CONTINUE"), false, true},
		{1, fields("expect", "a,\t100-Continue ,b"), false, true},
		{1, fields("Expect", "a", "Expect", "100-continue"), false, true},
		{1, fields("Expect", "100-continue", "Expect", ""), false, true},
		{1, fields("Expect", ""), false, false},
		{1, fields("Expect", "100-continue=1"), false, false},
		{1, fields("Expect", "100 continue"), false, false},
		{1, fields("Expect", "100-", "Expect", "continue"), false, false},
		{1, fields("Expects", "100-continue"), false, false},
		{1, fields("Connection", "100-continue"), false, false},
		{1, fields("Expect", "close"), false, false},
		{1, fields("Connection", "close", "Expect", "100-continue"), true, true},
		{0, fields("Connection", "keep-alive", "Expect", "100-continue"), false, false},
	} {
		r := api.Record{Minor: x.minor, Fields: x.l}
		if got := Closes(r); got != x.closes {
			t.Errorf("P12.1: Closes(%+q of minor %d): %v", x.l, x.minor, got)
		}
		if got := Expects(r); got != x.expects {
			t.Errorf("P12.1: Expects(%+q of minor %d): %v", x.l, x.minor, got)
		}
		holds(t, x.l)
	}
}

// P12.1: each byte around and within a word, each byte around a name.
func TestEachByte(t *testing.T) {
	for i := range 256 {
		c := one(i)
		for _, word := range []string{"close", "keep-alive", "100-continue"} {
			for _, value := range []string{c, c + word, word + c, c + word + c, "a" + c + word, word + c + "a", c + " " + word, word + " " + c, word + "," + c, c + "," + word, word + c + word} {
				holds(t, fields("Connection", value, "Expect", value))
			}
			for k := range word {
				value := word[:k] + c + word[k+1:]
				holds(t, fields("Connection", value, "Expect", value))
				value = word[:k] + c + word[k:]
				holds(t, fields("Connection", value, "Expect", value))
			}
		}
		for _, x := range [][2]string{{"Connection", "close"}, {"Connection", "keep-alive"}, {"Expect", "100-continue"}} {
			holds(t, fields(c+x[0], x[1]))
			holds(t, fields(x[0]+c, x[1]))
			for k := range x[0] {
				holds(t, fields(x[0][:k]+c+x[0][k+1:], x[1]))
			}
		}
	}
}

// P12.1: each value of a few pieces; each two values of fewer.
func TestShortTexts(t *testing.T) {
	texts([]string{"close", "keep-alive", ",", " ", "a"}, 4, func(s string) { holds(t, fields("connection", s)) })
	texts([]string{"100-continue", ",", "\t", "A", "-"}, 4, func(s string) { holds(t, fields("EXPECT", s)) })
	texts([]string{"Close", "keep-Alive", ","}, 3, func(s string) {
		texts([]string{"clOse", "Keep-alive", ","}, 2, func(more string) {
			holds(t, fields("Connection", s, "Expect", "close", "connection", more))
		})
	})
}

// P12.1: lists of fields at random.
func TestRandomFields(t *testing.T) {
	names := []string{"Connection", "connection", "CONNECTION", "Expect", "expect", "Connectio", "Connection:", "", "TE"}
	words := []string{"close", "Close", "keep-alive", "KEEP-ALIVE", "100-continue", "100-Continue", ",", ", ", " ,", "\t", "a", "\v", "\u00a0", "-"}
	r := rand.New(rand.NewSource(123))
	for range 20000 {
		var l []api.Field
		for range r.Intn(4) {
			value := ""
			for range r.Intn(5) {
				value += words[r.Intn(len(words))]
			}
			l = append(l, api.Field{Name: names[r.Intn(len(names))], Value: value})
		}
		holds(t, l)
	}
}

// P12.1: long lists, of fields and of words.
func TestLongLists(t *testing.T) {
	var l []api.Field
	for range 5000 {
		l = append(l, api.Field{Name: "Connection", Value: "a, b"}, api.Field{Name: "Expect", Value: "c"})
	}
	holds(t, l)
	holds(t, append(slices.Clone(l), fields("Connection", "close", "Expect", "100-continue")...))
	holds(t, append(slices.Clone(l), fields("Connection", "keep-alive")...))
	commas, blanks := strings.Repeat(",", 1<<15), strings.Repeat(" \t", 1<<14)
	holds(t, fields("Connection", commas+blanks+"close", "Expect", blanks+"100-continue"+commas))
	holds(t, fields("Connection", commas+"keep-alive"+blanks))
	holds(t, fields("Connection", commas+blanks))
}

// P12.1: only fields of the head have a say, and only by these names.
func TestOthersHaveNoSay(t *testing.T) {
	r := some()
	r.Method, r.Target, r.Body = "close", "100-continue", []byte("Connection: close\r\nExpect: 100-continue\r\n")
	r.Trailers = fields("Connection", "close", "Expect", "100-continue")
	if Closes(r) || Expects(r) {
		t.Errorf("P12.1: of other parts: %v, %v", Closes(r), Expects(r))
	}
	r.Minor, r.Trailers = 0, fields("Connection", "keep-alive")
	if !Closes(r) {
		t.Error("P12.1: Closes goes by the trailers' keep-alive")
	}
	for _, l := range [][]api.Field{fields("Connection", "close"), fields("Connection", "keep-alive"), fields("Expect", "100-continue"), nil} {
		for _, minor := range minors {
			for _, change := range changes {
				x := some()
				change(&x)
				x.Minor, x.Fields = minor, append(slices.Clone(x.Fields), l...)
				if Closes(x) != closesAsWritten(x) || Expects(x) != expectsAsWritten(x) {
					t.Errorf("P12.1: Closes, Expects of %+v: %v, %v", x, Closes(x), Expects(x))
				}
			}
		}
	}
}

// P12.2: no call changes what it is given, the spare room behind it included,
// and each answers alike whenever it is asked.
func TestWhatWasReadStays(t *testing.T) {
	given := wide(some())
	given.Fields = append(given.Fields, fields("Connection", "Close, keep-alive", "Expect", " 100-Continue ")...)
	ahead := whole(given)
	list := append(make([]api.Record, 0, 4), given, given)
	for range 3 {
		if !Same(given, given) || !All(list, list) || !Same(Copy(given), given) || Size(given) != 22+10+17+6+14 || !Closes(given) || !Expects(given) {
			t.Errorf("P12.2: of %+v: %d, %v, %v", given, Size(given), Closes(given), Expects(given))
		}
		if !reflect.DeepEqual(whole(given), ahead) || !reflect.DeepEqual(whole(list[1]), ahead) {
			t.Fatalf("P12.2: a call changed what it was given: %+v", whole(given))
		}
		if !reflect.DeepEqual(list[:4][2:], make([]api.Record, 2)) {
			t.Fatalf("P12.2: a call wrote behind a list: %+v", list[:4][2:])
		}
	}
}

// P12.2: what was copied stays whatever is read into the same memory next.
func TestCopiesStay(t *testing.T) {
	var fieldRoom, trailerRoom [8]api.Field
	var bodyRoom [64]byte
	r := rand.New(rand.NewSource(124))
	var kept []api.Record
	var want [][4]string
	for range 300 {
		x := random(r)
		read := api.Record{Method: x.Method, Target: x.Target, Minor: x.Minor, Chunked: x.Chunked, Fields: append(fieldRoom[:0], x.Fields...), Body: append(bodyRoom[:0], x.Body...), Trailers: append(trailerRoom[:0], x.Trailers...)}
		kept, want = append(kept, Copy(read)), append(want, told(x))
	}
	for i, x := range kept {
		if told(x) != want[i] {
			t.Errorf("P12.2: record %d became %+v", i, x)
		}
	}
}
