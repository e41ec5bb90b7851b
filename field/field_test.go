package field

import (
	"math/rand"
	"regexp"
	"slices"
	"strings"
	"testing"

	"parallax/api"
	"parallax/quirks"
)

// The chapter's lines, written out as patterns: the name, then the value.
var (
	parted      = regexp.MustCompile(`\A([^:]*):[ \t]*((?s:.*?))[ \t]*\z`)
	partedSpace = regexp.MustCompile(`\A([^:]*?)[ \t]*:[ \t]*((?s:.*?))[ \t]*\z`)
	tokens      = regexp.MustCompile("\\A[A-Za-z0-9!#$%&'*+\\-.^_`|~]+\\z")
	noText      = regexp.MustCompile(`[\x00-\x08\x0a-\x1f\x7f]`)
	goesOn      = regexp.MustCompile(`\A[ \t]`)
	trimmed     = regexp.MustCompile(`\A[ \t]*((?s:.*?))[ \t]*\z`)
)

// read: what Parse answers.
type read struct {
	field api.Field
	is    bool
	errno api.Errno
}

func parse(s string, p api.Profile) read {
	f, is, errno := Parse(s, p)
	return read{f, is, errno}
}

// a answers what Parse tells of a line that is that field.
func a(name, value string) read { return read{api.Field{Name: name, Value: value}, true, 0} }

// bad and out: what Parse tells of a line that is none, of one that is left out.
var (
	bad = read{errno: 400}
	out = read{}
)

// orOut answers out if p has that clause, else bad.
func orOut(p api.Profile, clause int) read {
	if p&(1<<clause) != 0 {
		return out
	}
	return bad
}

// asWritten: the chapter's Parse.
func asWritten(s string, p api.Profile) read {
	form := parted
	if p&(1<<api.ColonSpace) != 0 {
		form = partedSpace
	}
	m := form.FindStringSubmatch(s)
	switch {
	case m == nil:
		return orOut(p, api.NoColon)
	case m[1] == "":
		return orOut(p, api.NoName)
	case !tokens.MatchString(m[1]) && p&(1<<api.NameBytes) == 0:
		return bad
	case noText.MatchString(m[2]) && p&(1<<api.ValueBytes) == 0:
		return bad
	}
	return a(m[1], m[2])
}

// own: the clauses that Parse looks at.
var own = []int{api.ColonSpace, api.NameBytes, api.NoColon, api.NoName, api.ValueBytes}

// profiles: each set of the clauses of own.
func profiles() []api.Profile {
	l := []api.Profile{0}
	for _, clause := range own {
		for _, p := range l {
			l = append(l, p|1<<clause)
		}
	}
	return l
}

// holds holds Parse of s against the chapter's words, of each profile of own.
func holds(t *testing.T, s string) {
	t.Helper()
	for _, p := range profiles() {
		if got, want := parse(s, p), asWritten(s, p); got != want {
			t.Fatalf("P9.1: Parse(%q, %#x): %+v, want %+v", s, p, got, want)
		}
	}
}

// texts calls f with each text of these pieces of at most so many.
func texts(pieces []string, most int, f func(s string)) {
	l := []string{""}
	for range most + 1 {
		var longer []string
		for _, s := range l {
			f(s)
			for _, piece := range pieces {
				longer = append(longer, s+piece)
			}
		}
		l = longer
	}
}

// one answers the text of just that byte.
func one(c int) string { return string([]byte{byte(c)}) }

// P9.1: the numbers of package api.
func TestNumbers(t *testing.T) {
	if api.ErrBad != 400 {
		t.Error("P9.1: package api's number")
	}
	clauses := [6]int{api.ColonSpace, api.NameBytes, api.NoColon, api.NoName, api.Fold, api.ValueBytes}
	if clauses != [6]int{9, 10, 11, 12, 13, 14} {
		t.Error("P9.1: package api's clauses")
	}
}

// P9.1: lines that are fields.
func TestRead(t *testing.T) {
	q := quirks.Of
	token := "azAZ09!#$%&'*+-.^_`|~"
	for _, x := range []struct {
		s    string
		p    api.Profile
		want read
	}{
		{"Host: a", 0, a("Host", "a")},
		{"Host:a", 0, a("Host", "a")},
		{"a:", 0, a("a", "")},
		{"a: \t ", 0, a("a", "")},
		{"a::", 0, a("a", ":")},
		{"a: :b: c:", 0, a("a", ":b: c:")},
		{"a:\t b \t c\t ", 0, a("a", "b \t c")},
		{token + ": " + token, 0, a(token, token)},
		{"a: \x80\xff\u00e4\u2003", 0, a("a", "\x80\xff\u00e4\u2003")},
		{"a:\u00a0b\u00a0", 0, a("a", "\u00a0b\u00a0")},
		{"a: \"(),/;<=>?@[\\]{}", 0, a("a", "\"(),/;<=>?@[\\]{}")},
		{"a: b", q(api.ColonSpace), a("a", "b")},
		{"a \t \t: b", q(api.ColonSpace), a("a", "b")},
		{"a :", q(api.ColonSpace), a("a", "")},
		{"a : b : c", q(api.ColonSpace), a("a", "b : c")},
		{" ", q(api.NoColon), out},
		{"", q(api.NoColon), out},
		{"a b", q(api.NoColon), out},
		{"\x00\xff\r\n", q(api.NoColon), out},
		{":", q(api.NoName), out},
		{": a", q(api.NoName), out},
		{":a:b", q(api.NoName), out},
		{":\x00\x7f", q(api.NoName), out},
		{" \t:a", q(api.NoName, api.ColonSpace), out},
		{"\t:\x01", q(api.NoName, api.ColonSpace, api.NameBytes), out},
		{" \t:a", q(api.NameBytes), a(" \t", "a")},
		{" :a", q(api.NameBytes, api.NoName), a(" ", "a")},
		{" a\x00\t\r\n\x7f\x80\xff( :b", q(api.NameBytes), a(" a\x00\t\r\n\x7f\x80\xff( ", "b")},
		{" a( \t:b", q(api.NameBytes, api.ColonSpace), a(" a(", "b")},
		{"a\v :b", q(api.NameBytes, api.ColonSpace), a("a\v", "b")},
		{"a: \x00b\r\n\x7f ", q(api.ValueBytes), a("a", "\x00b\r\n\x7f")},
		{"a:\v\f", q(api.ValueBytes), a("a", "\v\f")},
		{"\x01 :\x02", q(own...), a("\x01", "\x02")},
	} {
		if got := parse(x.s, x.p); got != x.want {
			t.Errorf("P9.1: Parse(%q, %#x): %+v", x.s, x.p, got)
		}
	}
}

// P9.1: lines that are none, of profiles that lack the clause they would need.
func TestBad(t *testing.T) {
	q := quirks.Of
	every := ^api.Profile(0)
	for _, x := range []struct {
		p api.Profile
		l []string
	}{
		{0, []string{"", " ", "a", "a b", "\x00", "GET / HTTP/1.1", ":", ": ", ":a", "::", " :a", "a :b", "a\t:b", " a:b", "a b:c", "a(:b", "a\":b", "a/:b", "a@:b", "a\x00:b", "\x7f:b", "\xe4:b", "\u00e4:b", "a\u0120:b", "\u212a:b", "a;b", "a\uff1ab", "a:\x00", "a:b\x01c", "a:\v", "a: \fb", "a:\x1f", "a:\x7f", "a:b\r", "a:\n", "a:b\r\n c", "(:\x01"}},
		{every &^ q(api.ColonSpace) &^ q(api.NameBytes), []string{"a :b", "a\t:", " :a"}},
		{every &^ q(api.NameBytes), []string{" a:b", "a b:c", "a(:b", "\x00:b", "a\v:b", "a\u00a0:b", "\xff :b"}},
		{every &^ q(api.NoColon), []string{"", " ", "a", " \t", "\x00", "a b", "a\uff1ab"}},
		{every &^ q(api.NoName), []string{":", ":a", " :a", "\t \t::"}},
		{every &^ q(api.NoName) &^ q(api.ColonSpace), []string{":", ":a", "::"}},
		{every &^ q(api.ValueBytes), []string{"a:\x00", "a:b\x01c", "a:\v", "a: \fb", "a:\x1f", "a:\x7f", "a:b\r", "a:\n", "(:\x01", "a : \x08"}},
	} {
		for _, s := range x.l {
			if got := parse(s, x.p); got != bad {
				t.Errorf("P9.1: Parse(%q, %#x): %+v", s, x.p, got)
			}
		}
	}
	for _, s := range []string{"", ":", " :", "a", "a :\x00", "\xff:\x7f", "\n"} {
		if got := parse(s, every); got.errno != api.OK {
			t.Errorf("P9.1: Parse(%q) of every clause: %+v", s, got)
		}
	}
}

// P9.1: each byte, at each place of a line.
func TestEachByte(t *testing.T) {
	for i := range 256 {
		c := one(i)
		for _, s := range []string{
			c, c + c, c + ":", ":" + c, c + ":" + c, "a" + c, "a" + c + "b", c + "a:b", "a" + c + ":b", "a" + c + "a:b", c + "a" + c + ":b",
			"a " + c + ":b", "a" + c + " :b", " " + c + ":b", c + " :b", "a:" + c, "a:" + c + "b", "a:b" + c, "a:b" + c + "c", "a: " + c + " ", "a:" + c + " " + c, "a: b" + c + " c", ": " + c,
		} {
			holds(t, s)
		}
	}
}

// P9.1: each two bytes, as a name and as a value.
func TestEachTwoBytes(t *testing.T) {
	clauses := []api.Profile{0, quirks.Of(api.ColonSpace), quirks.Of(own...)}
	for i := range 256 * 256 {
		two := one(i>>8) + one(i)
		for _, s := range []string{two + ":", "a:" + two} {
			p := clauses[i%len(clauses)]
			if got, want := parse(s, p), asWritten(s, p); got != want {
				t.Fatalf("P9.1: Parse(%q, %#x): %+v, want %+v", s, p, got, want)
			}
		}
	}
}

// P9.1: each text of a few pieces.
func TestShortTexts(t *testing.T) {
	texts([]string{" ", "\t", "a", ":", "(", "\x01"}, 5, func(s string) { holds(t, s) })
	texts([]string{":", " ", "\r", "\u00e4", "\x7f"}, 4, func(s string) {
		holds(t, "a"+s)
		holds(t, s+"b")
		holds(t, "a:"+s+"b")
		holds(t, "a"+s+":b")
	})
}

// P9.1: texts at random.
func TestRandomTexts(t *testing.T) {
	pieces := []string{":", " ", "a", "\t", ": ", "Host", "(", "\x00", "\v", "\f", "\r", "\n", "\r\n", "\x1f", "\x7f", "\x80", "\xff", "\u00a0", "\u0120", "\u013a", "\uff1a", ",", ";", "~"}
	r := rand.New(rand.NewSource(91))
	for range 6000 {
		var s string
		for range r.Intn(10) {
			s += pieces[r.Intn(1+r.Intn(len(pieces)))]
		}
		holds(t, s)
		holds(t, "a"+s)
		holds(t, "a:"+s)
	}
}

// P9.1: lines of any length.
func TestLengths(t *testing.T) {
	q := quirks.Of
	most := 1 << 20
	name, blanks := strings.Repeat("a-Z9", most/4), strings.Repeat(" \t", most/2)
	for _, x := range []struct {
		s    string
		p    api.Profile
		want read
	}{
		{name + ":" + name, 0, a(name, name)},
		{"a:" + blanks, 0, a("a", "")},
		{"a:" + blanks + "b" + blanks + "c" + blanks, 0, a("a", "b"+blanks+"c")},
		{"a" + blanks + ":b", q(api.ColonSpace), a("a", "b")},
		{blanks + "a" + blanks + ":b", q(api.ColonSpace, api.NameBytes), a(blanks+"a", "b")},
		{blanks + ":b", q(api.ColonSpace, api.NoName), out},
		{blanks + ":b", q(api.NameBytes), a(blanks, "b")},
		{blanks, 0, bad},
		{name, q(api.NoColon), out},
		{name + " :", 0, bad},
		{"a:" + name + "\x00", 0, bad},
	} {
		if got := parse(x.s, x.p); got != x.want {
			t.Errorf("P9.1: Parse of %d bytes, %#x: %v %d", len(x.s), x.p, got.is, got.errno)
		}
	}
}

// P9.1: no clause but its own has a say.
func TestOtherClauses(t *testing.T) {
	mine := quirks.Of(own...)
	lines := []string{"a: b", "a :b", " a:b", "a(:b", "", "a", ":a", " :a", "a:\x00", "a:b\r", "\xff:\x7f", " a", "\ta", "a:\vchunked"}
	r := rand.New(rand.NewSource(92))
	for range 5000 {
		s, p := lines[r.Intn(len(lines))], api.Profile(r.Uint32())
		if got, want := parse(s, p), asWritten(s, p&mine); got != want {
			t.Fatalf("P9.1: Parse(%q, %#x): %+v, want %+v", s, p, got, want)
		}
	}
	for _, s := range lines {
		if got, want := parse(s, ^mine), parse(s, 0); got != want {
			t.Errorf("P9.1: Parse(%q) of all other clauses: %+v, want %+v", s, got, want)
		}
	}
}

// P9.1: what no clause is needed for, every profile reads alike.
func TestStrictLines(t *testing.T) {
	texts([]string{" ", "\t", "a", ":", "\u00e4", "(", "\x7f"}, 5, func(s string) {
		want := parse(s, 0)
		if want == bad {
			return
		}
		for _, p := range append(profiles(), ^api.Profile(0)) {
			if got := parse(s, p); got != want {
				t.Fatalf("P9.1: Parse(%q, %#x): %+v, want %+v", s, p, got, want)
			}
		}
	})
}

// P9.2: each beginning, with Fold and without, beside other clauses.
func TestGoes(t *testing.T) {
	fold := quirks.Of(api.Fold)
	check := func(s string) {
		for _, p := range []api.Profile{0, fold, ^fold, ^api.Profile(0), fold | quirks.Of(own...), quirks.Of(own...), fold | 1<<31, 1 << 31} {
			if got, want := Goes(s, p), p&fold != 0 && goesOn.MatchString(s); got != want {
				t.Errorf("P9.2: Goes(%q, %#x): %v", s, p, got)
			}
		}
	}
	check("")
	for i := range 256 {
		for _, s := range []string{one(i), one(i) + "a", one(i) + " ", "a" + one(i), one(i) + "a: b", "a: b" + one(i), " " + one(i)} {
			check(s)
		}
	}
	for _, s := range []string{"\u00a0a", "\u0120a", "\u0109a", "\u2003a", "\r\n a"} {
		check(s)
	}
	for clause := -1; clause <= api.Clauses+2; clause++ {
		if got, want := Goes(" a", quirks.Of(clause)), clause == api.Fold; got != want {
			t.Errorf("P9.2: Goes of clause %d alone: %v", clause, got)
		}
	}
}

// P9.2: a value, a space, what is trimmed of any text; the name stays.
func TestJoin(t *testing.T) {
	for _, x := range []struct{ value, s, want string }{
		{"", "", " "},
		{"a", "", "a "},
		{"", "b", " b"},
		{"a", "b", "a b"},
		{"a", " \t b \t c\t ", "a b \t c"},
		{" a ", " \t", " a  "},
		{"a", "b: c", "a b: c"},
		{"a", "\x00\r\n ", "a \x00\r\n"},
		{"a", "\u00a0\v", "a \u00a0\v"},
		{"\x7f\xff", "\t\x80", "\x7f\xff \x80"},
	} {
		for _, name := range []string{"", "n", "N ", "\x00:"} {
			if got, want := Join(api.Field{Name: name, Value: x.value}, x.s), (api.Field{Name: name, Value: x.want}); got != want {
				t.Errorf("P9.2: Join(%q of %q, %q): %+v", x.value, name, x.s, got)
			}
		}
	}
	texts([]string{" ", "\t", "a", "\v", "\u00e4", ":"}, 5, func(s string) {
		f := api.Field{Name: "n", Value: "v"}
		if got, want := Join(f, s), "v "+trimmed.FindStringSubmatch(s)[1]; got.Name != "n" || got.Value != want {
			t.Fatalf("P9.2: Join(v, %q): %+v", s, got)
		}
	})
}

// P9.2: a field that goes on and on.
func TestJoinAgain(t *testing.T) {
	f, _, _ := Parse("a: 0", 0)
	want := "0"
	for i := range 200 {
		ahead := f
		f = Join(f, strings.Repeat(" ", i)+"b\t")
		want += " b"
		if f.Value != want || f.Name != "a" {
			t.Fatalf("P9.2: Join %d: %+v", i, f)
		}
		if len(ahead.Value) != len(want)-2 {
			t.Fatalf("P9.2: Join %d changed what it was given: %+v", i, ahead)
		}
	}
}

// P9.2: the fields that Parse of no clauses may tell, and others.
func TestRight(t *testing.T) {
	rightAsWritten := func(f api.Field) bool {
		return tokens.MatchString(f.Name) && !noText.MatchString(f.Value) && trimmed.FindStringSubmatch(f.Value)[1] == f.Value
	}
	check := func(name, value string) {
		f := api.Field{Name: name, Value: value}
		if got, want := Right(f), rightAsWritten(f); got != want {
			t.Errorf("P9.2: Right(%+q): %v", f, got)
		}
	}
	for _, x := range []struct {
		name, value string
		want        bool
	}{
		{"", "", false}, {"a", "", true}, {"", "a", false}, {"Host", "a", true}, {"a", "b: c", true}, {"a", ":", true}, {"a:", "", false}, {"a:b", "c", false}, {"a", " b", false}, {"a", "b\t", false}, {"a", " ", false}, {"a ", "b", false}, {" a", "b", false}, {"a", "b \t c", true}, {"a", "b\r\n c", false}, {"a", "\x00", false}, {"\u00e4", "b", false}, {"a", "\u00e4\xff", true},
	} {
		if got := Right(api.Field{Name: x.name, Value: x.value}); got != x.want {
			t.Errorf("P9.2: Right(%q, %q): %v", x.name, x.value, got)
		}
		check(x.name, x.value)
	}
	for i := range 256 {
		c := one(i)
		for _, s := range []string{c, c + "a", "a" + c, "a" + c + "a", c + c} {
			check(s, "")
			check("a", s)
			check(s, s)
		}
	}
	texts([]string{" ", "\t", "a", ":", "\n"}, 3, func(name string) {
		texts([]string{" ", "a", ":", "\x7f"}, 3, func(value string) { check(name, value) })
	})
}

// P9.2: Right says yes of just what the strict Parse tells.
func TestRightOfParse(t *testing.T) {
	texts([]string{" ", "\t", "a", ":", "\u00e4", "(", "\x01"}, 5, func(s string) {
		for _, p := range []api.Profile{0, quirks.Of(own...), quirks.Of(api.NameBytes), quirks.Of(api.ValueBytes)} {
			got := parse(s, p)
			if !got.is {
				continue
			}
			strict := parse(got.field.Name+":"+got.field.Value, 0)
			if want := strict.is && strict.field == got.field; Right(got.field) != want || p == 0 && !want {
				t.Fatalf("P9.2: Right of Parse(%q, %#x): %v", s, p, Right(got.field))
			}
		}
	})
}

// P9.2: whatever the fields are, in their order.
func TestPut(t *testing.T) {
	if got := Put(); got != "" {
		t.Errorf("P9.2: Put of none: %q", got)
	}
	var none []api.Field
	if Put(none...) != "" || Put([]api.Field{}...) != "" {
		t.Error("P9.2: Put of an empty list")
	}
	pieces := []string{"", "a", "Host", " ", ":", "\r\n", "\x00", "\xff", "\u00e4", "b c", strings.Repeat("x", 5000)}
	var all []api.Field
	var want string
	for _, name := range pieces {
		for _, value := range pieces {
			f := api.Field{Name: name, Value: value}
			line := name + ":" + " " + value + "\x0d\x0a"
			if got := Put(f); got != line {
				t.Errorf("P9.2: Put(%+q): %q", f, got)
			}
			all = append(all, f)
			want += line
		}
	}
	if got := Put(all...); got != want {
		t.Errorf("P9.2: Put of %d fields: %d bytes, want %d", len(all), len(got), len(want))
	}
}

// P9.2: what Put wrote of right fields, Parse reads as these, of each profile.
func TestThereAndBack(t *testing.T) {
	var l []api.Field
	texts([]string{"a", "-", " ", ":", "\u00e4"}, 3, func(value string) {
		for _, name := range []string{"a", "Host", "!", "~9"} {
			if f := (api.Field{Name: name, Value: value}); Right(f) {
				l = append(l, f)
			}
		}
	})
	if len(l) < 100 {
		t.Fatalf("P9.2: %d right fields", len(l))
	}
	lines := strings.SplitAfter(Put(l...), "\r\n")
	if len(lines) != len(l)+1 || lines[len(l)] != "" {
		t.Fatalf("P9.2: %d lines of %d fields", len(lines)-1, len(l))
	}
	for i, f := range l {
		for _, p := range append(profiles(), ^api.Profile(0)) {
			if got := parse(strings.TrimSuffix(lines[i], "\r\n"), p); got != (read{f, true, 0}) {
				t.Fatalf("P9.2: %+v there and back, %#x: %+v", f, p, got)
			}
			if Goes(lines[i], p) {
				t.Fatalf("P9.2: the line of %+v goes on, %#x", f, p)
			}
		}
	}
}

// P9.2: Put leaves its list as it was, the spare room behind it too.
func TestListStays(t *testing.T) {
	l := make([]api.Field, 2, 4)
	copy(l[:4], []api.Field{{Name: "b", Value: " 1"}, {Name: "a", Value: "2"}, {Name: "c", Value: "3"}, {Name: "d", Value: "4"}})
	ahead := slices.Clone(l[:4])
	if got := Put(l...); got != "b:  1\r\na: 2\r\n" {
		t.Errorf("P9.2: Put: %q", got)
	}
	if !slices.Equal(l[:4], ahead) {
		t.Errorf("P9.2: Put changed its list: %v", l[:4])
	}
}

// P9.3: the first colon parts, of whatever profile, and nothing else does.
func TestColonParts(t *testing.T) {
	r := rand.New(rand.NewSource(93))
	pieces := []string{"a", "b-", ":", "=", ";", ",", " ", "\t", "\u00e4", "\uff1a", "\x02"}
	seen := 0
	for range 20000 {
		var s string
		for range r.Intn(8) {
			s += pieces[r.Intn(len(pieces))]
		}
		got := parse(s, api.Profile(r.Uint32()))
		if !got.is {
			continue
		}
		seen++
		first := strings.IndexByte(s, ':')
		if first < 0 || !strings.HasPrefix(s[:first], got.field.Name) || !strings.HasSuffix(strings.TrimRight(s[first+1:], " \t"), got.field.Value) {
			t.Fatalf("P9.3: Parse(%q): %+v", s, got.field)
		}
		if strings.Trim(s[len(got.field.Name):first]+strings.TrimSuffix(strings.TrimRight(s[first+1:], " \t"), got.field.Value), " \t") != "" {
			t.Fatalf("P9.3: Parse(%q) lost something: %+v", s, got.field)
		}
	}
	if seen < 1000 {
		t.Errorf("P9.3: %d lines were read", seen)
	}
}
