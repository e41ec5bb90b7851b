package text

import (
	"math/rand"
	"slices"
	"strings"
	"testing"

	"parallax/api"
)

const (
	big   = "ABCDEFGHIJKLMNOPQRSTUVWXYZ"
	small = "abcdefghijklmnopqrstuvwxyz"
)

// smallOf: the chapter's Lower, written out letter by letter.
func smallOf(s string) string {
	b := []byte(s)
	for i := range b {
		if at := strings.IndexByte(big, b[i]); at >= 0 {
			b[i] = small[at]
		}
	}
	return string(b)
}

// one answers the text of just that byte.
func one(c int) string { return string([]byte{byte(c)}) }

// fields answers a list of fields from names and values in turn.
func fields(texts ...string) []api.Field {
	var l []api.Field
	for i := 0; i+1 < len(texts); i += 2 {
		l = append(l, api.Field{Name: texts[i], Value: texts[i+1]})
	}
	return l
}

// randomText answers a text of at most most of these bytes.
func randomText(r *rand.Rand, most int, of string) string {
	b := make([]byte, r.Intn(most+1))
	for i := range b {
		b[i] = of[r.Intn(len(of))]
	}
	return string(b)
}

func randomFields(r *rand.Rand) []api.Field {
	l := make([]api.Field, r.Intn(7))
	for i := range l {
		l[i] = api.Field{Name: randomText(r, 2, "aAbB["), Value: randomText(r, 2, "xX")}
	}
	return l
}

// P3.1: Lower of each byte, alone and in between.
func TestLowerEachByte(t *testing.T) {
	for i := range 256 {
		c := one(i)
		want := c
		if i >= 'A' && i <= 'Z' {
			want = one(i + 32)
		}
		if got := Lower(c); got != want {
			t.Errorf("P3.1: Lower(%q): %q, want %q", c, got, want)
		}
		if got := Lower("X" + c + c + "y"); got != "x"+want+want+"y" {
			t.Errorf("P3.1: Lower of %q in between: %q", c, got)
		}
	}
}

// P3.1: Lower of texts: no letter beyond A to Z changes, no byte gets lost.
func TestLowerTexts(t *testing.T) {
	for s, want := range map[string]string{
		"": "", "a": "a", "Content-Length": "content-length", "HOST": "host", big: small, small: small,
		"@[`{": "@[`{", "0123": "0123", "A\x00B": "a\x00b", "\u00c4\u0130\u212a\u03a3": "\u00c4\u0130\u212a\u03a3",
		"\xc3A\xff\xc1": "\xc3a\xff\xc1", " \tA\r\n": " \ta\r\n",
	} {
		if got := Lower(s); got != want {
			t.Errorf("P3.1: Lower(%q): %q, want %q", s, got, want)
		}
	}
}

// P3.1: Same of each two bytes: just those alike but for A to Z and a to z.
func TestSameEachTwoBytes(t *testing.T) {
	for i := range 256 {
		for j := range 256 {
			a, b := one(i), one(j)
			if got, want := Same(a, b), smallOf(a) == smallOf(b); got != want {
				t.Errorf("P3.1: Same(%q, %q): %v", a, b, got)
			}
		}
	}
}

// P3.1: Same of texts.
func TestSameTexts(t *testing.T) {
	for _, c := range []struct {
		a, b string
		want bool
	}{
		{"", "", true}, {"", "a", false}, {"a", "aa", false}, {"Host", "hOST", true}, {"Host", "Hos", false},
		{"Host", "Host ", false}, {" Host", "Host", false}, {big, small, true}, {"@", "`", false}, {"[", "{", false},
		{"Content-Length", "content_length", false}, {"Content-Length", "CONTENT-lENGTH", true},
		{"a\x00", "A\x00", true}, {"a\x00", "a", false}, {"\u00c4", "\u00e4", false}, {"k", "\u212a", false},
		{"s", "\u017f", false}, {"\xff", "\ufffd", false}, {"\xff", "\xfe", false}, {"A\xff", "a\xff", true},
		{"\xc1", "\xe1", false}, {"ab", "ba", false}, {"aB", "Ab", true}, {"aXb", "aYb", false},
	} {
		if Same(c.a, c.b) != c.want || Same(c.b, c.a) != c.want {
			t.Errorf("P3.1: Same(%q, %q): not %v", c.a, c.b, c.want)
		}
	}
}

// P3.1: each byte at the ends: Trim takes spaces and tabs off, and nothing else.
func TestTrimEachByte(t *testing.T) {
	for i := range 256 {
		c := one(i)
		blank := c == " " || c == "\t"
		for _, s := range []string{c, c + c, c + "x", "x" + c, c + "x" + c, c + c + "x" + c + "y" + c} {
			want := s
			if blank {
				want = strings.Trim(s, " \t")
			}
			if got := Trim(s); got != want {
				t.Errorf("P3.1: Trim(%q): %q, want %q", s, got, want)
			}
			if got, want := TrimOf(s, c), strings.ReplaceAll(strings.ReplaceAll(s, c, ""), "xy", "x"+c+"y"); c != "x" && c != "y" && got != want {
				t.Errorf("P3.1: TrimOf(%q, %q): %q, want %q", s, c, got, want)
			}
		}
	}
}

// P3.1: Trim of texts.
func TestTrimTexts(t *testing.T) {
	for s, want := range map[string]string{
		"": "", " ": "", "\t": "", " \t \t": "", "a": "a", " a": "a", "a ": "a", "\ta\t": "a", " \t a b\t ": "a b",
		"a \t b": "a \t b", "\v a": "\v a", "a \f": "a \f", "\r\n a \r\n": "\r\n a \r\n", " \u00a0 ": "\u00a0",
		"\u2003a": "\u2003a", " \x00 ": "\x00", "\xff ": "\xff", ", ": ",",
	} {
		if got := Trim(s); got != want {
			t.Errorf("P3.1: Trim(%q): %q, want %q", s, got, want)
		}
	}
}

// P3.1: TrimOf of texts: the set is one of bytes, in whatever order, however often.
func TestTrimOfTexts(t *testing.T) {
	for _, c := range []struct{ s, set, want string }{
		{"", "", ""}, {"", "a", ""}, {"abc", "", "abc"}, {" a ", "", " a "}, {"aa", "a", ""}, {"xyaxyx", "xy", "a"},
		{"xyaxyx", "yx", "a"}, {"xyaxyx", "yxxy", "a"}, {"xyaxyx", "x", "yaxy"}, {"\v\fa\v", "\v\f", "a"},
		{"\v\f \tchunked\t \f\v", "\v\f \t", "chunked"}, {"Aa", "a", "A"}, {"aba", "a", "b"}, {"a b a", "a", " b "},
		{"\x00a\x00", "\x00", "a"},
		// Half a letter of two bytes is a byte as any other.
		{"\u00e4x\u00f6", "\u00e4", "x\u00f6"}, {"\u00e4x\u00f6", "\xc3", "\xa4x\u00f6"},
		{"\u00e4x\u00e4", "\xa4", "\u00e4x\xc3"}, {"\u00e4x\u00f6", "\u00e4\u00f6", "x"}, {"\u00c3\u00a4", "\u00e4", "\x83\xc2"},
		{"\xffa\xff", "\xff", "a"}, {"\ufffda", "\xff", "\ufffda"}, {"\xffa", "\ufffd", "\xffa"},
	} {
		if got := TrimOf(c.s, c.set); got != c.want {
			t.Errorf("P3.1: TrimOf(%q, %q): %q, want %q", c.s, c.set, got, c.want)
		}
	}
}

// P3.1: of all short texts and sets, TrimOf answers the longest middle whose ends aren't of the set.
func TestTrimOfRandom(t *testing.T) {
	r := rand.New(rand.NewSource(3))
	for range 20000 {
		s, set := randomText(r, 8, "ab\xc3\xa4 \t"), randomText(r, 3, "ab\xc3\xa4 \t")
		want := s
		for want != "" && strings.IndexByte(set, want[0]) >= 0 {
			want = want[1:]
		}
		for want != "" && strings.IndexByte(set, want[len(want)-1]) >= 0 {
			want = want[:len(want)-1]
		}
		if got := TrimOf(s, set); got != want {
			t.Fatalf("P3.1: TrimOf(%q, %q): %q, want %q", s, set, got, want)
		}
		if Trim(s) != TrimOf(s, " \t") {
			t.Fatalf("P3.1: Trim(%q): %q", s, Trim(s))
		}
	}
}

// P3.1: List, written out.
func TestList(t *testing.T) {
	for _, c := range []struct{ values, want []string }{
		{nil, nil},
		{[]string{}, nil},
		{[]string{""}, []string{""}},
		{[]string{" \t"}, []string{""}},
		{[]string{"", ""}, []string{"", ""}},
		{[]string{","}, []string{"", ""}},
		{[]string{" , "}, []string{"", ""}},
		{[]string{",,"}, []string{"", "", ""}},
		{[]string{"a"}, []string{"a"}},
		{[]string{"a, b"}, []string{"a", "b"}},
		{[]string{"a,b,a"}, []string{"a", "b", "a"}},
		{[]string{"a,"}, []string{"a", ""}},
		{[]string{",a"}, []string{"", "a"}},
		{[]string{"a,,b"}, []string{"a", "", "b"}},
		{[]string{"a b,\tc,,"}, []string{"a b", "c", "", ""}},
		{[]string{"a", "b, c", "", "d"}, []string{"a", "b", "c", "", "d"}},
		{[]string{"b", "a"}, []string{"b", "a"}},
		{[]string{"Chunked, GZIP"}, []string{"Chunked", "GZIP"}},
		{[]string{"\va,\fb\n"}, []string{"\va", "\fb\n"}},
		{[]string{`"a,b"`}, []string{`"a`, `b"`}},
		{[]string{"a;b,c d;e=f"}, []string{"a;b", "c d;e=f"}},
		{[]string{"\xff,\x00"}, []string{"\xff", "\x00"}},
		{[]string{"a\uff0cb"}, []string{"a\uff0cb"}},
	} {
		if got := List(c.values...); !slices.Equal(got, c.want) {
			t.Errorf("P3.1: List(%q): %q, want %q", c.values, got, c.want)
		}
	}
}

// P3.1: List goes value by value: as many parts as commas and one, and joined again they are the value but for Blanks.
func TestListRandom(t *testing.T) {
	r := rand.New(rand.NewSource(4))
	for range 5000 {
		values := make([]string, r.Intn(4))
		var want []string
		for i := range values {
			values[i] = randomText(r, 8, "ab,, \t")
			part := ""
			for _, c := range []byte(values[i] + ",") {
				if c == ',' {
					want = append(want, strings.Trim(part, " \t"))
					part = ""
					continue
				}
				part += string(rune(c))
			}
		}
		if got := List(values...); !slices.Equal(got, want) {
			t.Fatalf("P3.1: List(%q): %q, want %q", values, got, want)
		}
	}
}

// P3.1: Find, written out.
func TestFind(t *testing.T) {
	l := fields("Host", "a", "via", "1", "VIA", "2", "Via", "1", "", "none", " Via", "3", "Via ", "4", "Vi", "5", "Viaa", "6", "\u212a", "7", "Empty", "")
	for _, c := range []struct {
		name string
		want []string
	}{
		{"via", []string{"1", "2", "1"}}, {"VIA", []string{"1", "2", "1"}}, {"host", []string{"a"}}, {"", []string{"none"}},
		{"Via ", []string{"4"}}, {" via", []string{"3"}}, {"v", nil}, {"k", nil}, {"empty", []string{""}}, {"1", nil},
	} {
		if got := Find(l, c.name); !slices.Equal(got, c.want) {
			t.Errorf("P3.1: Find(%q): %q, want %q", c.name, got, c.want)
		}
	}
	if len(Find(nil, "a")) != 0 || len(Find(nil, "")) != 0 || len(Find([]api.Field{}, "a")) != 0 {
		t.Error("P3.1: Find in no fields")
	}
}

// P3.1: Without, written out.
func TestWithout(t *testing.T) {
	l := fields("A", "1", "b", "2", "a", "3", "", "4", "a ", "5", "B", "6", "aa", "7")
	for _, c := range []struct {
		names []string
		want  []api.Field
	}{
		{nil, l},
		{[]string{"x"}, l},
		{[]string{"1", "2", "a  ", "\x00"}, l},
		{[]string{"a"}, fields("b", "2", "", "4", "a ", "5", "B", "6", "aa", "7")},
		{[]string{"A"}, fields("b", "2", "", "4", "a ", "5", "B", "6", "aa", "7")},
		{[]string{"A", "a", "A"}, fields("b", "2", "", "4", "a ", "5", "B", "6", "aa", "7")},
		{[]string{"b", "x", "A"}, fields("", "4", "a ", "5", "aa", "7")},
		{[]string{""}, fields("A", "1", "b", "2", "a", "3", "a ", "5", "B", "6", "aa", "7")},
		{[]string{"A ", "AA"}, fields("A", "1", "b", "2", "a", "3", "", "4", "B", "6")},
		{[]string{"a", "b", "", "a ", "aa"}, nil},
	} {
		if got := Without(l, c.names...); !slices.Equal(got, c.want) {
			t.Errorf("P3.1: Without(%q): %q, want %q", c.names, got, c.want)
		}
	}
	if len(Without(nil)) != 0 || len(Without(nil, "a")) != 0 || len(Without([]api.Field{}, "")) != 0 {
		t.Error("P3.1: Without of no fields")
	}
	foreign := fields("\u00c4", "1", "\u212a", "2", "\xff", "3")
	if got := Without(foreign, "\u00e4", "k", "\ufffd"); !slices.Equal(got, foreign) {
		t.Errorf("P3.1: Without of names beyond ASCII: %q", got)
	}
}

// P3.1: Fields, written out.
func TestFields(t *testing.T) {
	for _, c := range []struct {
		a, b []api.Field
		want bool
	}{
		{nil, nil, true}, {nil, []api.Field{}, true}, {nil, fields("", ""), false},
		{fields("", ""), fields("", ""), true},
		{fields("a", "1"), fields("a", "1"), true},
		{fields("a", "1"), fields("a", "2"), false},
		{fields("a", "1"), fields("b", "1"), false},
		{fields("a", "1"), fields("A", "1"), false},
		{fields("a", "x"), fields("a", "X"), false},
		{fields("a", "1"), fields("a", "1 "), false},
		{fields("a", "1"), fields("1", "a"), false},
		{fields("ab", "c"), fields("a", "bc"), false},
		{fields("a", "1", "b", "2"), fields("a", "1", "b", "2"), true},
		{fields("a", "1", "b", "2"), fields("b", "2", "a", "1"), false},
		{fields("a", "1", "b", "2"), fields("a", "1"), false},
		{fields("a", "1", "b", "2"), fields("a", "1", "b", "3"), false},
		{fields("a", "1", "a", "1"), fields("a", "1"), false},
	} {
		if Fields(c.a, c.b) != c.want || Fields(c.b, c.a) != c.want {
			t.Errorf("P3.1: Fields(%q, %q): not %v", c.a, c.b, c.want)
		}
	}
}

// P3.2: a name is a name, however it is written: what is Same of one is found and taken out with it, and with Lower of it; and nothing else is.
func TestNameIsName(t *testing.T) {
	r := rand.New(rand.NewSource(5))
	for range 20000 {
		l := randomFields(r)
		name := randomText(r, 2, "aAbB[")
		other := randomText(r, 2, "aAbB[")
		same := smallOf(name) == smallOf(other)
		if Same(name, other) != same || (Lower(name) == Lower(other)) != same || !Same(name, Lower(name)) {
			t.Fatalf("P3.2: Same, Lower of %q, %q", name, other)
		}
		var found []string
		var left []api.Field
		for _, f := range l {
			if smallOf(f.Name) == smallOf(name) {
				found = append(found, f.Value)
			} else {
				left = append(left, f)
			}
		}
		for _, as := range []string{name, Lower(name), strings.ToUpper(name)} {
			if got := Find(l, as); !slices.Equal(got, found) {
				t.Fatalf("P3.2: Find(%q, %q): %q, want %q", l, as, got, found)
			}
			if got := Without(l, as); !Fields(got, left) || !slices.Equal(got, left) {
				t.Fatalf("P3.2: Without(%q, %q): %q, want %q", l, as, got, left)
			}
		}
		if got, want := Without(l, name, other), Without(Without(l, other), name); !slices.Equal(got, want) {
			t.Fatalf("P3.2: Without(%q, %q, %q): %q, want %q", l, name, other, got, want)
		}
	}
}

// P3.1: what is handed in isn't changed, nor is the room behind it; what is answered is new.
func TestListsStay(t *testing.T) {
	room := fields("a", "1", "b", "2", "A", "3", "c", "4", "room", "5")
	l, was := room[:4], slices.Clone(room)
	names, wasNames := []string{"A", "B", "room"}[:2], []string{"A", "B", "room"}
	answers := [][]api.Field{Without(l), Without(l, "x"), Without(l, names...), Without(l, "c"), Without(l, "a", "b", "c")}
	values := [][]string{List(names...), Find(l, "a")}
	for _, got := range answers {
		got = got[:cap(got)]
		for i := range got {
			got[i] = api.Field{Name: "z", Value: "z"}
		}
	}
	for _, got := range values {
		got = append(got[:0], make([]string, cap(got))...)
	}
	if Fields(l, room[1:]); !slices.Equal(room, was) || !slices.Equal(names[:3], wasNames) {
		t.Errorf("P3.1: what was handed in has changed: %q, %q", room, names[:3])
	}
	kept := Without(l, "b")
	room[0].Name = "changed"
	if !slices.Equal(kept, fields("a", "1", "A", "3", "c", "4")) {
		t.Errorf("P3.1: what was answered has changed: %q", kept)
	}
}

// P3.1: all calls take all arguments, long ones too, and end soon.
func TestLongTexts(t *testing.T) {
	const n = 1 << 22
	blanks, letters := strings.Repeat(" \t", n/2), strings.Repeat("Ab", n/2)
	if Trim(blanks) != "" || Trim(blanks+"a"+blanks) != "a" || TrimOf(letters, blanks+"bA") != "" || TrimOf(letters, blanks) != letters {
		t.Error("P3.1: Trim, TrimOf of long texts")
	}
	if Lower(letters) != strings.Repeat("ab", n/2) || !Same(letters, Lower(letters)) || Same(letters, letters+"a") || Same(letters+"a", letters+"b") {
		t.Error("P3.1: Lower, Same of long texts")
	}
	if got := List(strings.Repeat("a ,", 1<<20)); len(got) != 1<<20+1 || got[0] != "a" || got[1<<20-1] != "a" || got[1<<20] != "" {
		t.Errorf("P3.1: List of a long value: %d", len(got))
	}
	if got := List(make([]string, 1<<20)...); len(got) != 1<<20 {
		t.Errorf("P3.1: List of many values: %d", len(got))
	}
}

// P3.1: as many names as fields: a name is not searched for in all of them.
func TestWithoutMany(t *testing.T) {
	const n = 1 << 18
	var l []api.Field
	var names []string
	for i := range n {
		name := "x-" + Lower(string(rune('A'+i%26))) + strings.Repeat("y", i%7) + string(rune('0'+i/26%10)) + string(rune(0x4e00+i/260%20000))
		l = append(l, api.Field{Name: name, Value: "1"})
		names = append(names, strings.ToUpper(name), "z"+name)
	}
	l = append(l, api.Field{Name: "left", Value: "2"})
	if got := Without(l, names...); !slices.Equal(got, fields("left", "2")) {
		t.Errorf("P3.1: Without of many names: %d left", len(got))
	}
	if got := Find(l, "LEFT"); !slices.Equal(got, []string{"2"}) {
		t.Errorf("P3.1: Find in many fields: %q", got)
	}
}
