package radix

import (
	"fmt"
	"math"
	"math/rand"
	"regexp"
	"slices"
	"strings"
	"testing"
	"unsafe"

	"parallax/api"
)

const letters = "ABCDEFGHIJKLMNOPQRSTUVWXYZabcdefghijklmnopqrstuvwxyz"

var (
	written = regexp.MustCompile(`^(?:/(?:(?:[!-)+-.0-9;-~][!-.0-~]*)?|:[A-Za-z]{1,32}))*(?:/\*[A-Za-z]{1,32})?$`)
	naming  = regexp.MustCompile(`/([:*])([A-Za-z]*)`)
)

// entry: a pattern, its id, and the paths that it takes.
type entry struct {
	pattern string
	id      int
	takes   *regexp.Regexp
}

// one answers the text of just that byte.
func one(c int) string { return string([]byte{byte(c)}) }

// namesOf answers the names of a pattern that is right, in order.
func namesOf(pattern string) []string {
	var l []string
	for _, m := range naming.FindAllStringSubmatch(pattern, -1) {
		l = append(l, m[2])
	}
	return l
}

// rightAsWritten: the chapter's Right.
func rightAsWritten(pattern string) bool {
	if n := strings.Count(pattern, "/"); n < 1 || n > 32 || !written.MatchString(pattern) {
		return false
	}
	names := namesOf(pattern)
	slices.Sort(names)
	return len(slices.Compact(slices.Clone(names))) == len(names)
}

// nameless answers a pattern without its names.
func nameless(pattern string) string { return naming.ReplaceAllString(pattern, "/$1") }

// entryOf answers the entry of a pattern that is right.
func entryOf(pattern string, id int) entry {
	var b strings.Builder
	for _, s := range strings.Split(pattern, "/")[1:] {
		switch {
		case strings.HasPrefix(s, ":"):
			b.WriteString("/([^/]+)")
		case strings.HasPrefix(s, "*"):
			b.WriteString("/(.*)")
		default:
			b.WriteString(regexp.QuoteMeta("/" + s))
		}
	}
	return entry{pattern, id, regexp.MustCompile("^(?s:" + b.String() + ")$")}
}

// ranks answers a byte a segment: the less, the better.
func ranks(pattern string) string {
	l := ""
	for _, s := range strings.Split(pattern, "/")[1:] {
		switch {
		case strings.HasPrefix(s, ":"):
			l += "1"
		case strings.HasPrefix(s, "*"):
			l += "2"
		default:
			l += "0"
		}
	}
	return l
}

// takingAsWritten: those of the entries that take a path, the best first.
func takingAsWritten(entries []entry, path string) []entry {
	var l []entry
	for _, e := range entries {
		if e.takes.MatchString(path) {
			l = append(l, e)
		}
	}
	slices.SortStableFunc(l, func(a, b entry) int { return strings.Compare(ranks(a.pattern), ranks(b.pattern)) })
	return l
}

// findHolds holds Find and All of a path against the chapter's words.
func findHolds(t *testing.T, x *Tree, entries []entry, path string) {
	t.Helper()
	var id int
	var params []api.Param
	var all []int
	l := takingAsWritten(entries, path)
	for i, e := range l {
		all = append(all, e.id)
		if i > 0 {
			continue
		}
		id = e.id
		values := e.takes.FindStringSubmatch(path)[1:]
		for j, name := range namesOf(e.pattern) {
			params = append(params, api.Param{Name: name, Value: values[j]})
		}
	}
	gotID, gotParams, ok := x.Find(path)
	if gotID != id || !slices.Equal(gotParams, params) || ok != (len(l) > 0) {
		t.Fatalf("P20.1: Find(%q) of %s: %d, %q, %v, want %d, %q, %v", path, told(entries), gotID, gotParams, ok, id, params, len(l) > 0)
	}
	if got := x.All(path); !slices.Equal(got, all) {
		t.Fatalf("P20.1: All(%q) of %s: %d, want %d", path, told(entries), got, all)
	}
}

func told(entries []entry) string {
	var l []string
	for _, e := range entries {
		l = append(l, fmt.Sprintf("%q=%d", e.pattern, e.id))
	}
	return strings.Join(l, " ")
}

// rightHolds holds Right, and Add to an empty tree, against the chapter's words.
func rightHolds(t *testing.T, pattern string) {
	t.Helper()
	want := rightAsWritten(pattern)
	if got := Right(pattern); got != want {
		t.Fatalf("P20.1: Right(%q): %v", pattern, got)
	}
	x := New()
	if got := x.Add(pattern, 7); got != want {
		t.Fatalf("P20.1: Add(%q): %v", pattern, got)
	}
	// A pattern that isn't one takes nothing, not even the path that it is.
	if !want {
		findHolds(t, x, nil, pattern)
		return
	}
	findHolds(t, x, []entry{entryOf(pattern, 7)}, pattern)
}

// grown adds patterns, with their places for ids, to a new tree, and answers it
// and the entries that it is to have.
func grown(t *testing.T, patterns ...string) (*Tree, []entry) {
	t.Helper()
	x := New()
	var entries []entry
	for i, p := range patterns {
		alike := slices.ContainsFunc(entries, func(e entry) bool { return nameless(e.pattern) == nameless(p) })
		want := rightAsWritten(p) && !alike
		if got := x.Add(p, i); got != want {
			t.Fatalf("P20.1: Add(%q) behind %s: %v", p, told(entries), got)
		}
		if want {
			entries = append(entries, entryOf(p, i))
		}
	}
	return x, entries
}

// each calls f with every list of up to n of these pieces.
func each(n int, pieces []string, f func(l []string)) {
	lists := [][]string{nil}
	for i := 0; ; i++ {
		var longer [][]string
		for _, l := range lists {
			f(l)
			for _, piece := range pieces {
				longer = append(longer, append(slices.Clone(l), piece))
			}
		}
		if i == n {
			return
		}
		lists = longer
	}
}

// paths answers every path of 1 to n of these segments.
func paths(n int, segments ...string) []string {
	var l []string
	each(n, segments, func(s []string) {
		if len(s) > 0 {
			l = append(l, "/"+strings.Join(s, "/"))
		}
	})
	return l
}

// P20.1: the example.
func TestExample(t *testing.T) {
	x := New()
	if !x.Add("/a/:b", 5) {
		t.Error("P20.1: Add")
	}
	if id, params, ok := x.Find("/a/c"); id != 5 || !ok || !slices.Equal(params, []api.Param{{Name: "b", Value: "c"}}) {
		t.Errorf("P20.1: Find: %d, %q, %v", id, params, ok)
	}
}

// P20.1: Right, by hand.
func TestRight(t *testing.T) {
	for _, x := range []struct {
		pattern string
		want    bool
	}{
		{"/", true}, {"//", true}, {"///", true}, {"/a", true}, {"/a/", true}, {"//a", true}, {"/a//b", true}, {"/./..", true},
		{"/:a", true}, {"/*a", true}, {"/:a/", true}, {"//:a", true}, {"//*a", true}, {"/:a/*b", true}, {"/a/:b/c/:d/*e", true},
		{"/:A/:a", true}, {"/:ab/:a/:b", true}, {"/a/:a", true}, {"/:Az/*zA", true},
		// A colon or a star that isn't the first byte is one like any other.
		{"/a:", true}, {"/a*", true}, {"/a:b*c", true}, {"/a*/b", true}, {"/a::/**", false}, {"/-*/:x", true},
		{"/%41%zz%", true}, {"/?#\"<>\\^`{|}", true}, {"/!~", true}, {"/a=b;c,d@e&f+g$h'(i)", true},
		{"", false}, {"a", false}, {"*", false}, {"*a", false}, {":a", false}, {"a/b", false}, {" /", false}, {"a/", false},
		{"/ ", false}, {"/a b", false}, {"/a\t", false}, {"/a\x00", false}, {"/\x7f", false}, {"/\x80", false}, {"/\xff", false}, {"/\u00e4", false}, {"/\u212a", false}, {"/a/ /b", false}, {"/a\n", false}, {"/a/:b\n", false},
		{"/:", false}, {"/*", false}, {"/:/a", false}, {"/a/:", false}, {"/a/*", false}, {"/:a/:", false}, {"/:a/*", false},
		{"/:1", false}, {"/:a1", false}, {"/:a-b", false}, {"/:a_b", false}, {"/:a.", false}, {"/:a b", false}, {"/: a", false}, {"/::a", false}, {"/:a:", false}, {"/:*a", false}, {"/*:a", false}, {"/**a", false}, {"/*a*", false}, {"/:\u00e4", false}, {"/:\u212a", false}, {"/:a\x00", false}, {"/*a.b", false},
		{"/*a/", false}, {"/*a/b", false}, {"/*a/*b", false}, {"/*a/:b", false}, {"/a/*b/c", false}, {"/*a//", false},
		{"/:a/:a", false}, {"/:a/*a", false}, {"/:a/b/:a", false}, {"/:a/:b/:c/:b", false}, {"/:ab/:ab", false},
	} {
		if got := Right(x.pattern); got != x.want {
			t.Errorf("P20.1: Right(%q): %v", x.pattern, got)
		}
		rightHolds(t, x.pattern)
	}
}

// P20.1: each byte, at each place of a pattern.
func TestRightEachByte(t *testing.T) {
	for i := range 256 {
		c := one(i)
		for _, p := range []string{c, c + "/", c + "a", c + "/a", "/" + c, "/" + c + "a", "/a" + c, "/a" + c + "b", "/a/" + c, "/" + c + "/a", "/:" + c, "/:" + c + "a", "/:a" + c, "/:a" + c + "b", "/*" + c, "/*" + c + "a", "/*a" + c, "/*a" + c + "b", "/:a/" + c, "/:a/b" + c, "/" + c + c} {
			rightHolds(t, p)
		}
		if want := strings.Contains(letters, c) || c == "/"; Right("/:a"+c) != want {
			t.Errorf("P20.1: Right(%q): %v", "/:a"+c, !want)
		}
		if want := i > 0x20 && i < 0x7f; Right("/a"+c) != want {
			t.Errorf("P20.1: Right(%q): %v", "/a"+c, !want)
		}
	}
}

// P20.1: all short texts of a few pieces.
func TestRightShort(t *testing.T) {
	each(6, []string{"/", ":", "*", "a", "B"}, func(l []string) { rightHolds(t, strings.Join(l, "")) })
	each(5, []string{"/", "/:", "/*", "a", "b", "7", " "}, func(l []string) { rightHolds(t, strings.Join(l, "")) })
	each(5, []string{"/:a", "/:b", "/*a", "/*c", "/a", "/"}, func(l []string) { rightHolds(t, strings.Join(l, "")) })
}

// P20.1: 32 segments and one more; 32 letters and one more; as many names.
func TestRightEdges(t *testing.T) {
	for n := 1; n < 70; n++ {
		for _, s := range []string{"/", "/a", "/a*:"} {
			for _, last := range []string{"", "/", "/a", "/:a", "/*a"} {
				p := strings.Repeat(s, n) + last
				segments := n
				if last != "" {
					segments++
				}
				if got := Right(p); got != (segments <= 32) {
					t.Errorf("P20.1: Right of %d segments (%q): %v", segments, p, got)
				}
				rightHolds(t, p)
			}
		}
		name := strings.Repeat("zA", n)[:n]
		for _, p := range []string{"/:" + name, "/*" + name, "/:" + name + "/b", "/a/*" + name} {
			if got := Right(p); got != (n <= 32) {
				t.Errorf("P20.1: Right of a name of %d letters: %v", n, got)
			}
			rightHolds(t, p)
		}
		rightHolds(t, "/"+strings.Repeat("a", n)+"/:"+name)
	}
	named := ""
	for n := range 34 {
		for i := range n {
			rightHolds(t, named+"/:"+letters[i:i+1])
			rightHolds(t, named+"/*"+letters[i:i+1])
			if Right(named + "/*" + letters[i:i+1]) {
				t.Errorf("P20.1: Right: the name %d of %d twice", i, n)
			}
		}
		if got := Right(named + "/*z"); got != (n < 32) {
			t.Errorf("P20.1: Right of %d names: %v", n+1, got)
		}
		named += "/:" + letters[n:n+1]
		rightHolds(t, named)
	}
}

// P20.1: what Add refuses leaves the tree as it was.
func TestAdd(t *testing.T) {
	x, entries := grown(t, "/a/:b/c", "/:p/*q", "/", "/a/", "/*r")
	all := append(paths(3, "", "a", "b", "c", ":b", "*q"), "", "a", "/a/:b/c", "/:p/*q")
	for _, p := range []string{
		"/a/:b/c", "/a/:c/c", "/a/:B/c", "/:p/*q", "/:q/*p", "/:a/*b", "/", "/a/", "/*r", "/*x",
		"", "a", "x/:b", "/:b/:b", "/a/*b/c", "/a/:b/ ", "/:", "/*", "/a/:1", strings.Repeat("/a", 33), strings.Repeat("/a", 32) + "/*a",
	} {
		if x.Add(p, 99) {
			t.Errorf("P20.1: Add(%q) is true", p)
		}
		for _, path := range append(all, p) {
			findHolds(t, x, entries, path)
		}
	}
	// What differs in more than a name is another one, though it takes the same paths or begins as one that is there.
	for i, p := range []string{"/a/b/c", "/A/:b/c", "/a/:b", "/a", "//", "/a/:b/:c", "/a/:b/*c", "/a/*b", "/:p/:q", "/:p", "/:p/", "/%61/", "/a/:b/c/", "/a/:b/c/*d"} {
		if !x.Add(p, 100+i) {
			t.Errorf("P20.1: Add(%q) is false", p)
		}
		if x.Add(strings.ReplaceAll(p, "/:b", "/:other"), 98) {
			t.Errorf("P20.1: Add(%q) a second time", p)
		}
		entries = append(entries, entryOf(p, 100+i))
		for _, path := range append(all, p) {
			findHolds(t, x, entries, path)
		}
	}
}

// P20.1: any id is one, several times too.
func TestIDs(t *testing.T) {
	x := New()
	for _, e := range []struct {
		pattern string
		id      int
	}{{"/a/b", 0}, {"/a/:x", -1}, {"/:x/b", math.MinInt}, {"/:x/:y", math.MaxInt}, {"/a/*r", 0}, {"/*r", -1}} {
		if !x.Add(e.pattern, e.id) || x.Add(e.pattern, e.id) || x.Add(e.pattern, e.id+1) {
			t.Errorf("P20.1: Add(%q, %d)", e.pattern, e.id)
		}
	}
	if got := x.All("/a/b"); !slices.Equal(got, []int{0, -1, 0, math.MinInt, math.MaxInt, -1}) {
		t.Errorf("P20.1: All: %d", got)
	}
	if id, params, ok := x.Find("/a/b"); id != 0 || len(params) != 0 || !ok {
		t.Errorf("P20.1: Find: %d, %q, %v", id, params, ok)
	}
	if id, _, ok := x.Find("/b/b"); id != math.MinInt || !ok {
		t.Errorf("P20.1: Find: %d, %v", id, ok)
	}
}

// P20.1: Find and All, by hand.
func TestFind(t *testing.T) {
	for _, x := range []struct {
		patterns string // parted by blanks; their ids are their places
		path     string
		want     string // of Find and All
	}{
		{"", "/", "none"}, {"", "", "none"}, {"/", "", "none"}, {"/", "/", "0 [] [0]"}, {"/", "//", "none"}, {"/", "/a", "none"},
		{"/a", "/a", "0 [] [0]"}, {"/a", "/A", "none"}, {"/a", "a", "none"}, {"/a", "/a/", "none"}, {"/a", "//a", "none"}, {"/a", "/ab", "none"}, {"/ab", "/a", "none"}, {"/a/", "/a", "none"}, {"/a/b", "/a", "none"}, {"/a/b", "/a/", "none"}, {"/a", "/a/b", "none"},
		// A colon's takes one that isn't empty, whatever its bytes are.
		{"/:x", "/", "none"}, {"/:x", "/a", "0 [{x a}] [0]"}, {"/:x", "/a/", "none"}, {"/:x", "//", "none"}, {"/:x", "//a", "none"}, {"/:x", "/a/b", "none"}, {"/:x", "a", "none"},
		{"/:x", "/:x", "0 [{x :x}] [0]"}, {"/:x", "/:", "0 [{x :}] [0]"}, {"/:x", "/*", "0 [{x *}] [0]"}, {"/:x", "/*x", "0 [{x *x}] [0]"}, {"/:x", "/\x00\xff", "0 [{x \x00\xff}] [0]"}, {"/:x", "/%2F", "0 [{x %2F}] [0]"}, {"/:x", "/..", "0 [{x ..}] [0]"},
		{"/:x/", "/a/", "0 [{x a}] [0]"}, {"/:x/", "/a", "none"}, {"/:x/", "//", "none"}, {"/:x/:y", "/a/b", "0 [{x a} {y b}] [0]"}, {"/:x/:y", "/a/", "none"}, {"/:x/:y", "//a", "none"}, {"/:b/:a", "/1/2", "0 [{b 1} {a 2}] [0]"},
		// A star's takes all that are left, one at least.
		{"/*r", "/", "0 [{r }] [0]"}, {"/*r", "//", "0 [{r /}] [0]"}, {"/*r", "/a", "0 [{r a}] [0]"}, {"/*r", "/a/", "0 [{r a/}] [0]"}, {"/*r", "//a//", "0 [{r /a//}] [0]"}, {"/*r", "/a/b/c", "0 [{r a/b/c}] [0]"}, {"/*r", "", "none"}, {"/*r", "a", "none"}, {"/*r", "*", "none"},
		{"/*r", "/*r", "0 [{r *r}] [0]"}, {"/*r", "/*", "0 [{r *}] [0]"}, {"/*r", "/:r/*", "0 [{r :r/*}] [0]"}, {"/*r", "/\xff\n/\x00", "0 [{r \xff\n/\x00}] [0]"}, {"/*r", "/a/../%2f", "0 [{r a/../%2f}] [0]"},
		{"/a/*r", "/a", "none"}, {"/a/*r", "/a/", "0 [{r }] [0]"}, {"/a/*r", "/a//", "0 [{r /}] [0]"}, {"/a/*r", "/a/b", "0 [{r b}] [0]"}, {"/a/*r", "/b/a", "none"}, {"/:x/*r", "/a/b/c", "0 [{x a} {r b/c}] [0]"}, {"/:x/*r", "/a", "none"}, {"/:x/*r", "//a", "none"},
		// Nothing is read as another spelling of it.
		{"/%41", "/A", "none"}, {"/A", "/%41", "none"}, {"/%4a", "/%4A", "none"}, {"/b", "/a/../b", "none"}, {"/a/../b", "/a/../b", "0 [] [0]"}, {"/a:b", "/a:c", "none"}, {"/a*", "/ab", "none"}, {"/a*", "/a*", "0 [] [0]"}, {"/a", "/a?b", "none"}, {"/.", "/a", "none"}, {"/a", "/a\x00", "none"},
		// A literal one is better than a colon's, that than a star's.
		{"/*r /:x /a", "/a", "2 [] [2 1 0]"}, {"/*r /:x /a", "/b", "1 [{x b}] [1 0]"}, {"/*r /:x /a", "/", "0 [{r }] [0]"}, {"/*r /:x /a", "/a/b", "0 [{r a/b}] [0]"}, {"/*r /:x /a", "/:x", "1 [{x :x}] [1 0]"}, {"/*r /:x /a", "/*r", "1 [{x *r}] [1 0]"}, {"/*r /", "/", "1 [] [1 0]"}, {"/:x/ /:x/*r", "/a/", "0 [{x a}] [0 1]"},
		{"/a/*r /a/:x /a/b", "/a/b", "2 [] [2 1 0]"}, {"/a/*r /a/:x /a/b", "/a/", "0 [{r }] [0]"},
		// The first one that is unlike decides, not how many are better behind it, nor how long they are.
		{"/:x/b/c/d /a/:p/:q/:r", "/a/b/c/d", "1 [{p b} {q c} {r d}] [1 0]"}, {"/:x/b/c /a/*r", "/a/b/c", "1 [{r b/c}] [1 0]"}, {"/*r /:x/*s /:x/:y/*t /:x/:y/:z", "/a/b/c", "3 [{x a} {y b} {z c}] [3 2 1 0]"}, {"/*r /a/*s /a/b/*t", "/a/b/c/d", "2 [{t c/d}] [2 1 0]"}, {"/:x/:y/c /:x/b/:z", "/a/b/c", "1 [{x a} {z c}] [1 0]"},
		// Where the better step leads nowhere the other ones count.
		{"/a/b /:x/c", "/a/c", "1 [{x a}] [1]"}, {"/a/b/c /a/:x/d /:y/b/e /*r", "/a/b/c", "0 [] [0 3]"}, {"/a/b/c /a/:x/d /:y/b/e /*r", "/a/b/d", "1 [{x b}] [1 3]"}, {"/a/b/c /a/:x/d /:y/b/e /*r", "/a/b/e", "2 [{y a}] [2 3]"}, {"/a/b/c /a/:x/d /:y/b/e /*r", "/a/b/f", "3 [{r a/b/f}] [3]"}, {"/a/b/c /a/:x/d", "/a/b/f", "none"}, {"/a/:x/ /a/*r", "/a/b", "1 [{r b}] [1]"},
		// Each has its own names, though its steps are others' too.
		{"/:x/a /:y/b /:z /:w/*x", "/c/a", "0 [{x c}] [0 3]"}, {"/:x/a /:y/b /:z /:w/*x", "/c/b", "1 [{y c}] [1 3]"}, {"/:x/a /:y/b /:z /:w/*x", "/c", "2 [{z c}] [2]"}, {"/:x/a /:y/b /:z /:w/*x", "/c/", "3 [{w c} {x }] [3]"},
	} {
		tree, entries := grown(t, strings.Fields(x.patterns)...)
		got := "none"
		if id, params, ok := tree.Find(x.path); ok {
			got = fmt.Sprint(id, " ", params, " ", tree.All(x.path))
		}
		if got != x.want {
			t.Errorf("P20.1: of %q: %q: %s, want %s", x.patterns, x.path, got, x.want)
		}
		findHolds(t, tree, entries, x.path)
	}
}

// P20.1, P20.2: each two, and all but each one, of all small patterns.
func TestSmall(t *testing.T) {
	var patterns []string
	for _, p := range paths(2, "", "a", ":x", ":y", "*r") {
		if rightAsWritten(p) {
			patterns = append(patterns, p)
		}
	}
	all := append(paths(3, "", "a", "b", ":"), "", "a", "*r", "/:x/:y", "/*r/a", "/*", "/a/*")
	for i, p := range patterns {
		for _, q := range patterns {
			x, entries := grown(t, p, q)
			for _, path := range all {
				findHolds(t, x, entries, path)
			}
		}
		x, entries := grown(t, append(slices.Clone(patterns[i+1:]), patterns[:i]...)...)
		for _, path := range all {
			findHolds(t, x, entries, path)
		}
	}
}

// anyPattern answers one of up to n segments, of which some are wrong.
func anyPattern(r *rand.Rand, n int) string {
	p := ""
	for i := range 1 + r.Intn(n) {
		switch k := r.Intn(40); {
		case k < 22:
			p += "/" + []string{"a", "b", "ab", ""}[r.Intn(4)]
		case k < 37:
			p += "/:" + letters[(i*7+r.Intn(3))%52:][:1]
		case k < 39:
			return p + "/*" + letters[(i*7+3)%52:][:1]
		default:
			p += []string{"/*a", "/:", "/*", "/:a", "/a b", "/%41", "/a:", "/:aa1"}[r.Intn(8)]
		}
	}
	return p
}

// anyPath answers one of up to n segments that patterns of anyPattern may take.
func anyPath(r *rand.Rand, n int) string {
	p := ""
	for range 1 + r.Intn(n) {
		p += "/" + []string{"a", "b", "ab", "", "a", "b", "c", ":a", "*a", "%41", "\xff"}[r.Intn(11)]
	}
	return p
}

// P20.1, P20.2: trees at random; in whatever order their patterns are added,
// they tell the same.
func TestRandom(t *testing.T) {
	r := rand.New(rand.NewSource(20))
	for range 1500 {
		var patterns []string
		n := 1 + r.Intn(8)
		for range r.Intn(25) {
			patterns = append(patterns, anyPattern(r, n))
		}
		x, entries := grown(t, patterns...)
		shuffled := slices.Clone(entries)
		r.Shuffle(len(shuffled), func(i, j int) { shuffled[i], shuffled[j] = shuffled[j], shuffled[i] })
		y := New()
		for _, e := range shuffled {
			if !y.Add(e.pattern, e.id) {
				t.Fatalf("P20.1: Add(%q)", e.pattern)
			}
		}
		for range 25 {
			path := anyPath(r, n+1)
			if len(entries) > 0 && r.Intn(3) == 0 {
				path = filled(r, entries[r.Intn(len(entries))].pattern)
			}
			findHolds(t, x, entries, path)
			findHolds(t, y, entries, path)
		}
	}
}

// filled answers a path that a pattern takes, or nearly so.
func filled(r *rand.Rand, pattern string) string {
	return naming.ReplaceAllStringFunc(pattern, func(s string) string {
		if s[1] == '*' {
			return anyPath(r, 3)
		}
		return anyPath(r, 1)
	})
}

// P20.1: bytes at random, as patterns and as paths.
func TestBytes(t *testing.T) {
	r := rand.New(rand.NewSource(21))
	x, entries := grown(t, "/", "/a", "/:x", "/:x/:y", "/a/*r", "/:x/b/*r", "//", "/!/~")
	for range 30000 {
		raw := make([]byte, r.Intn(12))
		for i := range raw {
			raw[i] = byte(r.Intn(256))
			if r.Intn(2) == 0 {
				raw[i] = "/:*ab!~"[r.Intn(7)]
			}
		}
		rightHolds(t, string(raw))
		rightHolds(t, "/"+string(raw))
		findHolds(t, x, entries, string(raw))
		findHolds(t, x, entries, "/"+string(raw))
	}
}

// P20.1: patterns of 32 segments, and paths of as many, one less and more.
func TestLongest(t *testing.T) {
	x, entries := grown(t, strings.Repeat("/a", 32), strings.Repeat("/a", 31)+"/:x", strings.Repeat("/a", 31)+"/*r", strings.Repeat("/a", 30)+"/:x/a", "/:x"+strings.Repeat("/a", 31), strings.Repeat("/a", 33), "/:x"+strings.Repeat("/a", 30)+"/*r", strings.Repeat("/", 32), "/*r")
	for n := range 40 {
		for _, s := range []string{"/a", "/", "/b"} {
			for _, end := range []string{"", "/", "/a", "/b", "/a/a", "/a/b"} {
				findHolds(t, x, entries, strings.Repeat(s, n)+end)
				findHolds(t, x, entries, "/b"+strings.Repeat(s, n)+end)
			}
		}
	}
	if id, params, ok := x.Find(strings.Repeat("/a", 34)); id != 2 || !ok || !slices.Equal(params, []api.Param{{Name: "r", Value: "a/a/a"}}) {
		t.Errorf("P20.1: Find of 34: %d, %q, %v", id, params, ok)
	}
}

// P20.2: of all patterns of a literal one or a colon's the nearest comes first,
// and the next ones in their order; where none is, that is soon told.
func TestMany(t *testing.T) {
	const n = 12
	x := New()
	for i := range 1 << n {
		p := ""
		for j := range n {
			if i>>(n-1-j)&1 == 0 {
				p += "/a"
			} else {
				p += "/:" + letters[j:j+1]
			}
		}
		if !x.Add(p+"/z", i) || x.Add(p+"/z", i) {
			t.Fatalf("P20.1: Add(%q)", p)
		}
	}
	as := strings.Repeat("/a", n)
	got := x.All(as + "/z")
	if len(got) != 1<<n || !slices.IsSorted(got) || got[0] != 0 {
		t.Errorf("P20.2: All: %d ids, sorted: %v", len(got), slices.IsSorted(got))
	}
	if got := x.All(as + "/y"); len(got) != 0 {
		t.Errorf("P20.2: All of none: %d", got)
	}
	if id, params, ok := x.Find(as + "/y"); id != 0 || len(params) != 0 || ok {
		t.Errorf("P20.2: Find of none: %d, %q, %v", id, params, ok)
	}
	if id, params, ok := x.Find(strings.Repeat("/b", n) + "/z"); id != 1<<n-1 || len(params) != n || !ok {
		t.Errorf("P20.2: Find: %d, %q, %v", id, params, ok)
	}
}

// P20.1: long patterns and paths end soon.
func TestLong(t *testing.T) {
	const n = 1 << 20
	x, _ := grown(t, "/a/*r", "/:x/b")
	for _, s := range []string{"/", "/a", "/:a", "/*a", "/a/"} {
		if Right(strings.Repeat(s, n)) || x.Add(strings.Repeat(s, n), 9) {
			t.Errorf("P20.1: Right of %q, many times", s)
		}
	}
	long := strings.Repeat("a", n)
	if Right("/:"+long) || Right("/*"+long) || !Right("/"+long) || !x.Add("/a/"+long, 2) {
		t.Error("P20.1: Right of a long segment")
	}
	rest := strings.Repeat("/b", n)
	if id, params, ok := x.Find("/a" + rest); id != 0 || !ok || len(params) != 1 || params[0].Value != rest[1:] {
		t.Errorf("P20.1: Find of a long path: %d, %v", id, ok)
	}
	if id, params, ok := x.Find("/" + long + "/b"); id != 1 || !ok || len(params) != 1 || params[0].Value != long {
		t.Errorf("P20.1: Find of a long segment: %d, %v", id, ok)
	}
	if got := x.All("/a/" + long); !slices.Equal(got, []int{2, 0}) {
		t.Errorf("P20.1: All of a long segment: %d", got)
	}
	if _, _, ok := x.Find("/b" + rest); ok || len(x.All(rest)) != 0 {
		t.Error("P20.1: Find of a long path that nobody takes")
	}
}

// P20.1: what is answered is new: nobody else's answer, nor the tree, changes
// with it.
func TestAnswersStay(t *testing.T) {
	x, entries := grown(t, "/:x/:y", "/a/:y", "/a/*r", "/*s", "/:x/*r")
	for range 3 {
		_, first, _ := x.Find("/a/b")
		_, second, _ := x.Find("/a/b")
		ids, others := x.All("/a/b"), x.All("/a/b")
		for i := range first[:cap(first)] {
			first[:cap(first)][i] = api.Param{Name: "!", Value: "?"}
		}
		for i := range ids[:cap(ids)] {
			ids[:cap(ids)][i] = 99
		}
		if !slices.Equal(second, []api.Param{{Name: "y", Value: "b"}}) || !slices.Equal(others, []int{1, 2, 0, 4, 3}) {
			t.Fatalf("P20.1: answers share memory: %q, %d", second, others)
		}
		for _, path := range paths(3, "", "a", "b") {
			findHolds(t, x, entries, path)
		}
	}
}

// P20.1: a pattern isn't kept, nor what it was cut from.
func TestPatternIsNotKept(t *testing.T) {
	text := strings.Repeat("-", 1000) + "/lit/:name/*tail" + strings.Repeat("-", 1000)
	x := New()
	if !x.Add(text[1000:len(text)-1000], 1) {
		t.Fatal("P20.1: Add")
	}
	_, params, _ := x.Find("/lit/b/c")
	if len(params) != 2 {
		t.Fatalf("P20.1: Find: %q", params)
	}
	begin := uintptr(unsafe.Pointer(unsafe.StringData(text)))
	for _, p := range params {
		if at := uintptr(unsafe.Pointer(unsafe.StringData(p.Name))); at >= begin && at < begin+uintptr(len(text)) {
			t.Errorf("P20.1: the name %s lies in the text that was handed in", p.Name)
		}
	}
}

// P20.1: a tree knows its own patterns alone, and a question changes nothing.
func TestTreesAreApart(t *testing.T) {
	x, left := grown(t, "/a/:x", "/*r")
	y, right := grown(t, "/a/:y", "/a/b", "/:z")
	for range 2 {
		for _, path := range append(paths(3, "", "a", "b"), "", "a") {
			findHolds(t, x, left, path)
			findHolds(t, y, right, path)
			findHolds(t, New(), nil, path)
		}
	}
	if !y.Add("/*r", 7) || !x.Add("/a/b", 8) || x.Add("/a/:z", 9) {
		t.Error("P20.1: Add behind questions")
	}
	if a, b := x.All("/a/b"), y.All("/a/b"); !slices.Equal(a, []int{8, 0, 1}) || !slices.Equal(b, []int{1, 0, 7}) {
		t.Errorf("P20.1: All: %d, %d", a, b)
	}
}
