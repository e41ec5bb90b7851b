package percent

import (
	"math/rand"
	"regexp"
	"slices"
	"strings"
	"testing"
)

const unreserved = "ABCDEFGHIJKLMNOPQRSTUVWXYZabcdefghijklmnopqrstuvwxyz0123456789-._~"

var (
	readable = regexp.MustCompile(`^(?s:[^%]|%[0-9A-Fa-f]{2})*$`)
	triple   = regexp.MustCompile(`%[0-9A-Fa-f]{2}`)
	dotEnd   = regexp.MustCompile(`^(?s:.*/)?\.\.?$`)
)

// one answers the text of just that byte.
func one(c int) string { return string([]byte{byte(c)}) }

// hex answers the two Hex of c, in capital letters.
func hex(c int) string {
	const all = "0123456789ABCDEF"
	return all[c/16:c/16+1] + all[c%16:c%16+1]
}

// byteOf answers the byte of a % and two Hex: the one that is spelled so.
func byteOf(s string) int {
	for c := range 256 {
		if strings.EqualFold(s, "%"+hex(c)) {
			return c
		}
	}
	panic(s)
}

// decodeAsWritten: the chapter's Decode.
func decodeAsWritten(s string) (string, bool) {
	if !readable.MatchString(s) {
		return "", false
	}
	return triple.ReplaceAllStringFunc(s, func(x string) string { return one(byteOf(x)) }), true
}

// spelledAsWritten: a path as Norm has it ahead of its dots.
func spelledAsWritten(path string) (string, bool) {
	if path == "" || path[0] != '/' || !readable.MatchString(path) {
		return "", false
	}
	return triple.ReplaceAllStringFunc(path, func(x string) string {
		if c := one(byteOf(x)); strings.Contains(unreserved, c) {
			return c
		}
		return strings.ToUpper(x)
	}), true
}

// walk follows the dots of a path as RFC 3986, 5.2.4, does: not by a list of
// segments, but by the text that is left to be read, and the text so far.
func walk(in string) string {
	out := ""
	for in != "" {
		switch {
		case strings.HasPrefix(in, "/./"):
			in = in[2:]
		case in == "/.":
			in = "/"
		case strings.HasPrefix(in, "/../"):
			in, out = in[3:], out[:max(strings.LastIndexByte(out, '/'), 0)]
		case in == "/..":
			in, out = "/", out[:max(strings.LastIndexByte(out, '/'), 0)]
		default:
			end := strings.IndexByte(in[1:], '/') + 1
			if end == 0 {
				end = len(in)
			}
			in, out = in[end:], out+in[:end]
		}
	}
	return out
}

// normAsWritten: the chapter's Norm.
func normAsWritten(path string) (string, bool) {
	spelled, ok := spelledAsWritten(path)
	if !ok {
		return "", false
	}
	return walk(spelled), true
}

// segmentsAsWritten: the chapter's Segments, byte by byte.
func segmentsAsWritten(path string) []string {
	var l []string
	for i := range len(path) {
		switch {
		case path[0] != '/':
			return nil
		case path[i] == '/':
			l = append(l, "")
		default:
			l[len(l)-1] += path[i : i+1]
		}
	}
	return l
}

// dotsAsWritten: the chapter's Dots, from the last segment to the first: each
// ".." takes the one ahead that no other one has taken.
func dotsAsWritten(segments []string) []string {
	var l []string
	taken := 0
	for i := len(segments) - 1; i >= 0; i-- {
		switch {
		case segments[i] == ".":
		case segments[i] == "..":
			taken++
		case taken > 0:
			taken--
		default:
			l = append([]string{segments[i]}, l...)
		}
	}
	if n := len(segments); n == 0 || dotEnd.MatchString(segments[n-1]) && !strings.Contains(segments[n-1], "/") {
		l = append(l, "")
	}
	return l
}

// normHolds holds Norm of path, and its parts, against the chapter's words.
func normHolds(t *testing.T, path string) {
	t.Helper()
	got, ok := Norm(path)
	want, right := normAsWritten(path)
	if got != want || ok != right {
		t.Fatalf("P19.1: Norm(%q): %q, %v, want %q, %v", path, got, ok, want, right)
	}
	if spelled, ok := spelledAsWritten(path); ok {
		if joined := "/" + strings.Join(dotsAsWritten(segmentsAsWritten(spelled)), "/"); joined != got {
			t.Fatalf("P19.1: Norm(%q): %q, but its segments without dots are %q", path, got, joined)
		}
	}
	segmentsHold(t, path)
	decodeHolds(t, path)
	leadsNowhere(t, path)
}

// segmentsHold holds Segments of path against the chapter's words.
func segmentsHold(t *testing.T, path string) {
	t.Helper()
	if got, want := Segments(path), segmentsAsWritten(path); !slices.Equal(got, want) {
		t.Fatalf("P19.1: Segments(%q): %q, want %q", path, got, want)
	}
}

// dotsHold holds Dots of l against the chapter's words.
func dotsHold(t *testing.T, l []string) {
	t.Helper()
	was := slices.Clone(l)
	if got, want := Dots(l...), dotsAsWritten(l); !slices.Equal(got, want) {
		t.Fatalf("P19.1: Dots(%q): %q, want %q", was, got, want)
	}
	if !slices.Equal(l, was) {
		t.Fatalf("P19.1: Dots has changed %q to %q", was, l)
	}
}

// decodeHolds holds Decode of s against the chapter's words.
func decodeHolds(t *testing.T, s string) {
	t.Helper()
	got, ok := Decode(s)
	if want, right := decodeAsWritten(s); got != want || ok != right {
		t.Fatalf("P19.2: Decode(%q): %q, %v, want %q, %v", s, got, ok, want, right)
	}
}

// leadsNowhere: what Norm answers has no dots to follow any more, and is as it
// is when it is asked again.
func leadsNowhere(t *testing.T, path string) {
	t.Helper()
	got, ok := Norm(path)
	if !ok {
		return
	}
	for _, s := range segmentsAsWritten(got) {
		if d, ok := decodeAsWritten(s); !ok || d == "." || d == ".." {
			t.Fatalf("P19.3: Norm(%q): %q: %q leads elsewhere", path, got, s)
		}
	}
	if again, ok := Norm(got); again != got || !ok {
		t.Fatalf("P19.3: Norm(%q): %q; of that: %q, %v", path, got, again, ok)
	}
}

// each calls f with every list of up to n of these pieces.
func each(n int, pieces []string, f func(l []string)) {
	lists := [][]string{nil}
	for i := 0; ; i++ {
		var longer [][]string
		for _, l := range lists {
			f(l)
			for _, piece := range pieces {
				longer = append(longer, append(slices.Clone(l), piece))
			}
		}
		if i == n {
			return
		}
		lists = longer
	}
}

// P19.1: the example.
func TestExample(t *testing.T) {
	if got, ok := Norm("/a/%2e%2E/b"); got != "/b" || !ok {
		t.Errorf("P19.1: Norm: %q, %v", got, ok)
	}
}

// P19.1: Norm, by hand.
func TestNorm(t *testing.T) {
	for _, x := range []struct{ path, want string }{
		{"/", "/"}, {"//", "//"}, {"///", "///"}, {"/a", "/a"}, {"/a/", "/a/"}, {"//a", "//a"}, {"/a//b//", "/a//b//"},
		// A % of what means the same without it is that byte, in whatever letters its Hex are.
		{"/%41%7A%7a%30%39%2d%2D%2e%5f%5F%7e%7E", "/Azz09--.__~~"},
		{"/%61%2fb", "/a%2Fb"}, {"/%3a%3A:", "/%3A%3A:"}, {"/%c3%84\xc3\x84", "/%C3%84\xc3\x84"}, {"/%aB%Cd%eF", "/%AB%CD%EF"},
		{"/%00%7f%ff%20", "/%00%7F%FF%20"}, {"/%20 ", "/%20 "}, {"/%40@%60`%5b[%7b{%2f", "/%40@%60`%5B[%7B{%2F"},
		// Each % counts once: what it was doesn't begin another one.
		{"/%25", "/%25"}, {"/%2541", "/%2541"}, {"/%252e%252E", "/%252e%252E"}, {"/%2525%32%35", "/%252525"}, {"/%25%32%65", "/%252e"},
		// Bytes that don't stand behind a % stay, Hex in small letters too.
		{"/af?b#c\\d\x00\xff", "/af?b#c\\d\x00\xff"}, {"/AF%2faf", "/AF%2Faf"},
		// Dots.
		{"/.", "/"}, {"/..", "/"}, {"/./", "/"}, {"/../", "/"}, {"/./.", "/"}, {"/../..", "/"}, {"/.././..", "/"},
		{"/a/.", "/a/"}, {"/a/./", "/a/"}, {"/a/..", "/"}, {"/a/../", "/"}, {"/a/../.", "/"}, {"/a/./..", "/"}, {"/a/b/..", "/a/"}, {"/a/b/../", "/a/"},
		{"/a/./b", "/a/b"}, {"/a/../b", "/b"}, {"/../a", "/a"}, {"/a/../../b", "/b"}, {"/a/b/../../c", "/c"}, {"/a/b/c/../d/..", "/a/b/"}, {"/a/../b/../c/../d", "/d"},
		// An empty segment is one like any other.
		{"//..", "/"}, {"//.", "//"}, {"//../a", "/a"}, {"/a//..", "/a/"}, {"/a//../b", "/a/b"}, {"///..", "//"}, {"/a/../..//b", "//b"}, {"/..//a", "//a"},
		// What isn't just one dot or two is no such segment.
		{"/...", "/..."}, {"/a/...", "/a/..."}, {"/....", "/...."}, {"/.a", "/.a"}, {"/a.", "/a."}, {"/..a/b", "/..a/b"}, {"/a../b", "/a../b"}, {"/. ", "/. "}, {"/ ..", "/ .."}, {"/.;/a", "/.;/a"}, {"/..\x00", "/..\x00"}, {"/a/\u2024\u2024", "/a/\u2024\u2024"}, {"/a/..\\b", "/a/..\\b"},
		// A dot is one however it is written; a slash isn't.
		{"/a/%2e", "/a/"}, {"/a/%2E/b", "/a/b"}, {"/a/.%2e/b", "/b"}, {"/a/%2e./b", "/b"}, {"/a/%2E%2E", "/"}, {"/a/%2e%2e%2e", "/a/..."},
		{"/a%2f..", "/a%2F.."}, {"/a%2F../b", "/a%2F../b"}, {"/a/..%2fb", "/a/..%2Fb"}, {"/a/%2f../b", "/a/%2F../b"}, {"/a/%2f/../b", "/a/b"}, {"/%2f%2e%2e", "/%2F.."}, {"/a/%252e%252e/b", "/a/%252e%252e/b"},
	} {
		if got, ok := Norm(x.path); got != x.want || !ok {
			t.Errorf("P19.1: Norm(%q): %q, %v, want %q", x.path, got, ok, x.want)
		}
		normHolds(t, x.path)
	}
}

// P19.1: what Norm refuses.
func TestNormRefuses(t *testing.T) {
	for _, path := range []string{
		"", "a", "a/b", "*", "./a", "../a", " /a", "\\a", "%2f", "%2Fa", ".", "..", "http://a/",
		"/%", "/%4", "/a%", "/a%a", "/%%", "/%%41", "/%4%1", "/%g1", "/%1g", "/%-1", "/%+1", "/% 1", "/%1 ", "/%0x", "/%x4", "/%/1", "/%1/", "/%u0041", "/%\x00\x00", "/%zz", "/%\u0661\u0661", "/%\uff11\uff11",
		// One that is wrong makes all wrong, wherever it stands.
		"/%zz/..", "/a/%/../b", "/%41%4", "/%41/%/a", "/a/b/%2",
	} {
		if got, ok := Norm(path); got != "" || ok {
			t.Errorf("P19.1: Norm(%q): %q, %v", path, got, ok)
		}
		normHolds(t, path)
	}
}

// P19.1, P19.2: each two bytes behind a %.
func TestEachPair(t *testing.T) {
	for a := range 256 {
		for b := range 256 {
			s := "%" + one(a) + one(b)
			got, ok := Decode(s)
			if right := strings.Contains("0123456789ABCDEFabcdef", one(a)) && strings.Contains("0123456789ABCDEFabcdef", one(b)); ok != right || ok && hex(int(got[0])) != strings.ToUpper(s[1:]) {
				t.Fatalf("P19.2: Decode(%q): %q, %v", s, got, ok)
			}
			normHolds(t, "/"+s)
			normHolds(t, "/a/."+s+"/b")
			decodeHolds(t, "x"+s+"y"+s)
		}
	}
}

// P19.1: each byte, behind a % in each of its spellings and by itself.
func TestEachByte(t *testing.T) {
	for c := range 256 {
		for _, s := range []string{"%" + hex(c), strings.ToLower("%" + hex(c)), "%" + strings.ToLower(hex(c)[:1]) + hex(c)[1:], "%" + hex(c)[:1] + strings.ToLower(hex(c)[1:])} {
			want := "%" + hex(c)
			if strings.Contains(unreserved, one(c)) {
				want = one(c)
			}
			for _, x := range []struct{ path, want string }{{"/" + s + "b", "/" + want + "b"}, {"/a" + s, "/a" + want}, {"/" + s + s + s + "/a", "/" + want + want + want + "/a"}} {
				if got, ok := Norm(x.path); got != x.want || !ok {
					t.Errorf("P19.1: Norm(%q): %q, %v, want %q", x.path, got, ok, x.want)
				}
			}
			normHolds(t, "/"+s)
		}
		for _, path := range []string{one(c), one(c) + "/", one(c) + "/a/..", "/" + one(c), "/" + one(c) + one(c), "/" + one(c) + ".", "/." + one(c), "/.." + one(c), "/a/" + one(c) + "../b", "/a/." + one(c) + "./b", "/a" + one(c) + "/../b"} {
			normHolds(t, path)
		}
		if c != '/' {
			if got, ok := Norm(one(c) + "a/../b"); got != "" || ok {
				t.Errorf("P19.1: Norm(%q): %q, %v", one(c)+"a/../b", got, ok)
			}
		}
	}
}

// P19.1: Segments, by hand.
func TestSegments(t *testing.T) {
	for _, x := range []struct {
		path string
		want []string
	}{
		{"", nil}, {"a", nil}, {"a/b", nil}, {"*", nil}, {"\\/", nil}, {" /", nil}, {"%2f", nil},
		{"/", []string{""}}, {"//", []string{"", ""}}, {"///", []string{"", "", ""}},
		{"/a", []string{"a"}}, {"/a/", []string{"a", ""}}, {"//a", []string{"", "a"}}, {"/a//b", []string{"a", "", "b"}},
		{"/./..", []string{".", ".."}}, {"/%2f/%zz/%", []string{"%2f", "%zz", "%"}}, {"/\x00/\xff", []string{"\x00", "\xff"}}, {"/a\\b", []string{"a\\b"}},
	} {
		if got := Segments(x.path); !slices.Equal(got, x.want) {
			t.Errorf("P19.1: Segments(%q): %q, want %q", x.path, got, x.want)
		}
		segmentsHold(t, x.path)
	}
}

// P19.1: Dots, by hand: of what is no part of a path, too.
func TestDots(t *testing.T) {
	for _, x := range []struct{ l, want []string }{
		{nil, []string{""}},
		{[]string{""}, []string{""}},
		{[]string{"", ""}, []string{"", ""}},
		{[]string{"a"}, []string{"a"}},
		{[]string{"."}, []string{""}},
		{[]string{".."}, []string{""}},
		{[]string{"", "."}, []string{"", ""}},
		{[]string{"", ".."}, []string{""}},
		{[]string{"a", "."}, []string{"a", ""}},
		{[]string{"a", ".."}, []string{""}},
		{[]string{"a", "b", ".."}, []string{"a", ""}},
		{[]string{"a", "", ".."}, []string{"a", ""}},
		{[]string{"..", "a"}, []string{"a"}},
		{[]string{".", "a"}, []string{"a"}},
		{[]string{"a", "..", "b"}, []string{"b"}},
		{[]string{"a", "..", "..", "b"}, []string{"b"}},
		{[]string{"a", ".", "..", "b"}, []string{"b"}},
		{[]string{"a", "b", "c", "..", "..", "d"}, []string{"a", "d"}},
		{[]string{"a", "..", ""}, []string{""}},
		{[]string{"a", "b", "..", "."}, []string{"a", ""}},
		{[]string{"a", "b", ".", ".."}, []string{"a", ""}},
		{[]string{"...", "%2e", "%2E%2e", ". ", "./", "/..", "../a", "a/.."}, []string{"...", "%2e", "%2E%2e", ". ", "./", "/..", "../a", "a/.."}},
		{[]string{"a/b", ".."}, []string{""}},
		{[]string{"a/b", "/", ".."}, []string{"a/b", ""}},
	} {
		if got := Dots(x.l...); !slices.Equal(got, x.want) {
			t.Errorf("P19.1: Dots(%q): %q, want %q", x.l, got, x.want)
		}
		dotsHold(t, x.l)
	}
}

// P19.1: all short lists of segments.
func TestDotsShort(t *testing.T) {
	each(6, []string{".", "..", "a", "", "b/"}, func(l []string) { dotsHold(t, l) })
	each(4, []string{".", "..", "...", "%2e", " .", "./", "/..", "\x00"}, func(l []string) { dotsHold(t, l) })
}

// P19.1, P19.2: all short paths of a few pieces.
func TestShort(t *testing.T) {
	each(6, []string{"/", ".", "%2e", "%", "a"}, func(l []string) { normHolds(t, "/"+strings.Join(l, "")) })
	each(4, []string{"/", "..", "%2E", "%2f", "%25", "2", "E", "%c", "g"}, func(l []string) {
		normHolds(t, "/"+strings.Join(l, ""))
		normHolds(t, strings.Join(l, ""))
	})
	each(7, []string{"/.", "/..", "/", "/a"}, func(l []string) { normHolds(t, strings.Join(l, "")) })
}

// P19.2: Decode, by hand.
func TestDecode(t *testing.T) {
	for _, x := range []struct {
		s, want string
		ok      bool
	}{
		{"", "", true}, {"a", "a", true}, {"/a/../b", "/a/../b", true}, {"a+b", "a+b", true}, {"\x00\xff", "\x00\xff", true},
		{"%41", "A", true}, {"%2f%2E%2e", "/..", true}, {"%00%7f%80%ff%FF%fF", "\x00\x7f\x80\xff\xff\xff", true}, {"%c3%a4", "\u00e4", true},
		{"a%20b", "a b", true}, {"%%", "", false}, {"%25", "%", true}, {"%2541", "%41", true}, {"%25%34%31", "%41", true}, {"%2525", "%25", true},
		{"%", "", false}, {"a%", "", false}, {"%4", "", false}, {"%4g", "", false}, {"%g4", "", false}, {"%%41", "", false}, {"%4%41", "", false}, {"%41%", "", false}, {"%zz%41", "", false}, {"ab%4", "", false}, {"% 41", "", false}, {"%+4", "", false}, {"%0x41", "", false},
	} {
		if got, ok := Decode(x.s); got != x.want || ok != x.ok {
			t.Errorf("P19.2: Decode(%q): %q, %v, want %q, %v", x.s, got, ok, x.want, x.ok)
		}
		decodeHolds(t, x.s)
	}
}

// P19.1, P19.2: texts at random; each of them in other spellings of its bytes.
func TestRandom(t *testing.T) {
	r := rand.New(rand.NewSource(19))
	pieces := []string{"/", "/", ".", "..", "%2e", "%2E", "%2f", "%5C", "%", "%2", "%25", "a", "Z", "0", "-", "~", "%7e", "%c3", "%Ff", "\x00", "\xe4"}
	for range 60000 {
		var b strings.Builder
		for range r.Intn(14) {
			if r.Intn(5) > 0 {
				b.WriteString(pieces[r.Intn(len(pieces)-r.Intn(len(pieces)))])
			} else {
				b.WriteByte(byte(r.Intn(256)))
			}
		}
		normHolds(t, b.String())
		normHolds(t, "/"+b.String())
	}
	for range 20000 {
		raw := make([]byte, r.Intn(20))
		r.Read(raw)
		spelled := ""
		for _, c := range raw {
			spelled += "%" + mixed(r, hex(int(c)))
		}
		if got, ok := Decode(spelled); got != string(raw) || !ok {
			t.Fatalf("P19.2: Decode(%q): %q, %v", spelled, got, ok)
		}
	}
}

// mixed answers s with each letter in one of its cases.
func mixed(r *rand.Rand, s string) string {
	b := []byte(s)
	for i := range b {
		if r.Intn(2) == 0 {
			b[i] = strings.ToLower(s)[i]
		}
	}
	return string(b)
}

// P19.1: Dots changes neither what it is handed nor the room behind it, keeps
// none of it, and answers new memory; so does Segments.
func TestListsStay(t *testing.T) {
	for n := range 9 {
		room := []string{"a", ".", "b", "..", "", "c", "..", "d", "x", "y", "z"}
		was := slices.Clone(room)
		got, want := Dots(room[:n]...), dotsAsWritten(was[:n])
		other := Dots(room[:n]...)
		if !slices.Equal(room, was) {
			t.Errorf("P19.1: Dots of %d has changed %q to %q", n, was, room)
		}
		for i := range room {
			room[i] = "!"
		}
		for i := range other[:cap(other)] {
			other[:cap(other)][i] = "?"
		}
		if !slices.Equal(got, want) {
			t.Errorf("P19.1: Dots of %d: its answer has changed: %q, want %q", n, got, want)
		}
	}
	first := Segments("/a/b")
	for i := range first[:cap(first)] {
		first[:cap(first)][i] = "!"
	}
	if got := Segments("/a/b"); !slices.Equal(got, []string{"a", "b"}) {
		t.Errorf("P19.1: Segments, a second time: %q", got)
	}
}

// P19.3: however the dots of a path are written, it is the one path; nobody
// comes out above where a path without them would.
func TestOneWay(t *testing.T) {
	r := rand.New(rand.NewSource(20))
	for range 20000 {
		plain, spelled := "", ""
		for range 1 + r.Intn(12) {
			s := []string{"a", "b", "..", "..", ".", "", "c~d"}[r.Intn(7)]
			plain, spelled = plain+"/"+s, spelled+"/"
			for i := range len(s) {
				if r.Intn(2) == 0 {
					spelled += "%" + mixed(r, hex(int(s[i])))
				} else {
					spelled += s[i : i+1]
				}
			}
		}
		want, ok := Norm(plain)
		if got, right := Norm(spelled); got != want || !ok || !right || got != walk(plain) {
			t.Fatalf("P19.3: Norm(%q): %q, %v; of %q: %q, %v", spelled, got, right, plain, want, ok)
		}
		// Whoever reads on in the answer, and whoever puts a path ahead of it, comes to the same place.
		if got := walk("/in" + want); got != "/in"+want {
			t.Fatalf("P19.3: Norm(%q): %q leads out of /in: %q", spelled, want, got)
		}
	}
}

// P19.3: long paths end soon, and lead nowhere either.
func TestLong(t *testing.T) {
	const n = 1 << 18
	for _, x := range []struct{ path, want string }{
		{strings.Repeat("/a", n), strings.Repeat("/a", n)},
		{strings.Repeat("/..", n), "/"},
		{strings.Repeat("/.", n), "/"},
		{strings.Repeat("/a", n) + strings.Repeat("/%2e.", n), "/"},
		{strings.Repeat("/a", n) + strings.Repeat("/..", n-1) + "/b", "/a/b"},
		{strings.Repeat("/a/..", n) + "/b", "/b"},
		{strings.Repeat("/", n), strings.Repeat("/", n)},
		{"/" + strings.Repeat("%2f", n), "/" + strings.Repeat("%2F", n)},
		{"/" + strings.Repeat("%61", n), "/" + strings.Repeat("a", n)},
		{"/" + strings.Repeat("%61", n) + "%", ""},
		{"/" + strings.Repeat("%", n), ""},
	} {
		if got, ok := Norm(x.path); got != x.want || ok != (x.want != "") {
			t.Errorf("P19.3: Norm of %d bytes: %d, %v", len(x.path), len(got), ok)
		}
	}
}
