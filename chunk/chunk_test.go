package chunk

import (
	"bytes"
	"math"
	"math/big"
	"math/rand"
	"regexp"
	"slices"
	"strconv"
	"strings"
	"testing"

	"parallax/api"
	"parallax/bounds"
)

// every: each clause, and the bits above them.
const every = ^api.Profile(0)

// The clauses that Size looks at.
const (
	hexBit    = api.Profile(1) << api.ChunkHex
	blanksBit = api.Profile(1) << api.ChunkBlanks
)

// The chapter's lines, written out as patterns: the size, then the extension;
// and the number within a size.
var (
	parted    = regexp.MustCompile(`\A([^;]*)((?:;(?s:.*))?)\z`)
	noText    = regexp.MustCompile(`[\x00-\x08\x0a-\x1f\x7f]`)
	plain     = regexp.MustCompile(`\A([0-9A-Fa-f]+)\z`)
	marked    = regexp.MustCompile(`\A(?:0[xX])?([0-9A-Fa-f]+)\z`)
	blank     = regexp.MustCompile(`\A[ \t]*([0-9A-Fa-f]+)[ \t]*\z`)
	blankMark = regexp.MustCompile(`\A[ \t]*(?:0[xX])?([0-9A-Fa-f]+)[ \t]*\z`)
)

// profiles: each set of the clauses that Size looks at.
func profiles() []api.Profile { return []api.Profile{0, hexBit, blanksBit, hexBit | blanksBit} }

// within answers bounds of that Body and Ext.
func within(body, ext int) api.Bounds {
	b := bounds.Usual()
	b.Body, b.Ext = body, ext
	return b
}

// size: what Size answers.
type size struct {
	n     int
	errno api.Errno
}

func sizeOf(s string, p api.Profile, b api.Bounds) size {
	n, errno := Size(s, p, b)
	return size{n, errno}
}

// bad and long: what Size tells of a line that is none, of too long a chunk.
var (
	bad  = size{0, 400}
	long = size{0, 413}
)

// asWritten: the chapter's Size.
func asWritten(s string, p api.Profile, b api.Bounds) size {
	m := parted.FindStringSubmatch(s)
	if m[2] != "" && (len(m[2]) > b.Ext || noText.MatchString(m[2])) {
		return bad
	}
	form := map[api.Profile]*regexp.Regexp{0: plain, hexBit: marked, blanksBit: blank, hexBit | blanksBit: blankMark}[p&(hexBit|blanksBit)]
	digits := form.FindStringSubmatch(m[1])
	if digits == nil {
		return bad
	}
	n, _ := new(big.Int).SetString(digits[1], 16)
	if n.Cmp(big.NewInt(int64(max(b.Body, 0)))) > 0 {
		return long
	}
	return size{int(n.Int64()), 0}
}

// holds holds Size of s against the chapter's words, of each profile.
func holds(t *testing.T, s string, b api.Bounds) {
	t.Helper()
	for _, p := range profiles() {
		if got, want := sizeOf(s, p, b), asWritten(s, p, b); got != want {
			t.Fatalf("P11.1: Size(%q, %#x) of Body %d, Ext %d: %+v, want %+v", s, p, b.Body, b.Ext, got, want)
		}
	}
}

// texts calls f with each text of these pieces of at most so many.
func texts(pieces []string, most int, f func(s string)) {
	l := []string{""}
	for range most + 1 {
		var longer []string
		for _, s := range l {
			f(s)
			for _, piece := range pieces {
				longer = append(longer, s+piece)
			}
		}
		l = longer
	}
}

// P11.1: the numbers of package api.
func TestNumbers(t *testing.T) {
	if api.OK != 0 || api.ErrBad != 400 || api.ErrBody != 413 {
		t.Error("P11.1: package api's errors")
	}
	if api.ChunkHex != 27 || api.ChunkBlanks != 28 {
		t.Error("P11.1: package api's clauses")
	}
}

// P11.1: lines that tell a size, and lines that tell too great a one.
func TestSize(t *testing.T) {
	b := within(255, 8)
	for _, x := range []struct {
		s    string
		p    api.Profile
		want size
	}{
		{"a;b", 0, size{10, 0}},
		{"0", 0, size{0, 0}},
		{"000", 0, size{0, 0}},
		{"9", 0, size{9, 0}},
		{"aF", 0, size{175, 0}},
		{"Fa", 0, size{250, 0}},
		{"ff", 0, size{255, 0}},
		{"100", 0, long},
		{"000000000000000000000ff", 0, size{255, 0}},
		{"00000000000000000000100", 0, long},
		{"10000000000000000", 0, long},
		{"10000000000000005", 0, long},
		{"ffffffffffffffff", 0, long},
		{"8000000000000000", 0, long},
		{"5;", 0, size{5, 0}},
		{"5;;", 0, size{5, 0}},
		{"5; a=\"b\"", 0, size{5, 0}},
		{"5;\t\x80\xff a ", 0, size{5, 0}},
		{"5;6;7", 0, size{5, 0}},
		{"5;0x6", 0, size{5, 0}},
		{"100;", 0, long},
		{"0;a", 0, size{0, 0}},
		{" 5", blanksBit, size{5, 0}},
		{"5\t", blanksBit, size{5, 0}},
		{" \t 5\t \t", blanksBit, size{5, 0}},
		{"5 ;a", blanksBit, size{5, 0}},
		{" 5 ; a ", blanksBit, size{5, 0}},
		{" 100 ", blanksBit, long},
		{"0x5", hexBit, size{5, 0}},
		{"0XfF", hexBit, size{255, 0}},
		{"0x0", hexBit, size{0, 0}},
		{"0x00000000000000000005;a", hexBit, size{5, 0}},
		{"0x100", hexBit, long},
		{"05", hexBit, size{5, 0}},
		{" 0x5 ", hexBit | blanksBit, size{5, 0}},
		{"\t0X5\t;a", hexBit | blanksBit, size{5, 0}},
		{" 5 ", every, size{5, 0}},
	} {
		if got := sizeOf(x.s, x.p, b); got != x.want {
			t.Errorf("P11.1: Size(%q, %#x): %+v, want %+v", x.s, x.p, got, x.want)
		}
		holds(t, x.s, b)
	}
}

// P11.1: lines that are none, of profiles that lack the clause they would need.
func TestBad(t *testing.T) {
	b := within(255, 8)
	for _, x := range []struct {
		p api.Profile
		l []string
	}{
		{every, []string{"", ";", ";a", ";5", "g", "G", "x", "x5", "0x", "0X", "0x;a", " ", "\t \t", " ;", "+5", "-5", "0x+5", "0x-5", "5h", "5 5", "5,5", "5_5", "5.0", "0x0x5", "0x0X5", "0X0x5", "x05", "00x5", "0 x5", "0x 5", "#5", "$5", "0o7", "5\r", "5\n", "\v5", "5\f", "5\x00", "\xa05", "\u00a05", "\u06655", "\uff15", "\uff1b", "5\uff1ba", "5:a", "5;12345678", "5;\x00", "5;a\r", "5;a\n", "5;\r\n", "5;\v", "5;\f", "5;\x1f", "5;\x7f", "5;a\x01b", "5 ;\x08", "100;12345678", "100;\x01", "x;\x01", "100g", "gffffffffffffffffffff"}},
		{every &^ hexBit, []string{"0x5", "0X5", "0x0", "0x5;a", " 0x5 "}},
		{every &^ blanksBit, []string{" 5", "5 ", "\t5", "5\t", " 5;", "5 ;a", "5\t;", " 0x5", "0x5 "}},
		{0, []string{"0x5", " 5", "5 ", " 0x5 ", "0x"}},
	} {
		for _, s := range x.l {
			if got := sizeOf(s, x.p, b); got != bad {
				t.Errorf("P11.1: Size(%q, %#x): %+v", s, x.p, got)
			}
			holds(t, s, b)
		}
	}
}

// P11.1: each byte at each place.
func TestEachByte(t *testing.T) {
	for i := range 256 {
		c := string([]byte{byte(i)})
		for _, s := range []string{c, c + "5", "5" + c, "5" + c + "5", c + "x5", "0" + c + "5", "0x" + c, "0x5" + c, "0x" + c + "5", c + "0x5", " " + c + "5", "5" + c + " ", "5 " + c, c + ";", "5" + c + ";", c + "5;a", "5;" + c, "5;" + c + "a", "5;a" + c, "5;a" + c + "b", "5;;" + c, "5 ;" + c, "0x5;" + c, "100;" + c, "g;" + c, c + c, "5;" + c + c} {
			holds(t, s, within(255, 3))
			holds(t, s, within(4, 2))
			holds(t, s, within(15, 0))
		}
	}
}

// P11.1: each text of a few pieces.
func TestEachText(t *testing.T) {
	texts([]string{"0", "5", "f", "x", "X", " ", "\t", ";", "a\x01", "\xff"}, 5, func(s string) {
		holds(t, s, within(90, 2))
	})
}

// P11.1: texts at random.
func TestRandomTexts(t *testing.T) {
	pieces := []string{"0", "5", "f", ";", " ", "0x", "\t", "0X", "F", "=", "\"", "x", "\u00e4", "\xff", "\v", "\r", "\x00", "g", "ffffffffffffffff", "0000000000000000"}
	r := rand.New(rand.NewSource(111))
	seen := map[api.Errno]int{}
	for range 60000 {
		var s string
		for range r.Intn(9) {
			s += pieces[r.Intn(1+r.Intn(len(pieces)))]
		}
		b := within(r.Intn(1<<r.Intn(30)), r.Intn(12)-1)
		holds(t, s, b)
		seen[sizeOf(s, hexBit|blanksBit, b).errno]++
	}
	if len(seen) != 3 || seen[0] < 1000 || seen[400] < 1000 || seen[413] < 1000 {
		t.Errorf("P11.1: lines at random: %v", seen)
	}
}

// P11.1: the semicolon counts to the extension. Of a line without an extension
// nothing is asked of one.
func TestMostExtension(t *testing.T) {
	for _, ext := range []int{0, 1, 2, 3, 32, 255, api.MaxExt} {
		b := within(255, ext)
		for n := range ext + 3 {
			s, want := "5", size{5, 0}
			if n > 0 {
				s += ";" + strings.Repeat("a", n-1)
			}
			if n > ext {
				want = bad
			}
			for _, p := range append(profiles(), every) {
				if got := sizeOf(s, p, b); got != want {
					t.Errorf("P11.1: Size of an extension of %d bytes within %d, %#x: %+v", n, ext, p, got)
				}
			}
			holds(t, "0x5 "+s[1:], b)
		}
	}
	for _, ext := range []int{math.MinInt, -5, -1, 0} {
		if got := sizeOf("5", 0, within(255, ext)); got != (size{5, 0}) {
			t.Errorf("P11.1: Size without an extension within %d: %+v", ext, got)
		}
		if got := sizeOf("5;", 0, within(255, ext)); got != bad {
			t.Errorf("P11.1: Size of a semicolon within %d: %+v", ext, got)
		}
	}
	if got := sizeOf("5;a", 0, within(255, math.MaxInt)); got != (size{5, 0}) {
		t.Errorf("P11.1: Size within the greatest Ext: %+v", got)
	}
}

// P11.1: at Body, and one past it, whatever Body is.
func TestMostBody(t *testing.T) {
	for _, body := range []int{math.MinInt, -255, -1, 0, 1, 15, 16, 17, 255, 256, 65536, api.MostBody, math.MaxInt32, math.MaxInt - 1, math.MaxInt} {
		bound := big.NewInt(int64(max(body, 0)))
		for step := int64(-2); step <= 2; step++ {
			n := new(big.Int).Add(bound, big.NewInt(step)).Text(16)
			for _, s := range []string{n, strings.ToUpper(n), "0" + n, strings.Repeat("0", 40) + n, "0x" + n, " " + n + "\t", n + ";a", "0X" + n + " ;", n + "0", n + "g"} {
				holds(t, s, within(body, 8))
			}
		}
	}
	b := bounds.Usual()
	if got := sizeOf("10000", 0, b); got != (size{b.Body, 0}) {
		t.Errorf("P11.1: Size of the usual Body: %+v", got)
	}
	if got := sizeOf("10001", 0, b); got != long {
		t.Errorf("P11.1: Size of one more: %+v", got)
	}
}

// P11.1: first the extension's errors, then those of the size, no number ahead
// of too great a one.
func TestFirstError(t *testing.T) {
	b := within(255, 3)
	for _, x := range []struct {
		s    string
		want size
	}{
		{"100;123", bad}, {"100;\x01", bad}, {"100;12", long}, {"100", long},
		{"5;123", bad}, {"5;\x01", bad}, {"5;12", size{5, 0}},
		{"g;123", bad}, {"g;\x01", bad}, {"g;12", bad}, {"100g", bad}, {"100g;12", bad},
		{strings.Repeat("f", 100) + "g", bad}, {strings.Repeat("f", 100), long},
	} {
		for _, p := range append(profiles(), every) {
			if got := sizeOf(x.s, p, b); got != x.want {
				t.Errorf("P11.1: Size(%q, %#x): %+v, want %+v", x.s, p, got, x.want)
			}
		}
	}
}

// lines calls f with lines of all kinds.
func lines(f func(s string)) {
	sizes := []string{"", "0", "5", "10", "11", "0010", "fFfF", "0x5", "0X10", "0x11", " 5", "5\t", " 0x5 ", "0x 5", "0x", "g", "5 5", "+5"}
	extensions := []string{"", ";", ";a", ";a=b", ";a=b;", ";\x01", ";\t\xff"}
	for _, s := range sizes {
		for _, extension := range extensions {
			f(s + extension)
		}
	}
}

// P11.1: no clause but ChunkHex and ChunkBlanks, and no bound but Body and Ext,
// has a say, right or not.
func TestOthers(t *testing.T) {
	r := rand.New(rand.NewSource(112))
	lines(func(s string) {
		for _, body := range []int{math.MinInt, -1, 0, 5, 16, math.MaxInt} {
			for _, ext := range []int{math.MinInt, -1, 0, 1, 4, math.MaxInt} {
				own := api.Bounds{Body: body, Ext: ext}
				other := api.Bounds{Line: r.Int() - r.Int(), Fields: -r.Int(), Head: r.Int() - r.Int(), Body: body, Ext: ext, Trailers: r.Int(), Wait: -5, Idle: r.Intn(9), Chunked: r.Intn(2) == 1, Old: r.Intn(2) == 1}
				for range 20 {
					p := api.Profile(r.Uint32())
					want := asWritten(s, p, own)
					if got := sizeOf(s, p, own); got != want {
						t.Fatalf("P11.1: Size(%q, %#x, %+v): %+v, want %+v", s, p, own, got, want)
					}
					if got := sizeOf(s, p, other); got != want {
						t.Fatalf("P11.1: Size(%q, %#x, %+v): %+v, want %+v", s, p, other, got, want)
					}
				}
			}
		}
	})
}

// P11.1: what no clause is needed for, every profile reads alike.
func TestStrictLines(t *testing.T) {
	r := rand.New(rand.NewSource(113))
	seen := 0
	lines(func(s string) {
		for _, b := range []api.Bounds{within(16, 4), within(65536, 32), within(5, 0)} {
			want := sizeOf(s, 0, b)
			if want.errno != 0 {
				continue
			}
			seen++
			for range 100 {
				if p := api.Profile(r.Uint32()); sizeOf(s, p, b) != want {
					t.Fatalf("P11.1: Size(%q, %#x): %+v, want %+v", s, p, sizeOf(s, p, b), want)
				}
			}
		}
	})
	if seen < 30 {
		t.Errorf("P11.1: %d strict lines", seen)
	}
}

// P11.1: lines of any length.
func TestLongLines(t *testing.T) {
	n := 1 << 20
	noughts, blanks, text := strings.Repeat("0", n), strings.Repeat(" \t", n), strings.Repeat("a", n)
	for i, x := range []struct {
		s    string
		p    api.Profile
		ext  int
		want size
	}{
		{noughts, 0, 0, size{0, 0}},
		{noughts + "7", 0, 0, size{7, 0}},
		{noughts + "100", 0, 0, long},
		{noughts + "g", 0, 0, bad},
		{strings.Repeat("f", n), 0, 0, long},
		{strings.Repeat("f", n) + "g", 0, 0, bad},
		{"0x" + noughts + "7", hexBit, 0, size{7, 0}},
		{strings.Repeat("0x", n) + "7", hexBit, 0, bad},
		{blanks + "7" + blanks, blanksBit, 0, size{7, 0}},
		{blanks, blanksBit, 0, bad},
		{"7;" + text, 0, n + 1, size{7, 0}},
		{"7;" + text, 0, n, bad},
		{"7;" + text + "\x01", 0, n + 2, bad},
		{"7" + strings.Repeat(";", n), 0, n, size{7, 0}},
	} {
		if got := sizeOf(x.s, x.p, within(255, x.ext)); got != x.want {
			t.Errorf("P11.1: Size of long line %d: %+v, want %+v", i, got, x.want)
		}
	}
}

// P11.1: each that isn't empty, in order, then 0.
func TestPut(t *testing.T) {
	x := func(n int) []byte { return bytes.Repeat([]byte("x"), n) }
	for i, c := range []struct {
		l    [][]byte
		want string
	}{
		{nil, "0\r\n"},
		{[][]byte{}, "0\r\n"},
		{[][]byte{nil}, "0\r\n"},
		{[][]byte{{}, nil, {}}, "0\r\n"},
		{[][]byte{{'a'}}, "1\r\na\r\n0\r\n"},
		{[][]byte{{'a'}, nil, []byte("bc"), {}}, "1\r\na\r\n2\r\nbc\r\n0\r\n"},
		{[][]byte{{}, []byte("b"), []byte("b"), []byte("a")}, "1\r\nb\r\n1\r\nb\r\n1\r\na\r\n0\r\n"},
		{[][]byte{[]byte("0\r\n\r\n")}, "5\r\n0\r\n\r\n\r\n0\r\n"},
		{[][]byte{{0, 255, '\n'}, []byte("\r")}, "3\r\n\x00\xff\n\r\n1\r\n\r\r\n0\r\n"},
		{[][]byte{x(9)}, "9\r\n" + string(x(9)) + "\r\n0\r\n"},
		{[][]byte{x(10)}, "a\r\n" + string(x(10)) + "\r\n0\r\n"},
		{[][]byte{x(15), x(16)}, "f\r\n" + string(x(15)) + "\r\n10\r\n" + string(x(16)) + "\r\n0\r\n"},
		{[][]byte{x(255), x(256)}, "ff\r\n" + string(x(255)) + "\r\n100\r\n" + string(x(256)) + "\r\n0\r\n"},
		{[][]byte{x(0xabcde)}, "abcde\r\n" + string(x(0xabcde)) + "\r\n0\r\n"},
	} {
		if got := Put(c.l...); string(got) != c.want {
			t.Errorf("P11.1: Put %d: %d bytes: %.60q", i, len(got), got)
		}
	}
}

// P11.1: chunks at random, and many of them.
func TestPutMany(t *testing.T) {
	r := rand.New(rand.NewSource(114))
	for range 300 {
		l := make([][]byte, r.Intn(40))
		var want string
		for i := range l {
			l[i] = make([]byte, r.Intn(1<<r.Intn(10)))
			r.Read(l[i])
			if n := len(l[i]); n > 0 {
				want += strconv.FormatInt(int64(n), 16) + "\r\n" + string(l[i]) + "\r\n"
			}
		}
		if got := Put(l...); string(got) != want+"0\r\n" {
			t.Fatalf("P11.1: Put of %d chunks: %d bytes, want %d", len(l), len(got), len(want)+3)
		}
	}
	many := slices.Repeat([][]byte{{'a'}}, 1<<17)
	if got := Put(many...); string(got) != strings.Repeat("1\r\na\r\n", len(many))+"0\r\n" {
		t.Errorf("P11.1: Put of %d chunks: %d bytes", len(many), len(got))
	}
}

// P11.1: Put leaves what it is given as it was, the spare room behind it too,
// and answers new memory each time.
func TestPutStays(t *testing.T) {
	room := []byte("abcdefghijklmnopqrstuvwxyz")
	ahead := bytes.Clone(room)
	l := [][]byte{room[0:3], room[3:3], room[5:9], room[20:]}
	first := Put(l[:3]...)
	again := Put(l[:3]...)
	want := "3\r\nabc\r\n4\r\nfghi\r\n0\r\n"
	if string(first) != want || string(again) != want {
		t.Errorf("P11.1: Put: %q, %q", first, again)
	}
	for i := range first[:cap(first)] {
		first[:cap(first)][i] = '!'
	}
	if !bytes.Equal(room, ahead) || string(again) != want || string(Put()) != "0\r\n" {
		t.Errorf("P11.1: Put shares memory: %q, %q", room, again)
	}
	if len(l[0]) != 3 || len(l[1]) != 0 || len(l[2]) != 4 || len(l[3]) != 6 {
		t.Errorf("P11.1: Put changed its list: %q", l)
	}
}

// readBack reads what Put wrote by what Size tells of each line, and nothing
// else: the chunks, and whether just the last line, of 0, ended it.
func readBack(s string, p api.Profile, b api.Bounds) ([]string, bool) {
	var l []string
	for {
		line, rest, ok := strings.Cut(s, "\r\n")
		n, errno := Size(line, p, b)
		if !ok || errno != 0 {
			return nil, false
		}
		if n == 0 {
			return l, rest == ""
		}
		if len(rest) < n+2 || rest[n:n+2] != "\r\n" {
			return nil, false
		}
		l, s = append(l, rest[:n]), rest[n+2:]
	}
}

// P11.2: each part says how long it is, whatever it holds, to each reader.
func TestThereAndBack(t *testing.T) {
	r := rand.New(rand.NewSource(115))
	pieces := []string{"a", "\r\n", "0\r\n", "0\r\n\r\n", "5\r\n", ";", "\x00", "\xff", "0x", "GET / HTTP/1.1\r\n", strings.Repeat("x", 300)}
	for range 3000 {
		var l [][]byte
		var want []string
		for range r.Intn(6) {
			var s string
			for range r.Intn(5) {
				s += pieces[r.Intn(len(pieces))]
			}
			l = append(l, []byte(s))
			if s != "" {
				want = append(want, s)
			}
		}
		out := string(Put(l...))
		for _, p := range append(profiles(), every, api.Profile(r.Uint32())) {
			if got, ok := readBack(out, p, within(1500, 0)); !ok || !slices.Equal(got, want) {
				t.Fatalf("P11.2: Put of %q, read by %#x: %q, %v", want, p, got, ok)
			}
		}
	}
}

// P11.2: one length, or an error and none; of whatever line, profile, bounds.
func TestOneLength(t *testing.T) {
	r := rand.New(rand.NewSource(116))
	lines(func(s string) {
		for range 100 {
			p, b := api.Profile(r.Uint32()), within(r.Intn(40)-5, r.Intn(10)-2)
			got := sizeOf(s, p, b)
			switch got.errno {
			case 0:
				if got.n < 0 || got.n > max(b.Body, 0) {
					t.Fatalf("P11.2: Size(%q, %#x): %d of Body %d", s, p, got.n, b.Body)
				}
			case 400, 413:
				if got.n != 0 {
					t.Fatalf("P11.2: Size(%q, %#x): %d beside error %d", s, p, got.n, got.errno)
				}
			default:
				t.Fatalf("P11.2: Size(%q, %#x): error %d", s, p, got.errno)
			}
		}
	})
}
