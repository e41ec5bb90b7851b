package line

import (
	"fmt"
	"math"
	"math/rand"
	"slices"
	"strings"
	"testing"

	"parallax/api"
)

// The two clauses that this layer knows, and all others with the bits above them, as bits of their own.
const (
	lf     = api.Profile(1 << 1)
	cr     = api.Profile(1 << 2)
	others = ^(lf | cr)
)

// ways: each way to have the two clauses.
var ways = []api.Profile{0, lf, cr, lf | cr}

// told is what a reader tells behind a byte.
type told struct {
	how     int
	line    string
	length  int
	pending bool
}

func (t told) String() string { return fmt.Sprintf("%d %q %d %v", t.how, t.line, t.length, t.pending) }

// ask tells r the byte c and answers all that r tells then.
func ask(r *Reader, c byte) told {
	how := r.Byte(c)
	return told{how, r.Line(), r.Len(), r.Pending()}
}

// read answers what a new reader tells of s; of DoneAhead it tells the byte again.
func read(p api.Profile, most int, s string) []told { return readOn(New(p, most), s) }

func readOn(r *Reader, s string) []told {
	var l []told
	for i := range len(s) {
		t := ask(r, s[i])
		l = append(l, t)
		if t.how == DoneAhead {
			l = append(l, ask(r, s[i]))
		}
	}
	return l
}

// asWritten: the same by the chapter's words, from the whole text: start is where the line begins.
func asWritten(p api.Profile, most int, s string) []told {
	most = min(max(most, 0), 4096)
	var l []told
	start := 0
	for i := 0; i < len(s); i++ {
		line, behindCR := strings.CutSuffix(s[start:i], "\r")
		switch {
		case behindCR && s[i] == '\n', s[i] == '\n' && p&lf != 0:
			l = append(l, told{1, line, 0, false})
			start = i + 1
		case behindCR && p&cr != 0:
			l = append(l, told{2, line, 0, false})
			start = i
			i--
		case behindCR, s[i] == '\n':
			return failed(l, 3, len(line), len(s)-i)
		case s[i] == '\r':
			l = append(l, told{0, "", len(line), true})
		case len(line) == most:
			return failed(l, 4, len(line), len(s)-i)
		default:
			l = append(l, told{0, "", len(line) + 1, false})
		}
	}
	return l
}

// failed: the last of l: Bad or Long, then Bad alone; the line keeps what it had.
func failed(l []told, how, length, left int) []told {
	for range left {
		l = append(l, told{how, "", length, false})
		how = 3
	}
	return l
}

// texts calls f with each text of these bytes of at most so many.
func texts(bytes string, most int, f func(s string)) {
	l := []string{""}
	for range most + 1 {
		var longer []string
		for _, s := range l {
			f(s)
			for i := range len(bytes) {
				longer = append(longer, s+bytes[i:i+1])
			}
		}
		l = longer
	}
}

// some answers a text at random, rich in CR and LF.
func some(r *rand.Rand, most int) string {
	b := make([]byte, r.Intn(most+1))
	for i := range b {
		switch r.Intn(5) {
		case 0:
			b[i] = '\r'
		case 1:
			b[i] = '\n'
		default:
			b[i] = byte(r.Intn(256))
		}
	}
	return string(b)
}

// hows answers the numbers that Byte told.
func hows(l []told) string {
	var b []byte
	for _, t := range l {
		b = append(b, byte('0'+t.how))
	}
	return string(b)
}

// linesOf answers the lines that ended, in order.
func linesOf(l []told) []string {
	var lines []string
	for _, t := range l {
		if t.how == Done || t.how == DoneAhead {
			lines = append(lines, t.line)
		}
	}
	return lines
}

// P6.1: the answers' numbers, and package api's clauses.
func TestNumbers(t *testing.T) {
	if !slices.Equal([]int{More, Done, DoneAhead, Bad, Long}, []int{0, 1, 2, 3, 4}) {
		t.Error("P6.1: the answers' numbers")
	}
	if api.BareLF != 1 || api.BareCR != 2 || api.MostLine != 4096 {
		t.Error("P6.1: package api's numbers")
	}
}

// P6.1: what each byte does and which lines there are, within each profile.
func TestEnds(t *testing.T) {
	cases := []struct {
		p     api.Profile
		s     string
		hows  string
		lines []string
	}{
		{0, "\r\n", "01", []string{""}},
		{0, "ab\r\n", "0001", []string{"ab"}},
		{0, "ab\r\ncd\r\n\r\n", "0001000101", []string{"ab", "cd", ""}},
		{0, "a", "0", nil},
		{0, "a\r", "00", nil},
		{0, "\n", "3", nil},
		{0, "a\n", "03", nil},
		{0, "a\r\n\n", "0013", []string{"a"}},
		{0, "a\rb", "003", nil},
		{0, "\rb\r\n", "0333", nil},
		{0, "\r\r", "03", nil},
		{0, "a\r\r\n", "0033", nil},
		{lf, "\n\r\n\n", "1011", []string{"", "", ""}},
		{lf, "a\nb\r\nc\n", "0100101", []string{"a", "b", "c"}},
		{lf, "a\n\rb", "0103", []string{"a"}},
		{lf, "a\r\r\n", "0033", nil},
		{cr, "a\rb", "0020", []string{"a"}},
		{cr, "\rb\r\n", "02001", []string{"", "b"}},
		{cr, "a\r\r\n", "00201", []string{"a", ""}},
		{cr, "\r\r\r", "02020", []string{"", ""}},
		{cr, "a\rb\rc\r\nd", "0020020010", []string{"a", "b", "c"}},
		{cr, "a\r\n\n", "0013", []string{"a"}},
		{cr, "a\n", "03", nil},
		{cr, "a\rb\n", "00203", []string{"a"}},
		{lf | cr, "a\r\nb\nc\rd\n\r\r\n\n", "001010020102011", []string{"a", "b", "c", "d", "", "", ""}},
	}
	for _, c := range cases {
		l := read(c.p, 9, c.s)
		if hows(l) != c.hows || !slices.Equal(linesOf(l), c.lines) {
			t.Errorf("P6.1: %q, profile %d: %s %q, want %s %q", c.s, c.p, hows(l), linesOf(l), c.hows, c.lines)
		}
	}
}

// P6.1: each short text, in each way to have the clauses, of each small length.
func TestEachShortText(t *testing.T) {
	texts("a\r\n", 8, func(s string) {
		for _, p := range ways {
			for _, most := range []int{-1, 0, 1, 2, 3, 8} {
				if got, want := read(p, most, s), asWritten(p, most, s); !slices.Equal(got, want) {
					t.Fatalf("P6.1: %q, profile %d, most %d: %v, want %v", s, p, most, got, want)
				}
			}
		}
	})
}

// P6.1: texts of any bytes, at random.
func TestAnyText(t *testing.T) {
	r := rand.New(rand.NewSource(61))
	for range 20000 {
		s, p, most := some(r, 60), api.Profile(r.Uint32()), r.Intn(12)-1
		if got, want := read(p, most, s), asWritten(p, most, s); !slices.Equal(got, want) {
			t.Fatalf("P6.1: %q, profile %d, most %d: %v, want %v", s, p&^others, most, got, want)
		}
	}
}

// P6.1: each byte but CR and LF belongs to the line as it is, and none else ends one.
func TestEachByte(t *testing.T) {
	for i := range 256 {
		c := string([]byte{byte(i)})
		if c == "\r" || c == "\n" {
			continue
		}
		for _, p := range []api.Profile{0, lf, cr, lf | cr, others, math.MaxUint32} {
			for _, s := range []string{c, "a" + c, c + "a", c + c + c} {
				l := read(p, 9, s+"\r\n")
				if want := strings.Repeat("0", len(s)+1) + "1"; hows(l) != want || l[len(l)-1].line != s {
					t.Errorf("P6.1: %q, profile %#x: %v", s, uint32(p), l)
				}
			}
		}
		if got := hows(read(0, 0, c)); got != "4" {
			t.Errorf("P6.1: %q, most 0: %s", c, got)
		}
		if got := hows(read(lf, 9, "\r"+c)); got != "03" {
			t.Errorf("P6.1: %q behind a CR: %s", c, got)
		}
		if got := hows(read(cr, 9, "\r"+c)); got != "020" {
			t.Errorf("P6.1: %q behind a CR, BareCR: %s", c, got)
		}
	}
}

// P6.1: a line of most bytes ends well, whatever its end; one more byte is Long, and all behind it Bad.
func TestMost(t *testing.T) {
	mosts := []struct{ most, counts int }{
		{math.MinInt, 0}, {-4096, 0}, {-1, 0}, {0, 0}, {1, 1}, {2, 2}, {63, 63}, {64, 64}, {1024, 1024},
		{4095, 4095}, {4096, 4096}, {4097, 4096}, {8192, 4096}, {1 << 32, 4096}, {math.MaxInt, 4096},
	}
	for _, m := range mosts {
		full := strings.Repeat("x", m.counts)
		more := strings.Repeat("0", m.counts)
		cases := []struct {
			p    api.Profile
			s    string
			hows string
		}{
			{0, full + "\r\n", more + "01"},
			{0, full + "\r\n" + full + "\r\n" + full + "y", more + "01" + more + "01" + more + "4"},
			{0, full + "y", more + "4"},
			{0, full + "yy\r\ny\n", more + "433333"},
			{0, full + "\ry", more + "03"},
			{0, full + "\r\r", more + "03"},
			{0, full + "\n", more + "3"},
			{lf, full + "\n", more + "1"},
			{lf, full + "\n" + full + "y", more + "1" + more + "4"},
			{lf, full + "y\n", more + "43"},
			{cr, full + "\r\r\n", more + "0201"},
			{cr, full + "y\r", more + "43"},
			{lf | cr, full + "\r" + full + "\n", more + "0" + strings.Repeat("2", min(m.counts, 1)) + more + "1"},
		}
		for _, c := range cases {
			l := read(c.p, m.most, c.s)
			if hows(l) != c.hows || !slices.Equal(l, asWritten(c.p, m.most, c.s)) {
				t.Errorf("P6.1: most %d, profile %d, %.20q: %.40s", m.most, c.p, c.s[m.counts:], hows(l)[m.counts:])
			}
			for _, line := range linesOf(l) {
				if line != full && line != "" {
					t.Errorf("P6.1: most %d, profile %d: a line of %d bytes", m.most, c.p, len(line))
				}
			}
		}
	}
}

// P6.1: a bare CR ends a full line, even where the byte behind it is Long in the next one.
func TestLongBehindBareCR(t *testing.T) {
	l := read(cr, 0, "\ra")
	if hows(l) != "024" {
		t.Errorf("P6.1: most 0, BareCR: %s", hows(l))
	}
	l = read(cr, 2, "ab\rabc")
	if hows(l) != "0002004" || !slices.Equal(linesOf(l), []string{"ab"}) {
		t.Errorf("P6.1: most 2, BareCR: %s, %q", hows(l), linesOf(l))
	}
}

// P6.1: once Bad or Long, all is Bad: each byte, for good, with no line and nothing pending.
func TestBadForGood(t *testing.T) {
	for _, first := range []string{"ab\n", "\n", "ab\rc", "a\r\n\n", "abcd", "a\r\nabcd"} {
		for i := range 256 {
			r := New(0, 3)
			readOn(r, first)
			length := r.Len()
			for range 3 {
				if got := ask(r, byte(i)); got != (told{3, "", length, false}) {
					t.Errorf("P6.1: %q, then %#02x: %v", first, i, got)
				}
			}
			if got := hows(readOn(r, "\r\na\r\n\r\n")); got != "3333333" {
				t.Errorf("P6.1: %q, then lines: %s", first, got)
			}
		}
	}
	if got := hows(read(cr, 1, "ab\r\n\rc")); got != "043333" {
		t.Errorf("P6.1: Long, BareCR: %s", got)
	}
	if got := hows(read(lf, 9, "\rb\n\r\n\n")); got != "033333" {
		t.Errorf("P6.1: Bad, BareLF: %s", got)
	}
}

// P6.1: Len, Pending and Line of a new reader, and behind each byte.
func TestLenPendingLine(t *testing.T) {
	for _, p := range ways {
		r := New(p, 9)
		if r.Len() != 0 || r.Pending() || r.Line() != "" {
			t.Errorf("P6.1: a new reader: %d, %v, %q", r.Len(), r.Pending(), r.Line())
		}
	}
	cases := []struct {
		p    api.Profile
		s    string
		want []told
	}{
		{0, "ab\r\nc\r", []told{{0, "", 1, false}, {0, "", 2, false}, {0, "", 2, true}, {1, "ab", 0, false}, {0, "", 1, false}, {0, "", 1, true}}},
		{0, "\r\n\r\n", []told{{0, "", 0, true}, {1, "", 0, false}, {0, "", 0, true}, {1, "", 0, false}}},
		{0, "ab\n", []told{{0, "", 1, false}, {0, "", 2, false}, {3, "", 2, false}}},
		{0, "a\rb", []told{{0, "", 1, false}, {0, "", 1, true}, {3, "", 1, false}}},
		{0, "a\r\r", []told{{0, "", 1, false}, {0, "", 1, true}, {3, "", 1, false}}},
		{0, "\r\nabcdefghij", []told{{0, "", 0, true}, {1, "", 0, false},
			{0, "", 1, false}, {0, "", 2, false}, {0, "", 3, false}, {0, "", 4, false}, {0, "", 5, false},
			{0, "", 6, false}, {0, "", 7, false}, {0, "", 8, false}, {0, "", 9, false}, {4, "", 9, false}}},
		{lf, "a\nb", []told{{0, "", 1, false}, {1, "a", 0, false}, {0, "", 1, false}}},
		{cr, "a\rb", []told{{0, "", 1, false}, {0, "", 1, true}, {2, "a", 0, false}, {0, "", 1, false}}},
		{cr, "a\r\r\n", []told{{0, "", 1, false}, {0, "", 1, true}, {2, "a", 0, false}, {0, "", 0, true}, {1, "", 0, false}}},
	}
	for _, c := range cases {
		if got := read(c.p, 9, c.s); !slices.Equal(got, c.want) {
			t.Errorf("P6.1: %q, profile %d: %v, want %v", c.s, c.p, got, c.want)
		}
	}
}

// P6.1: asking Line, Len, Pending changes nothing, however often.
func TestAskedOften(t *testing.T) {
	r := rand.New(rand.NewSource(62))
	for range 2000 {
		s, p := some(r, 20), ways[r.Intn(4)]
		asked, quiet := New(p, 9), New(p, 9)
		for i := range len(s) {
			want := quiet.Byte(s[i])
			if got := ask(asked, s[i]); got.how != want {
				t.Fatalf("P6.1: %q, profile %d: %d, want %d", s, p, got.how, want)
			}
			again := told{want, asked.Line(), asked.Len(), asked.Pending()}
			if once := (told{want, quiet.Line(), quiet.Len(), quiet.Pending()}); again != once {
				t.Fatalf("P6.1: %q, profile %d: %v, asked once %v", s, p, again, once)
			}
		}
	}
}

// P6.1: of DoneAhead the byte isn't looked at: any byte may come next, as the first of the next line.
func TestDoneAheadLooksAtNothing(t *testing.T) {
	for ahead := range 256 {
		if ahead == '\n' {
			continue
		}
		for next := range 256 {
			r := New(cr, 1)
			readOn(r, "x\r")
			if got := ask(r, byte(ahead)); got != (told{2, "x", 0, false}) {
				t.Fatalf("P6.1: %#02x behind a CR: %v", ahead, got)
			}
			if got, want := ask(r, byte(next)), asWritten(cr, 1, string([]byte{byte(next)})); got != want[0] {
				t.Fatalf("P6.1: %#02x, then %#02x: %v, want %v", ahead, next, got, want[0])
			}
		}
	}
}

// P6.1: a line that was told stays as it is, and readers know nothing of one another.
func TestLinesStay(t *testing.T) {
	a, b := New(0, 9), New(lf, 3)
	readOn(a, "first\r\n")
	readOn(b, "b\n")
	first, other := a.Line(), b.Line()
	readOn(a, "second\r\nx")
	if got := hows(readOn(b, "abcd")); got != "0004" {
		t.Errorf("P6.1: beside another reader: %s", got)
	}
	if first != "first" || other != "b" || a.Len() != 1 || hows(readOn(a, "y\r\n")) != "001" || a.Line() != "xy" {
		t.Errorf("P6.1: %q, %q, %q", first, other, a.Line())
	}
}

// P6.1: other clauses, and bits that are none, say nothing of where a line ends.
func TestOtherClauses(t *testing.T) {
	r := rand.New(rand.NewSource(63))
	ps := []api.Profile{others}
	for i := range 32 {
		ps = append(ps, 1<<i&others)
	}
	for range 2000 {
		s := some(r, 20)
		for _, p := range append(ps, api.Profile(r.Uint32())&others) {
			for _, way := range ways {
				if got, want := read(way|p, 6, s), read(way, 6, s); !slices.Equal(got, want) {
					t.Fatalf("P6.1: %q, profile %#x: %v, want %v", s, uint32(way|p), got, want)
				}
			}
		}
	}
}

// P6.2: whatever the strict reader takes, up to where it refuses, every other one takes alike, the ends above all.
func TestEndForBoth(t *testing.T) {
	alike := func(p api.Profile, most int, s string) {
		strict := read(0, most, s)
		for i, x := range strict {
			if x.how == Bad || x.how == Long {
				strict = strict[:i]
				break
			}
		}
		if got := read(p, most, s); len(got) < len(strict) || !slices.Equal(got[:len(strict)], strict) {
			t.Fatalf("P6.2: %q, profile %#x, most %d: %v, strict %v", s, uint32(p), most, got, strict)
		}
	}
	texts("a\r\n", 8, func(s string) {
		for _, p := range ways {
			alike(p, 2, s)
			alike(p, 8, s)
		}
	})
	r := rand.New(rand.NewSource(64))
	for range 5000 {
		s := strings.ReplaceAll(some(r, 40), "\n", "\r\n")
		alike(api.Profile(r.Uint32()), r.Intn(20), s)
		alike(math.MaxUint32, 9, s)
	}
}
