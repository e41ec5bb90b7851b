package parser

import (
	"bytes"
	"fmt"
	"math"
	"math/rand"
	"slices"
	"strconv"
	"strings"
	"testing"

	"parallax/api"
	"parallax/bounds"
	"parallax/field"
	"parallax/quirks"
	"parallax/record"
)

const (
	top     = "GET / HTTP/1.1\r\n"
	host    = "Host: a\r\n"
	chunked = "Transfer-Encoding: chunked\r\n"
	going   = "Expect: 100-continue\r\n"
	every   = api.Profile(1<<api.Clauses - 1)
)

// of answers the profile of these clauses.
func of(clauses ...int) api.Profile { return quirks.Of(clauses...) }

// crlf answers the lines with their ends.
func crlf(lines ...string) string { return strings.Join(lines, "\r\n") + "\r\n" }

// get answers a head of these lines behind the first one and the Host.
func get(lines ...string) string {
	return crlf(append(append([]string{"GET / HTTP/1.1", "Host: a"}, lines...), "")...)
}

// inChunks answers a request of these lines behind the head.
func inChunks(lines ...string) string { return get("Transfer-Encoding: chunked") + crlf(lines...) }

// tell answers what r tells of what isn't whole.
func tell(r *Parser) state { return state{r.Err(), r.Clean(), r.Waits(), r.Held()} }

// told: records in short.
func told(l []api.Record) string {
	var b strings.Builder
	list := func(l []api.Field) {
		for _, f := range l {
			b.WriteString(" " + f.Name + "=" + f.Value + ";")
		}
	}
	for _, r := range l {
		b.WriteString(r.Method + " " + r.Target + " " + strconv.Itoa(r.Minor))
		list(r.Fields)
		if r.Chunked {
			b.WriteString(" chunked")
		}
		b.WriteString(" (" + string(r.Body) + ")")
		list(r.Trailers)
		b.WriteString("\n")
	}
	return b.String()
}

// example: what is read of s, errno, and whether it ends cleanly.
type example struct {
	p     api.Profile
	s     string
	want  string
	errno api.Errno
	clean bool
}

// hold holds Read, and a parser that is fed byte by byte, against what is asked for.
func hold(t *testing.T, promise string, b api.Bounds, l []example) {
	t.Helper()
	for _, x := range l {
		all, errno, clean := Read(x.p, b, []byte(x.s))
		if told(all) != x.want || errno != x.errno || clean != x.clean {
			t.Errorf("%s: Read(%#x, %q): %q, %d, %v; want %q, %d, %v", promise, uint32(x.p), x.s, told(all), errno, clean, x.want, x.errno, x.clean)
		}
		r := New(x.p, b)
		var parts []api.Record
		for i := range len(x.s) {
			parts = append(parts, r.Feed([]byte{x.s[i]})...)
		}
		if told(parts) != x.want || r.Err() != x.errno || r.Clean() != x.clean {
			t.Errorf("%s: %q of %#x byte by byte: %q, %d, %v", promise, x.s, uint32(x.p), told(parts), r.Err(), r.Clean())
		}
	}
}

const plain = "GET / 1 Host=a; ()\n"

// P13.1: the first line, and empty ones ahead.
func TestFirstLine(t *testing.T) {
	fields := host + "\r\n"
	hold(t, "P13.1", bounds.Usual(), []example{
		{0, "", "", 0, true},
		{0, "G", "", 0, false},
		{0, top + fields, plain, 0, true},
		{0, "OPTIONS * HTTP/1.1\r\n" + fields, "OPTIONS * 1 Host=a; ()\n", 0, true},
		{0, "GET / HTTP/1.0\r\n\r\n", "GET / 0 ()\n", 0, true},
		{0, "\r\n" + top + fields, "", 400, false},
		{0, top + fields + "\r\n", plain, 400, false},
		{0, "\r", "", 0, false},
		{of(api.Empty), "\r\n", "", 0, true},
		{of(api.Empty), "\r\n\r", "", 0, false},
		{of(api.Empty), "\r\n\r\nG", "", 0, false},
		{of(api.Empty), "\r\n\r\n" + top + fields + "\r\n", plain, 0, true},
		{of(api.Empty, api.BareLF), "\n\r\n\n", "", 0, true},
		{of(api.Empty, api.BareCR), "\r\r", "", 0, false},
		{of(api.Empty, api.BareCR), "\r\rG", "", 0, false},
		{of(api.Empty, api.BareCR), "\r\r\r" + top + fields, plain, 0, true},
		{of(api.BareCR), "\r\r", "", 400, false},
		{of(api.BareLF), "\n", "", 400, false},
		{0, "\n", "", 400, false},
		{of(api.Empty), "\n", "", 400, false},
		{0, "GET  / HTTP/1.1\r\n", "", 400, false},
		{of(api.Blanks), "GET  / HTTP/1.1\r\n" + fields, plain, 0, true},
		{of(api.Blanks, api.Empty), " \r\n", "", 400, false},
		{of(api.NoVersion), "GET /\r\n\r\n", "GET / 0 ()\n", 0, true},
		{of(api.Minor), "GET / HTTP/1.9\r\n" + fields, plain, 0, true},
		{0, "GET / HTTP/1.9\r\n", "", 505, false},
		{0, "GET / HTTP/1.9\r", "", 0, false},
		{0, "GET / HTTP/1.1\n", "", 400, false},
		{0, "GET / HTTP/1.1\rG", "", 400, false},
		{0, "\x00", "", 0, false},
	})
	young := bounds.Usual()
	young.Old = false
	hold(t, "P13.1", young, []example{{0, "GET / HTTP/1.0\r\n", "", 505, false}, {0, get(), plain, 0, true}})
}

// P13.1: lines of fields: what becomes of each.
func TestFields(t *testing.T) {
	hold(t, "P13.1", bounds.Usual(), []example{
		{0, get("A: b ", "a:c", "C:"), "GET / 1 Host=a; A=b; a=c; C=; ()\n", 0, true},
		{0, crlf("GET / HTTP/1.1", "Host: a"), "", 0, false},
		{0, crlf("GET / HTTP/1.1", ""), "", 400, false},
		{of(api.NoHost), crlf("GET / HTTP/1.1", ""), "GET / 1 ()\n", 0, true},
		{0, top + "x\r\n", "", 400, false},
		{of(api.NoColon), top + "x\r\n" + host + "y\r\n\r\n", plain, 0, true},
		{of(api.NoName), top + ":x\r\n" + host + ":\r\n\r\n", plain, 0, true},
		{0, top + host + " b: c\r\n", "", 400, false},
		{of(api.NameBytes), top + host + " b: c\r\n\r\n", "GET / 1 Host=a;  b=c; ()\n", 0, true},
		{of(api.ValueBytes), get("A: \x00"), "GET / 1 Host=a; A=\x00; ()\n", 0, true},
		{0, get("A: \x00"), "", 400, false},
		{of(api.Fold), get("A: b", " c", "\td: e "), "GET / 1 Host=a; A=b c d: e; ()\n", 0, true},
		{of(api.Fold), get("A:", " ", "\t \x01 "), "GET / 1 Host=a; A=  \x01; ()\n", 0, true},
		{of(api.Fold), top + " a: b\r\n", "", 400, false},
		{of(api.Fold, api.NameBytes), top + " a: b\r\n\tc\r\n" + host + "\r\n", "GET / 1  a=b c; Host=a; ()\n", 0, true},
		{of(api.Fold, api.NoColon), top + " a\r\n" + host + "\r\n", plain, 0, true},
		{of(api.Fold, api.NoColon), get("A: b", "x", " c"), "GET / 1 Host=a; A=b c; ()\n", 0, true},
		{of(api.Fold), get("A: b") + get(" c"), "GET / 1 Host=a; A=b; ()\n", 400, false},
		{of(api.Fold), get() + top + " Host: a\r\n", plain, 400, false},
		{of(api.Fold), get("Content-Length: 1", " 0") + "x", "", 400, false},
		{of(api.Fold), get("Transfer-Encoding:", " chunked") + "0\r\n\r\n", "GET / 1 Host=a; Transfer-Encoding= chunked; chunked ()\n", 0, true},
		{of(api.BareLF), "GET / HTTP/1.1\nHost: a\n\n", plain, 0, true},
		{of(api.BareCR), "GET / HTTP/1.1\rHost: a\r\r", "", 0, false},
		{of(api.BareCR), "GET / HTTP/1.1\rHost: a\r\r\n", plain, 0, true},
		{of(api.BareCR), "GET / HTTP/1.1\rHost: a\r\rG", plain, 0, false},
		{of(api.BareCR), "GET / HTTP/1.1\rHost: a\r\r\r", plain, 0, false},
		{0, top + "Host: a\r\r\n", "", 400, false},
		{0, top + "Host: a\n", "", 400, false},
		{0, top + host + "\n", "", 400, false},
	})
}

// P13.1: the empty line's end: how long the body is.
func TestDecides(t *testing.T) {
	hold(t, "P13.1", bounds.Usual(), []example{
		{0, top + host + "Content-Length: x\r\n", "", 0, false},
		{0, get("Content-Length: x"), "", 400, false},
		{0, get("Content-Length: 65537"), "", 413, false},
		{0, get("Content-Length: 65536"), "", 0, false},
		{0, get("Transfer-Encoding: gzip"), "", 501, false},
		{0, get("Content-Length: 1", "Transfer-Encoding: chunked"), "", 400, false},
		{of(api.CLWins), get("Content-Length: 1", "Transfer-Encoding: chunked") + "0\r\n\r\n", "GET / 1 Host=a; Content-Length=1; Transfer-Encoding=chunked; (0)\n", 400, false},
		{of(api.TEWins), get("Content-Length: 1", "Transfer-Encoding: chunked") + "0\r\n\r\n", "GET / 1 Host=a; Content-Length=1; Transfer-Encoding=chunked; chunked ()\n", 0, true},
		{0, "GET / HTTP/1.0\r\n" + chunked + "\r\n", "", 400, false},
		{of(api.TEOld), "GET / HTTP/1.0\r\n" + chunked + "\r\n0\r\n\r\n", "GET / 0 Transfer-Encoding=chunked; chunked ()\n", 0, true},
	})
	bare := bounds.Usual()
	bare.Chunked = false
	hold(t, "P13.1", bare, []example{{0, get("Transfer-Encoding: chunked"), "", 501, false}})
}

// lines answers lines of fields, of just n bytes with their ends.
func lines(n int, end string) string {
	s := ""
	for left := n; left > 0; left = n - len(s) {
		k := min(left, 50)
		if left-k > 0 && left-k < 10 {
			k -= 10
		}
		s += "F:" + strings.Repeat("f", k-len("F:")-len(end)) + end
	}
	return s
}

// headOf answers a head of just n bytes, its empty line's end with them.
func headOf(n int, end string) string {
	s := "GET / HTTP/1.1" + end + "Host: a" + end
	return s + lines(n-len(s)-len(end), end) + end
}

// errnoOf answers the error of s, and how many records are ahead of it.
func errnoOf(p api.Profile, b api.Bounds, s string) (api.Errno, int) {
	l, errno, _ := Read(p, b, []byte(s))
	return errno, len(l)
}

// P13.1: Line: at it, and one more.
func TestLine(t *testing.T) {
	b := bounds.Usual()
	for _, line := range []int{64, 100, 1024, 4096} {
		b.Line, b.Head = line, 3*line+200
		first := "GET /" + strings.Repeat("a", line-14) + " HTTP/1.1"
		second := "A: " + strings.Repeat("b", line-3)
		for _, x := range []struct {
			s     string
			errno api.Errno
		}{
			{first, 0}, {first + "\r\n", 0}, {first + "1", 414}, {strings.Repeat("a", line+1), 414}, {strings.Repeat("\x00", line), 0},
			{top + host + second, 0}, {top + host + second + "\r\n\r\n", 0}, {top + host + second + "b", 431}, {top + host + strings.Repeat("\x00", line+1), 431}, {top + host + second + "\n", 400},
			{inChunks(strings.Repeat("0", line-1) + "1"), 0}, {inChunks(strings.Repeat("0", line)) + "1", 0}, {get("Transfer-Encoding: chunked") + strings.Repeat("0", line+1), 400},
			{inChunks("0") + second + "\r\n", 0}, {inChunks("0") + second + "b", 431},
		} {
			if errno, _ := errnoOf(0, b, x.s); errno != x.errno {
				t.Errorf("P13.1, P13.2: Line %d: %q: %d, want %d", line, x.s, errno, x.errno)
			}
		}
		// empty lines that are left out don't make another one the first
		if errno, _ := errnoOf(of(api.Empty), b, "\r\n\r\n"+first+"1"); errno != 414 {
			t.Errorf("P13.1: Line %d behind empty ones: %d", line, errno)
		}
	}
}

// P13.1, P13.2: Fields and Trailers: at them, and one more, ahead of what that line has wrong itself.
func TestHowManyFields(t *testing.T) {
	for _, n := range []int{4, 5, 32, 100} {
		b := bounds.Usual()
		b.Fields, b.Trailers = n, n-3
		some := strings.Repeat("A: b\r\n", n-1)
		trailers := strings.Repeat("A: b\r\n", n-3)
		for _, x := range []struct {
			p     api.Profile
			s     string
			errno api.Errno
			n     int
		}{
			{0, top + host + some + "\r\n", 0, 1}, {0, top + host + some + "A: b", 0, 0}, {0, top + host + some + "A: b\r\n", 431, 0}, {0, top + host + some + "(\r\n", 431, 0}, {0, top + host + some + "(", 0, 0}, {0, top + host + some + "\x00:\r\n", 431, 0},
			{0, top + host + some[6:] + "(\r\n", 400, 0}, {0, top + host + some + "\r\n" + top + host + some + "\r\n", 0, 2}, {0, top + some + "A: b\r\n\r\n", 400, 0},
			{of(api.NoColon), top + host + strings.Repeat("x\r\n", n-1) + "\r\n", 0, 1}, {of(api.NoColon), top + host + strings.Repeat("x\r\n", n), 431, 0}, {of(api.NoName), top + host + strings.Repeat(":x\r\n", n), 431, 0},
			{of(api.Fold), top + "A: b\r\n" + strings.Repeat(" x\r\n", n-2) + host + "\r\n", 0, 1}, {of(api.Fold), top + "A: b\r\n" + strings.Repeat(" x\r\n", n-1) + host, 431, 0}, {of(api.Fold), top + "A: b\r\n" + strings.Repeat(" x\r\n", n), 431, 0},
			{of(api.Empty), strings.Repeat("\r\n", n) + top + host + some + "\r\n", 0, 1},
			{0, inChunks("0") + trailers + "\r\n", 0, 1}, {0, inChunks("0") + trailers + "A: b", 0, 0}, {0, inChunks("0") + trailers + "A: b\r\n", 431, 0}, {0, inChunks("0") + trailers + "(\r\n", 431, 0}, {0, inChunks("0") + trailers[6:] + "(\r\n", 400, 0}, {0, inChunks("0") + trailers + "\r\n" + inChunks("0") + trailers + "\r\n", 0, 2},
			{of(api.NoColon), inChunks("0") + strings.Repeat("x\r\n", n-3) + "\r\n", 0, 1}, {of(api.NoColon), inChunks("0") + strings.Repeat("x\r\n", n-2), 431, 0}, {of(api.Fold), inChunks("0", "A: b") + strings.Repeat(" x\r\n", n-4) + "\r\n", 0, 1}, {of(api.Fold), inChunks("0", "A: b") + strings.Repeat(" x\r\n", n-3), 431, 0},
			// the head's own don't count to the trailers
			{0, top + host + some[6:] + chunked + "\r\n0\r\n" + trailers + "\r\n", 0, 1},
		} {
			if errno, records := errnoOf(x.p, b, x.s); errno != x.errno || records != x.n {
				t.Errorf("P13.1, P13.2: Fields %d, Trailers %d: %q: %d, %d", n, n-3, x.s, errno, records)
			}
		}
	}
	b := bounds.Usual()
	b.Trailers = 0
	for s, want := range map[string]api.Errno{inChunks("0", ""): 0, inChunks("0", "A: b"): 431, inChunks("0", "("): 431} {
		if errno, _ := errnoOf(0, b, s); errno != want {
			t.Errorf("P13.2: no Trailers: %q: %d", s, errno)
		}
	}
}

// P13.1, P13.2: Head: each byte up to it, one more, ahead of all else.
func TestHeadBytes(t *testing.T) {
	const n = 256
	b := bounds.Usual()
	b.Head, b.Line = n, 64
	const lf, cr, both = "\n", "\r", "\r\n"
	at := top + host + chunked + both + "0" + both
	room := n - len(at) + len("0"+both) // of trailers, their empty line with them
	trailers := func(n int, end string) string { return lines(n-len(end), end) + end }
	for i, x := range []struct {
		p     api.Profile
		s     string
		errno api.Errno
		n     int
	}{
		{0, headOf(n, both), 0, 1}, {0, headOf(n, both)[:n-1] + "x", 400, 0}, {0, headOf(n+1, both), 431, 0}, {0, headOf(n+1, both)[:n], 0, 0}, {0, headOf(n+1, both)[:n] + "x", 431, 0},
		{0, headOf(n, both) + headOf(n, both), 0, 2}, {0, headOf(n, both) + headOf(n+1, both), 431, 1}, {0, headOf(n-3, both) + headOf(n, both), 0, 2}, {0, headOf(n-3, both) + headOf(n+1, both), 431, 1},
		{of(api.BareLF), headOf(n, lf), 0, 1}, {of(api.BareLF), headOf(n+1, lf), 431, 0},
		{of(api.Empty), both + headOf(n-2, both), 0, 1}, {of(api.Empty), both + headOf(n-1, both), 431, 0}, {of(api.Empty), strings.Repeat(both, n/2), 0, 0}, {of(api.Empty), strings.Repeat(both, n/2) + "\r", 431, 0}, {of(api.Empty), strings.Repeat(both, n/2) + "\n", 431, 0}, {of(api.Empty), headOf(n, both) + both + headOf(n-2, both), 0, 2}, {of(api.Empty), headOf(n, both) + both + headOf(n-1, both), 431, 1},
		// a byte that shows that a line ended counts once in a head; in the next one, too
		{of(api.BareCR), headOf(n-1, cr) + "G", 0, 1}, {of(api.BareCR), headOf(n, cr) + "G", 431, 0}, {of(api.BareCR), headOf(n, cr), 0, 0}, {of(api.BareCR), headOf(n-1, cr) + "\n", 0, 1}, {of(api.BareCR), headOf(n, cr) + "\n", 431, 0}, {of(api.BareCR), headOf(n-1, cr) + "\r", 0, 1}, {of(api.BareCR), headOf(n, cr) + "\r", 431, 0},
		{of(api.BareCR), headOf(100, cr) + headOf(n, both), 0, 2}, {of(api.BareCR), headOf(100, cr) + headOf(n+1, both), 431, 1}, {of(api.BareCR), headOf(100, cr) + headOf(n-1, cr) + "G", 0, 2}, {of(api.BareCR), headOf(100, cr) + headOf(n, cr) + "G", 431, 1},
		{of(api.BareCR, api.Empty), cr + cr + headOf(n-2, both), 0, 1}, {of(api.BareCR, api.Empty), cr + cr + headOf(n-1, both), 431, 0},
		// ahead of what the byte has wrong itself
		{0, headOf(n+2, both)[:n] + "\n", 431, 0}, {0, headOf(n+3, both)[:n] + "\x00" + both + both, 431, 0}, {0, top + lines(n-len(top)-2, both) + both, 400, 0}, {0, top + lines(n-len(top)-1, both) + both, 431, 0},
		// trailers' bytes count with the head's; chunks' lines and chunks don't
		{0, at + trailers(room, both), 0, 1}, {0, at + trailers(room+1, both), 431, 0}, {0, at + trailers(room+1, both)[:room], 0, 0}, {0, at + trailers(room+1, both)[:room] + "x", 431, 0}, {of(api.BareLF), at + trailers(room, lf), 0, 1}, {of(api.BareLF), at + trailers(room+1, lf), 431, 0},
		{0, inChunks("1", "a", "2;", "bc", "00000000000000000000") + trailers(room, both), 0, 1}, {0, inChunks("1", "a", "2;", "bc", "00000000000000000000") + trailers(room+1, both), 431, 0},
		{0, at + trailers(room, both) + headOf(n, both), 0, 2}, {0, at + trailers(room, both) + headOf(n+1, both), 431, 1}, {0, at + trailers(room, both) + at + trailers(room, both), 0, 2}, {0, at + trailers(room, both) + at + trailers(room+1, both), 431, 1},
		{0, at + "(" + trailers(room+1, both)[1:room+1], 400, 0}, {0, at + lines(room, both) + "\n", 431, 0}, {0, at + lines(room-1, both) + "\n", 400, 0},
		// by a CR alone: trailers count the byte behind them; the byte behind a chunk's line is theirs alone
		{of(api.BareCR), at + trailers(room-1, cr) + "G", 0, 1}, {of(api.BareCR), at + trailers(room, cr) + "G", 431, 0}, {of(api.BareCR), at + trailers(room, cr), 0, 0}, {of(api.BareCR), at + trailers(room-1, cr) + headOf(n, both), 0, 2}, {of(api.BareCR), at + trailers(room-1, cr) + headOf(n+1, both), 431, 1},
		{of(api.BareCR), at[:len(at)-1] + trailers(room, both), 0, 1}, {of(api.BareCR), at[:len(at)-1] + trailers(room+1, both), 431, 0},
		// the body's first byte that shows the head's end is one of the head's
		{of(api.BareCR), top + host + chunked + "\r" + "0" + both + trailers(room, both), 0, 1}, {of(api.BareCR), top + host + chunked + "\r" + "0" + both + trailers(room+1, both), 431, 0},
		// of a fixed body nothing counts
		{0, headOf(n-19, both)[:n-19-2] + "Content-Length: 9" + both + both + "123456789" + headOf(n, both), 0, 2}, {of(api.BareCR), headOf(n-19, both)[:n-19-2] + "Content-Length: 9" + both + "\r" + "123456789" + headOf(n, both), 0, 2}, {of(api.BareCR), headOf(n-18, both)[:n-18-2] + "Content-Length: 9" + both + "\r" + "123456789", 431, 0},
	} {
		if errno, records := errnoOf(x.p, b, x.s); errno != x.errno || records != x.n {
			t.Errorf("P13.1: Head %d: %q: %d, %d; want %d, %d", i, x.s, errno, records, x.errno, x.n)
		}
	}
}

// P13.1: ErrHead of bytes is ahead of ErrTarget, and of a line that is Long.
func TestHeadAheadOfLine(t *testing.T) {
	b := bounds.Usual()
	for _, x := range []struct {
		line, head int
		s          string
		errno      api.Errno
	}{
		{256, 256, strings.Repeat("a", 257), 431}, {255, 256, strings.Repeat("a", 256), 414}, {257, 256, strings.Repeat("a", 256), 0}, {4096, 256, strings.Repeat("a", 5000), 431},
		{256, 256, strings.Repeat("a", 256) + "\n", 431}, {256, 300, strings.Repeat("a", 256) + "\n", 400},
	} {
		b.Line, b.Head = x.line, x.head
		if errno, _ := errnoOf(0, b, x.s); errno != x.errno {
			t.Errorf("P13.1: Line %d, Head %d: %d bytes: %d", x.line, x.head, len(x.s), errno)
		}
	}
}

// P13.2: bodies that are Fixed.
func TestFixed(t *testing.T) {
	hold(t, "P13.2", bounds.Usual(), []example{
		{0, get("Content-Length: 3") + "a\r\n" + get(), "GET / 1 Host=a; Content-Length=3; (a\r\n)\n" + plain, 0, true},
		{0, get("Content-Length: 3") + "ab", "", 0, false},
		{0, get("Content-Length: 3"), "", 0, false},
		{0, get("Content-Length: 0") + "G", "GET / 1 Host=a; Content-Length=0; ()\n", 0, false},
		{0, get("Content-Length: 1") + "\n\n", "GET / 1 Host=a; Content-Length=1; (\n)\n", 400, false},
		{every, get("Content-Length: 4") + "\r\n\x00\xff", "GET / 1 Host=a; Content-Length=4; (\r\n\x00\xff)\n", 0, true},
		{of(api.BareCR), "GET / HTTP/1.1\rHost: a\rContent-Length: 1\r\rx", "GET / 1 Host=a; Content-Length=1; (x)\n", 0, true},
		{of(api.BareCR), "GET / HTTP/1.1\rHost: a\rContent-Length: 2\r\r\r\rG", "GET / 1 Host=a; Content-Length=2; (\r\r)\n", 0, false},
		{of(api.BareCR), "GET / HTTP/1.1\rHost: a\rContent-Length: 2\r\r\n\r\n", "GET / 1 Host=a; Content-Length=2; (\r\n)\n", 0, true},
	})
	b := bounds.Usual()
	for _, n := range []int{1, 16, 4096, 65536} {
		body := bytes.Repeat([]byte{0, '\r', '\n', 255}, n)[:n]
		s := append([]byte(get("Content-Length: "+strconv.Itoa(n))), body...)
		if l, errno, clean := Read(0, b, s); len(l) != 1 || !bytes.Equal(l[0].Body, body) || errno != 0 || !clean {
			t.Errorf("P13.2: a body of %d bytes: %d records, %d, %v", n, len(l), errno, clean)
		}
		if l, errno, clean := Read(0, b, s[:len(s)-1]); len(l) != 0 || errno != 0 || clean {
			t.Errorf("P13.2: a body of %d bytes but one: %d records, %d, %v", n, len(l), errno, clean)
		}
	}
}

const inChunksTold = "GET / 1 Host=a; Transfer-Encoding=chunked; chunked "

// P13.2: bodies of Chunks.
func TestChunks(t *testing.T) {
	at := get("Transfer-Encoding: chunked")
	hold(t, "P13.2", bounds.Usual(), []example{
		{0, at + "0\r\n\r\n", inChunksTold + "()\n", 0, true},
		{0, at + "0\r\n", "", 0, false},
		{0, at + "0\r\n\r\nG", inChunksTold + "()\n", 0, false},
		{0, at + "000;a=b\r\n\r\n" + get(), inChunksTold + "()\n" + plain, 0, true},
		{0, at + "3\r\na\r\n\r\n02;x\r\nbc\r\n0\r\n\r\n", inChunksTold + "(a\r\nbc)\n", 0, true},
		{0, at + "A\r\n0\r\n\r\n0\r\n\r\n\r\n0\r\n\r\n", inChunksTold + "(0\r\n\r\n0\r\n\r\n)\n", 0, true},
		{0, at + "\r\n", "", 400, false},
		{0, at + "x\r\n", "", 400, false},
		{0, at + "1\n", "", 400, false},
		{0, at + "1\ra", "", 400, false},
		{0, at + "1;" + strings.Repeat("x", 31) + "\r\na", "", 0, false},
		{0, at + "1;" + strings.Repeat("x", 32) + "\r\n", "", 400, false},
		{0, at + "1\r\nab", "", 400, false},
		{0, at + "1\r\na\n", "", 400, false},
		{0, at + "1\r\na\r", "", 0, false},
		{0, at + "1\r\na\rb", "", 400, false},
		{0, at + "1\r\na\r\r", "", 400, false},
		{0, at + "1\r\na\r\n", "", 0, false},
		{0, at + "1\r\na\r\n\r\n", "", 400, false},
		{of(api.BareLF), at + "1\na\n0\n\n", inChunksTold + "(a)\n", 0, true},
		{of(api.BareLF), at + "1\r\nab", "", 400, false},
		{of(api.BareLF), at + "1\na\r\n0\r\n\n", inChunksTold + "(a)\n", 0, true},
		{of(api.BareCR), at + "1\ra\r0\r\rG", inChunksTold + "(a)\n", 0, false},
		{of(api.BareCR), at + "1\ra\r0\r\r\n", inChunksTold + "(a)\n", 0, true},
		{of(api.BareCR), at + "2\r\r\r\r0\r\r\n", inChunksTold + "(\r\r)\n", 0, true},
		{of(api.BareCR), at + "1\r\na\rx", "", 0, false},
		{of(api.BareCR), at + "1\r\na\r\r", "", 0, false},
		{of(api.BareCR), at + "1\r\na\r\r\n", "", 400, false},
		{of(api.BareCR), at + "1\r\na\n", "", 400, false},
		{of(api.ChunkEnd), at + "1\r\na1\r\nb0\r\n\r\n", inChunksTold + "(ab)\n", 0, true},
		{of(api.ChunkEnd), at + "1\r\na\r\n1\r\nb0\r\n\r\n", inChunksTold + "(ab)\n", 0, true},
		{of(api.ChunkEnd), at + "1\r\nax\r\n", "", 400, false},
		{of(api.ChunkEnd), at + "1\r\na\n", "", 400, false},
		{of(api.ChunkEnd), at + "1\r\na\r0", "", 400, false},
		{of(api.ChunkEnd), at + "1\r\na;\r\n", "", 400, false},
		{of(api.ChunkEnd, api.BareLF), at + "1\na\n1\nb0\n\n", inChunksTold + "(ab)\n", 0, true},
		{of(api.ChunkEnd, api.BareCR), at + "1\ra\r1\rb0\r\r\n", inChunksTold + "(ab)\n", 0, true},
		{of(api.ChunkHex), at + "0x1\r\na\r\n0X0\r\n\r\n", inChunksTold + "(a)\n", 0, true},
		{of(api.ChunkHex), at + "0x\r\n", "", 400, false},
		{of(api.ChunkBlanks), at + " 1 ;\r\na\r\n\t0\r\n\r\n", inChunksTold + "(a)\n", 0, true},
		{of(api.ChunkBlanks), at + " \r\n", "", 400, false},
		// nothing of the one is left in the other
		{0, at + "1\r\na\r\n0\r\nA: b\r\n\r\n" + at + "1\r\nc\r\n0\r\nD: e\r\n\r\n" + get(), inChunksTold + "(a) A=b;\n" + inChunksTold + "(c) D=e;\n" + plain, 0, true},
	})
}

// P13.2: Body, of chunks together: at it, and one more.
func TestBodyOfChunks(t *testing.T) {
	at := get("Transfer-Encoding: chunked")
	for _, n := range []int{16, 17, 255, 65536, 1 << 20} {
		b := bounds.Usual()
		b.Body = n
		part := func(k int) string { return strconv.FormatInt(int64(k), 16) + "\r\n" + strings.Repeat("x", k) + "\r\n" }
		for i, x := range []struct {
			s     string
			errno api.Errno
			n     int
		}{
			{at + part(n) + "0\r\n\r\n", 0, 1}, {at + strconv.FormatInt(int64(n+1), 16) + "\r\n", 413, 0}, {at + strconv.FormatInt(int64(n+1), 16) + "\r", 0, 0},
			{at + part(n-5) + part(5) + "0\r\n\r\n", 0, 1}, {at + part(n-5) + "6\r\n", 413, 0}, {at + part(n-5) + "6\r", 0, 0}, {at + part(n-5) + part(2) + part(3) + "1\r\n", 413, 0}, {at + part(n) + "1\r\n", 413, 0}, {at + part(n-5) + part(5) + "0\r\n\r\n" + at + part(n) + "0\r\n\r\n", 0, 2},
			{at + part(1) + strconv.FormatInt(int64(n), 16) + "\r\n", 413, 0}, {at + part(1) + "7fffffffffffffff\r\n", 413, 0}, {at + part(1) + strings.Repeat("f", 99) + "\r\n", 413, 0}, {at + part(n) + "x\r\n", 400, 0},
		} {
			if errno, records := errnoOf(0, b, x.s); errno != x.errno || records != x.n {
				t.Errorf("P13.2: Body %d: %d: %d, %d; want %d, %d", n, i, errno, records, x.errno, x.n)
			}
		}
	}
}

// P13.2: trailers: lines like a head's.
func TestTrailers(t *testing.T) {
	at := inChunks("0")
	hold(t, "P13.2", bounds.Usual(), []example{
		{0, at + "A: b \r\nC:\r\n\r\n", inChunksTold + "() A=b; C=;\n", 0, true},
		{0, at + "A: b\r\n\r", "", 0, false},
		{0, at + "A\r\n", "", 400, false},
		{0, at + ":\r\n", "", 400, false},
		{0, at + "A : b\r\n", "", 400, false},
		{0, at + "A: b\n", "", 400, false},
		{0, at + "A: b\rc", "", 400, false},
		{0, at + "\n", "", 400, false},
		{0, at + " A: b\r\n", "", 400, false},
		{of(api.ColonSpace), at + "A : b\r\n\r\n", inChunksTold + "() A=b;\n", 0, true},
		{of(api.NoColon), at + "A\r\n\r\n", inChunksTold + "()\n", 0, true},
		{of(api.NoName), at + ":\r\nA: b\r\n\r\n", inChunksTold + "() A=b;\n", 0, true},
		{of(api.Fold), at + "A: b\r\n c\r\n\td\r\n\r\n", inChunksTold + "() A=b c d;\n", 0, true},
		{of(api.Fold), at + " A: b\r\n", "", 400, false}, // of trailers none stands ahead
		{of(api.Fold, api.NoColon), at + " c\r\nA: b\r\nx\r\n c\r\n\r\n", inChunksTold + "() A=b c;\n", 0, true},
		{of(api.BareLF), at + "A: b\n\n", inChunksTold + "() A=b;\n", 0, true},
		{of(api.BareCR), at + "A: b\r\rG", inChunksTold + "() A=b;\n", 0, false},
		{of(api.Empty), at + "\r\n\r\n", inChunksTold + "()\n", 0, true},
		{0, at + "\r\n\r\n", inChunksTold + "()\n", 400, false},
		// they say nothing of any body
		{0, at + "Content-Length: 3\r\nTransfer-Encoding: x\r\nHost: (\r\n\r\n" + get(), inChunksTold + "() Content-Length=3; Transfer-Encoding=x; Host=(;\n" + plain, 0, true},
	})
}

// P13.3: Waits, behind each byte.
func TestWaits(t *testing.T) {
	for i, x := range []struct {
		p    api.Profile
		s    string
		want []int // behind so many bytes it waits
	}{
		{0, top + host + going + "Content-Length: 3\r\n\r\nabc", []int{16 + 9 + 22 + 19 + 2}},
		{0, top + host + going + chunked + "\r\n1\r\na\r\n0\r\n\r\n", []int{16 + 9 + 22 + 28 + 2}},
		{0, top + host + going + chunked + "\r\n\r", []int{16 + 9 + 22 + 28 + 2}},
		{0, top + host + going + chunked + "\r\n0\r\n\r\n" + top + host + going + "Content-Length: 1\r\n\r\na", []int{77, 77 + 5 + 68}},
		{0, top + host + "eXPECT: a, 100-Continue\r\nContent-Length: 1\r\n\r\na", []int{16 + 9 + 25 + 19 + 2}},
		{0, top + host + going + "Content-Length: 0\r\n\r\n", nil},
		{0, top + host + going + "\r\n", nil},
		{0, top + host + "Content-Length: 3\r\n\r\nabc", nil},
		{0, "GET / HTTP/1.0\r\n" + going + "Content-Length: 3\r\n\r\nabc", nil},
		{0, top + host + going + "Content-Length: x\r\n\r\n", nil},
		{0, top + host + going + "Content-Length: 65537\r\n\r\n", nil},
		{0, top + host + chunked + "\r\n0\r\n" + going + "\r\n", nil},
		{of(api.BareLF), "GET / HTTP/1.1\nHost: a\nExpect: 100-continue\n" + chunked + "\n1\r\n\n", []int{15 + 8 + 21 + 28 + 1}},
		{of(api.BareCR), "GET / HTTP/1.1\rHost: a\rExpect: 100-continue\r" + chunked + "\r1\r\r", nil},
		{of(api.BareCR), "GET / HTTP/1.1\rHost: a\rExpect: 100-continue\rContent-Length: 2\r\rab", nil},
		{of(api.BareCR), "GET / HTTP/1.1\rHost: a\rExpect: 100-continue\rContent-Length: 2\r\r\nab", []int{15 + 8 + 21 + 18 + 2}},
		{of(api.ChunkEnd), top + host + going + chunked + "\r\n1\r\na0\r\n\r\n", []int{77}},
		{of(api.Fold), top + host + "Expect:\r\n 100-continue\r\nContent-Length: 3\r\n\r\nab", []int{16 + 9 + 9 + 15 + 19 + 2}},
	} {
		r := New(x.p, bounds.Usual())
		var got []int
		for k := range len(x.s) {
			if r.Feed([]byte{x.s[k]}); r.Waits() {
				got = append(got, k+1)
			}
		}
		if !slices.Equal(got, x.want) {
			t.Errorf("P13.3: Waits %d: %v, want %v", i, got, x.want)
		}
	}
}

// P13.3: Held.
func TestHeld(t *testing.T) {
	const chunkedHeld = 4 + 5 + 24
	long := strings.Repeat("b", 1000)
	for i, x := range []struct {
		p    api.Profile
		s    string
		held int
	}{
		{0, "", 0}, {0, "G", 1}, {0, "GET /", 5}, {0, "GET / HTTP/1.1", 14}, {0, "GET / HTTP/1.1\r", 14}, {0, top, 4}, {0, "OPTIONS http://a/ HTTP/1.1\r\n", 7 + 9}, {of(api.Blanks), "  GET \t/  HTTP/1.1 ", 19}, {of(api.Blanks), "  GET \t/  HTTP/1.1 \r\n", 4},
		{0, top + "H", 5}, {0, top + "Host: a \r", 12}, {0, top + "Host: a \r\n", 9}, {0, top + host + "A: " + long, 9 + 1003}, {0, top + host + "A: " + long + "\r\n", 9 + 1001}, {0, top + host + "\r", 9}, {0, get(), 0}, {0, get() + "GET", 3}, {0, get() + top, 4},
		{of(api.Empty), "\r\n\r\n", 0}, {of(api.Empty), "\r\n\r\nG\r", 1}, {of(api.Empty, api.BareCR), "\r\rG", 1},
		{of(api.NoColon), top + "xyz", 7}, {of(api.NoColon), top + "xyz\r\n", 4}, {of(api.Fold), top + "A: b\r\n", 6}, {of(api.Fold), top + "A: b\r\n  c", 9}, {of(api.Fold), top + "A: b\r\n  c\r\n", 8}, {of(api.Fold), top + "A: b\r\n  \r\n", 7},
		{0, get("Content-Length: 3"), 9 + 15}, {0, get("Content-Length: 3") + "\r\n", 9 + 15 + 2}, {0, get("Content-Length: 3") + "\r\n\r", 0},
		{0, get("Transfer-Encoding: chunked"), chunkedHeld}, {0, inChunks() + "", 0},
		{0, get("Transfer-Encoding: chunked") + "2;ab", chunkedHeld + 4}, {0, get("Transfer-Encoding: chunked") + "2;ab\r", chunkedHeld + 4}, {0, get("Transfer-Encoding: chunked") + "2;ab\r\n", chunkedHeld}, {0, get("Transfer-Encoding: chunked") + "2;ab\r\nc", chunkedHeld + 1}, {0, get("Transfer-Encoding: chunked") + "2;ab\r\ncd\r", chunkedHeld + 2}, {0, inChunks("2", "cd"), chunkedHeld + 2}, {0, inChunks("2", "cd") + "000", chunkedHeld + 5}, {0, inChunks("2", "cd", "0"), chunkedHeld + 2}, {0, inChunks("2", "cd", "0", "A: b"), chunkedHeld + 4}, {0, inChunks("2", "cd", "0", "A: b") + "C:", chunkedHeld + 6}, {0, inChunks("2", "cd", "0", "A: b", ""), 0},
		{of(api.ChunkEnd), inChunks("2") + "cd1", chunkedHeld + 3}, {of(api.BareCR), inChunks("2") + "cd\r1", chunkedHeld + 3}, {of(api.BareCR), "GET / HTTP/1.1\rHost: a\r\rG", 1}, {of(api.BareCR), "GET / HTTP/1.1\rH", 5}, {of(api.BareCR), "GET / HTTP/1.1\r\r", 4},
		// behind an error
		{0, top + host + "x\r\n", 0}, {0, "G\n", 0}, {0, strings.Repeat("G", 1025), 0}, {0, get("Content-Length: x"), 0}, {0, inChunks("1") + "ab", 0}, {0, inChunks("1", "a", "x"), 0}, {0, inChunks("1", "a", "0", "A: b", "("), 0}, {0, get() + "\n", 0}, {0, inChunks("10001"), 0},
	} {
		r := New(x.p, bounds.Usual())
		if r.Feed([]byte(x.s)); r.Held() != x.held {
			t.Errorf("P13.3: Held %d: %q: %d, want %d", i, x.s, r.Held(), x.held)
		}
	}
}

// P13.3: behind an error no byte is looked at; what was read ahead of it is told.
func TestBehindError(t *testing.T) {
	b := bounds.Usual()
	for _, x := range []struct {
		s     string
		errno api.Errno
	}{
		{"\n", 400}, {"GET / HTTP/3.0\r\n", 505}, {strings.Repeat("a", 1025), 414}, {strings.Repeat("GET / HTTP/1.1\r\n", 2), 400}, {top + host + strings.Repeat("A: b\r\n", 32), 431}, {get("Content-Length: 99999"), 413}, {get("Transfer-Encoding: x"), 501}, {inChunks("1") + "ab", 400}, {inChunks("fffff"), 413}, {inChunks("0", "("), 400},
	} {
		for _, behind := range []string{"", get(), "\r\n" + get(), "\n", "0\r\n\r\n" + get(), "x"} {
			r := New(0, b)
			if got := told(r.Feed([]byte(get()+x.s+behind), []byte(get()))); got != plain {
				t.Errorf("P13.3: ahead of an error: %q: %q", x.s, got)
			}
			for range 3 {
				if l := r.Feed([]byte(behind), []byte(get())); len(l) != 0 || tell(r) != (state{errno: x.errno}) {
					t.Errorf("P13.3: behind the error of %q: %q, %+v", x.s, told(l), tell(r))
				}
			}
		}
	}
}

// P13: bounds, and profiles, that may not be.
func TestErrForm(t *testing.T) {
	wrong := []api.Bounds{{}}
	for _, change := range []func(b *api.Bounds){
		func(b *api.Bounds) { b.Line = 63 }, func(b *api.Bounds) { b.Line = 4097 }, func(b *api.Bounds) { b.Fields = 3 }, func(b *api.Bounds) { b.Fields = 101 }, func(b *api.Bounds) { b.Head = 255 }, func(b *api.Bounds) { b.Head = 1<<16 + 1 }, func(b *api.Bounds) { b.Body = 15 }, func(b *api.Bounds) { b.Body = math.MaxInt }, func(b *api.Bounds) { b.Ext = -1 }, func(b *api.Bounds) { b.Trailers = math.MinInt }, func(b *api.Bounds) { b.Wait = 0 }, func(b *api.Bounds) { b.Idle = 1001 },
	} {
		b := bounds.Usual()
		change(&b)
		wrong = append(wrong, b)
	}
	holds := func(p api.Profile, b api.Bounds) {
		r := New(p, b)
		for range 3 {
			if tell(r) != (state{errno: 20}) {
				t.Errorf("P13: New(%#x, %+v): %+v", uint32(p), b, tell(r))
			}
			if l := r.Feed([]byte(get()), []byte("\n")); len(l) != 0 {
				t.Errorf("P13: New(%#x, %+v): %q", uint32(p), b, told(l))
			}
		}
		if l, errno, clean := Read(p, b, []byte(get())); len(l) != 0 || errno != 20 || clean {
			t.Errorf("P13: Read(%#x, %+v): %q, %d, %v", uint32(p), b, told(l), errno, clean)
		}
	}
	for _, b := range wrong {
		holds(0, b)
		holds(every, b)
		holds(math.MaxUint32, b)
	}
	for _, p := range []api.Profile{1 << 30, 1 << 31, 1<<30 | 1, math.MaxUint32} {
		holds(p, bounds.Usual())
	}
	widest := api.Bounds{Line: api.MostLine, Fields: api.MaxFields, Head: api.MostHead, Body: api.MostBody, Ext: api.MaxExt, Trailers: api.MaxFields, Wait: api.MaxWait, Idle: api.MaxIdle}
	for _, b := range []api.Bounds{least(), bounds.Usual(), widest} {
		for _, p := range []api.Profile{0, every, 1 << 29} {
			if r := New(p, b); tell(r) != (state{clean: true}) || len(r.Feed([]byte(get()))) != 1 || len(r.Feed()) != 0 || len(r.Feed(nil, []byte{})) != 0 || tell(r) != (state{clean: true}) {
				t.Errorf("P13: New(%#x, %+v): %+v", uint32(p), b, tell(r))
			}
		}
	}
}

// streams: those that the tests of parts and prefixes begin with.
var streams = []string{
	get() + get("Content-Length: 3") + "a\r\n" + inChunks("3;x", "abc", "00", "A: b", "C:", "") + get(),
	top + host + going + "Content-Length: 2\r\n\r\nab" + top + host + going + chunked + "\r\n1\r\na\r\n0\r\n\r\n",
	"\r\n\n\r" + strings.ReplaceAll(get("Expect: 100-continue", "Content-Length: 2"), "\r\n", "\n") + "\r\n" + strings.ReplaceAll(inChunks("1", "\r", "2;", "\n\r", "0", "A: b", " c", ""), "\r\n", "\r") + "G",
	strings.ReplaceAll(inChunks("1", "a", "0", "A: b", ""), "\r\n", "\r") + strings.ReplaceAll(get(" goes on", "x", ":y", "Content-Length: 1"), "\r\n", "\r") + "z" + get(),
	inChunks("1") + "a2\r\nbc0x1\r\nd 0 \r\n:\r\n\r\n" + "GET /\n\n" + "  GET  /a b\thttp/1.1\r\n\n",
	headOf(256, "\r\n") + headOf(255, "\r") + headOf(256, "\n"),
}

// holdPrefixes holds what a parser tells behind each byte of s against the chapter written out.
func holdPrefixes(t *testing.T, p api.Profile, b api.Bounds, s string) {
	t.Helper()
	r := New(p, b)
	var all []api.Record
	for i := range len(s) + 1 {
		want, then := asWritten(p, b, s[:i])
		if got := tell(r); got != then || !record.All(all, want) {
			t.Fatalf("P13: %q of profile %v within %+v:\n%s%+v, want\n%s%+v", s[:i], names(p), b, told(all), got, told(want), then)
		}
		if i < len(s) {
			all = append(all, r.Feed([]byte{s[i]})...)
		}
		if held := r.Held(); held < 0 || held > bounds.Window(b) {
			t.Fatalf("P13.3: %q of profile %v within %+v: Held %d", s, names(p), b, held)
		}
	}
}

func names(p api.Profile) []string {
	var l []string
	for _, clause := range quirks.List(p) {
		l = append(l, quirks.Name(clause))
	}
	return l
}

// P13.1 to P13.3: behind each byte.
func TestPrefixes(t *testing.T) {
	r := rand.New(rand.NewSource(131))
	for _, s := range streams {
		for _, b := range []api.Bounds{bounds.Usual(), least()} {
			holdPrefixes(t, 0, b, s)
			holdPrefixes(t, every, b, s)
			for clause := range api.Clauses {
				holdPrefixes(t, 1<<clause, b, s)
				holdPrefixes(t, every&^(1<<clause), b, s)
			}
			for range 20 {
				holdPrefixes(t, someProfile(r), b, s)
			}
		}
	}
	seen := map[api.Errno]int{}
	records := 0
	for i := range 2000 {
		p, b, s := someProfile(r), someBounds(r), someStream(r, i%12)
		holdPrefixes(t, p, b, s)
		l, errno, _ := Read(p, b, []byte(s))
		seen[errno]++
		records += len(l)
	}
	for _, errno := range []api.Errno{0, 400, 413, 414, 431, 501, 505} {
		if seen[errno] < 5 {
			t.Errorf("P13: streams of error %d: %d", errno, seen[errno])
		}
	}
	if records < 1000 {
		t.Errorf("P13: %d records in all", records)
	}
}

// P13.1 to P13.3: streams at random, at once.
func TestRandom(t *testing.T) {
	r := rand.New(rand.NewSource(132))
	for i := range 100000 {
		p, b, s := someProfile(r), someBounds(r), someStream(r, i%8)
		want, then := asWritten(p, b, s)
		x := New(p, b)
		if all := x.Feed([]byte(s)); !record.All(all, want) || tell(x) != then {
			t.Fatalf("P13: %q of profile %v within %+v:\n%s%+v, want\n%s%+v", s, names(p), b, told(all), tell(x), told(want), then)
		}
	}
}

// P13.1 to P13.3: each byte put in, and each byte made another one, at each place of a stream.
func TestEachByte(t *testing.T) {
	s := "PUT /a HTTP/1.1\r\nHost: a\r\nA:b\r\n" + chunked + "\r\n1;x\r\na\r\n0\r\nB: c\r\n\r\n"
	b := least()
	for _, p := range []api.Profile{0, of(api.BareCR, api.BareLF, api.ChunkEnd, api.Fold), of(api.Empty, api.NoColon, api.NoName, api.Spaces, api.NoVersion), every} {
		for i := range len(s) {
			for c := range 256 {
				put := s[:i] + string([]byte{byte(c)}) + s[i:]
				for _, changed := range []string{put, put[:i+1] + put[i+2:]} {
					want, then := asWritten(p, b, changed)
					x := New(p, b)
					if all := x.Feed([]byte(changed)); !record.All(all, want) || tell(x) != then {
						t.Fatalf("P13: %q of profile %v: %s%+v, want %s%+v", changed, names(p), told(all), tell(x), told(want), then)
					}
				}
			}
		}
	}
}

// P13.3: Read is Feed by a new one.
func TestRead(t *testing.T) {
	r := rand.New(rand.NewSource(133))
	for i := range 5000 {
		p, b, s := someProfile(r), someBounds(r), someStream(r, i%8)
		x := New(p, b)
		want := x.Feed([]byte(s))
		if all, errno, clean := Read(p, b, []byte(s)); !record.All(all, want) || errno != x.Err() || clean != x.Clean() {
			t.Fatalf("P13.3: Read(%v, %q): %s%d, %v", names(p), s, told(all), errno, clean)
		}
	}
}

// holdParts holds s in these parts, and in as many calls, against s at once.
func holdParts(t *testing.T, p api.Profile, b api.Bounds, parts ...[]byte) {
	t.Helper()
	s := bytes.Join(parts, nil)
	one, calls, variadic := New(p, b), New(p, b), New(p, b)
	want := one.Feed(s)
	var all []api.Record
	for _, part := range parts {
		all = append(all, calls.Feed(part)...)
	}
	if !record.All(all, want) || tell(calls) != tell(one) {
		t.Fatalf("P13.4: %q of %v in calls: %s%+v, want %s%+v", parts, names(p), told(all), tell(calls), told(want), tell(one))
	}
	if all := variadic.Feed(parts...); !record.All(all, want) || tell(variadic) != tell(one) {
		t.Fatalf("P13.4: %q of %v in parts: %s%+v, want %s%+v", parts, names(p), told(all), tell(variadic), told(want), tell(one))
	}
}

// P13.4: however bytes are parted.
func TestParts(t *testing.T) {
	r := rand.New(rand.NewSource(134))
	for _, s := range streams {
		s := []byte(s)
		for _, p := range []api.Profile{0, every, every &^ (1 << api.BareCR), of(api.BareCR)} {
			for i := range len(s) + 1 {
				holdParts(t, p, bounds.Usual(), s[:i], s[i:])
				j := i + r.Intn(len(s)-i+1)
				holdParts(t, p, least(), s[:i], nil, s[i:j], []byte{}, s[j:])
			}
		}
	}
	holdParts(t, 0, bounds.Usual())
	for i := range 5000 {
		s := []byte(someStream(r, i%8))
		var parts [][]byte
		for most := 1 + r.Intn(40); len(s) > 0; {
			n := r.Intn(min(most, len(s)) + 1)
			parts = append(parts, s[:n])
			s = s[n:]
		}
		holdParts(t, someProfile(r), someBounds(r), parts...)
	}
}

// P13.4: what the strict one reads without an error, every one reads alike.
func TestStrictIsAll(t *testing.T) {
	r := rand.New(rand.NewSource(135))
	clean, records := 0, 0
	alike := func(b api.Bounds, s string) {
		strict := New(0, b)
		want := strict.Feed([]byte(s))
		if strict.Err() != 0 {
			return
		}
		clean++
		records += len(want)
		ps := []api.Profile{every, someProfile(r), someProfile(r)}
		for clause := range api.Clauses {
			ps = append(ps, 1<<clause)
		}
		for _, p := range ps {
			x := New(p, b)
			if all := x.Feed([]byte(s)); !record.All(all, want) || tell(x) != tell(strict) {
				t.Fatalf("P13.4: %q of %v: %s%+v, strict %s%+v", s, names(p), told(all), tell(x), told(want), tell(strict))
			}
		}
	}
	for range 5000 {
		s := someStream(r, r.Intn(2))
		alike(someBounds(r), s)
		alike(someBounds(r), s[:r.Intn(len(s)+1)])
	}
	if clean < 3000 || records < 3000 {
		t.Errorf("P13.4: streams without an error: %d, records: %d", clean, records)
	}
}

// P13.3: what Feed is handed stays as it was, spare room and all, and isn't kept.
func TestHandedIn(t *testing.T) {
	s := get("A: b", "Content-Length: 3") + "abc" + inChunks("3", "def", "0", "T: u", "") + "GET / HT"
	rest := "TP/1.1\r\nHost: a\r\n\r\n"
	want, _, _ := Read(0, bounds.Usual(), []byte(s+rest))
	for n := 1; n < len(s); n += 3 {
		r := New(0, bounds.Usual())
		var all []api.Record
		for i := 0; i < len(s); i += n {
			part := []byte(s[i:min(i+n, len(s))] + "spare room")
			handed := part[: len(part)-len("spare room") : len(part)]
			ahead := string(part)
			all = append(all, r.Feed(handed[:len(handed)/2], handed[len(handed)/2:])...)
			if string(part) != ahead {
				t.Fatalf("P13.3: what was handed in changed: %q", part)
			}
			for k := range part {
				part[k] = '!'
			}
		}
		if all = append(all, r.Feed([]byte(rest))...); !record.All(all, want) || !r.Clean() {
			t.Fatalf("P13.3: bytes that were handed in were kept: %s", told(all))
		}
	}
}

// spoil writes over all that is within the reach of r, spare room and all.
func spoil(r *api.Record) {
	for _, l := range [][]api.Field{r.Fields[:cap(r.Fields)], r.Trailers[:cap(r.Trailers)]} {
		for i := range l {
			l[i] = api.Field{Name: "!", Value: "!"}
		}
	}
	for i := range r.Body[:cap(r.Body)] {
		r.Body[:cap(r.Body)][i] = '!'
	}
}

// P13.3: what Feed answers is new memory: writing over it changes neither the other records nor the parser.
func TestAnswered(t *testing.T) {
	s := inChunks("4", "abcd", "0", "T: u", "V: w", "") + get("A: b", "Content-Length: 5") + "efghi" + inChunks("2", "jk", "0", "X: y", "")
	b := bounds.Usual()
	want, _, _ := Read(0, b, []byte(s+s))
	for i := range want {
		l, _, _ := Read(0, b, []byte(s+s))
		spoil(&l[i])
		l = l[:cap(l)]
		if l[i] = want[i]; !record.All(l[:len(want)], want) {
			t.Errorf("P13.3: record %d shares memory with others: %s", i, told(l))
		}
	}
	for i := range len(s) {
		r := New(0, b)
		l := r.Feed([]byte(s + s[:i]))
		n := len(l)
		for k := range l {
			spoil(&l[k])
		}
		clear(l[:cap(l)])
		if rest := r.Feed([]byte(s[i:])); !record.All(rest, want[n:]) {
			t.Fatalf("P13.3: behind %d bytes: %s", len(s)+i, told(rest))
		}
	}
}

// P13.3: parsers beside each other say nothing to each other, and asking changes nothing.
func TestAsking(t *testing.T) {
	s := streams[0]
	want, _ := asWritten(0, bounds.Usual(), s)
	a, other := New(0, bounds.Usual()), New(every, least())
	var all []api.Record
	for i := range len(s) {
		first := tell(a)
		if again := tell(a); again != first || a.Feed() != nil || tell(a) != first {
			t.Fatalf("P13.3: asked again: %+v, %+v", first, again)
		}
		other.Feed([]byte(s[len(s)-i-1:]))
		all = append(all, a.Feed([]byte{s[i]})...)
	}
	if !record.All(all, want) {
		t.Errorf("P13.3: beside another one: %s", told(all))
	}
}

// P13.1, P13.2: the longest that there may be, at once.
func TestWidest(t *testing.T) {
	b := api.Bounds{Line: api.MostLine, Fields: api.MaxFields, Head: api.MostHead, Body: api.MostBody, Ext: api.MaxExt, Trailers: api.MaxFields, Wait: api.MaxWait, Idle: api.MaxIdle, Chunked: true, Old: true}
	var lines []string
	for i := range 13 {
		lines = append(lines, "F"+strconv.Itoa(i)+": "+strings.Repeat("f", 4000))
	}
	head := get(append(lines, "Transfer-Encoding: chunked")...)
	body := strings.Repeat("1\r\nx\r\n", 1<<20)
	trailers := strings.Repeat("T: u\r\n", 100)
	l, errno, clean := Read(0, b, []byte(head+body+"0\r\n"+trailers+"\r\n"))
	if len(l) != 1 || errno != 0 || !clean || len(l[0].Body) != 1<<20 || len(l[0].Trailers) != 100 || len(l[0].Fields) != 15 {
		t.Errorf("P13.2: the widest: %d records, %d, %v", len(l), errno, clean)
	}
	if _, errno, _ := Read(0, b, []byte(head+body+"1\r\n")); errno != 413 {
		t.Errorf("P13.2: one more than the widest: %d", errno)
	}
	r := New(of(api.Fold), b)
	folded := strings.Repeat(" "+strings.Repeat("g", 600)+"\r\n", 98)
	if l := r.Feed([]byte(get("A: b")[:len(top+host)+6] + folded + "\r\n")); len(l) != 1 || l[0].Fields[1].Value != "b"+strings.Repeat(" "+strings.Repeat("g", 600), 98) {
		t.Errorf("P13.1: many lines that go on: %d records, %d", len(l), r.Err())
	}
	if f := l[0].Fields[1]; f != (api.Field{Name: "F0", Value: strings.Repeat("f", 4000)}) || !field.Right(f) {
		t.Errorf("P13.1: a long field: %s", fmt.Sprint(f))
	}
}
