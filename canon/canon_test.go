package canon

import (
	"bytes"
	"math"
	"math/rand"
	"reflect"
	"slices"
	"strings"
	"testing"

	"parallax/api"
	"parallax/bounds"
	"parallax/number"
	"parallax/parser"
	"parallax/quirks"
	"parallax/record"
)

// P17.1: the example.
func TestExample(t *testing.T) {
	const want = "GET / HTTP/1.1\r\nHost: localhost\r\n\r\n"
	if got := Put(api.Record{Method: "GET", Target: "/"}); string(got) != want {
		t.Errorf("P17.1: Put of a GET of /: %q", got)
	}
}

// P17.1: what is written, by hand.
func TestPut(t *testing.T) {
	for i, x := range []struct {
		r    api.Record
		want string
	}{
		{get("Host", "a"), "GET / HTTP/1.1\r\nHost: a\r\n\r\n"},
		{get("A", "b", "hOST", "a", "A", ""), "GET / HTTP/1.1\r\nA: b\r\nhOST: a\r\nA: \r\n\r\n"},
		{get("A", "b", "C", "d"), "GET / HTTP/1.1\r\nHost: localhost\r\nA: b\r\nC: d\r\n\r\n"},
		{get("Host", ""), "GET / HTTP/1.1\r\nHost: \r\n\r\n"},
		{get("Host", "a", "Host", "b"), "GET / HTTP/1.1\r\nHost: a\r\nHost: b\r\n\r\n"},
		{get("Content-Length", "7", "Host", "a", "CONTENT-LENGTH", "8", "B", "c", "transfer-encoding", "chunked", "Transfer-Encoding", "gzip"), "GET / HTTP/1.1\r\nHost: a\r\nB: c\r\n\r\n"},
		{get("Content-Length", "7"), "GET / HTTP/1.1\r\nHost: localhost\r\n\r\n"},
		{api.Record{Method: "HEAD", Target: "/a?b", Minor: 7, Chunked: true}, "HEAD /a?b HTTP/1.1\r\nHost: localhost\r\n\r\n"},
		{api.Record{Method: "POST", Target: "/"}, "POST / HTTP/1.1\r\nHost: localhost\r\nContent-Length: 0\r\n\r\n"},
		{api.Record{Method: "PUT", Target: "/", Chunked: true, Fields: fields("Transfer-Encoding", "chunked")}, "PUT / HTTP/1.1\r\nHost: localhost\r\nContent-Length: 0\r\n\r\n"},
		{api.Record{Method: "PATCH", Target: "/", Body: []byte{}, Trailers: []api.Field{}}, "PATCH / HTTP/1.1\r\nHost: localhost\r\nContent-Length: 0\r\n\r\n"},
		{api.Record{Method: "DELETE", Target: "/", Body: []byte{}}, "DELETE / HTTP/1.1\r\nHost: localhost\r\n\r\n"},
		{api.Record{Method: "post", Target: "/"}, "post / HTTP/1.1\r\nHost: localhost\r\n\r\n"},
		{api.Record{Method: "DELETE", Target: "/", Body: []byte("a\r\nb")}, "DELETE / HTTP/1.1\r\nHost: localhost\r\nContent-Length: 4\r\n\r\na\r\nb"},
		{api.Record{Method: "POST", Target: "/", Fields: fields("Content-Length", "9", "A", "b"), Chunked: true, Body: []byte("0123456789")}, "POST / HTTP/1.1\r\nHost: localhost\r\nA: b\r\nContent-Length: 10\r\n\r\n0123456789"},
		{api.Record{Method: "GET", Target: "/", Trailers: fields("A", "b")}, "GET / HTTP/1.1\r\nHost: localhost\r\nTransfer-Encoding: chunked\r\n\r\n0\r\nA: b\r\n\r\n"},
		{api.Record{Method: "POST", Target: "/", Fields: fields("content-length", "1"), Body: []byte("0123456789abcdef"), Trailers: fields("", "", "Content-Length", "5", "Host", " c ")}, "POST / HTTP/1.1\r\nHost: localhost\r\nTransfer-Encoding: chunked\r\n\r\n10\r\n0123456789abcdef\r\n0\r\n: \r\nContent-Length: 5\r\nHost:  c \r\n\r\n"},
		{api.Record{}, "  HTTP/1.1\r\nHost: localhost\r\n\r\n"},
		{api.Record{Method: "\r\n", Target: "\x00", Minor: -1, Fields: fields("\n", "\r")}, "\r\n \x00 HTTP/1.1\r\nHost: localhost\r\n\n: \r\r\n\r\n"},
	} {
		if got := Put(x.r); string(got) != x.want {
			t.Errorf("P17.1: %d: Put of %s: %q, want %q", i, show(x.r), got, x.want)
		}
		for _, b := range someBounds() {
			hold(t, x.r, b)
		}
	}
}

// P17.1: Chunked hangs on the trailers alone.
func TestChunked(t *testing.T) {
	for _, told := range []bool{false, true} {
		for _, l := range [][]api.Field{nil, {}, fields("Transfer-Encoding", "chunked"), fields("Trailer", "A")} {
			for _, body := range []string{"", "a"} {
				r := api.Record{Method: "POST", Target: "/", Minor: 1, Chunked: told, Fields: l, Body: []byte(body)}
				if Chunked(r) {
					t.Errorf("P17.1: Chunked without trailers: %s", show(r))
				}
				if r.Trailers = fields("", ""); !Chunked(r) {
					t.Errorf("P17.1: not Chunked with trailers: %s", show(r))
				}
				hold(t, r, bounds.Usual())
			}
		}
	}
}

// P17.1: which methods tell the length of no body: each, in this case alone,
// and none that is like it.
func TestMethods(t *testing.T) {
	told := func(method string) bool {
		l := Fields(api.Record{Method: method, Target: "/"})
		return slices.Contains(l, api.Field{Name: "Content-Length", Value: "0"})
	}
	for _, method := range []string{"POST", "PUT", "PATCH"} {
		if !told(method) {
			t.Errorf("P17.1: no Content-Length of %s", method)
		}
		for i := range method {
			for c := range 256 {
				other := method[:i] + string([]byte{byte(c)}) + method[i+1:]
				if other != method && told(other) {
					t.Errorf("P17.1: Content-Length of %q", other)
				}
			}
		}
		for _, other := range []string{strings.ToLower(method), method + "S", " " + method, method + " ", method[1:], method + method} {
			if told(other) {
				t.Errorf("P17.1: Content-Length of %q", other)
			}
		}
	}
	for _, method := range []string{"", "GET", "HEAD", "DELETE", "OPTIONS", "CONNECT", "TRACE", "QUERY"} {
		if told(method) {
			t.Errorf("P17.1: Content-Length of %s", method)
		}
	}
}

// P17.1: the three names, in any case, and each that is a byte away from one.
func TestNames(t *testing.T) {
	for _, name := range []string{"Host", "Content-Length", "Transfer-Encoding"} {
		l := []string{strings.ToLower(name), strings.ToUpper(name), name + " ", " " + name, name + "s", name[1:], ""}
		for i := range name {
			for c := range 256 {
				l = append(l, name[:i]+string([]byte{byte(c)})+name[i+1:])
			}
		}
		for _, other := range l {
			hold(t, get("A", "b", other, "c", "D", "e"), bounds.Usual())
			hold(t, get(other, "c", "Host", "h"), bounds.Usual())
		}
	}
}

// P17.1: the length that is told is the body's, whichever the client told.
func TestLength(t *testing.T) {
	for n := range 300 {
		for _, told := range []string{"0", "5", number.Put(n), "x"} {
			r := get("Host", "a", "Content-Length", told)
			r.Body = bytes.Repeat([]byte("a"), n)
			if !hold(t, r, bounds.Usual()) {
				t.Fatalf("P17.2: not Right: a body of %d, told as %s", n, told)
			}
			if r.Trailers = fields("A", "b"); !hold(t, r, bounds.Usual()) {
				t.Fatalf("P17.2: not Right: a body of %d in chunks, told as %s", n, told)
			}
		}
	}
}

// P17.2: what is read as it was, and what isn't.
func TestRight(t *testing.T) {
	good := func() api.Record {
		r := get("Host", "a", "B", "c")
		r.Body, r.Trailers = []byte("d"), fields("E", "f")
		return r
	}
	for i, x := range []struct {
		change func(r *api.Record)
		want   bool
	}{
		{func(r *api.Record) {}, true},
		{func(r *api.Record) { r.Minor = 0 }, true},
		{func(r *api.Record) { r.Minor = -5 }, true},
		{func(r *api.Record) { r.Chunked = true }, true},
		{func(r *api.Record) { r.Body = nil }, true},
		{func(r *api.Record) { r.Trailers = nil }, true},
		{func(r *api.Record) { r.Fields = nil }, true},
		{func(r *api.Record) { r.Body = []byte("0\r\n\r\nGET / HTTP/1.1\r\nHost: a\r\n\r\n") }, true},
		{func(r *api.Record) { r.Fields = fields("Content-Length", "(", "Transfer-Encoding", "\r\n") }, true},
		{func(r *api.Record) { r.Trailers = fields("Content-Length", "9", "Host", "(", "Host", "b") }, true},
		{func(r *api.Record) { r.Method, r.Target = "CONNECT", "a:1" }, true},
		{func(r *api.Record) { r.Method, r.Target = "OPTIONS", "*" }, true},
		{func(r *api.Record) { r.Target = "http://b" }, true},
		{func(r *api.Record) { r.Fields[1].Value = "" }, true},
		{func(r *api.Record) { r.Fields[1].Value = ": c" }, true},
		{func(r *api.Record) { r.Method = "" }, false},
		{func(r *api.Record) { r.Method = "G T" }, false},
		{func(r *api.Record) { r.Method = "\r\nGET" }, false},
		{func(r *api.Record) { r.Method = "CONNECT" }, false},
		{func(r *api.Record) { r.Method, r.Target = "GET /", "" }, false},
		{func(r *api.Record) { r.Target = "" }, false},
		{func(r *api.Record) { r.Target = "*" }, false},
		{func(r *api.Record) { r.Target = "/ HTTP/1.1\r\nHost: a\r\n\r\nGET /" }, false},
		{func(r *api.Record) { r.Fields[0].Value = "" }, false},
		{func(r *api.Record) { r.Fields[0].Value = "a:65536" }, false},
		{func(r *api.Record) { r.Fields[1].Name = "host" }, false},
		{func(r *api.Record) { r.Fields[1].Name = "" }, false},
		{func(r *api.Record) { r.Fields[1].Name = "B " }, false},
		{func(r *api.Record) { r.Fields[1].Name = "B:" }, false},
		{func(r *api.Record) { r.Fields[1].Name = "Content-Length " }, false},
		{func(r *api.Record) { r.Fields[1].Value = " c" }, false},
		{func(r *api.Record) { r.Fields[1].Value = "c\t" }, false},
		{func(r *api.Record) { r.Fields[1].Value = "c\r\nD: e" }, false},
		{func(r *api.Record) { r.Fields[1].Value = "c\r\n\r\n" }, false},
		{func(r *api.Record) { r.Trailers[0].Name = "" }, false},
		{func(r *api.Record) { r.Trailers[0].Value = "f " }, false},
		{func(r *api.Record) { r.Trailers[0].Value = "f\r\n\r\n" }, false},
		{func(r *api.Record) { r.Trailers[0].Value = "f\r\nG: h" }, false},
	} {
		r := good()
		x.change(&r)
		if got := hold(t, r, bounds.Usual()); got != x.want {
			t.Errorf("P17.2: %d: Right of %s: %v", i, show(r), got)
		}
	}
}

// P17.2: each byte, at each place of a text.
func TestEachByte(t *testing.T) {
	for c := range 256 {
		s := string([]byte{byte(c)})
		for _, part := range []string{s, s + "a", "a" + s, "a" + s + "a"} {
			for _, x := range []func(r *api.Record){
				func(r *api.Record) { r.Method = part },
				func(r *api.Record) { r.Target = part },
				func(r *api.Record) { r.Target = "/" + part },
				func(r *api.Record) { r.Target = "/?" + part },
				func(r *api.Record) { r.Target = "http://" + part },
				func(r *api.Record) { r.Fields[0].Value = part },
				func(r *api.Record) { r.Fields[1].Name = part },
				func(r *api.Record) { r.Fields[1].Value = part },
				func(r *api.Record) { r.Body = []byte(part) },
				func(r *api.Record) { r.Trailers = fields(part, "a") },
				func(r *api.Record) { r.Trailers = fields("A", part) },
			} {
				r := get("Host", "a", "B", "c")
				x(&r)
				hold(t, r, bounds.Usual())
			}
		}
	}
}

// P17.2: each bound, at it and one past it, of what is written: the Host and
// the field that tells the body's end count, too.
func TestBounds(t *testing.T) {
	b := bounds.Usual()
	b.Line, b.Fields, b.Head, b.Body, b.Trailers = 100, 6, 500, 50, 3
	few := func(n int) []api.Field { return slices.Repeat(fields("A", "b"), n) }
	long := func(n int) string { return strings.Repeat("a", n) }
	for _, x := range []struct {
		what string
		at   int // how many more are right
		of   func(n int) api.Record
	}{
		{"Line of a target", 100 - len("GET / HTTP/1.1"), func(n int) api.Record { return api.Record{Method: "GET", Target: "/" + long(n)} }},
		{"Line of a value", 100 - len("A: "), func(n int) api.Record { return get("A", long(n)) }},
		{"Line of a name", 100 - len(": b"), func(n int) api.Record { return get(long(n), "b") }},
		{"Line of a trailer", 100 - len("A: "), func(n int) api.Record {
			return api.Record{Method: "GET", Target: "/", Trailers: fields("A", long(n))}
		}},
		{"Fields", 5, func(n int) api.Record { return api.Record{Method: "GET", Target: "/", Fields: few(n)} }},
		{"Fields with a body", 4, func(n int) api.Record {
			return api.Record{Method: "GET", Target: "/", Fields: few(n), Body: []byte("a")}
		}},
		{"Fields of a POST", 4, func(n int) api.Record { return api.Record{Method: "POST", Target: "/", Fields: few(n)} }},
		{"Fields with trailers", 4, func(n int) api.Record {
			return api.Record{Method: "GET", Target: "/", Fields: few(n), Trailers: few(1)}
		}},
		{"Trailers", 3, func(n int) api.Record { return api.Record{Method: "GET", Target: "/", Trailers: few(n)} }},
		{"Body", 50, func(n int) api.Record { return api.Record{Method: "GET", Target: "/", Body: []byte(long(n))} }},
		{"Body in chunks", 50, func(n int) api.Record {
			return api.Record{Method: "GET", Target: "/", Body: []byte(long(n)), Trailers: few(1)}
		}},
		{"method", 32, func(n int) api.Record { return api.Record{Method: long(n), Target: "/"} }},
	} {
		for n := x.at - 1; n <= x.at+2; n++ {
			if n == 0 {
				continue
			}
			if got := hold(t, x.of(n), b); got != (n <= x.at) {
				t.Errorf("P17.2: %s, %d: Right %v", x.what, n, got)
			}
		}
	}
}

// P17.2: the bytes of the head, those of the trailers with it; a body's don't count.
func TestHeadBytes(t *testing.T) {
	for _, trailers := range [][]api.Field{nil, fields("A", "b"), fields("A", "b", "C", strings.Repeat("d", 60))} {
		for _, body := range []int{0, 1, 400} {
			for n := range 70 {
				b := bounds.Usual()
				b.Head = 256
				r := get("Host", "a", "B", strings.Repeat("c", 60), "D", strings.Repeat("e", 60), "F", strings.Repeat("g", n))
				r.Body, r.Trailers = bytes.Repeat([]byte("h"), body), trailers
				hold(t, r, b)
				b.Head = max(256, len(headAsWritten(r))+len(tailAsWritten(r)))
				if !hold(t, r, b) {
					t.Fatalf("P17.2: not Right within a Head of %d: %s", b.Head, show(r))
				}
				if b.Head--; b.Head >= 256 && hold(t, r, b) {
					t.Fatalf("P17.2: Right within a Head of %d: %s", b.Head, show(r))
				}
			}
		}
	}
}

// P17.2: of bounds, the ones that a parser asks for have a say: Chunked of what
// has trailers, Old never; of such as may not be nothing is right.
func TestOtherBounds(t *testing.T) {
	plain, tailed := get("Host", "a"), get("Host", "a")
	tailed.Trailers = fields("A", "b")
	for _, old := range []bool{false, true} {
		for _, chunked := range []bool{false, true} {
			b := bounds.Usual()
			b.Old, b.Chunked = old, chunked
			if !hold(t, plain, b) || hold(t, tailed, b) != chunked {
				t.Errorf("P17.2: Right within %+v: %v, %v", b, Right(plain, b), Right(tailed, b))
			}
		}
	}
	for i, change := range []func(b *api.Bounds, by int){
		func(b *api.Bounds, by int) { b.Line = by },
		func(b *api.Bounds, by int) { b.Fields = by },
		func(b *api.Bounds, by int) { b.Head = by },
		func(b *api.Bounds, by int) { b.Body = by },
		func(b *api.Bounds, by int) { b.Ext = by },
		func(b *api.Bounds, by int) { b.Trailers = by },
		func(b *api.Bounds, by int) { b.Wait = by },
		func(b *api.Bounds, by int) { b.Idle = by },
	} {
		for _, by := range []int{-1, 1<<20 + 1, math.MinInt, math.MaxInt} {
			b := bounds.Usual()
			if change(&b, by); hold(t, plain, b) || hold(t, tailed, b) {
				t.Errorf("P17.2: %d: Right within bounds that may not be: %+v", i, b)
			}
		}
	}
}

// P17.2: the widest of all bounds, at each of them and one past it.
func TestWidest(t *testing.T) {
	b := most()
	value := strings.Repeat("v", 600)
	r := api.Record{Method: "PUT", Target: "/" + strings.Repeat("a", api.MostLine-len("PUT / HTTP/1.1"))}
	for range api.MaxFields - 2 {
		r.Fields = append(r.Fields, api.Field{Name: "A", Value: value})
	}
	r.Body = bytes.Repeat([]byte("\r\n"), api.MostBody/2)
	if !hold(t, r, b) {
		t.Error("P17.2: not Right at the limits")
	}
	if r.Fields = append(r.Fields, api.Field{Name: "A"}); hold(t, r, b) {
		t.Error("P17.2: Right with one field more than MaxFields")
	}
	r.Fields = r.Fields[:api.MaxFields-2]
	if r.Body = append(r.Body, 'a'); hold(t, r, b) {
		t.Error("P17.2: Right with one byte more than MostBody")
	}
	r.Body = r.Body[:api.MostBody]
	if r.Trailers = slices.Repeat(fields("T", ""), api.MaxFields); !hold(t, r, b) {
		t.Error("P17.2: not Right in chunks, at the limits")
	}
	if r.Trailers = append(r.Trailers, api.Field{Name: "T"}); hold(t, r, b) {
		t.Error("P17.2: Right with one trailer more than MaxFields")
	}
	r.Trailers = nil
	if r.Target += "a"; hold(t, r, b) {
		t.Error("P17.2: Right with a line of more than MostLine")
	}
}

// P17.1, P17.2: records at random, right ones and others, within many bounds.
func TestRandom(t *testing.T) {
	r := rand.New(rand.NewSource(171))
	right := 0
	const times = 40000
	for range times {
		if hold(t, random(r), pick(r, someBounds())) {
			right++
		}
	}
	if right < times/10 || right > times*9/10 {
		t.Errorf("P17.2: %d of %d are right: too few of one kind", right, times)
	}
}

// wanted answers what is to be read of Put(r), by the chapter.
func wanted(r api.Record) api.Record {
	return api.Record{Method: r.Method, Target: r.Target, Minor: 1, Fields: fieldsAsWritten(r), Chunked: len(r.Trailers) > 0, Body: r.Body, Trailers: r.Trailers}
}

// profiles: none, each clause alone, all but each one, all, and some at random.
func profiles(r *rand.Rand) []api.Profile {
	l := []api.Profile{0, every}
	for clause := range api.Clauses {
		one := quirks.Of(clause)
		l = append(l, one, every&^one, api.Profile(r.Intn(1<<api.Clauses)))
	}
	return l
}

// P17.3: what is right is read by every profile as the same request, and
// written behind others it is still just that; written again it is the same.
func TestOneReading(t *testing.T) {
	r := rand.New(rand.NewSource(172))
	b := bounds.Usual()
	var stream []byte
	var sent []api.Record
	for range 600 {
		x := random(r)
		if !Right(x, b) {
			continue
		}
		s := Put(x)
		stream, sent = append(stream, s...), append(sent, wanted(x))
		if again := Put(wanted(x)); !bytes.Equal(again, s) || !Right(wanted(x), b) {
			t.Fatalf("P17.3: %q, written again: %q", s, again)
		}
		for _, p := range profiles(r) {
			read, errno, clean := parser.Read(p, b, s)
			if !record.All(read, []api.Record{wanted(x)}) || errno != api.OK || !clean {
				t.Fatalf("P17.3: %q, read by %v: %s, %d, %v", s, quirks.List(p), show(read...), errno, clean)
			}
		}
	}
	for _, p := range profiles(r) {
		read, errno, clean := parser.Read(p, b, stream)
		if !record.All(read, sent) || errno != api.OK || !clean {
			t.Fatalf("P17.3: %d requests, read by %v: %d, %d, %v", len(sent), quirks.List(p), len(read), errno, clean)
		}
	}
	if len(sent) < 200 {
		t.Errorf("P17.3: %d requests are too few", len(sent))
	}
}

// P17.3: what a strict reader took, however it was written, is right.
func TestFromStreams(t *testing.T) {
	const chunked = " / HTTP/1.1\r\nHost: a\r\nTransfer-Encoding: Chunked\r\nB:c\r\n\r\n"
	for _, x := range []struct{ stream, want string }{
		{"GET / HTTP/1.0\r\n\r\n", "GET / HTTP/1.1\r\nHost: localhost\r\n\r\n"},
		{"GET / HTTP/1.0\r\nA:\t b \r\n\r\n", "GET / HTTP/1.1\r\nHost: localhost\r\nA: b\r\n\r\n"},
		{"PUT / HTTP/1.1\r\nContent-Length: 0002\r\nhost:a\r\n\r\nok", "PUT / HTTP/1.1\r\nhost: a\r\nContent-Length: 2\r\n\r\nok"},
		{"GET / HTTP/1.1\r\nContent-Length: 0\r\nHost: a\r\n\r\n", "GET / HTTP/1.1\r\nHost: a\r\n\r\n"},
		{"GET" + chunked + "1;e\r\no\r\n0001\r\nk\r\n00\r\n\r\n", "GET / HTTP/1.1\r\nHost: a\r\nB: c\r\nContent-Length: 2\r\n\r\nok"},
		{"GET" + chunked + "0\r\n\r\n", "GET / HTTP/1.1\r\nHost: a\r\nB: c\r\n\r\n"},
		{"POST" + chunked + "0\r\n\r\n", "POST / HTTP/1.1\r\nHost: a\r\nB: c\r\nContent-Length: 0\r\n\r\n"},
		{"GET" + chunked + "1\r\no\r\n1\r\nk\r\n0;e\r\nD:e\r\n\r\n", "GET / HTTP/1.1\r\nHost: a\r\nB: c\r\nTransfer-Encoding: chunked\r\n\r\n2\r\nok\r\n0\r\nD: e\r\n\r\n"},
		{"GET" + chunked + "0\r\nD: e\r\n\r\n", "GET / HTTP/1.1\r\nHost: a\r\nB: c\r\nTransfer-Encoding: chunked\r\n\r\n0\r\nD: e\r\n\r\n"},
	} {
		read, errno, clean := parser.Read(0, bounds.Usual(), []byte(x.stream))
		if len(read) != 1 || errno != api.OK || !clean {
			t.Fatalf("P17.3: %q isn't one request: %s, %d, %v", x.stream, show(read...), errno, clean)
		}
		if got := Put(read[0]); string(got) != x.want || !hold(t, read[0], bounds.Usual()) {
			t.Errorf("P17.3: %q is written as %q, want %q", x.stream, got, x.want)
		}
	}
}

// roomy answers r with spare room behind each of its lists, and what lies there.
func roomy(r api.Record) api.Record {
	spare := fields("X", "1", "Y", "2", "Z", "3", "X", "4")
	r.Fields = append(slices.Clone(r.Fields), spare...)[:len(r.Fields)]
	r.Trailers = append(slices.Clone(r.Trailers), spare...)[:len(r.Trailers)]
	r.Body = append(bytes.Clone(r.Body), bytes.Repeat([]byte("spare"), 100)...)[:len(r.Body)]
	return r
}

// whole answers r with copies of all its lists' memory, the spare room included.
func whole(r api.Record) api.Record {
	r.Fields = slices.Clone(r.Fields[:cap(r.Fields)])
	r.Trailers = slices.Clone(r.Trailers[:cap(r.Trailers)])
	r.Body = bytes.Clone(r.Body[:cap(r.Body)])
	return r
}

// What is handed in stays as it is, and what is answered is new memory.
func TestMemory(t *testing.T) {
	r := rand.New(rand.NewSource(173))
	for range 3000 {
		x := roomy(random(r))
		before := whole(x)
		put, l := Put(x), Fields(x)
		Right(x, bounds.Usual())
		Chunked(x)
		if !reflect.DeepEqual(whole(x), before) {
			t.Fatalf("DOC 3: what was handed in changed: %s, was %s", show(whole(x)), show(before))
		}
		want, list := string(put), slices.Clone(l)
		other, more := Put(x), Fields(x)
		for i := range other[:cap(other)] {
			other[:cap(other)][i] = '?'
		}
		for i := range more[:cap(more)] {
			more[:cap(more)][i] = api.Field{Name: "?"}
		}
		clear(x.Fields[:cap(x.Fields)])
		clear(x.Trailers[:cap(x.Trailers)])
		clear(x.Body[:cap(x.Body)])
		if string(put) != want || !slices.Equal(l, list) {
			t.Fatalf("DOC 3: an answer hangs on memory of others: %q, was %q", put, want)
		}
		clear(put[:cap(put)])
		clear(l[:cap(l)])
	}
}

// A nil list and an empty one are the same.
func TestNilLists(t *testing.T) {
	for _, method := range []string{"GET", "POST", ""} {
		none := api.Record{Method: method, Target: "/"}
		empty := api.Record{Method: method, Target: "/", Fields: []api.Field{}, Body: []byte{}, Trailers: []api.Field{}}
		for _, b := range someBounds() {
			if !bytes.Equal(Put(none), Put(empty)) || !slices.Equal(Fields(none), Fields(empty)) || Right(none, b) != Right(empty, b) || Chunked(none) || Chunked(empty) {
				t.Errorf("DOC 2: %q: nil lists and empty ones aren't the same", method)
			}
		}
	}
}
