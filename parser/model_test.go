package parser

import (
	"math/rand"
	"strings"

	"parallax/api"
	"parallax/bounds"
	"parallax/chunk"
	"parallax/field"
	"parallax/framing"
	"parallax/quirks"
	"parallax/record"
	"parallax/request"
)

// The chapter's words written out over a whole text: a line is looked for from its beginning on, and a head within the piece of text that Head lets it have.

// state is all that a parser tells of what isn't whole.
type state struct {
	errno        api.Errno
	clean, waits bool
	held         int
}

// How a line goes out.
const (
	whole = iota
	open  // its end isn't there
	bad
	long
)

// lineOf cuts the first line of s: its text (of an open one what it has), how many bytes it takes with its end, how many are looked at to know that.
func lineOf(p api.Profile, most int, s string) (text string, takes, looks, how int) {
	n := strings.IndexAny(s, "\r\n")
	switch {
	case n > most, n < 0 && len(s) > most:
		return "", 0, 0, long
	case n < 0:
		return s, 0, 0, open
	case strings.HasPrefix(s[n:], "\r\n"):
		return s[:n], n + 2, n + 2, whole
	case s[n:] == "\r":
		return s[:n], 0, 0, open
	case s[n] == '\n' && quirks.Has(p, api.BareLF):
		return s[:n], n + 1, n + 1, whole
	case s[n] == '\r' && quirks.Has(p, api.BareCR):
		return s[:n], n + 1, n + 2, whole
	}
	return "", 0, 0, bad
}

// one reads the record at the beginning of s: how many bytes it takes; of one that isn't whole false, and what is told of it.
type one struct {
	p     api.Profile
	b     api.Bounds
	rec   api.Record
	takes int
	looks int // of the head
	end   state
}

func (o *one) stop(errno api.Errno) bool {
	o.end = state{errno: errno}
	return false
}

// open: what isn't whole holds so much of a line.
func (o *one) open(text string) bool {
	o.end = state{held: len(text) + record.Size(o.rec)}
	return false
}

// within cuts s to what it may have, and answers whether more comes.
func within(s string, most int) (string, bool) { return s[:min(len(s), most)], len(s) > most }

func (o *one) read(s string) bool {
	if !o.first(s) {
		return false
	}
	cut, beyond := within(s, o.b.Head)
	n, looks, ok := o.fields(cut[o.takes:], beyond, o.b.Fields, &o.rec.Fields)
	if !ok {
		return false
	}
	o.looks = o.takes + looks
	o.takes += n
	f, errno := framing.Decide(o.p, o.b, o.rec.Minor, o.rec.Fields)
	if errno != 0 {
		return o.stop(errno)
	}
	if f.Kind == api.Chunks {
		o.rec.Chunked = true
		return o.chunks(s)
	}
	body := s[o.takes:]
	if len(body) < f.Length {
		o.rec.Body = []byte(body)
		o.open("")
		o.end.waits = body == "" && record.Expects(o.rec)
		return false
	}
	o.rec.Body = []byte(body[:f.Length])
	o.takes += f.Length
	return true
}

// first reads the first line.
func (o *one) first(s string) bool {
	cut, beyond := within(s, o.b.Head)
	for {
		text, takes, _, how := lineOf(o.p, o.b.Line, cut[o.takes:])
		switch {
		case how == open && beyond:
			return o.stop(431)
		case how == open:
			o.open(text)
			o.end.clean = cut[o.takes:] == ""
			return false
		case how == bad:
			return o.stop(400)
		case how == long:
			return o.stop(414)
		case text == "" && !quirks.Has(o.p, api.Empty):
			return o.stop(400)
		}
		o.takes += takes
		if text != "" {
			method, target, minor, errno := request.Parse(text, o.p, o.b)
			o.rec = api.Record{Method: method, Target: target, Minor: minor}
			return errno == 0 || o.stop(errno)
		}
	}
}

// fields reads lines of fields until an empty one: how many bytes they take, and how many are looked at.
func (o *one) fields(s string, beyond bool, most int, l *[]api.Field) (int, int, bool) {
	n := 0
	for lines := 1; ; lines++ {
		text, takes, looks, how := lineOf(o.p, o.b.Line, s[n:])
		switch {
		case how == open && !beyond:
			return 0, 0, o.open(text)
		case how == open, how == long:
			return 0, 0, o.stop(431)
		case how == bad:
			return 0, 0, o.stop(400)
		case text == "":
			return n + takes, n + looks, true
		case lines > most:
			return 0, 0, o.stop(431)
		}
		n += takes
		if k := len(*l); k > 0 && quirks.Has(o.p, api.Fold) && strings.ContainsAny(text[:1], " \t") {
			(*l)[k-1] = field.Join((*l)[k-1], text)
			continue
		}
		f, is, errno := field.Parse(text, o.p)
		if errno != 0 {
			return 0, 0, o.stop(errno)
		}
		if is {
			*l = append(*l, f)
		}
	}
}

// chunks reads chunks and trailers.
func (o *one) chunks(s string) bool {
	for {
		text, takes, _, how := lineOf(o.p, o.b.Line, s[o.takes:])
		switch how {
		case open:
			o.open(text)
			o.end.waits = s[o.takes:] == "" && len(o.rec.Body) == 0 && record.Expects(o.rec)
			return false
		case bad, long:
			return o.stop(400)
		}
		o.takes += takes
		size, errno := chunk.Size(text, o.p, o.b)
		if errno != 0 {
			return o.stop(errno)
		}
		if len(o.rec.Body)+size > o.b.Body {
			return o.stop(413)
		}
		if size == 0 {
			return o.trailers(s)
		}
		data := s[o.takes:]
		o.rec.Body = append(o.rec.Body, data[:min(size, len(data))]...)
		if len(data) < size {
			return o.open("")
		}
		o.takes += size
		switch _, takes, _, how := lineOf(o.p, 0, s[o.takes:]); {
		case how == open:
			return o.open("")
		case how == bad, how == long && !quirks.Has(o.p, api.ChunkEnd):
			return o.stop(400)
		default:
			o.takes += takes
		}
	}
}

// trailers has the room that the head left.
func (o *one) trailers(s string) bool {
	cut, beyond := within(s[o.takes:], o.b.Head-o.looks)
	n, _, ok := o.fields(cut, beyond, o.b.Trailers, &o.rec.Trailers)
	o.takes += n
	return ok
}

// asWritten: the records of s and what is told of the rest.
func asWritten(p api.Profile, b api.Bounds, s string) ([]api.Record, state) {
	if p>>api.Clauses != 0 || !bounds.Right(b) {
		return nil, state{errno: 20}
	}
	var l []api.Record
	for {
		o := one{p: p, b: b}
		if !o.read(s) {
			return l, o.end
		}
		l = append(l, o.rec)
		s = s[o.takes:]
	}
}

// least: the least bounds that there may be, but for a few chunks and trailers.
func least() api.Bounds {
	return api.Bounds{Line: api.LeastLine, Fields: api.MinFields, Head: api.LeastHead, Body: api.LeastBody, Ext: 2, Trailers: 2, Wait: 1, Idle: 1, Chunked: true, Old: true}
}

// someBounds answers bounds at random, most of them little.
func someBounds(r *rand.Rand) api.Bounds {
	b := least()
	switch r.Intn(4) {
	case 0:
		return bounds.Usual()
	case 1:
		b.Line, b.Head = 64+r.Intn(20), 256+r.Intn(40)
	case 2:
		b.Fields, b.Trailers, b.Ext, b.Body = 4+r.Intn(3), r.Intn(4), r.Intn(5), 16+r.Intn(9)
	}
	b.Chunked, b.Old = r.Intn(8) > 0, r.Intn(8) > 0
	return b
}

// someProfile answers none, one, a few, many or all clauses.
func someProfile(r *rand.Rand) api.Profile {
	const all = 1<<api.Clauses - 1
	switch r.Intn(5) {
	case 0:
		return 0
	case 1:
		return 1 << r.Intn(api.Clauses)
	case 2:
		return api.Profile(r.Uint32()&r.Uint32()) & all
	case 3:
		return api.Profile(r.Uint32()|r.Uint32()) & all
	}
	return all
}

func pick(r *rand.Rand, l ...string) string { return l[r.Intn(len(l))] }

// stream writes requests at random: odd is how often of 100 something odd stands in them.
type stream struct {
	*rand.Rand
	odd int
	strings.Builder
}

func (w *stream) oddly() bool { return w.Intn(100) < w.odd }

func (w *stream) line(s string) {
	w.WriteString(s)
	if w.oddly() {
		w.WriteString(pick(w.Rand, "\n", "\r", "\n\r", "\r\r", "", "\r\r\n"))
	} else {
		w.WriteString("\r\n")
	}
}

func (w *stream) request() {
	for w.oddly() {
		w.line("")
	}
	first := pick(w.Rand, "GET / HTTP/1.1", "POST /a?b HTTP/1.1", "PUT /long/enough/to/be/told HTTP/1.1", "GET / HTTP/1.0")
	if w.oddly() {
		first = pick(w.Rand, "GET  / HTTP/1.1", " GET\t/ HTTP/1.1", "GET / HTTP/1.7", "GET / http/1.1", "GET /", "GET /a b HTTP/1.1", "GET /\x01 HTTP/1.1", "GET / HTTP/2.0", "GET * HTTP/1.1", "/", "GET http://a/b HTTP/1.1", strings.Repeat("G", 70))
	}
	w.line(first)
	if !w.oddly() {
		w.line("Host: a")
	}
	for range w.Intn(3) {
		w.field()
	}
	body := strings.Repeat("b", w.Intn(20))
	if w.Intn(3) == 0 {
		w.line("Expect: 100-continue")
	}
	switch w.Intn(4) {
	case 0:
		w.line("")
	case 1:
		w.line("Content-Length: " + pick(w.Rand, "0", "1", "3", "7", "16", "17", "+2", "2, 2", "x"))
		w.line("")
		w.WriteString(body)
	case 2, 3:
		w.line("Transfer-Encoding: chunked")
		if w.oddly() {
			w.line(pick(w.Rand, "Transfer-Encoding: gzip", "Content-Length: 3", "Content-Length: 5", "Transfer-Encoding: \vchunked"))
		}
		w.line("")
		w.chunks()
	}
}

func (w *stream) field() {
	if w.oddly() {
		w.line(pick(w.Rand, " a: b", "\tgoes on", " ", "a : b", "a b: c", "x", ":", " : x", "a:\x00", "Host: b", "\xff: a", "Transfer-Encoding: x", "Content-Length: 2", "a: "+strings.Repeat("b", w.Intn(80))))
		return
	}
	w.line(pick(w.Rand, "A: b", "B:c ", "C:", "Accept: \t*/* ", "D: "+strings.Repeat("d", w.Intn(60))))
}

func (w *stream) chunks() {
	for range w.Intn(4) {
		data := pick(w.Rand, "a", "\r\n", "b\r\nc", "0\r\n\r\n", "\n")
		size := "0123456789abcdef"[len(data)]
		ahead, behind := "", ""
		if w.oddly() {
			ahead, behind = pick(w.Rand, "0x", " ", "000", "g", "\t0X", ""), pick(w.Rand, ";", ";a", ";abc", " ", ";\x00", "fffff")
		}
		w.line(ahead + string(size) + behind)
		w.line(data)
	}
	w.line("0")
	for range w.Intn(3) {
		w.field()
	}
	w.line("")
}

// someStream answers some requests, with bytes that were changed, taken out or put in.
func someStream(r *rand.Rand, odd int) string {
	w := &stream{Rand: r, odd: odd}
	for range 1 + r.Intn(4) {
		w.request()
	}
	s := w.String()
	for w.oddly() {
		i := r.Intn(len(s))
		j := min(len(s), i+r.Intn(2))
		s = s[:i] + pick(r, "", "\r", "\n", " ", "\t", ":", "0", "a", "\xff", "\r\n") + s[j:]
		if s == "" {
			break
		}
	}
	return s
}
