package filter

import (
	"bytes"
	"math/rand"
	"strings"
	"testing"

	"parallax/api"
	"parallax/bounds"
	"parallax/parser"
	"parallax/quirks"
	"parallax/record"
)

const (
	top     = "GET / HTTP/1.1\r\n"
	head    = top + "Host: a\r\n"
	chunked = "Transfer-Encoding: chunked\r\n"
	inParts = head + chunked + "\r\n"
	expects = "Expect: 100-continue\r\n"
	every   = api.Profile(1<<api.Clauses - 1)
)

// of answers the profile of these clauses.
func of(clauses ...int) api.Profile { return quirks.Of(clauses...) }

// right are requests that the strict reader takes.
var right = []string{
	head + "\r\n",
	"GET /a?b HTTP/1.0\r\n\r\n",
	"PUT /c HTTP/1.1\r\nHost: a\r\nContent-Length: 4\r\n\r\n\r\n\r\n",
	"POST / HTTP/1.1\r\nhost: a:1\r\n" + expects + "Content-Length: 3\r\n\r\nabc",
	"OPTIONS * HTTP/1.1\r\nHost: a\r\nA:  b \r\nC:\r\n\r\n",
	inParts + "2;x\r\n\n\r\r\n1\r\nc\r\n0\r\nT: u\r\nV:\r\n\r\n",
	head + expects + chunked + "\r\n0\r\n\r\n",
}

// apart are streams that the strict reader refuses at their last byte, with that error, and that a reader of that clause alone doesn't.
var apart = []struct {
	clause int
	s      string
	code   api.Errno
}{
	{api.Empty, "\r\n", 400},
	{api.BareLF, "GET / HTTP/1.1\n", 400},
	{api.BareCR, "GET / HTTP/1.1\rH", 400},
	{api.Blanks, "GET \t/ HTTP/1.1\r\n", 400},
	{api.Minor, "GET / HTTP/1.2\r\n", 505},
	{api.AnyCase, "GET / http/1.1\r\n", 505},
	{api.NoVersion, "GET /\r\n", 400},
	{api.Spaces, "GET /a b HTTP/1.1\r\n", 400},
	{api.Controls, "GET /\x01 HTTP/1.1\r\n", 400},
	{api.ColonSpace, top + "Host : a\r\n", 400},
	{api.NameBytes, top + "(: a\r\n", 400},
	{api.NoColon, top + "x\r\n", 400},
	{api.NoName, top + ":x\r\n", 400},
	{api.Fold, head + " x\r\n", 400},
	{api.ValueBytes, head + "A: \x01\r\n", 400},
	{api.NoHost, top + "\r\n", 400},
	{api.ManyHosts, head + "Host: b\r\n\r\n", 400},
	{api.TEList, head + "Transfer-Encoding: gzip, chunked\r\n\r\n", 501},
	{api.TEIgnore, head + "Transfer-Encoding: gzip\r\n\r\n", 501},
	{api.TEOld, "GET / HTTP/1.0\r\n" + chunked + "\r\n", 400},
	{api.TEWins, head + chunked + "Content-Length: 5\r\n\r\n", 400},
	{api.CLWins, head + chunked + "Content-Length: 0\r\n\r\n", 400},
	{api.CLPlus, head + "Content-Length: +0\r\n\r\n", 400},
	{api.CLComma, head + "Content-Length: 1, 1\r\n\r\n", 400},
	{api.CLFirst, head + "Content-Length: 0\r\nContent-Length: 1\r\n\r\n", 400},
	{api.CLLast, head + "Content-Length: 0\r\nContent-Length: 1\r\n\r\n", 400},
	{api.ChunkHex, inParts + "0x1\r\n", 400},
	{api.ChunkBlanks, inParts + " 1\r\n", 400},
	{api.ChunkEnd, inParts + "1\r\na0", 400},
}

// tell answers what f tells beside records.
func tell(f *Filter) state {
	return state{f.Verdict(), f.Code(), f.Parted(), f.Waits(), f.Clean(), f.Held()}
}

// beside answers a filter of readers of these two profiles. What a strict one takes every lenient one reads alike, so that no filter of New can tell what becomes of it where it doesn't.
func beside(strict, lenient api.Profile, b api.Bounds) *Filter {
	return &Filter{readers: readers{parser.New(strict, b), parser.New(lenient, b)}}
}

// holdEach holds f, fed byte by byte, against the chapter behind each byte, and answers the records.
func holdEach(t *testing.T, f *Filter, strict, lenient api.Profile, b api.Bounds, s string) []api.Record {
	t.Helper()
	want, n := asWritten(strict, lenient, b, "")
	var all []api.Record
	for k := 0; ; k++ {
		if got := tell(f); got != want || len(all) != n || !record.All(all, see(strict, b, s[:k]).records[:n]) || !record.All(all, see(lenient, b, s[:k]).records[:n]) {
			t.Fatalf("P14.1: %q of %v, %v within %+v: %d records, %+v, want %d, %+v", s[:k], quirks.List(strict), quirks.List(lenient), b, len(all), got, n, want)
		}
		if k == len(s) {
			return all
		}
		all = append(all, f.Feed([]byte{s[k]})...)
		if want.verdict == api.Pass {
			want, n = asWritten(strict, lenient, b, s[:k+1])
		}
	}
}

// P14.1: what the strict one takes passes, and is told, in order; Waits, Held and Clean are as the strict one's.
func TestPass(t *testing.T) {
	b := bounds.Usual()
	s := strings.Join(right, "") + head + expects + "Content-Length: 2\r\n\r\na"
	ps := []api.Profile{0, every}
	for clause := range api.Clauses {
		ps = append(ps, of(clause), every&^of(clause))
	}
	for _, p := range ps {
		f, strict := New(p, b), parser.New(0, b)
		var all, want []api.Record
		for k := range len(s) {
			next := []byte{s[k]}
			all, want = append(all, f.Feed(next)...), append(want, strict.Feed(next)...)
			if got := tell(f); got != (state{api.Pass, 0, false, strict.Waits(), strict.Clean(), strict.Held()}) || !record.All(all, want) {
				t.Fatalf("P14.1: %v behind %q: %d records, %+v", quirks.List(p), s[:k+1], len(all), got)
			}
		}
		if len(all) != len(right) || all[5].Trailers[0].Name != "T" || string(all[5].Body) != "\n\rc" {
			t.Errorf("P14.1: %v: %d records", quirks.List(p), len(all))
		}
	}
	if f := New(of(api.BareLF), b); tell(f) != (state{api.Pass, 0, false, false, true, 0}) || f.Feed() != nil || f.Feed(nil, []byte{}) != nil || tell(f) != (state{api.Pass, 0, false, false, true, 0}) {
		t.Errorf("P14.1: of no byte: %+v", tell(f))
	}
}

// P14.1: what the strict one alone refuses: Block, its error, Parted, just at that byte, behind requests that passed, too; beside a lenient one that refuses it, too, not Parted.
func TestBlock(t *testing.T) {
	b := bounds.Usual()
	for _, x := range apart {
		for _, ahead := range []string{"", right[0], right[5] + right[2]} {
			for _, p := range []api.Profile{0, of(x.clause)} {
				f := New(p, b)
				s := ahead + x.s
				n := len(f.Feed([]byte(s[:len(s)-1])))
				if f.Verdict() != api.Pass || f.Code() != 0 || f.Parted() || n != len(see(0, b, ahead).records) {
					t.Errorf("P14.1: %s: %q but for its last byte: %d records, %+v", quirks.Name(x.clause), s, n, tell(f))
				}
				l := f.Feed([]byte(s[len(s)-1:]))
				lenient := see(p, b, s)
				if got := tell(f); got != (state{api.Block, x.code, p != 0, false, false, lenient.Held()}) || len(l) != 0 {
					t.Errorf("P14.1: %s: %q of %v: %d records, %+v", quirks.Name(x.clause), s, quirks.List(p), len(l), got)
				}
			}
		}
	}
	// vertical tabs are let be by another clause alone
	if f := New(of(api.TEBlanks), b); len(f.Feed([]byte(head+"Transfer-Encoding: \vchunked\r\n\r\n"))) != 0 || f.Code() != 400 || f.Parted() {
		t.Errorf("P14.1: teblanks: %+v", tell(f))
	}
}

// P14.1: the strict one's error is the code, whichever the lenient one has.
func TestBothRefuse(t *testing.T) {
	narrow := bounds.Usual()
	narrow.Chunked = false
	for i, x := range []struct {
		p       api.Profile
		b       api.Bounds
		s       string
		code    api.Errno
		lenient api.Errno
	}{
		{0, bounds.Usual(), "\n", 400, 400},
		{every, bounds.Usual(), "GET / HTTP/2.0\r\n", 505, 505},
		{every &^ of(api.Empty), bounds.Usual(), "\r\n", 400, 400},
		{every, bounds.Usual(), strings.Repeat("a", 1025), 414, 414},
		{every, bounds.Usual(), head + strings.Repeat("A: b\r\n", 32), 431, 431},
		{every, least(), head + "Content-Length: 17\r\n\r\n", 413, 413},
		{of(api.TEIgnore), bounds.Usual(), head + "Transfer-Encoding: x\r\nContent-Length: 65537\r\n\r\n", 501, 413},
		{of(api.TEIgnore), bounds.Usual(), head + "Transfer-Encoding: x\r\nContent-Length: x\r\n\r\n", 501, 400},
		{of(api.CLWins), bounds.Usual(), head + chunked + "Content-Length: 65537\r\n\r\n", 400, 413},
		{of(api.TEWins), narrow, head + chunked + "Content-Length: 1\r\n\r\n", 400, 501},
		{of(api.CLPlus), bounds.Usual(), head + "Content-Length: +65537\r\n\r\n", 400, 413},
		{of(api.ChunkHex), bounds.Usual(), inParts + "0x10001\r\n", 400, 413},
	} {
		f := New(x.p, x.b)
		ahead := f.Feed([]byte(x.s[:len(x.s)-1]))
		passed := f.Verdict() == api.Pass
		last := f.Feed([]byte(x.s[len(x.s)-1:]))
		if !passed || len(ahead)+len(last) != 0 || tell(f) != (state{verdict: api.Block, code: x.code}) || see(x.p, x.b, x.s).Err() != x.lenient {
			t.Errorf("P14.1: %d: %q: %v, %+v", i, x.s, passed, tell(f))
		}
	}
}

// P14.1: a record that becomes whole in the lenient one where the strict one refuses it isn't told; Waits and Clean are the strict one's, Held is the lenient one's.
func TestLenientGoesOn(t *testing.T) {
	for _, x := range []struct {
		p    api.Profile
		s    string
		code api.Errno
		held int
	}{
		{of(api.CLPlus), head + "Content-Length: +0\r\n\r\n", 400, 0},                                           // whole
		{of(api.TEIgnore), head + "Transfer-Encoding: x\r\n\r\n", 501, 0},                                       // whole
		{of(api.Empty), right[0] + "\r\n", 400, 0},                                                              // clean
		{of(api.NoHost), top + expects + "Content-Length: 2\r\n\r\n", 400, 4 + 18 + 15},                         // it waits
		{of(api.BareLF), "GET / HTTP/1.1\n", 400, 4},                                                            // a line
		{of(api.BareCR), "GET / HTTP/1.1\rH", 400, 5},                                                           // a line and a byte
		{of(api.ChunkEnd), inParts + "1\r\na0", 400, len("GET/" + "Hosta" + "Transfer-Encodingchunked" + "a0")}, // a body
	} {
		f := New(x.p, bounds.Usual())
		n := len(f.Feed([]byte(x.s)))
		if n != strings.Count(x.s, right[0]) || tell(f) != (state{verdict: api.Block, code: x.code, parted: true, held: x.held}) {
			t.Errorf("P14.1: %q: %d records, %+v", x.s, n, tell(f))
		}
	}
}

// P14.1: Block stays: no byte is looked at any more, whatever came ahead of it in the same call.
func TestBlockStays(t *testing.T) {
	b := bounds.Usual()
	for _, x := range apart {
		for _, p := range []api.Profile{0, of(x.clause), every} {
			f := New(p, b)
			all := f.Feed([]byte(right[0]+x.s), []byte(right[0]), []byte(right[1]+"\n"))
			then := tell(f)
			g := New(p, b)
			g.Feed([]byte(right[0] + x.s))
			if len(all) != 1 || f.Verdict() != api.Block || then != tell(g) {
				t.Errorf("P14.1: %q of %v and more: %d records, %+v", x.s, quirks.List(p), len(all), then)
			}
			for _, s := range []string{right[0], "\n", "\r\n\r\n" + right[5], "x", ""} {
				if l := f.Feed([]byte(s), []byte(s)); len(l) != 0 || tell(f) != then {
					t.Errorf("P14.1: %q of %v, then %q: %d records, %+v", x.s, quirks.List(p), s, len(l), tell(f))
				}
			}
		}
	}
}

// P14.1: the records so far, and the lenient one's error alone, by readers that New doesn't put beside each other.
func TestUnlike(t *testing.T) {
	lengths := head + "Content-Length: 0\r\nContent-Length: 5\r\n\r\n"
	both := head + chunked + "Content-Length: 5\r\n\r\n0\r\n\r\n"
	for i, x := range []struct {
		strict, lenient api.Profile
		s               string
		want            state
	}{
		// the lenient one alone has an error
		{of(api.BareLF), 0, "GET / HTTP/1.1\n", state{api.Block, 400, true, false, false, 4}},
		{of(api.Empty), 0, "\r\n", state{api.Block, 400, true, false, true, 0}},
		{of(api.Minor), 0, "GET / HTTP/1.2\r\n", state{api.Block, 400, true, false, false, 4}}, // 505 of the lenient one
		{of(api.TEIgnore), 0, head + "Transfer-Encoding: x\r\n\r\n", state{api.Block, 400, true, false, true, 0}},
		{of(api.NoHost), 0, top + expects + "Content-Length: 2\r\n\r\n", state{api.Block, 400, true, true, false, 4 + 18 + 15}},
		// one of them has a record more
		{of(api.CLFirst), of(api.CLLast), lengths, state{api.Block, 400, true, false, true, 4 + 5 + 15 + 15}},
		{of(api.CLLast), of(api.CLFirst), lengths, state{api.Block, 400, true, false, false, 4 + 5 + 15 + 15}},
		{of(api.CLWins), of(api.TEWins), both, state{api.Block, 400, true, false, true, 0}}, // another one of the same byte
		{of(api.TEWins), of(api.CLWins), both, state{api.Block, 400, true, false, true, 0}},
		// both go on, and no record is there that is unlike
		{of(api.CLFirst), of(api.CLLast), lengths[:len(lengths)-1], state{api.Pass, 0, false, false, false, 4 + 5 + 15 + 15}},
		{of(api.TEWins), of(api.CLWins), both[:len(both)-1], state{api.Pass, 0, false, false, false, 4 + 5 + 24 + 15 + 4}},
		{of(api.BareLF), of(api.BareLF, api.BareCR), "GET / HTTP/1.1\nHost: a\n\n", state{api.Pass, 0, false, false, true, 0}},
		// the strict one has an error
		{of(api.BareLF), of(api.BareLF), "GET / HTTP/1.1\rH", state{api.Block, 400, false, false, false, 0}},
		{of(api.BareLF), of(api.BareCR), "GET / HTTP/1.1\rH", state{api.Block, 400, true, false, false, 5}},
	} {
		f := beside(x.strict, x.lenient, bounds.Usual())
		n := len(f.Feed([]byte(right[0] + x.s)))
		records := 1
		if x.want.verdict == api.Pass && x.want.clean {
			records = 2
		}
		if got := tell(f); n != records || got != x.want {
			t.Errorf("P14.1: %d: %q of %v, %v: %d records, %+v, want %d, %+v", i, x.s, quirks.List(x.strict), quirks.List(x.lenient), n, got, records, x.want)
		}
		if l := f.Feed([]byte(right[0])); x.want.verdict == api.Block && (len(l) != 0 || tell(f) != x.want) {
			t.Errorf("P14.1: %d: %q and more: %d records, %+v", i, x.s, len(l), tell(f))
		}
	}
}

// P14.1: bounds, and profiles, that may not be.
func TestErrForm(t *testing.T) {
	wrong := func(change func(*api.Bounds)) api.Bounds {
		b := bounds.Usual()
		change(&b)
		return b
	}
	for i, x := range []struct {
		p     api.Profile
		b     api.Bounds
		clean bool
	}{
		{0, api.Bounds{}, false}, {every, api.Bounds{}, false}, {1 << 31, api.Bounds{}, false},
		{0, wrong(func(b *api.Bounds) { b.Line = api.LeastLine - 1 }), false}, {0, wrong(func(b *api.Bounds) { b.Body = api.MostBody + 1 }), false}, {every, wrong(func(b *api.Bounds) { b.Wait = 0 }), false}, {0, wrong(func(b *api.Bounds) { b.Idle = -1 }), false},
		// the strict one is of no clauses, whatever p is
		{1 << api.Clauses, bounds.Usual(), true}, {1 << 31, least(), true}, {every | 1<<31, bounds.Usual(), true}, {^api.Profile(0), bounds.Usual(), true},
	} {
		f := New(x.p, x.b)
		for _, s := range []string{"", right[0], "\n", "G", ""} {
			if got := tell(f); got != (state{verdict: api.Block, code: api.ErrForm, clean: x.clean}) {
				t.Errorf("P14.1: what may not be %d: %+v", i, got)
			}
			if l := f.Feed([]byte(s)); len(l) != 0 {
				t.Errorf("P14.1: what may not be %d: %d records of %q", i, len(l), s)
			}
		}
	}
	for clause := range api.Clauses {
		if f := New(of(clause), least()); f.Verdict() != api.Pass || f.Code() != 0 {
			t.Errorf("P14.1: %s within the least bounds: %+v", quirks.Name(clause), tell(f))
		}
	}
}

// P14.1: behind each byte, at random.
func TestRandom(t *testing.T) {
	r := rand.New(rand.NewSource(141))
	blocked, parted, records := 0, 0, 0
	for range 1500 {
		p, b, s := someProfile(r), someBounds(r), someStream(r)
		f := New(p, b)
		records += len(holdEach(t, f, 0, p, b, s))
		if f.Verdict() == api.Block {
			blocked++
		}
		if f.Parted() {
			parted++
		}
	}
	if blocked < 300 || parted < 100 || records < 300 {
		t.Errorf("P14.1: at random: %d blocked, %d parted, %d records", blocked, parted, records)
	}
	for range 1500 {
		p, q, b, s := someProfile(r), someProfile(r), someBounds(r), someStream(r)
		holdEach(t, beside(q, p, b), q, p, b, s)
	}
}

// P14.2: what goes on is all that the strict one read, and the lenient one read just that ahead of all else.
func TestNothingApartGoesOn(t *testing.T) {
	r := rand.New(rand.NewSource(142))
	passed := 0
	for range 20000 {
		p, b, s := someProfile(r), someBounds(r), someStream(r)
		f := New(p, b)
		all := f.Feed([]byte(s))
		strict, lenient := see(0, b, s), see(p, b, s)
		if !record.All(all, strict.records) || len(lenient.records) < len(all) || !record.All(all, lenient.records[:len(all)]) {
			t.Fatalf("P14.2: %q of %v within %+v: %d records, strict %d, lenient %d", s, quirks.List(p), b, len(all), len(strict.records), len(lenient.records))
		}
		if f.Code() != strict.Err() || f.Verdict() == api.Pass && (lenient.Err() != 0 || len(lenient.records) != len(all)) {
			t.Fatalf("P14.2: %q of %v within %+v: %+v, lenient %d of %d", s, quirks.List(p), b, tell(f), len(lenient.records), lenient.Err())
		}
		passed += len(all)
	}
	if passed < 5000 {
		t.Errorf("P14.2: %d records in all", passed)
	}
}

// P14.1: however bytes are parted.
func TestParts(t *testing.T) {
	r := rand.New(rand.NewSource(143))
	for range 5000 {
		p, q, b, s := someProfile(r), api.Profile(0), someBounds(r), []byte(someStream(r))
		if r.Intn(2) == 0 {
			q = someProfile(r)
		}
		one, calls, variadic := beside(q, p, b), beside(q, p, b), beside(q, p, b)
		want := one.Feed(s)
		var parts [][]byte
		var all []api.Record
		for most := 1 + r.Intn(40); len(s) > 0; {
			n := r.Intn(min(most, len(s)) + 1)
			parts = append(parts, s[:n])
			all = append(all, calls.Feed(s[:n])...)
			s = s[n:]
		}
		if !record.All(all, want) || tell(calls) != tell(one) {
			t.Fatalf("P14.1: %q of %v, %v in calls: %d records, %+v; at once %d, %+v", parts, quirks.List(q), quirks.List(p), len(all), tell(calls), len(want), tell(one))
		}
		if all := variadic.Feed(parts...); !record.All(all, want) || tell(variadic) != tell(one) {
			t.Fatalf("P14.1: %q of %v, %v in parts: %d records, %+v; at once %d, %+v", parts, quirks.List(q), quirks.List(p), len(all), tell(variadic), len(want), tell(one))
		}
	}
}

// P14.1: what Feed is handed stays as it was, spare room and all, and isn't kept.
func TestHandedIn(t *testing.T) {
	s := strings.Join(right, "")
	want := see(0, bounds.Usual(), s).records
	for n := 1; n < len(s); n += 3 {
		f := New(every, bounds.Usual())
		var all []api.Record
		for i := 0; i < len(s); i += n {
			part := []byte(s[i:min(i+n, len(s))] + "spare room")
			handed := part[: len(part)-len("spare room") : len(part)]
			ahead := bytes.Clone(part)
			all = append(all, f.Feed(handed[:len(handed)/2], handed[len(handed)/2:])...)
			if !bytes.Equal(part, ahead) {
				t.Fatalf("P14.1: what was handed in changed: %q", part)
			}
			for k := range part {
				part[k] = '!'
			}
		}
		if !record.All(all, want) || f.Verdict() != api.Pass {
			t.Fatalf("P14.1: bytes that were handed in were kept: %d records, %+v", len(all), tell(f))
		}
	}
}

// spoil writes over all that is within the reach of r, spare room and all.
func spoil(r *api.Record) {
	for _, l := range [][]api.Field{r.Fields[:cap(r.Fields)], r.Trailers[:cap(r.Trailers)]} {
		for i := range l {
			l[i] = api.Field{Name: "!", Value: "!"}
		}
	}
	for i := range r.Body[:cap(r.Body)] {
		r.Body[:cap(r.Body)][i] = '!'
	}
}

// P14.1: what Feed answers is new memory: writing over it changes neither the other records nor the filter.
func TestAnswered(t *testing.T) {
	s := strings.Join(right, "")
	b := bounds.Usual()
	want := see(0, b, s+s).records
	for i := range want {
		l := New(every, b).Feed([]byte(s + s))
		spoil(&l[i])
		l[i] = want[i]
		if !record.All(l, want) {
			t.Errorf("P14.1: record %d shares memory with others", i)
		}
	}
	for i := range len(s) {
		f := New(every, b)
		l := f.Feed([]byte(s + s[:i]))
		n := len(l)
		for k := range l {
			spoil(&l[k])
		}
		clear(l[:cap(l)])
		if rest := f.Feed([]byte(s[i:])); !record.All(rest, want[n:]) || f.Verdict() != api.Pass {
			t.Fatalf("P14.1: behind %d bytes: %d records, %+v", len(s)+i, len(rest), tell(f))
		}
	}
}

// P14.1: filters beside each other say nothing to each other, and asking changes nothing.
func TestAsking(t *testing.T) {
	s := strings.Join(right, "") + "\n"
	f, other := New(every, bounds.Usual()), New(0, least())
	n := 0
	for i := range len(s) {
		first := tell(f)
		if again := tell(f); again != first || len(f.Feed()) != 0 || tell(f) != first {
			t.Fatalf("P14.1: asked again: %+v, %+v", first, again)
		}
		other.Feed([]byte(s[len(s)-i-1:]))
		n += len(f.Feed([]byte{s[i]}))
	}
	if n != len(right) || tell(f) != (state{verdict: api.Block, code: 400, parted: true}) {
		t.Errorf("P14.1: beside another one: %d records, %+v", n, tell(f))
	}
}

// P14.1: the longest body that there may be.
func TestLong(t *testing.T) {
	b := bounds.Usual()
	b.Body = api.MostBody
	body := strings.Repeat("\r\n", api.MostBody/2)
	f := New(every, b)
	f.Feed([]byte(head + "Content-Length: 1048576\r\n\r\n" + body[1:]))
	if f.Held() != 4+5+21+api.MostBody-1 || f.Clean() {
		t.Errorf("P14.1: a long body but for a byte: %+v", tell(f))
	}
	if l := f.Feed([]byte("\n" + right[0])); len(l) != 2 || len(l[0].Body) != api.MostBody || tell(f) != (state{verdict: api.Pass, clean: true}) {
		t.Errorf("P14.1: a long body: %d records, %+v", len(l), tell(f))
	}
}
