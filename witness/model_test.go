package witness

import (
	"math/rand"
	"testing"

	"parallax/api"
	"parallax/bounds"
	"parallax/parser"
	"parallax/quirks"
	"parallax/record"
)

const every = api.Profile(1<<api.Clauses - 1)

// of answers the profile of these clauses.
func of(clauses ...int) api.Profile { return quirks.Of(clauses...) }

// hold holds Of against the chapter, and answers what it says.
func hold(t *testing.T, clause int, p api.Profile, b api.Bounds) bool {
	t.Helper()
	s, ok := Of(clause, p, b)
	if ok != (quirks.Has(p, clause) && quirks.Needs(clause, p, b)) || !ok && s != nil {
		t.Fatalf("P15.1: Of %s of %v within %+v: %q, %v", quirks.Name(clause), quirks.List(p), b, s, ok)
	}
	if !ok {
		return false
	}
	if len(s) == 0 || len(s) > 256 {
		t.Fatalf("P15.1: Of %s of %v: %d bytes", quirks.Name(clause), quirks.List(p), len(s))
	}
	// A stream that is parted stays so: what isn't behind all but the last byte isn't behind fewer.
	if !Parts(s, p, b) || Parts(s[:len(s)-1], p, b) || !Parts([]byte(string(s)+"x"), p, b) {
		t.Fatalf("P15.2: Of %s of %v within %+v: %q: %v, ahead of its last byte %v", quirks.Name(clause), quirks.List(p), b, s, Parts(s, p, b), Parts(s[:len(s)-1], p, b))
	}
	return true
}

// apart is chapter 14's Parted, written out: each beginning of s is read anew by both.
func apart(s []byte, p api.Profile, b api.Bounds) bool {
	if !quirks.Right(p) || !bounds.Right(b) {
		return false
	}
	for k := range len(s) {
		strict, code, _ := parser.Read(0, b, s[:k+1])
		lenient, other, _ := parser.Read(p, b, s[:k+1])
		switch {
		case code != api.OK:
			return other == api.OK
		case other != api.OK || !record.All(strict, lenient):
			return true
		}
	}
	return false
}

// somePairs answers the clause alone, beside each other one, all of them, and all but each other one.
func somePairs(clause int) []api.Profile {
	l := []api.Profile{of(clause), every}
	for other := range api.Clauses {
		l = append(l, of(clause, other), every&^of(other)|of(clause), every&^of(api.TEWins, api.CLFirst, other)|of(clause))
	}
	return l
}

func least() api.Bounds {
	return api.Bounds{Line: api.LeastLine, Fields: api.MinFields, Head: api.LeastHead, Body: api.LeastBody, Wait: 1, Idle: 1, Chunked: true, Old: true}
}

func most() api.Bounds {
	return api.Bounds{Line: api.MostLine, Fields: api.MaxFields, Head: api.MostHead, Body: api.MostBody, Ext: api.MaxExt, Trailers: api.MaxFields, Wait: api.MaxWait, Idle: api.MaxIdle, Chunked: true, Old: true}
}

// allBounds: the least, the usual and the most, with and without Chunked, Old.
func allBounds() []api.Bounds {
	var l []api.Bounds
	for _, b := range []api.Bounds{least(), bounds.Usual(), most()} {
		for i := range 4 {
			b.Chunked, b.Old = i&1 != 0, i&2 != 0
			l = append(l, b)
		}
	}
	return l
}

// wrongBounds: each number one past its limits, and none at all.
func wrongBounds() []api.Bounds {
	l := []api.Bounds{{}, {Chunked: true, Old: true}}
	for _, n := range []struct {
		b  api.Bounds
		by int
	}{{least(), -1}, {most(), 1}} {
		for _, change := range []func(*api.Bounds){
			func(b *api.Bounds) { b.Line += n.by },
			func(b *api.Bounds) { b.Fields += n.by },
			func(b *api.Bounds) { b.Head += n.by },
			func(b *api.Bounds) { b.Body += n.by },
			func(b *api.Bounds) { b.Ext += n.by },
			func(b *api.Bounds) { b.Trailers += n.by },
			func(b *api.Bounds) { b.Wait += n.by },
			func(b *api.Bounds) { b.Idle += n.by },
		} {
			b := n.b
			change(&b)
			l = append(l, b)
		}
	}
	return l
}

func someBounds(r *rand.Rand) api.Bounds {
	b := []api.Bounds{least(), bounds.Usual(), most()}[r.Intn(3)]
	if r.Intn(2) == 0 {
		b.Line, b.Fields, b.Head = api.LeastLine+r.Intn(9), api.MinFields+r.Intn(3), api.LeastHead+r.Intn(9)
		b.Body, b.Ext, b.Trailers = api.LeastBody+r.Intn(9), r.Intn(3), r.Intn(3)
	}
	b.Chunked, b.Old = r.Intn(4) > 0, r.Intn(4) > 0
	return b
}

// someProfile answers one clause, a few, half of them, many or all.
func someProfile(r *rand.Rand) api.Profile {
	return []api.Profile{1 << r.Intn(api.Clauses), api.Profile(r.Uint32()&r.Uint32()) & every, api.Profile(r.Uint32()) & every, api.Profile(r.Uint32()|r.Uint32()) & every, every &^ (1 << r.Intn(api.Clauses)), every}[r.Intn(6)]
}

// someStream answers requests that are right, or what a clause takes behind them, with bytes put in, taken out or changed.
func someStream(r *rand.Rand) []byte {
	right := []string{
		"GET / HTTP/1.1\r\nHost: a\r\n\r\n",
		"PUT /a HTTP/1.0\r\nContent-Length: 3\r\n\r\nabc",
		"PUT / HTTP/1.1\r\nHost: a\r\nTransfer-Encoding: chunked\r\n\r\n2;b\r\n\r\n\r\n0\r\nA: b\r\n\r\n",
	}
	s := ""
	for range r.Intn(3) {
		s += right[r.Intn(len(right))]
	}
	if r.Intn(2) == 0 {
		w, _ := Of(r.Intn(api.Clauses), every&^of(api.TEWins, api.CLFirst), bounds.Usual())
		s += string(w) + right[r.Intn(len(right))]
	}
	for range r.Intn(3) {
		i := r.Intn(len(s) + 1)
		j := min(len(s), i+r.Intn(2))
		s = s[:i] + []string{"", "\r", "\n", "\r\n", " ", ":", "0", "a", "\x01", ","}[r.Intn(10)] + s[j:]
	}
	return []byte(s)
}
