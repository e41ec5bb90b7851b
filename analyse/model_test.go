package analyse

import (
	"math/rand"
	"slices"
	"strings"
	"testing"

	"parallax/api"
	"parallax/bounds"
	"parallax/parser"
	"parallax/quirks"
	"parallax/record"
	"parallax/witness"
)

const every = api.Profile(1<<api.Clauses - 1)

// of answers the profile of these clauses.
func of(clauses ...int) api.Profile { return quirks.Of(clauses...) }

// has: are all of these clauses in p?
func has(p api.Profile, clauses ...int) bool { return p&of(clauses...) == of(clauses...) }

// effective is chapter 5's row, written out, over all clauses of p.
func effective(p api.Profile, b api.Bounds) []int {
	lengthWins := has(p, api.CLWins) && !has(p, api.TEWins)
	takes := map[int]bool{
		api.NoVersion:   b.Old,
		api.TEBlanks:    has(p, api.ValueBytes),
		api.TEList:      b.Chunked,
		api.TEOld:       b.Old && (b.Chunked || has(p, api.TEIgnore) || lengthWins),
		api.TEWins:      b.Chunked,
		api.CLWins:      lengthWins,
		api.CLLast:      !has(p, api.CLFirst),
		api.ChunkHex:    b.Chunked,
		api.ChunkBlanks: b.Chunked,
		api.ChunkEnd:    b.Chunked,
	}
	var l []int
	for clause := range api.Clauses {
		if can, named := takes[clause]; has(p, clause) && (can || !named) {
			l = append(l, clause)
		}
	}
	return l
}

// hold holds all three calls against the chapter, of what may be.
func hold(t *testing.T, p api.Profile, b api.Bounds) Answer {
	t.Helper()
	want := effective(p, b)
	if got := Effective(p, b); !slices.Equal(got, want) {
		t.Fatalf("P16.1: Effective of %v within %+v: %v, want %v", quirks.List(p), b, got, want)
	}
	if got := Core(p, b); got != of(want...) {
		t.Fatalf("P16.1: Core of %v within %+v: %v, want %v", quirks.List(p), b, quirks.List(got), want)
	}
	a, errno := Decide(p, b)
	if errno != api.OK {
		t.Fatalf("P16.1: Decide of %v within %+v: error %d", quirks.List(p), b, errno)
	}
	if len(want) == 0 {
		if a.Kind != api.Safe || a.Clause != 0 || len(a.Stream) != 0 {
			t.Fatalf("P16.1: Decide of %v within %+v: %+v, want Safe", quirks.List(p), b, a)
		}
		return a
	}
	s, ok := witness.Of(want[0], p, b)
	if a.Kind != api.Divergent || a.Clause != want[0] || !ok || string(a.Stream) != string(s) {
		t.Fatalf("P16.1: Decide of %v within %+v: %+v, want Divergent by %d: %q", quirks.List(p), b, a, want[0], s)
	}
	return a
}

// refused holds all three calls against the chapter, of what may not be.
func refused(t *testing.T, p api.Profile, b api.Bounds) {
	t.Helper()
	a, errno := Decide(p, b)
	if errno != api.ErrForm || a.Kind != 0 || a.Clause != 0 || len(a.Stream) != 0 {
		t.Errorf("P16.1: Decide of %#x within %+v: %+v, %d", uint32(p), b, a, errno)
	}
	if l, core := Effective(p, b), Core(p, b); len(l) != 0 || core != 0 {
		t.Errorf("P16.1: Effective, Core of %#x within %+v: %v, %#x", uint32(p), b, l, uint32(core))
	}
}

// apart answers how many bytes of s the two readers take until they have other records, or one of them alone an error; -1 if they never do.
func apart(p api.Profile, b api.Bounds, s string) int {
	strict, lenient := parser.New(0, b), parser.New(p, b)
	for i := range len(s) {
		one, other := strict.Feed([]byte{s[i]}), lenient.Feed([]byte{s[i]})
		if !record.All(one, other) || (strict.Err() == api.OK) != (lenient.Err() == api.OK) {
			return i + 1
		}
	}
	return -1
}

// idle: the clauses that are Safe within b, all together. CLWins is not among them: it is Safe beside TEWins alone.
func idle(b api.Bounds) api.Profile {
	p := of(api.TEBlanks)
	if !b.Old {
		p |= of(api.NoVersion, api.TEOld)
	}
	if !b.Chunked {
		p |= of(api.TEList, api.TEWins, api.ChunkHex, api.ChunkBlanks, api.ChunkEnd, api.TEOld)
	}
	return p
}

// subsets answers each profile of clauses of p.
func subsets(p api.Profile) []api.Profile {
	l := []api.Profile{0}
	for n := (0 - p) & p; n != 0; n = (n - p) & p {
		l = append(l, n)
	}
	return l
}

// safeOnes: the profiles that are Safe within b, by what chapter 5 lets be idle.
func safeOnes(b api.Bounds) []api.Profile {
	var l []api.Profile
	for _, p := range subsets(idle(b)) {
		l = append(l, p)
		if has(p, api.TEWins) {
			l = append(l, p|of(api.CLWins))
		}
	}
	return l
}

// flags: b with and without Chunked, Old.
func flags(b api.Bounds) []api.Bounds {
	var l []api.Bounds
	for i := range 4 {
		b.Chunked, b.Old = i&1 != 0, i&2 != 0
		l = append(l, b)
	}
	return l
}

func least() api.Bounds {
	return api.Bounds{Line: api.LeastLine, Fields: api.MinFields, Head: api.LeastHead, Body: api.LeastBody, Wait: 1, Idle: 1}
}

func most() api.Bounds {
	return api.Bounds{Line: api.MostLine, Fields: api.MaxFields, Head: api.MostHead, Body: api.MostBody, Ext: api.MaxExt, Trailers: api.MaxFields, Wait: api.MaxWait, Idle: api.MaxIdle}
}

// allBounds: the least, the usual and the most, with and without Chunked, Old.
func allBounds() []api.Bounds {
	return slices.Concat(flags(least()), flags(bounds.Usual()), flags(most()))
}

// wrongBounds: each number one past its limits, and none at all.
func wrongBounds() []api.Bounds {
	l := []api.Bounds{{}, {Chunked: true, Old: true}}
	for _, n := range []struct {
		b  api.Bounds
		by int
	}{{least(), -1}, {most(), 1}} {
		for _, change := range []func(*api.Bounds){
			func(b *api.Bounds) { b.Line += n.by },
			func(b *api.Bounds) { b.Fields += n.by },
			func(b *api.Bounds) { b.Head += n.by },
			func(b *api.Bounds) { b.Body += n.by },
			func(b *api.Bounds) { b.Ext += n.by },
			func(b *api.Bounds) { b.Trailers += n.by },
			func(b *api.Bounds) { b.Wait += n.by },
			func(b *api.Bounds) { b.Idle += n.by },
		} {
			b := n.b
			change(&b)
			l = append(l, flags(b)...)
		}
	}
	return l
}

// someProfile answers one clause, a few, half of them, many or all; or of those alone that may take no effect.
func someProfile(r *rand.Rand) api.Profile {
	n := api.Profile(r.Uint32())
	m := api.Profile(r.Uint32())
	return []api.Profile{1 << r.Intn(api.Clauses), n & m & every, n & every, (n | m) & every, every &^ (1 << r.Intn(api.Clauses)), n & mayBeIdle}[r.Intn(6)]
}

// mayBeIdle: the clauses of which chapter 5 names a need, and CLFirst, which CLLast gives way to.
const mayBeIdle = 1<<api.NoVersion | 1<<api.TEBlanks | 1<<api.TEList | 1<<api.TEOld | 1<<api.TEWins | 1<<api.CLWins | 1<<api.CLFirst | 1<<api.CLLast | 1<<api.ChunkHex | 1<<api.ChunkBlanks | 1<<api.ChunkEnd

func pick(r *rand.Rand, l ...string) string { return l[r.Intn(len(l))] }

// someStream answers requests at random; most have what a clause that may take no effect is for.
func someStream(r *rand.Rand) string {
	s := ""
	for range 1 + r.Intn(3) {
		s += pick(r, "GET / HTTP/1.1", "GET / HTTP/1.1", "PUT /a HTTP/1.0", "GET /", "GET  /a", "GET / HTTP/1.0 ") + "\r\n"
		s += pick(r, "Host: a\r\n", "Host: a\r\n", "host:a \r\n", "")
		for range r.Intn(3) {
			s += pick(r,
				"Transfer-Encoding: chunked", "Transfer-Encoding: chunked", "Transfer-Encoding: \t, Chunked ,", "Transfer-Encoding: \vchunked", "Transfer-Encoding: chunked\f",
				"Transfer-Encoding: gzip, chunked", "Transfer-Encoding: chunked, chunked", "Transfer-Encoding: gzip", "Transfer-Encoding:",
				"Content-Length: 0", "Content-Length: 3", "Content-Length: 5", "Content-Length: 3, 3", "A: b") + "\r\n"
		}
		s += "\r\n"
		for range r.Intn(3) {
			s += pick(r, "1\r\na\r\n", "0x1\r\na\r\n", " 1\r\na\r\n", "1 ;b\r\na\r\n", "1\r\na", "3;c\r\n0\r\n\r\n", "0\r\n\r\n", "0X0\r\nA: b\r\n\r\n", "abc", "0\r\nA: b\r\n\r\n")
		}
	}
	if r.Intn(4) == 0 {
		i := r.Intn(len(s))
		s = s[:i] + pick(r, "", "\r", "\n", " ", "\v", "0", ",") + s[i+r.Intn(2):]
	}
	return s
}

// told: streams that a clause that may take no effect is for, each way that it is met.
func told() []string {
	var l []string
	for _, top := range []string{"GET / HTTP/1.1\r\nHost: a\r\n", "GET / HTTP/1.0\r\n", "GET /\r\n"} {
		for _, coding := range []string{"chunked", "gzip, chunked", "gzip", "\vchunked", "chunked\f", ",\t chunked ,", ""} {
			for _, length := range []string{"", "Content-Length: 0\r\n", "Content-Length: 3\r\n", "Content-Length: x\r\n", "Content-Length: 0\r\nContent-Length: 3\r\n"} {
				for _, body := range []string{"0\r\n\r\n", "0x1\r\na\r\n0\r\n\r\n", " 1 \r\na\r\n0\r\n\r\n", "1\r\na0\r\n\r\n", "1\r\na\r\n0\r\nA: \v\r\n\r\n"} {
					l = append(l, top+"Transfer-Encoding: "+coding+"\r\n"+length+"\r\n"+body)
				}
			}
		}
		l = append(l, top+"\r\n"+top+"Content-Length: 3\r\n\r\nabc"+top, strings.Repeat(top+"\r\n", 9))
	}
	return l
}
