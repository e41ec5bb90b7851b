package witness

import (
	"bytes"
	"math"
	"math/rand"
	"slices"
	"strings"
	"testing"

	"parallax/api"
	"parallax/bounds"
	"parallax/filter"
	"parallax/quirks"
)

// P15.1: the example, whatever else there is.
func TestExample(t *testing.T) {
	for _, p := range somePairs(api.Empty) {
		for _, b := range allBounds() {
			if s, ok := Of(api.Empty, p, b); !ok || string(s) != "\r\n" {
				t.Fatalf("P15.1: Of(Empty) of %v within %+v: %q, %v", quirks.List(p), b, s, ok)
			}
		}
	}
}

// P15.1: each clause alone, within the usual bounds: but for TEBlanks, which needs ValueBytes.
func TestAlone(t *testing.T) {
	for clause := range api.Clauses {
		s, ok := Of(clause, of(clause), bounds.Usual())
		if ok != (clause != api.TEBlanks) {
			t.Errorf("P15.1: Of %s alone: %q, %v", quirks.Name(clause), s, ok)
		}
		hold(t, clause, of(clause), bounds.Usual())
	}
}

// P15.1: what a clause needs beside it, written out from chapter 5.
func TestNeeds(t *testing.T) {
	const both, none, chunked, old = 3, 0, 1, 2
	for i, x := range []struct {
		clause int
		beside api.Profile
		has    int
		want   bool
	}{
		{api.NoVersion, 0, old, true},
		{api.NoVersion, 0, chunked, false},
		{api.NoVersion, every, chunked, false},
		{api.TEBlanks, 0, both, false},
		{api.TEBlanks, every &^ of(api.ValueBytes), both, false},
		{api.TEBlanks, of(api.ValueBytes), none, true},
		{api.TEBlanks, of(api.ValueBytes, api.TEList), both, true},
		{api.TEList, 0, chunked, true},
		{api.TEList, every, old, false},
		{api.TEWins, of(api.CLWins), chunked, true},
		{api.TEWins, every, old, false},
		{api.TEOld, 0, both, true},
		{api.TEOld, every, chunked, false},
		{api.TEOld, 0, old, false},
		{api.TEOld, of(api.TEIgnore), old, true},
		{api.TEOld, of(api.TEIgnore, api.TEList, api.TEWins), old, true},
		{api.TEOld, of(api.TEIgnore), none, false},
		{api.TEOld, of(api.CLWins), old, true},
		{api.TEOld, of(api.CLWins, api.TEWins), old, false},
		{api.TEOld, of(api.CLWins, api.TEWins), both, true},
		{api.TEOld, every &^ of(api.TEIgnore, api.TEWins), old, true},
		{api.TEOld, every &^ of(api.TEIgnore), old, false},
		{api.CLWins, 0, none, true},
		{api.CLWins, of(api.TEWins), both, false},
		{api.CLWins, every &^ of(api.TEWins), both, true},
		{api.CLFirst, of(api.CLLast), both, true},
		{api.CLLast, of(api.CLFirst), both, false},
		{api.CLLast, every &^ of(api.CLFirst), both, true},
		{api.ChunkHex, 0, chunked, true},
		{api.ChunkHex, every, old, false},
		{api.ChunkBlanks, 0, chunked, true},
		{api.ChunkBlanks, every, old, false},
		{api.ChunkEnd, 0, chunked, true},
		{api.ChunkEnd, every, old, false},
		{api.TEIgnore, 0, none, true},
		{api.ManyHosts, every, none, true},
	} {
		for _, b := range []api.Bounds{least(), bounds.Usual(), most()} {
			b.Chunked, b.Old = x.has&chunked != 0, x.has&old != 0
			s, ok := Of(x.clause, x.beside|of(x.clause), b)
			if ok != x.want || ok != (len(s) > 0) {
				t.Errorf("P15.1: %d: Of %s beside %v within %+v: %q, %v", i, quirks.Name(x.clause), quirks.List(x.beside), b, s, ok)
			}
			hold(t, x.clause, x.beside|of(x.clause), b)
		}
	}
}

// P15.1: a clause that isn't in p, whatever else is, and could part.
func TestNotIn(t *testing.T) {
	for clause := range api.Clauses {
		for _, p := range append(somePairs(clause), 0) {
			for _, b := range allBounds() {
				if s, ok := Of(clause, p&^of(clause), b); ok || s != nil {
					t.Fatalf("P15.1: Of %s, which isn't in %v: %q, %v", quirks.Name(clause), quirks.List(p), s, ok)
				}
			}
		}
	}
}

// P15.1: what is no clause.
func TestNoClause(t *testing.T) {
	for _, clause := range []int{-1, -2, -30, -32, -64, api.Clauses, 31, 32, 33, 62, 64, 99, math.MinInt, math.MinInt32, math.MaxInt32, math.MaxInt} {
		for _, p := range []api.Profile{0, 1, every, 1 << 30, 1 << 31, ^api.Profile(0)} {
			if s, ok := Of(clause, p, bounds.Usual()); ok || s != nil {
				t.Errorf("P15.1: Of %d, which is no clause: %q, %v", clause, s, ok)
			}
		}
	}
}

// P15.1: profiles that may not be, and bounds: one past each limit; at the limits there is a stream.
func TestMayNotBe(t *testing.T) {
	stream := []byte("GET / HTTP/1.1\n")
	for clause := range api.Clauses {
		for _, beyond := range []api.Profile{1 << 30, 1 << 31, 3 << 30} {
			for _, p := range []api.Profile{of(clause), every} {
				if s, ok := Of(clause, p|beyond, bounds.Usual()); ok || s != nil {
					t.Errorf("P15.1: Of %s of %#x: %q, %v", quirks.Name(clause), uint32(p|beyond), s, ok)
				}
			}
		}
		for i, b := range wrongBounds() {
			if s, ok := Of(clause, every, b); ok || s != nil {
				t.Errorf("P15.1: Of %s within wrong bounds %d, %+v: %q, %v", quirks.Name(clause), i, b, s, ok)
			}
		}
	}
	for _, p := range []api.Profile{1 << 30, of(api.BareLF) | 1<<30, every | 1<<31, ^api.Profile(0)} {
		if Parts(stream, p, bounds.Usual()) || Parts(nil, p, least()) {
			t.Errorf("P15.1: Parts of %#x", uint32(p))
		}
	}
	for i, b := range wrongBounds() {
		if Parts(stream, of(api.BareLF), b) || Parts(stream, every, b) || Parts(nil, every, b) {
			t.Errorf("P15.1: Parts within wrong bounds %d: %+v", i, b)
		}
	}
	for _, b := range allBounds() {
		if !Parts(stream, of(api.BareLF), b) {
			t.Errorf("P15.1: Parts within %+v", b)
		}
	}
}

// P15.1, P15.2: every clause beside each other one, and beside all but that one, and within all kinds of bounds, has a stream where it can take effect, and that stream parts at its last byte.
func TestShows(t *testing.T) {
	for clause := range api.Clauses {
		for _, p := range somePairs(clause) {
			for _, b := range allBounds() {
				hold(t, clause, p, b)
			}
		}
	}
}

// P15.1, P15.2: profiles and bounds at random.
func TestShowsAtRandom(t *testing.T) {
	r := rand.New(rand.NewSource(151))
	shown := 0
	for range 3000 {
		p, b := someProfile(r), someBounds(r)
		for clause := range api.Clauses {
			if hold(t, clause, p, b) {
				shown++
			}
		}
	}
	if shown < 20000 {
		t.Errorf("P15.1: at random: %d streams", shown)
	}
}

// P15.2: a filter that is fed a stream of Of byte by byte passes it up to its last byte, tells no record, and blocks there, parted; that of no clauses blocks there, too, not parted.
func TestFilterOfIt(t *testing.T) {
	for clause := range api.Clauses {
		p := of(clause, api.ValueBytes)
		s, ok := Of(clause, p, bounds.Usual())
		if !ok {
			t.Fatalf("P15.2: Of %s: none", quirks.Name(clause))
		}
		f, strict := filter.New(p, bounds.Usual()), filter.New(0, bounds.Usual())
		for i, c := range s {
			last := i == len(s)-1
			n := len(f.Feed([]byte{c})) + len(strict.Feed([]byte{c}))
			if n != 0 || f.Parted() != last || (f.Verdict() == api.Block) != last || (strict.Verdict() == api.Block) != last || strict.Parted() {
				t.Errorf("P15.2: %s: behind %q of %q: %d, %d", quirks.Name(clause), s[:i+1], s, f.Verdict(), strict.Verdict())
			}
		}
	}
}

// P15.1: the same is answered again; each answer is new memory.
func TestNewMemory(t *testing.T) {
	for clause := range api.Clauses {
		first, _ := Of(clause, every&^of(api.TEWins, api.CLFirst)|of(clause), bounds.Usual())
		want := string(first)
		for i := range first[:cap(first)] {
			first[:cap(first)][i] = '!'
		}
		second, ok := Of(clause, every&^of(api.TEWins, api.CLFirst)|of(clause), bounds.Usual())
		if !ok || string(second) != want {
			t.Errorf("P15.1: Of %s again: %q, want %q", quirks.Name(clause), second, want)
		}
	}
}

// P15.1: Parts of streams whose readings are known.
func TestParts(t *testing.T) {
	const get = "GET / HTTP/1.1\r\nHost: a\r\n"
	narrow := bounds.Usual()
	narrow.Chunked = false
	for i, x := range []struct {
		s    string
		p    api.Profile
		b    api.Bounds
		want bool
	}{
		// nothing, and what both read alike
		{"", every, bounds.Usual(), false},
		{"G", every, bounds.Usual(), false},
		{get + "\r\n", every, bounds.Usual(), false},
		{strings.Repeat(get+"\r\n", 50), every, bounds.Usual(), false},
		{get + "Transfer-Encoding: chunked\r\n\r\n1\r\n\n\r\n0\r\n\r\n" + get, every, bounds.Usual(), false},
		// the strict one alone refuses it
		{"\r\n", of(api.Empty), bounds.Usual(), true},
		{"\r", of(api.Empty), bounds.Usual(), false},
		{get + "\r\n\r\n", of(api.Empty), bounds.Usual(), true},
		{get + "\r\n\r", every, bounds.Usual(), false},
		{get + "\n", of(api.BareLF), bounds.Usual(), true},
		{get + "Transfer-Encoding: x\r\n\r\n", of(api.TEIgnore), narrow, true},
		{get + "Content-Length: +0\r\n\r\n", of(api.CLPlus), bounds.Usual(), true},
		// and stays so, whatever comes then
		{"\r\n" + get + "\r\n", of(api.Empty), bounds.Usual(), true},
		{"\r\n\x00", of(api.Empty), bounds.Usual(), true},
		{"GET / HTTP/1.1\nx\n\n\n", of(api.BareLF), bounds.Usual(), true},
		// both refuse it
		{"\r\n", 0, bounds.Usual(), false},
		{"\r\n", every &^ of(api.Empty), bounds.Usual(), false},
		{"\n", of(api.Empty), bounds.Usual(), false},
		{"\n", of(api.BareLF), bounds.Usual(), false},
		{"\n", of(api.Empty, api.BareLF), bounds.Usual(), true},
		{"GET / HTTP/2.0\r\n", every, bounds.Usual(), false},
		{get + "Transfer-Encoding: chunked\r\nContent-Length: 0\r\n\r\n", of(api.TEWins), narrow, false},
		{get + "Transfer-Encoding: chunked\r\nContent-Length: 0\r\n\r\n", of(api.TEWins), bounds.Usual(), true},
		{strings.Repeat("a", 1024), every, bounds.Usual(), false},
		{strings.Repeat("a", 1025), every, bounds.Usual(), false},
		// and is not looked at any more
		{"GET / HTTP/2.0\r\n\r\n", every, bounds.Usual(), false},
		{"GET / HTTP/2.0\r\n" + get + "\n", every, bounds.Usual(), false},
	} {
		if got := Parts([]byte(x.s), x.p, x.b); got != x.want {
			t.Errorf("P15.1: %d: Parts(%q) of %v: %v", i, x.s, quirks.List(x.p), got)
		}
	}
	for clause := range api.Clauses {
		if s, _ := Of(clause, every&^of(api.TEWins, api.CLFirst)|of(clause), bounds.Usual()); Parts(s, 0, bounds.Usual()) {
			t.Errorf("P15.1: Parts of no clauses: %q", s)
		}
	}
}

// P15.1: Parts is what two readers of package parser make of each beginning of a stream; at random.
func TestPartsAtRandom(t *testing.T) {
	r := rand.New(rand.NewSource(152))
	parted, not := 0, 0
	for range 3000 {
		p, b, s := someProfile(r), someBounds(r), someStream(r)
		got := Parts(s, p, b)
		if want := apart(s, p, b); got != want {
			t.Fatalf("P15.1: Parts(%q) of %v within %+v: %v", s, quirks.List(p), b, got)
		}
		if got {
			parted++
		} else {
			not++
		}
	}
	if parted < 500 || not < 500 {
		t.Errorf("P15.1: at random: %d parted, %d not", parted, not)
	}
}

// P15.1: what Parts is handed stays as it was, spare room and all; asked again it says the same.
func TestHandedIn(t *testing.T) {
	r := rand.New(rand.NewSource(153))
	for range 500 {
		p, b := someProfile(r), someBounds(r)
		whole := append(someStream(r), "spare room"...)
		s := whole[:len(whole)-len("spare room")]
		ahead := bytes.Clone(whole)
		first := Parts(s, p, b)
		if second := Parts(slices.Clone(s), p, b); first != second || Parts(s, p, b) != first || !bytes.Equal(whole, ahead) {
			t.Fatalf("P15.1: Parts(%q) of %v: %v, then %v; behind it %q", ahead, quirks.List(p), first, second, whole)
		}
	}
}
