package analyse

import (
	"math/bits"
	"math/rand"
	"slices"
	"testing"

	"parallax/api"
	"parallax/bounds"
	"parallax/quirks"
	"parallax/witness"
)

// P16.1: the example: no clauses are Safe, within whatever bounds.
func TestNoClauses(t *testing.T) {
	for _, b := range allBounds() {
		if a, errno := Decide(0, b); errno != api.OK || a.Kind != api.Safe || a.Clause != 0 || len(a.Stream) != 0 {
			t.Errorf("P16.1: Decide of none within %+v: %+v, %d", b, a, errno)
		}
		hold(t, 0, b)
	}
}

// P16.1, P40.3: each clause alone, within the usual bounds: all but TEBlanks are Divergent.
func TestAlone(t *testing.T) {
	b := bounds.Usual()
	for clause := range api.Clauses {
		want := []int{clause}
		if clause == api.TEBlanks {
			want = nil
		}
		if got := Effective(of(clause), b); !slices.Equal(got, want) {
			t.Errorf("P16.1: Effective of %s alone: %v", quirks.Name(clause), got)
		}
		if a := hold(t, of(clause), b); (a.Kind == api.Divergent) != (want != nil) || a.Kind == api.Divergent && a.Clause != clause {
			t.Errorf("P40.3: Decide of %s alone: %+v", quirks.Name(clause), a)
		}
	}
}

// P16.1: what can take effect, written out: of a clause that needs another one, or that gives way to one; it is asked of all of p, not of what is left of it.
func TestEffective(t *testing.T) {
	const both, none, chunked, old = 3, 0, 1, 2
	for i, x := range []struct {
		p    api.Profile
		has  int
		want []int
	}{
		{of(api.ChunkEnd, api.Empty, api.Fold), both, []int{api.Empty, api.Fold, api.ChunkEnd}},
		{of(api.ChunkEnd, api.Empty, api.Fold), none, []int{api.Empty, api.Fold}},
		{of(api.TEBlanks, api.ValueBytes), none, []int{api.ValueBytes, api.TEBlanks}},
		{of(api.TEBlanks, api.Empty), both, []int{api.Empty}},
		{of(api.NoVersion), old, []int{api.NoVersion}},
		{of(api.NoVersion), chunked, nil},
		{of(api.CLFirst, api.CLLast), none, []int{api.CLFirst}},
		{of(api.CLLast), none, []int{api.CLLast}},
		{of(api.TEWins, api.CLWins), both, []int{api.TEWins}},
		{of(api.TEWins, api.CLWins), old, nil}, // TEWins counts for CLWins, though it takes no effect itself
		{of(api.CLWins), none, []int{api.CLWins}},
		{of(api.TEOld), both, []int{api.TEOld}},
		{of(api.TEOld), old, nil},
		{of(api.TEOld), chunked, nil},
		{of(api.TEOld, api.TEIgnore), old, []int{api.TEIgnore, api.TEOld}},
		{of(api.TEOld, api.TEIgnore), none, []int{api.TEIgnore}},
		{of(api.TEOld, api.CLWins), old, []int{api.TEOld, api.CLWins}},
		{of(api.TEOld, api.CLWins, api.TEWins), old, nil},
		{of(api.TEOld, api.CLWins, api.TEWins), both, []int{api.TEOld, api.TEWins}},
		{of(api.TEList, api.ChunkHex, api.ChunkBlanks, api.ChunkEnd), chunked, []int{api.TEList, api.ChunkHex, api.ChunkBlanks, api.ChunkEnd}},
		{of(api.TEList, api.ChunkHex, api.ChunkBlanks, api.ChunkEnd), old, nil},
		{every, both, slices.DeleteFunc(quirks.List(every), func(c int) bool { return c == api.CLWins || c == api.CLLast })},
	} {
		for _, b := range []api.Bounds{least(), bounds.Usual(), most()} {
			b.Chunked, b.Old = x.has&chunked != 0, x.has&old != 0
			if got := Effective(x.p, b); !slices.Equal(got, x.want) {
				t.Errorf("P16.1: %d: Effective: %v, want %v", i, got, x.want)
			}
			if got := Core(x.p, b); got != of(x.want...) {
				t.Errorf("P16.1: %d: Core: %v, want %v", i, quirks.List(got), x.want)
			}
			hold(t, x.p, b)
		}
	}
}

// P16.1: of several the least one that can take effect is told, whatever ones that can't stand below it.
func TestLeast(t *testing.T) {
	usual := bounds.Usual()
	bare := usual
	bare.Chunked, bare.Old = false, false
	for i, x := range []struct {
		p    api.Profile
		b    api.Bounds
		want int
	}{
		{every, usual, api.Empty},
		{every &^ of(api.Empty), usual, api.BareLF},
		{of(api.ChunkEnd, api.ChunkHex), usual, api.ChunkHex},
		{of(api.TEBlanks, api.TEList), usual, api.TEList},
		{of(api.NoVersion, api.TEBlanks, api.TEList, api.TEOld, api.TEWins, api.CLWins, api.CLPlus, api.ChunkEnd), bare, api.CLPlus},
		{of(api.NoVersion, api.TEOld, api.CLWins, api.CLFirst, api.CLLast), bare, api.CLWins},
		{of(api.CLLast, api.CLFirst), bare, api.CLFirst},
	} {
		if a := hold(t, x.p, x.b); a.Kind != api.Divergent || a.Clause != x.want {
			t.Errorf("P16.1: %d: %+v, want %d", i, a, x.want)
		}
	}
}

// P16.1: each two clauses, all but each two, within all kinds of bounds.
func TestPairs(t *testing.T) {
	for _, b := range allBounds() {
		for one := range api.Clauses {
			for other := range one + 1 {
				hold(t, of(one, other), b)
				hold(t, every&^of(one, other), b)
			}
		}
	}
}

// P16.1: profiles and bounds at random.
func TestAtRandom(t *testing.T) {
	r := rand.New(rand.NewSource(161))
	bs := allBounds()
	for range 5000 {
		hold(t, someProfile(r), bs[r.Intn(len(bs))])
	}
}

// P16.1: profiles that may not be, whatever clauses they have, and bounds one past each limit: ErrForm, and nothing beside it; at the limits they are taken.
func TestMayNotBe(t *testing.T) {
	for _, p := range []api.Profile{1 << 30, 1 << 31, 3 << 30, 1<<30 | 1, 1<<31 | every, 1<<30 | 1<<api.TEBlanks, ^api.Profile(0)} {
		for _, b := range allBounds() {
			refused(t, p, b)
		}
		refused(t, p, api.Bounds{})
	}
	for _, b := range wrongBounds() {
		for clause := range api.Clauses {
			refused(t, of(clause), b)
		}
		refused(t, 0, b)
		refused(t, every, b)
	}
	for _, b := range allBounds() {
		hold(t, every, b)
		hold(t, of(api.CLPlus), b)
	}
}

// P16.1, P16.2: just these profiles are Safe: so many within each kind of bounds; each of them with any other clause isn't.
func TestSafeOnes(t *testing.T) {
	want := []int{384, 8, 192, 2} // without Chunked and Old, with Chunked, with Old, with both
	for i, b := range flags(bounds.Usual()) {
		l := safeOnes(b)
		if len(l) != want[i] {
			t.Fatalf("P16.1: %d profiles written out as Safe, want %d", len(l), want[i])
		}
		for _, p := range l {
			if a := hold(t, p, b); a.Kind != api.Safe {
				t.Errorf("P16.1: %v within %+v: %+v", quirks.List(p), b, a)
			}
			for clause := range api.Clauses {
				if n := p | of(clause); !slices.Contains(l, n) {
					if a := hold(t, n, b); a.Kind != api.Divergent {
						t.Errorf("P16.1: %v within %+v: %+v", quirks.List(n), b, a)
					}
				}
			}
		}
		n := 0
		for _, p := range subsets(mayBeIdle) {
			if a, errno := Decide(p, b); errno == api.OK && a.Kind == api.Safe {
				n++
			}
		}
		if n != want[i] {
			t.Errorf("P16.1: %d profiles are Safe within %+v, want %d", n, b, want[i])
		}
	}
}

// P16.1, P16.2: of what is Safe both readers have the same records, and errors at the same byte: on streams that its clauses are for.
func TestSure(t *testing.T) {
	streams := told()
	for _, b := range flags(bounds.Usual()) {
		ones := safeOnes(b)
		for i, s := range streams {
			// All of them on some streams, some of them on all: the one of the most clauses is among these.
			step := 1
			if i%7 != 0 {
				step = 1 + len(ones)/16
			}
			for k := len(ones) - 1; k >= 0; k -= step {
				if n := apart(ones[k], b, s); n >= 0 {
					t.Fatalf("P16.1: %v within %+v is Safe, but reads apart %q", quirks.List(ones[k]), b, s[:n])
				}
			}
		}
	}
}

// P16.1, P16.2: the same at random, within all kinds of bounds.
func TestSureAtRandom(t *testing.T) {
	r := rand.New(rand.NewSource(162))
	bs := allBounds()
	parted := 0
	for range 20000 {
		b, s := bs[r.Intn(len(bs))], someStream(r)
		ones := safeOnes(b)
		p := ones[r.Intn(len(ones))]
		if n := apart(p, b, s); n >= 0 {
			t.Fatalf("P16.1: %v within %+v is Safe, but reads apart %q", quirks.List(p), b, s[:n])
		}
		if apart(mayBeIdle|of(api.ValueBytes), b, s) >= 0 {
			parted++
		}
	}
	// The streams are such as part others.
	if parted < 2500 {
		t.Errorf("P16.2: at random: %d streams part what is Divergent", parted)
	}
}

// P16.2, P40.3: of what is Divergent the stream parts at its last byte, and both readers are at one up to there.
func TestShows(t *testing.T) {
	r := rand.New(rand.NewSource(163))
	bs := allBounds()
	divergent := 0
	for range 5000 {
		p, b := someProfile(r), bs[r.Intn(len(bs))]
		a := hold(t, p, b)
		if a.Kind == api.Safe {
			continue
		}
		divergent++
		s := a.Stream
		if len(s) == 0 || len(s) > 256 || !witness.Parts(s, p, b) || witness.Parts(s[:len(s)-1], p, b) || apart(p, b, string(s)) != len(s) {
			t.Fatalf("P16.2: %v within %+v: %q doesn't part at its last byte", quirks.List(p), b, s)
		}
		if !has(p, a.Clause) || bits.TrailingZeros32(uint32(Core(p, b))) != a.Clause {
			t.Fatalf("P16.1: %v within %+v: clause %d", quirks.List(p), b, a.Clause)
		}
	}
	if divergent < 3000 {
		t.Errorf("P16.2: at random: %d Divergent", divergent)
	}
}

// P16.1: the same is answered again; each answer is new memory.
func TestNewMemory(t *testing.T) {
	b := bounds.Usual()
	for clause := range api.Clauses {
		p := of(clause, api.ChunkEnd, api.CLPlus)
		first, list := hold(t, p, b), Effective(p, b)
		want, rising := string(first.Stream), slices.Clone(list)
		for i := range first.Stream[:cap(first.Stream)] {
			first.Stream[:cap(first.Stream)][i] = '!'
		}
		for i := range list[:cap(list)] {
			list[:cap(list)][i] = -1
		}
		if second := hold(t, p, b); string(second.Stream) != want || !slices.Equal(Effective(p, b), rising) || Core(p, b) != of(rising...) {
			t.Errorf("P16.1: %v again: %+v, want %q", quirks.List(p), second, want)
		}
	}
}
