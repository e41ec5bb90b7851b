package quirks

import (
	"math"
	"math/bits"
	"math/rand"
	"slices"
	"strings"
	"testing"

	"parallax/api"
	"parallax/bounds"
)

// spelt: the clauses' names in order, written out from the chapter and package api.
const spelt = "empty barelf barecr blanks minor anycase noversion spaces controls colonspace " +
	"namebytes nocolon noname fold valuebytes nohost manyhosts teblanks telist teignore " +
	"teold tewins clwins clplus clcomma clfirst cllast chunkhex chunkblanks chunkend"

// others: numbers that are no clauses.
var others = []int{
	-1, -2, -29, -30, -31, -32, -64, 30, 31, 32, 33, 61, 62, 63, 64, 65, 94, 128, 256, 1000,
	math.MinInt8, math.MaxInt8, math.MinInt32, math.MaxInt32, math.MaxUint32, 1 << 32, 1<<32 + 1,
	math.MinInt, math.MinInt + 1, math.MaxInt - 1, math.MaxInt,
}

// number answers the clause of that name, by spelt alone.
func number(name string) int { return slices.Index(strings.Fields(spelt), name) }

// in: is the clause of that name in p?
func in(p api.Profile, name string) bool { return uint64(p)/(1<<number(name))%2 == 1 }

// someBounds: each way to have Chunked and Old, usual and boundless.
func someBounds() []api.Bounds {
	var l []api.Bounds
	for _, b := range []api.Bounds{bounds.Usual(), {}, {Line: -1, Fields: math.MaxInt, Idle: math.MinInt}} {
		for i := range 4 {
			b.Chunked, b.Old = i&1 != 0, i&2 != 0
			l = append(l, b)
		}
	}
	return l
}

// P5.1: the names go by package api's clauses, each in its place.
func TestClausesOfAPI(t *testing.T) {
	l := []int{
		api.Empty, api.BareLF, api.BareCR, api.Blanks, api.Minor, api.AnyCase, api.NoVersion, api.Spaces, api.Controls, api.ColonSpace,
		api.NameBytes, api.NoColon, api.NoName, api.Fold, api.ValueBytes, api.NoHost, api.ManyHosts, api.TEBlanks, api.TEList, api.TEIgnore,
		api.TEOld, api.TEWins, api.CLWins, api.CLPlus, api.CLComma, api.CLFirst, api.CLLast, api.ChunkHex, api.ChunkBlanks, api.ChunkEnd,
	}
	if len(l) != 30 || api.Clauses != 30 || len(strings.Fields(spelt)) != 30 {
		t.Fatalf("P5.1: %d clauses, %d of package api, %d names", len(l), api.Clauses, len(strings.Fields(spelt)))
	}
	for i, clause := range l {
		if clause != i {
			t.Errorf("P5.1: %s: %d of package api, want %d", strings.Fields(spelt)[i], clause, i)
		}
	}
}

// P5.1: Right of each bit, of all clauses' bits, of those above them.
func TestRight(t *testing.T) {
	cases := map[api.Profile]bool{
		0: true, 1<<30 - 1: true, 0x15555555: true, 0x2aaaaaaa: true,
		1<<30 + 1: false, 1<<31 + 1: false, 3 << 30: false, math.MaxUint32: false, 1<<32 - 1 - 1<<30: false, 1<<32 - 1 - 1<<31: false,
	}
	for i := range 32 {
		cases[api.Profile(1)<<i] = i < 30
	}
	for p, want := range cases {
		if got := Right(p); got != want {
			t.Errorf("P5.1: Right(%#x) = %v, want %v", uint32(p), got, want)
		}
	}
}

// P5.1: Has asks for just the clause's bit.
func TestHas(t *testing.T) {
	r := rand.New(rand.NewSource(51))
	ps := []api.Profile{0, 1, 1 << 29, 1<<30 - 1, 1 << 30, 1 << 31, math.MaxUint32}
	for range 500 {
		ps = append(ps, api.Profile(r.Uint32()))
	}
	for _, p := range ps {
		for clause := range 30 {
			if got, want := Has(p, clause), uint64(p)/(1<<clause)%2 == 1; got != want {
				t.Fatalf("P5.1: Has(%#x, %d) = %v, want %v", uint32(p), clause, got, want)
			}
		}
		for _, clause := range others {
			if Has(p, clause) {
				t.Fatalf("P5.1: Has(%#x, %d)", uint32(p), clause)
			}
		}
	}
}

// P5.1: Of no clauses, one, several, the same again, and such as are none.
func TestOf(t *testing.T) {
	if Of() != 0 || Of(nil...) != 0 || Of([]int{}...) != 0 {
		t.Error("P5.1: Of no clauses")
	}
	all := []int{}
	for clause := range 30 {
		all = append(all, clause)
		if got, want := Of(clause), api.Profile(math.Pow(2, float64(clause))); got != want {
			t.Errorf("P5.1: Of(%d) = %#x, want %#x", clause, uint32(got), uint32(want))
		}
		if Of(clause, clause) != Of(clause) || Of(clause, clause, clause) != Of(clause) {
			t.Errorf("P5.1: Of %d several times", clause)
		}
	}
	if Of(all...) != 0x3fffffff {
		t.Errorf("P5.1: Of all: %#x", uint32(Of(all...)))
	}
	if Of(29, 0, 14) != 1<<29|1|1<<14 || Of(14, 29, 0) != Of(0, 14, 29) {
		t.Error("P5.1: Of in another order")
	}
	for _, clause := range others {
		if Of(clause) != 0 || Of(clause, 3, clause) != 8 || Of(3, clause) != 8 {
			t.Errorf("P5.1: Of %d: %#x", clause, uint32(Of(clause)))
		}
	}
	if Of(others...) != 0 {
		t.Errorf("P5.1: Of no clauses at all: %#x", uint32(Of(others...)))
	}
}

// P5.1: List and Of are each other's reverse; List rises, and is of clauses alone.
func TestList(t *testing.T) {
	cases := []struct {
		p    api.Profile
		want []int
	}{
		{0, nil},
		{1, []int{0}},
		{1 << 29, []int{29}},
		{1 << 30, nil},
		{3 << 30, nil},
		{1<<31 | 1<<30 | 2, []int{1}},
		{1<<29 | 1<<7 | 1, []int{0, 7, 29}},
	}
	for _, c := range cases {
		if got := List(c.p); !slices.Equal(got, c.want) {
			t.Errorf("P5.1: List(%#x) = %v, want %v", uint32(c.p), got, c.want)
		}
	}
	r := rand.New(rand.NewSource(52))
	for range 5000 {
		p := api.Profile(r.Uint32() & r.Uint32())
		l := List(p)
		if len(l) != bits.OnesCount32(uint32(p)&0x3fffffff) || Of(l...) != p&0x3fffffff {
			t.Fatalf("P5.1: List(%#x) = %v", uint32(p), l)
		}
		for i, clause := range l {
			if clause < 0 || clause > 29 || i > 0 && l[i-1] >= clause {
				t.Fatalf("P5.1: List(%#x) = %v", uint32(p), l)
			}
		}
	}
}

// P5.1: each List is a new one.
func TestListIsNew(t *testing.T) {
	a, b := List(7), List(7)
	a[0], a[1], a[2] = 9, 9, 9
	if !slices.Equal(b, []int{0, 1, 2}) || !slices.Equal(List(7), []int{0, 1, 2}) {
		t.Error("P5.1: a List changed with another one")
	}
	if _ = append(b[:1], 5); !slices.Equal(List(7), []int{0, 1, 2}) {
		t.Error("P5.1: List changed")
	}
}

// P5.1: names both ways.
func TestNames(t *testing.T) {
	for clause, name := range strings.Fields(spelt) {
		if got := Name(clause); got != name {
			t.Errorf("P5.1: Name(%d) = %q, want %q", clause, got, name)
		}
		if got, ok := Find(name); got != clause || !ok {
			t.Errorf("P5.1: Find(%q) = %d, %v, want %d", name, got, ok, clause)
		}
	}
	for _, clause := range others {
		if got := Name(clause); got != "" {
			t.Errorf("P5.1: Name(%d) = %q", clause, got)
		}
	}
}

// P5.1: Find takes a name as it stands: no other case, no part of one, nothing around it.
func TestFindNone(t *testing.T) {
	wrong := []string{"", " ", "x", "\x00", "0", "clauses", spelt, "té", "\xff", "barelf barecr", strings.Repeat("empty", 1000)}
	for _, name := range strings.Fields(spelt) {
		wrong = append(wrong, strings.ToUpper(name), strings.ToUpper(name[:1])+name[1:], name[:len(name)-1], name[1:],
			name+" ", " "+name, name+"\x00", name+"s", name+name)
	}
	wrong = append(wrong, "BareLF", "NoVersion", "TEBlanks", "CLWins", "ChunkEnd")
	for _, name := range wrong {
		if got, ok := Find(name); got != 0 || ok {
			t.Errorf("P5.1: Find(%.40q) = %d, %v", name, got, ok)
		}
	}
}

// P5.1: what is handed in stays, the spare room behind it included.
func TestOfKeepsItsArguments(t *testing.T) {
	room := []int{29, -1, 3, 42, 43}
	Of(room[:3]...)
	if !slices.Equal(room, []int{29, -1, 3, 42, 43}) {
		t.Errorf("P5.1: clauses changed: %v", room)
	}
}

// needsAsWritten: the chapter's row, by names and numbers.
func needsAsWritten(clause int, p api.Profile, b api.Bounds) bool {
	if clause < 0 || clause > 29 {
		return false
	}
	switch strings.Fields(spelt)[clause] {
	case "noversion":
		return b.Old
	case "teblanks":
		return in(p, "valuebytes")
	case "telist", "tewins", "chunkhex", "chunkblanks", "chunkend":
		return b.Chunked
	case "teold":
		if !b.Old {
			return false
		}
		if b.Chunked {
			return true
		}
		if in(p, "teignore") {
			return true
		}
		return in(p, "clwins") && !in(p, "tewins")
	case "clwins":
		return !in(p, "tewins")
	case "cllast":
		return !in(p, "clfirst")
	}
	return true
}

// P5.2: each row, with and without each thing it asks for.
func TestNeedsRows(t *testing.T) {
	none := api.Bounds{}
	chunked := api.Bounds{Chunked: true}
	old := api.Bounds{Old: true}
	both := api.Bounds{Chunked: true, Old: true}
	cases := []struct {
		clause int
		p      api.Profile
		b      api.Bounds
		want   bool
	}{
		{api.NoVersion, 0, none, false}, {api.NoVersion, 0, chunked, false}, {api.NoVersion, 0, old, true}, {api.NoVersion, 0, both, true},
		{api.TEBlanks, 0, both, false}, {api.TEBlanks, Of(api.TEBlanks), both, false}, {api.TEBlanks, Of(api.ValueBytes), none, true}, {api.TEBlanks, ^Of(api.ValueBytes), both, false},
		{api.TEList, 0, chunked, true}, {api.TEList, ^api.Profile(0), old, false},
		{api.TEWins, 0, chunked, true}, {api.TEWins, ^api.Profile(0), old, false},
		{api.ChunkHex, 0, chunked, true}, {api.ChunkHex, ^api.Profile(0), old, false},
		{api.ChunkBlanks, 0, chunked, true}, {api.ChunkBlanks, ^api.Profile(0), old, false},
		{api.ChunkEnd, 0, chunked, true}, {api.ChunkEnd, ^api.Profile(0), old, false},
		{api.TEOld, 0, both, true}, {api.TEOld, 0, old, false}, {api.TEOld, ^api.Profile(0), chunked, false},
		{api.TEOld, Of(api.TEWins), both, true},
		{api.TEOld, Of(api.TEIgnore), old, true}, {api.TEOld, Of(api.TEIgnore, api.TEWins), old, true}, {api.TEOld, Of(api.TEIgnore), none, false},
		{api.TEOld, Of(api.CLWins), old, true}, {api.TEOld, Of(api.CLWins), none, false},
		{api.TEOld, Of(api.CLWins, api.TEWins), old, false}, {api.TEOld, Of(api.TEWins), old, false},
		{api.TEOld, Of(api.CLWins, api.TEWins, api.TEIgnore), old, true}, {api.TEOld, ^Of(api.CLWins, api.TEIgnore), old, false},
		{api.CLWins, 0, none, true}, {api.CLWins, Of(api.TEWins), none, false}, {api.CLWins, Of(api.TEWins), both, false}, {api.CLWins, ^Of(api.TEWins), none, true},
		{api.CLLast, 0, none, true}, {api.CLLast, Of(api.CLFirst), none, false}, {api.CLLast, Of(api.CLFirst), both, false}, {api.CLLast, ^Of(api.CLFirst), none, true},
		{api.CLFirst, Of(api.CLLast), none, true}, {api.CLComma, Of(api.CLFirst, api.CLLast), none, true},
		{api.Empty, 0, none, true}, {api.ValueBytes, 0, none, true}, {api.TEIgnore, 0, none, true}, {api.CLPlus, 0, none, true}, {api.NoHost, 0, none, true},
	}
	for _, c := range cases {
		if got := Needs(c.clause, c.p, c.b); got != c.want {
			t.Errorf("P5.2: Needs(%s, %v, Chunked %v, Old %v) = %v", Name(c.clause), List(c.p), c.b.Chunked, c.b.Old, got)
		}
	}
}

// P5.2: each clause, with all others, with none, with each one and each two others, with or without itself, and at random.
func TestNeedsEachClause(t *testing.T) {
	ps := []api.Profile{0, 1<<30 - 1, math.MaxUint32}
	for i := range 32 {
		for j := range 32 {
			p := api.Profile(1)<<i | api.Profile(1)<<j
			ps = append(ps, p, ^p)
		}
	}
	r := rand.New(rand.NewSource(53))
	for range 3000 {
		ps = append(ps, api.Profile(r.Uint32()))
	}
	for _, b := range someBounds() {
		for _, p := range ps {
			for clause := range 30 {
				if got, want := Needs(clause, p, b), needsAsWritten(clause, p, b); got != want {
					t.Fatalf("P5.2: Needs(%s, %v, Chunked %v, Old %v) = %v, want %v", Name(clause), List(p), b.Chunked, b.Old, got, want)
				}
			}
		}
	}
}

// P5.2: what is no clause takes no effect, whatever stands beside it.
func TestNeedsOfNoClause(t *testing.T) {
	for _, b := range someBounds() {
		for _, p := range []api.Profile{0, 1, 1 << 30, 1 << 31, math.MaxUint32} {
			for _, clause := range others {
				if Needs(clause, p, b) {
					t.Errorf("P5.2: Needs(%d, %#x, %+v)", clause, uint32(p), b)
				}
			}
		}
	}
}

// P5.2: it hangs on what the row names, not on the clause itself, nor on bits above the clauses', nor on other bounds.
func TestNeedsOfTheRowAlone(t *testing.T) {
	row := Of(number("valuebytes"), number("teignore"), number("clwins"), number("tewins"), number("clfirst"))
	r := rand.New(rand.NewSource(54))
	for range 3000 {
		p, clause := api.Profile(r.Uint32()), r.Intn(30)
		b := bounds.Usual()
		b.Chunked, b.Old = r.Intn(2) == 0, r.Intn(2) == 0
		bare := api.Bounds{Chunked: b.Chunked, Old: b.Old}
		want := Needs(clause, p, b)
		if Needs(clause, p&row, bare) != want || Needs(clause, p|^row, bare) != want {
			t.Fatalf("P5.2: Needs(%s, %v, %+v) hangs on more than its row", Name(clause), List(p), b)
		}
	}
}

// P5.3: a clause that nothing comes to is none: those that each row shuts out,
// of a profile of all clauses and of each one alone, within each bounds.
func TestNothingComesTo(t *testing.T) {
	cases := []struct {
		chunked, old bool
		ofAll        string // of a profile of all clauses
		alone        string // each in a profile of its own
	}{
		{true, true, "clwins cllast", "teblanks"},
		{true, false, "noversion teold clwins cllast", "noversion teblanks teold"},
		{false, true, "telist tewins clwins cllast chunkhex chunkblanks chunkend", "teblanks telist teold tewins chunkhex chunkblanks chunkend"},
		{false, false, "noversion telist teold tewins clwins cllast chunkhex chunkblanks chunkend", "noversion teblanks telist teold tewins chunkhex chunkblanks chunkend"},
	}
	for _, c := range cases {
		b := bounds.Usual()
		b.Chunked, b.Old = c.chunked, c.old
		var ofAll, alone []string
		for clause := range api.Clauses {
			if !Needs(clause, 1<<30-1, b) {
				ofAll = append(ofAll, Name(clause))
			}
			if !Needs(clause, Of(clause), b) {
				alone = append(alone, Name(clause))
			}
		}
		if got := strings.Join(ofAll, " "); got != c.ofAll {
			t.Errorf("P5.3: Chunked %v, Old %v, of all: none are %s, want %s", c.chunked, c.old, got, c.ofAll)
		}
		if got := strings.Join(alone, " "); got != c.alone {
			t.Errorf("P5.3: Chunked %v, Old %v, alone: none are %s, want %s", c.chunked, c.old, got, c.alone)
		}
	}
}
