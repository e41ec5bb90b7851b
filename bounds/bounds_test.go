package bounds

import (
	"math"
	"math/rand"
	"testing"

	"parallax/api"
)

// A limit: one number of bounds, and from where to where it is right.
type limit struct {
	name        string
	at          func(b *api.Bounds) *int
	least, most int
}

// limits: the chapter's, with its numbers written out.
var limits = []limit{
	{"Line", func(b *api.Bounds) *int { return &b.Line }, 64, 4096},
	{"Fields", func(b *api.Bounds) *int { return &b.Fields }, 4, 100},
	{"Head", func(b *api.Bounds) *int { return &b.Head }, 256, 65536},
	{"Body", func(b *api.Bounds) *int { return &b.Body }, 16, 1048576},
	{"Ext", func(b *api.Bounds) *int { return &b.Ext }, 0, 256},
	{"Trailers", func(b *api.Bounds) *int { return &b.Trailers }, 0, 100},
	{"Wait", func(b *api.Bounds) *int { return &b.Wait }, 1, 16},
	{"Idle", func(b *api.Bounds) *int { return &b.Idle }, 1, 1000},
}

// filled answers bounds of which each number is what of says of its limit.
func filled(of func(l limit) int) api.Bounds {
	var b api.Bounds
	for _, l := range limits {
		*l.at(&b) = of(l)
	}
	return b
}

// rightAsWritten: the chapter's Right, limit by limit.
func rightAsWritten(b api.Bounds) bool {
	for _, l := range limits {
		if n := *l.at(&b); n < l.least || n > l.most {
			return false
		}
	}
	return true
}

// P4.1: the limits of package api are those that the tests below go by.
func TestLimitsOfAPI(t *testing.T) {
	want := []struct{ least, most int }{
		{api.LeastLine, api.MostLine}, {api.MinFields, api.MaxFields},
		{api.LeastHead, api.MostHead}, {api.LeastBody, api.MostBody},
		{0, api.MaxExt}, {0, api.MaxFields}, {1, api.MaxWait}, {1, api.MaxIdle},
	}
	for i, w := range want {
		if l := limits[i]; l.least != w.least || l.most != w.most {
			t.Errorf("P4.1: %s: %d to %d, package api has %d to %d", l.name, l.least, l.most, w.least, w.most)
		}
	}
}

// P4.1: Usual, number by number.
func TestUsual(t *testing.T) {
	want := api.Bounds{Line: 1024, Fields: 32, Head: 8192, Body: 65536, Ext: 32, Trailers: 8, Wait: 4, Idle: 20, Chunked: true, Old: true}
	if got := Usual(); got != want {
		t.Errorf("P4.1: Usual() = %+v, want %+v", got, want)
	}
	if !Right(Usual()) {
		t.Error("P4.1: Right(Usual()) is false")
	}
}

// P4.1: each answer of Usual is a new one: what is done to it stays there.
func TestUsualStays(t *testing.T) {
	b := Usual()
	b.Line, b.Chunked = 0, false
	if Usual().Line != 1024 || !Usual().Chunked {
		t.Error("P4.1: Usual() isn't what it was, once an answer of it was changed")
	}
}

// P4.1: each number at its limits, one past them and far beyond, beside
// others that are usual, least or most.
func TestRightAtLimits(t *testing.T) {
	beside := map[string]api.Bounds{
		"usual": Usual(),
		"least": filled(func(l limit) int { return l.least }),
		"most":  filled(func(l limit) int { return l.most }),
	}
	for among, b := range beside {
		if !Right(b) {
			t.Errorf("P4.1: Right of %s bounds is false", among)
		}
		for _, l := range limits {
			cases := map[int]bool{
				l.least: true, l.least + 1: true, l.most - 1: true, l.most: true,
				(l.least + l.most) / 2: true,
				l.least - 1:            false, l.most + 1: false, -l.least - 1: false, -l.most: false,
				math.MinInt: false, math.MaxInt: false, math.MinInt32: false, math.MaxInt32: false,
			}
			for n, want := range cases {
				c := b
				*l.at(&c) = n
				if got := Right(c); got != want {
					t.Errorf("P4.1: Right with %s %d beside %s ones: %v, want %v", l.name, n, among, got, want)
				}
			}
		}
	}
}

// P4.1: each number from one below its limits to one above them.
func TestRightEachNumber(t *testing.T) {
	for _, l := range limits {
		b := Usual()
		for n := l.least - 1; n <= l.most+1; n++ {
			*l.at(&b) = n
			if got, want := Right(b), n >= l.least && n <= l.most; got != want {
				t.Fatalf("P4.1: Right with %s %d: %v, want %v", l.name, n, got, want)
			}
		}
	}
}

// P4.1: one wrong number is enough, and another doesn't make up for it.
func TestRightOfTwoWrong(t *testing.T) {
	for _, l := range limits {
		for _, m := range limits {
			b := Usual()
			*l.at(&b) = l.least - 1
			*m.at(&b) = m.most + 1
			if Right(b) {
				t.Errorf("P4.1: Right with too little %s and too much %s", l.name, m.name)
			}
		}
	}
	if Right(api.Bounds{}) || Right(api.Bounds{Chunked: true, Old: true}) {
		t.Error("P4.1: Right of nothing")
	}
}

// P4.1: Chunked and Old are right either way, and mend nothing.
func TestRightOfSwitches(t *testing.T) {
	for i := range 4 {
		b := Usual()
		b.Chunked, b.Old = i&1 != 0, i&2 != 0
		if !Right(b) {
			t.Errorf("P4.1: Right with Chunked %v, Old %v is false", b.Chunked, b.Old)
		}
		b.Idle = 0
		if Right(b) {
			t.Errorf("P4.1: Right with Idle 0, Chunked %v, Old %v", b.Chunked, b.Old)
		}
	}
}

// P4.1: at random, about the limits.
func TestRightRandom(t *testing.T) {
	r := rand.New(rand.NewSource(4))
	right := 0
	for range 20000 {
		b := filled(func(l limit) int {
			switch r.Intn(16) {
			case 0:
				return l.least - r.Intn(2)
			case 1:
				return l.most + r.Intn(2)
			}
			return l.least + r.Intn(l.most-l.least+1)
		})
		b.Chunked, b.Old = r.Intn(2) == 0, r.Intn(2) == 0
		want := rightAsWritten(b)
		if got := Right(b); got != want {
			t.Fatalf("P4.1: Right(%+v) = %v, want %v", b, got, want)
		}
		if want {
			right++
		}
	}
	if right < 2000 || right > 18000 {
		t.Errorf("%d of 20000 are right: they try too little", right)
	}
}

// P4.1: Window of Line, Head and Body; right bounds or wrong ones.
func TestWindow(t *testing.T) {
	cases := []struct {
		b    api.Bounds
		want int
	}{
		{Usual(), 74752},
		{api.Bounds{}, 0},
		{api.Bounds{Line: 1}, 1},
		{api.Bounds{Head: 1}, 1},
		{api.Bounds{Body: 1}, 1},
		{api.Bounds{Line: 1, Head: 20, Body: 300}, 321},
		{api.Bounds{Fields: 7, Ext: 7, Trailers: 7, Wait: 7, Idle: 7, Chunked: true, Old: true}, 0},
		{api.Bounds{Line: -1, Head: 5, Body: -10}, -6},
		{api.Bounds{Line: math.MaxInt}, math.MaxInt},
		{api.Bounds{Head: math.MaxInt - 1, Body: 1}, math.MaxInt},
		{api.Bounds{Line: math.MinInt + 2, Head: -1, Body: -1}, math.MinInt},
		{api.Bounds{Line: math.MaxInt, Head: 1, Body: -1}, math.MaxInt},
		{filled(func(l limit) int { return l.least }), 64 + 256 + 16},
		{filled(func(l limit) int { return l.most }), 4096 + 65536 + 1048576},
	}
	for _, c := range cases {
		if got := Window(c.b); got != c.want {
			t.Errorf("P4.1: Window(%+v) = %d, want %d", c.b, got, c.want)
		}
	}
}

// P4.2: what is right is bounded: however great or small one number is made,
// none is boundless, and a window is at most the one of the widest bounds.
func TestRightIsBounded(t *testing.T) {
	least := filled(func(l limit) int { return l.least })
	most := filled(func(l limit) int { return l.most })
	r := rand.New(rand.NewSource(42))
	for _, l := range limits {
		right := 0
		for range 4000 {
			b := filled(func(l limit) int { return l.least + r.Intn(l.most-l.least+1) })
			*l.at(&b) = int(r.Uint64()) >> r.Intn(64)
			if !Right(b) {
				continue
			}
			right++
			if !rightAsWritten(b) {
				t.Fatalf("P4.2: Right(%+v), though %s is %d", b, l.name, *l.at(&b))
			}
			if w := Window(b); w < Window(least) || w > Window(most) {
				t.Fatalf("P4.2: Window(%+v) = %d, not %d to %d", b, w, Window(least), Window(most))
			}
		}
		if right == 0 {
			t.Errorf("of no %s the bounds are right: it tries too little", l.name)
		}
	}
}

// P4.2: the calls end at the ends of int, too.
func TestEnds(t *testing.T) {
	for _, n := range []int{math.MinInt, -1, 0, 1, math.MaxInt} {
		b := filled(func(limit) int { return n })
		if Right(b) {
			t.Errorf("P4.2: Right of bounds that are all %d", n)
		}
		Window(b)
	}
}
