package filter

import (
	"math/rand"
	"strings"

	"parallax/api"
	"parallax/bounds"
	"parallax/parser"
	"parallax/record"
)

// The chapter's words written out over a stream's beginnings: each is read anew by both, as a whole.

// state is all that a filter tells beside records.
type state struct {
	verdict int
	code    api.Errno
	parted  bool
	waits   bool
	clean   bool
	held    int
}

// seen is what one reader makes of the beginning of a stream.
type seen struct {
	records []api.Record
	*parser.Parser
}

func see(p api.Profile, b api.Bounds, s string) seen {
	r := parser.New(p, b)
	return seen{r.Feed([]byte(s)), r}
}

// asWritten answers what is told behind s by readers of these two profiles, and how many records of it, if no byte ahead of its last one blocks.
func asWritten(strict, lenient api.Profile, b api.Bounds, s string) (state, int) {
	x, y := see(strict, b, s), see(lenient, b, s)
	t := state{verdict: api.Pass, waits: x.Waits(), clean: x.Clean(), held: x.Held()}
	if y.Held() > t.held {
		t.held = y.Held()
	}
	alike := record.All(x.records, y.records)
	n := 0
	for n < len(x.records) && n < len(y.records) && record.Same(x.records[n], y.records[n]) {
		n++
	}
	if x.Err() != 0 {
		t.verdict, t.code, t.parted = api.Block, x.Err(), y.Err() == 0
	} else if !alike || y.Err() != 0 {
		t.verdict, t.code, t.parted = api.Block, api.ErrBad, true
	}
	return t, n
}

// least: the least bounds that there may be, but for a few chunks and trailers.
func least() api.Bounds {
	return api.Bounds{Line: api.LeastLine, Fields: api.MinFields, Head: api.LeastHead, Body: api.LeastBody, Ext: 2, Trailers: 2, Wait: 1, Idle: 1, Chunked: true, Old: true}
}

func someBounds(r *rand.Rand) api.Bounds {
	b := bounds.Usual()
	if r.Intn(2) == 0 {
		b = least()
	}
	b.Chunked, b.Old = r.Intn(8) > 0, r.Intn(8) > 0
	return b
}

// someProfile answers none, one, a few, many or all clauses.
func someProfile(r *rand.Rand) api.Profile {
	return []api.Profile{0, 1 << r.Intn(api.Clauses), api.Profile(r.Uint32()&r.Uint32()) & every, api.Profile(r.Uint32()|r.Uint32()) & every, every}[r.Intn(5)]
}

// someStream answers requests that are right, every other time what a clause takes among them, and bytes put in, taken out or changed.
func someStream(r *rand.Rand) string {
	var w strings.Builder
	some := func() {
		for range r.Intn(3) {
			w.WriteString(right[r.Intn(len(right))])
		}
	}
	some()
	if r.Intn(2) == 0 {
		w.WriteString(apart[r.Intn(len(apart))].s)
		some()
	}
	s := w.String()
	for range r.Intn(3) {
		i := r.Intn(len(s) + 1)
		j := min(len(s), i+r.Intn(2))
		s = s[:i] + []string{"", "\r", "\n", "\r\n", " ", ":", "0", "a", "\x01", ","}[r.Intn(10)] + s[j:]
	}
	return s
}
