package hop

import (
	"math/rand"
	"slices"
	"strconv"
	"strings"
	"testing"

	"parallax/api"
)

const (
	big   = "ABCDEFGHIJKLMNOPQRSTUVWXYZ"
	small = "abcdefghijklmnopqrstuvwxyz"
)

// The chapter's nine names, and the two that stay.
var (
	nine    = []string{"Connection", "Keep-Alive", "Proxy-Authenticate", "Proxy-Authorization", "Proxy-Connection", "TE", "Trailer", "Transfer-Encoding", "Upgrade"}
	staying = []string{"Host", "Content-Length"}
)

// fields answers the fields of names and values, one behind the other.
func fields(x ...string) []api.Field {
	var l []api.Field
	for i := 0; i+1 < len(x); i += 2 {
		l = append(l, api.Field{Name: x[i], Value: x[i+1]})
	}
	return l
}

// one answers the text of just that byte.
func one(c int) string { return string([]byte{byte(c)}) }

// smallOf answers s with A to Z as a to z, letter by letter.
func smallOf(s string) string {
	b := []byte(s)
	for i := range b {
		if at := strings.IndexByte(big, b[i]); at >= 0 {
			b[i] = small[at]
		}
	}
	return string(b)
}

// is: is name, in any case, one of these?
func is(name string, of []string) bool {
	for _, s := range of {
		if smallOf(s) == smallOf(name) {
			return true
		}
	}
	return false
}

// named: does a Connection of l name that name?
func named(l []api.Field, name string) bool {
	for _, f := range l {
		if smallOf(f.Name) != "connection" {
			continue
		}
		for _, part := range strings.Split(f.Value, ",") {
			if smallOf(strings.Trim(part, " \t")) == smallOf(name) {
				return true
			}
		}
	}
	return false
}

// stripAsWritten: the chapter's Strip.
func stripAsWritten(l []api.Field) []api.Field {
	var out []api.Field
	for _, f := range l {
		if is(f.Name, nine) || named(l, f.Name) && !is(f.Name, staying) {
			continue
		}
		out = append(out, f)
	}
	return out
}

// holds holds Strip of l against the chapter's words.
func holds(t *testing.T, l []api.Field) {
	t.Helper()
	was := slices.Clone(l)
	got, want := Strip(l), stripAsWritten(l)
	if !slices.Equal(got, want) {
		t.Fatalf("P18.1: Strip(%+q): %+q, want %+q", l, got, want)
	}
	if !slices.Equal(l, was) {
		t.Fatalf("P18.1: Strip has changed %+q to %+q", was, l)
	}
}

// away answers name in other cases, and all names that are a byte away from it.
func away(name string) []string {
	l := []string{smallOf(name), strings.ToUpper(name), name, " " + name, name + " ", name + "\t", name + ",", name + "s", name + name, name[1:], name[:len(name)-1], ""}
	for i := range name {
		for c := range 256 {
			l = append(l, name[:i]+one(c)+name[i+1:])
		}
	}
	return l
}

// mixed answers s with each letter in one of its cases.
func mixed(r *rand.Rand, s string) string {
	b := []byte(s)
	for i := range b {
		switch at := strings.IndexByte(small, smallOf(s)[i]); {
		case at >= 0 && r.Intn(2) == 0:
			b[i] = big[at]
		case at >= 0:
			b[i] = small[at]
		}
	}
	return string(b)
}

// P18.1: the example.
func TestExample(t *testing.T) {
	if got := Strip(fields("Upgrade", "h2c")); len(got) != 0 {
		t.Errorf("P18.1: Strip of Upgrade: %+q", got)
	}
}

// P18.1: the names, in the order of the chapter, in new memory each time.
func TestNames(t *testing.T) {
	first := Names()
	if !slices.Equal(first, nine) {
		t.Fatalf("P18.1: Names: %q", first)
	}
	first = first[:cap(first)]
	for i := range first {
		first[i] = "A"
	}
	if got := Names(); !slices.Equal(got, nine) {
		t.Errorf("P18.1: Names told a second time: %q", got)
	}
	if got := Strip(fields("A", "b", "Upgrade", "c")); !slices.Equal(got, fields("A", "b")) {
		t.Errorf("P18.1: Strip when Names has been changed: %+q", got)
	}
}

// P18.1: Strip, by hand.
func TestStrip(t *testing.T) {
	for i, x := range []struct{ l, want []api.Field }{
		{nil, nil},
		{[]api.Field{}, nil},
		{fields("A", "b"), fields("A", "b")},
		{fields("A", "b", "a", "c", "A", "b"), fields("A", "b", "a", "c", "A", "b")},
		{fields("Host", "h", "TE", "trailers", "A", "b", "upgrade", "x", "Content-Length", "0"), fields("Host", "h", "A", "b", "Content-Length", "0")},
		{fields("Te-x", "1", "X-TE", "2", "T", "3", "Keep", "4", "Trailers", "5", "Proxy", "6", "Upgrades", "7", "Transfer", "8"), fields("Te-x", "1", "X-TE", "2", "T", "3", "Keep", "4", "Trailers", "5", "Proxy", "6", "Upgrades", "7", "Transfer", "8")},
		// What is named goes: ahead of the Connection and behind it, each time, in any case.
		{fields("A", "1", "Connection", "a", "a", "2", "B", "3", "A", "4"), fields("B", "3")},
		{fields("A", "1", "B", "2", "C", "3", "CONNECTION", " a ,\tB\t"), fields("C", "3")},
		{fields("A", "1", "connection", "a", "B", "2", "Connection", "close", "C", "3", "ConnEction", "x,c"), fields("B", "2")},
		{fields("A", "1", "Connection", "keep-alive, Upgrade, HTTP2-Settings", "Upgrade", "h2c", "http2-settings", "AA", "Keep-Alive", "5"), fields("A", "1")},
		{fields("Via", "1.1 x", "X-Forwarded-For", "1.2.3.4", "Connection", "via, x-forwarded-for"), nil},
		{fields("Close", "1", "Connection", "close"), nil},
		// Whoever isn't a Connection names nothing; nor does what one says beside a name.
		{fields("A", "1", "Proxy-Connection", "a", "Keep-Alive", "a", "Upgrade", "a", "Trailer", "a", "TE", "a"), fields("A", "1")},
		{fields("A", "1", "Connections", "a", " Connection", "a", "Connection ", "a"), fields("A", "1", "Connections", "a", " Connection", "a", "Connection ", "a")},
		{fields("A", "1", "Connection", "a b", "B", "2", "Connection", "b;c", "Connection", "\"a\"", "Connection", "A:"), fields("A", "1", "B", "2")},
		{fields("A", "1", "Connection", "B: A", "B", "A"), fields("A", "1", "B", "A")},
		{fields("A b", "1", "A", "2", "b", "3", "Connection", "a B"), fields("A", "2", "b", "3")},
		{fields("A", "Connection", "B", "connection: a"), fields("A", "Connection", "B", "connection: a")},
		// A name that is gone itself may name others.
		{fields("Connection", "connection", "Connection", "a", "A", "1"), nil},
		{fields("Connection", "te, TE, upgrade", "TE", "a", "A", "1"), fields("A", "1")},
		// These two stay, whoever names them, however; what is like them goes.
		{fields("Connection", "host, Content-Length", "Host", "a", "Content-Length", "3"), fields("Host", "a", "Content-Length", "3")},
		{fields("hOST", "a", "Connection", "HOST", "content-LENGTH", "3", "Connection", "a, CONTENT-length ,b", "A", "1", "B", "2"), fields("hOST", "a", "content-LENGTH", "3")},
		{fields("Hosts", "1", "Content-Lengt", "2", "Content-Length ", "3", "Connection", "hosts, content-lengt, content-length"), fields("Content-Length ", "3")},
		{fields("Host", "a", "Connection", "Transfer-Encoding, Host", "Transfer-Encoding", "chunked", "Content-Length", "1"), fields("Host", "a", "Content-Length", "1")},
		// An empty part names what has no name, and nothing else.
		{fields("Connection", "", "A", "b", " ", "c"), fields("A", "b", " ", "c")},
		{fields("Connection", "", "", "b", "A", ""), fields("A", "")},
		{fields("Connection", "close,", "", "b", "A", "1"), fields("A", "1")},
		{fields("Connection", "close", "", "b", "A", "1"), fields("", "b", "A", "1")},
		{fields("", "Connection", "", "b"), fields("", "Connection", "", "b")},
		// Bytes of all kinds; no letter beyond A to Z has a case.
		{fields("\x00", "1", "\xff", "2", "\ufffd", "3", "Connection", "\x00,\xff"), fields("\ufffd", "3")},
		{fields("\u00c4", "1", "K", "2", "\u212aeep-Alive", "3", "Connection", "\u00e4, \u212a"), fields("\u00c4", "1", "K", "2", "\u212aeep-Alive", "3")},
		{fields("A", "1", "Connection", "\va", "B", "2", "Connection", "b\r\n", "Connection", "\u00a0b"), fields("A", "1", "B", "2")},
		{fields("A", "1\r\nUpgrade: x", "A\r\nUpgrade", "x"), fields("A", "1\r\nUpgrade: x", "A\r\nUpgrade", "x")},
	} {
		if got := Strip(x.l); !slices.Equal(got, x.want) {
			t.Errorf("P18.1: %d: Strip(%+q): %+q, want %+q", i, x.l, got, x.want)
		}
		holds(t, x.l)
	}
}

// P18.1: each of the nine names goes in any case, with any value; none that is
// a byte away goes.
func TestStripEachName(t *testing.T) {
	r := rand.New(rand.NewSource(18))
	for _, name := range nine {
		for range 100 {
			l := fields("A", "b", mixed(r, name), "close", "C", "d", mixed(r, name), "")
			if got := Strip(l); !slices.Equal(got, fields("A", "b", "C", "d")) {
				t.Fatalf("P18.1: Strip(%+q): %+q", l, got)
			}
		}
		for _, other := range away(name) {
			holds(t, fields("A", "b", other, "a, x", "C", "d", other, "c"))
			if got := Strip(fields(other, "x")); is(other, nine) != (len(got) == 0) {
				t.Fatalf("P18.1: Strip of %+q: %+q", other, got)
			}
		}
	}
}

// P18.1: the two that stay are named in each way; what is a byte away goes when
// it is named, and stays when it isn't.
func TestStripStaying(t *testing.T) {
	r := rand.New(rand.NewSource(19))
	for _, name := range staying {
		for range 100 {
			l := fields("A", "b", mixed(r, name), "5", "Connection", mixed(r, name)+", a ,"+mixed(r, name))
			if got := Strip(l); !slices.Equal(got, l[1:2]) {
				t.Fatalf("P18.1: Strip(%+q): %+q", l, got)
			}
		}
		for _, other := range away(name) {
			holds(t, fields("Connection", other, "A", "b", other, "5", name, "6"))
			holds(t, fields("Connection", name, "A", "b", other, "5", smallOf(other), "6"))
			plain := other != "" && !strings.ContainsAny(other, " \t,")
			if got := Strip(fields(other, "5", "Connection", other)); plain && is(other, staying) != (len(got) == 1) {
				t.Fatalf("P18.1: Strip of %+q, named: %+q", other, got)
			}
		}
	}
}

// P18.1: each byte around a name that is named, and in between two.
func TestStripEachByte(t *testing.T) {
	for i := range 256 {
		c := one(i)
		for _, value := range []string{c, c + "A", "A" + c, c + "A" + c, "A" + c + "B", "A" + c + c + "B", c + c, "B" + c + ",A", "B," + c + "A", ", " + c + "\t,"} {
			holds(t, fields("A", "1", "b", "2", "a"+c+"B", "3", c, "4", c+"a", "5", "a"+c, "6", "", "7", "Host", "8", "Connection", value))
		}
		holds(t, fields("Connection", "a", "A", c, "B", c))
	}
}

// P18.1: all short values of a Connection.
func TestStripShortValues(t *testing.T) {
	l := []string{""}
	for range 6 {
		var longer []string
		for _, value := range l {
			holds(t, fields("a", "1", "connecTion", value, "B", "2", "", "3", "A b", "4", "HOST", "5", "aB", "6"))
			holds(t, fields("Connection", value, "A", "1", "Connection", "b", "B", "2", "host", "3"))
			for _, piece := range []string{"A", "b", ",", " ", "\t", "Host"} {
				longer = append(longer, value+piece)
			}
		}
		l = longer
	}
}

// P18.1: lists at random.
func TestStripRandom(t *testing.T) {
	r := rand.New(rand.NewSource(20))
	pool := append(slices.Concat(nine, staying), "Connection", "connection", "A", "B", "C", "", "Te-x", "Hosts", "Via", " ", "a b")
	name := func() string {
		if s := pool[r.Intn(len(pool))]; r.Intn(4) > 0 {
			return mixed(r, s)
		}
		return "X"
	}
	for range 30000 {
		var l []api.Field
		for range r.Intn(9) {
			value := name()
			for range r.Intn(4) {
				value += []string{",", ", ", " ,", "\t,\t", " ", ";", ""}[r.Intn(7)] + name()
			}
			l = append(l, api.Field{Name: name(), Value: value})
		}
		holds(t, l)
	}
}

// P18.2: Via and From, by hand.
func TestViaFrom(t *testing.T) {
	for i, x := range []struct {
		l         []api.Field
		s         string
		via, from api.Field
	}{
		{nil, "me", api.Field{Name: "Via", Value: "1.1 me"}, api.Field{Name: "X-Forwarded-For", Value: "me"}},
		{[]api.Field{}, "1.2.3.4", api.Field{Name: "Via", Value: "1.1 1.2.3.4"}, api.Field{Name: "X-Forwarded-For", Value: "1.2.3.4"}},
		{fields("A", "b"), "x", api.Field{Name: "Via", Value: "1.1 x"}, api.Field{Name: "X-Forwarded-For", Value: "x"}},
		{fields("A", "b"), "", api.Field{Name: "Via", Value: "1.1 "}, api.Field{Name: "X-Forwarded-For", Value: ""}},
		{fields("", ""), " a\t", api.Field{Name: "Via", Value: "1.1  a\t"}, api.Field{Name: "X-Forwarded-For", Value: " a\t"}},
		// Those that are there stay as they are: a field more, none joined.
		{fields("Via", "1.0 a", "A", "b", "via", "1.1 c", "X-Forwarded-For", "9.9.9.9"), "d", api.Field{Name: "Via", Value: "1.1 d"}, api.Field{Name: "X-Forwarded-For", Value: "d"}},
		// Neither takes anything out.
		{fields("Connection", "via, x-forwarded-for", "TE", "a"), "e", api.Field{Name: "Via", Value: "1.1 e"}, api.Field{Name: "X-Forwarded-For", Value: "e"}},
		{fields("A", "b"), "a\r\nB: c\x00\xff", api.Field{Name: "Via", Value: "1.1 a\r\nB: c\x00\xff"}, api.Field{Name: "X-Forwarded-For", Value: "a\r\nB: c\x00\xff"}},
	} {
		was := slices.Clone(x.l)
		if got := Via(x.l, x.s); !slices.Equal(got, append(slices.Clone(x.l), x.via)) {
			t.Errorf("P18.2: %d: Via(%+q, %q): %+q", i, x.l, x.s, got)
		}
		if got := From(x.l, x.s); !slices.Equal(got, append(slices.Clone(x.l), x.from)) {
			t.Errorf("P18.2: %d: From(%+q, %q): %+q", i, x.l, x.s, got)
		}
		if !slices.Equal(x.l, was) {
			t.Errorf("P18.2: %d: Via, From have changed %+q to %+q", i, was, x.l)
		}
	}
}

// P18.2: each byte goes into the value as it is.
func TestViaFromEachByte(t *testing.T) {
	for i := range 256 {
		for _, s := range []string{one(i), one(i) + "a", "a" + one(i), strings.Repeat(one(i), 300)} {
			if got := Via(fields("A", "b"), s); !slices.Equal(got, fields("A", "b", "Via", "1.1 "+s)) {
				t.Errorf("P18.2: Via of %q: %+q", s, got)
			}
			if got := From(fields("A", "b"), s); !slices.Equal(got, fields("A", "b", "X-Forwarded-For", s)) {
				t.Errorf("P18.2: From of %q: %+q", s, got)
			}
		}
	}
}

// P18.1, P18.2: what is handed in isn't changed, nor is the room behind it;
// what is answered is new, and no two answers share any.
func TestListsStay(t *testing.T) {
	for n := range 12 {
		room := fields("A", "1", "Connection", "a", "B", "2", "Upgrade", "3", "Host", "4")
		for range 12 {
			room = append(room, api.Field{Name: "C", Value: "5"})
		}
		l, was := room[:n], slices.Clone(room)
		calls := []func() []api.Field{
			func() []api.Field { return Strip(l) },
			func() []api.Field { return Via(l, "x") },
			func() []api.Field { return Via(l, "y") },
			func() []api.Field { return From(l, "x") },
			func() []api.Field { return From(l, "y") },
		}
		var got, want [][]api.Field
		for _, call := range calls {
			got, want = append(got, call()), append(want, slices.Clone(call()))
		}
		for i := range got {
			if !slices.Equal(got[i], want[i]) {
				t.Errorf("P18.2: answer %d of %d fields has changed: %+q", i, n, got[i])
			}
			whole := got[i][:cap(got[i])]
			for k := range whole {
				whole[k] = api.Field{Name: "z", Value: "z"}
			}
		}
		if !slices.Equal(room, was) {
			t.Errorf("P18.1: what was handed in of %d fields has changed: %+q", n, room)
		}
		kept := [][]api.Field{Strip(l), Via(l, "x"), From(l, "x")}
		for i := range room {
			room[i] = api.Field{Name: "z", Value: "z"}
		}
		for i, k := range []int{0, 1, 3} {
			if !slices.Equal(kept[i], want[k]) {
				t.Errorf("P18.1: what was answered of %d fields has changed: %+q", n, kept[i])
			}
		}
	}
}

// P18.3: what is for one hop goes one hop, and what isn't goes to the end: by
// however many hands, with however many names ahead of each hop.
func TestOneHop(t *testing.T) {
	r := rand.New(rand.NewSource(21))
	for range 2000 {
		end := fields("Host", "h", "A", "1", "content-length", "0", "B", "2", "A", "3")
		at := slices.Clone(end)
		for hop := range 5 {
			sent := slices.Clone(at)
			own := "X-Hop-" + strconv.Itoa(hop)
			for _, f := range append(fields(mixed(r, "Connection"), "close, "+mixed(r, own)+", hOST", own, "for you", "Connection", "content-LENGTH,,host"), api.Field{Name: mixed(r, nine[r.Intn(len(nine))]), Value: "x"}) {
				sent = slices.Insert(sent, r.Intn(len(sent)+1), f)
			}
			got := Strip(sent)
			if !slices.Equal(got, at) {
				t.Fatalf("P18.3: hop %d: Strip(%+q): %+q, want %+q", hop, sent, got, at)
			}
			if twice := Strip(got); !slices.Equal(twice, got) {
				t.Fatalf("P18.3: Strip, twice: %+q, want %+q", twice, got)
			}
			name, ip := "g"+strconv.Itoa(hop), "10.0.0."+strconv.Itoa(hop)
			at = Via(From(got, ip), name)
		}
		for hop := range 5 {
			end = append(end, fields("X-Forwarded-For", "10.0.0."+strconv.Itoa(hop), "Via", "1.1 g"+strconv.Itoa(hop))...)
		}
		if !slices.Equal(at, end) {
			t.Fatalf("P18.3: behind five hops: %+q, want %+q", at, end)
		}
	}
}

// P18.3: a name that one hop's Connection gives means nothing to the next one.
func TestNamedForOneHop(t *testing.T) {
	first := Strip(fields("Connection", "a", "A", "1", "B", "2"))
	if got := Strip(append(first, fields("A", "3", "Connection", "b")...)); !slices.Equal(got, fields("A", "3")) {
		t.Errorf("P18.3: a second hop: %+q", got)
	}
	if got := Strip(fields("A", "1", "B", "2")); !slices.Equal(got, fields("A", "1", "B", "2")) {
		t.Errorf("P18.3: a call behind others: %+q", got)
	}
}

// P18.1, P18.2: all calls take all arguments, long ones too, and end soon.
func TestLong(t *testing.T) {
	const n = 1 << 17
	var l []api.Field
	var value strings.Builder
	for i := range n {
		name := "x-" + strconv.Itoa(i)
		l = append(l, api.Field{Name: name, Value: "1"}, api.Field{Name: "y-" + strconv.Itoa(i), Value: "2"}, api.Field{Name: "connection", Value: strings.ToUpper(name)})
		value.WriteString(", Y-" + strconv.Itoa(i) + " \t")
	}
	l = append(l, api.Field{Name: "Connection", Value: value.String()}, api.Field{Name: "left", Value: strings.Repeat("z", 1<<20)})
	got := Strip(l)
	if !slices.Equal(got, l[len(l)-1:]) {
		t.Errorf("P18.1: Strip of many: %d left", len(got))
	}
	if got := Strip(fields("Connection", strings.Repeat(",", 1<<22), "A", "1", "", "2")); !slices.Equal(got, fields("A", "1")) {
		t.Errorf("P18.1: Strip of a long Connection: %d left", len(got))
	}
	long := strings.Repeat("g", 1<<22)
	if got := Via(l, long); len(got) != len(l)+1 || !slices.Equal(got[:len(l)], l) || got[len(l)].Value != "1.1 "+long {
		t.Error("P18.2: Via behind many")
	}
	if got := From(l, long); len(got) != len(l)+1 || !slices.Equal(got[:len(l)], l) || got[len(l)].Value != long {
		t.Error("P18.2: From behind many")
	}
}
