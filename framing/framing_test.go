package framing

import (
	"math"
	"math/big"
	"math/rand"
	"regexp"
	"slices"
	"strconv"
	"strings"
	"testing"

	"parallax/api"
	"parallax/bounds"
	"parallax/quirks"
)

const every = ^api.Profile(0)

// The clauses that each call looks at.
var (
	hostClauses   = []int{api.NoHost, api.ManyHosts}
	codingClauses = []int{api.TEBlanks, api.TEList}
	lengthClauses = []int{api.CLPlus, api.CLComma, api.CLFirst, api.CLLast}
	ownClauses    = slices.Concat(hostClauses, codingClauses, lengthClauses, []int{api.TEIgnore, api.TEOld, api.TEWins, api.CLWins})
)

// The chapter's lines, written out as patterns. (Not by (?i): that takes a
// Kelvin sign as a k.)
var (
	host      = regexp.MustCompile(`\A[A-Za-z0-9._~-]{1,255}(?::([0-9]{1,5}))?\z`)
	coded     = regexp.MustCompile(`\A[ \t]*[Cc][Hh][Uu][Nn][Kk][Ee][Dd][ \t]*\z`)
	codedWide = regexp.MustCompile(`\A[\v\f \t]*[Cc][Hh][Uu][Nn][Kk][Ee][Dd][\v\f \t]*\z`)
	digits    = regexp.MustCompile(`\A[0-9]+\z`)
	digitPlus = regexp.MustCompile(`\A\+?[0-9]+\z`)
)

// with: is the clause in p?
func with(p api.Profile, clause int) bool { return p>>clause&1 == 1 }

// profiles: each set of these clauses.
func profiles(clauses []int) []api.Profile {
	l := []api.Profile{0}
	for _, clause := range clauses {
		for _, p := range l {
			l = append(l, p|1<<clause)
		}
	}
	return l
}

// lists calls f with each list of these values of at most so many.
func lists(values []string, most int, f func(l []string)) {
	l := [][]string{nil}
	for range most + 1 {
		var longer [][]string
		for _, x := range l {
			f(x)
			for _, value := range values {
				longer = append(longer, append(slices.Clone(x), value))
			}
		}
		l = longer
	}
}

// fieldsOf tells fields: names and values in turn.
func fieldsOf(x ...string) []api.Field {
	var l []api.Field
	for i := 0; i+1 < len(x); i += 2 {
		l = append(l, api.Field{Name: x[i], Value: x[i+1]})
	}
	return l
}

// named answers a field of that name of each value.
func named(name string, values []string) []api.Field {
	var l []api.Field
	for _, value := range values {
		l = append(l, api.Field{Name: name, Value: value})
	}
	return l
}

// valuesOf answers the values of that name, whatever its case.
func valuesOf(l []api.Field, name string) []string {
	var values []string
	for _, f := range l {
		if strings.ToLower(f.Name) == name {
			values = append(values, f.Value)
		}
	}
	return values
}

// parted answers what commas part, without blanks at its ends.
func parted(values []string) []string {
	if len(values) == 0 {
		return nil
	}
	var l []string
	for _, part := range strings.Split(strings.Join(values, ","), ",") {
		l = append(l, strings.Trim(part, " \t"))
	}
	return l
}

func isHost(s string) bool {
	m := host.FindStringSubmatch(s)
	if m == nil {
		return false
	}
	port, _ := strconv.Atoi("0" + m[1])
	return port <= 65535
}

// hostsAsWritten: the chapter's Hosts.
func hostsAsWritten(p api.Profile, minor int, l []api.Field) api.Errno {
	hosts := valuesOf(l, "host")
	bad := minor == 1 && len(hosts) == 0 && !with(p, api.NoHost)
	bad = bad || len(hosts) >= 2 && !with(p, api.ManyHosts)
	for _, s := range hosts {
		bad = bad || !isHost(s)
	}
	if bad {
		return 400
	}
	return 0
}

// codingAsWritten: the chapter's Coding.
func codingAsWritten(p api.Profile, values []string) bool {
	form := coded
	if with(p, api.TEBlanks) {
		form = codedWide
	}
	var is []bool
	for _, part := range parted(values) {
		is = append(is, form.MatchString(part))
	}
	if slices.Equal(is, []bool{true}) {
		return true
	}
	return with(p, api.TEList) && len(is) > 0 && slices.Index(is, true) == len(is)-1
}

// lengthAsWritten: the chapter's Length.
func lengthAsWritten(p api.Profile, most int, values []string) (int, api.Errno) {
	if len(values) == 0 {
		return 0, 0
	}
	if with(p, api.CLComma) {
		values = parted(values)
	}
	value := values[0]
	if len(values) >= 2 {
		alike := len(slices.Compact(slices.Clone(values))) == 1
		if with(p, api.CLComma) && alike {
			value = values[1]
		} else if with(p, api.CLFirst) {
			value = values[0]
		} else if with(p, api.CLLast) {
			value = values[len(values)-1]
		} else {
			return 0, 400
		}
	}
	form := digits
	if with(p, api.CLPlus) {
		form = digitPlus
	}
	if !form.MatchString(value) {
		return 0, 400
	}
	n, _ := new(big.Int).SetString(strings.TrimLeft(value, "+"), 10)
	if n.Cmp(big.NewInt(int64(max(most, 0)))) > 0 {
		return 0, 413
	}
	return int(n.Int64()), 0
}

// decideAsWritten: the chapter's Decide, sentence by sentence.
func decideAsWritten(p api.Profile, b api.Bounds, minor int, l []api.Field) (api.Framing, api.Errno) {
	if errno := hostsAsWritten(p, minor, l); errno != 0 {
		return api.Framing{}, errno
	}
	codings, lengths := valuesOf(l, "transfer-encoding"), valuesOf(l, "content-length")
	if len(codings) > 0 {
		if minor == 0 && !with(p, api.TEOld) {
			return api.Framing{}, 400
		}
		if codingAsWritten(p, codings) {
			if len(lengths) == 0 || with(p, api.TEWins) {
				if !b.Chunked {
					return api.Framing{}, 501
				}
				return api.Framing{Kind: api.Chunks}, 0
			}
			if !with(p, api.CLWins) {
				return api.Framing{}, 400
			}
		} else if !with(p, api.TEIgnore) {
			return api.Framing{}, 501
		}
	}
	n, errno := lengthAsWritten(p, b.Body, lengths)
	if errno != 0 {
		return api.Framing{}, errno
	}
	return api.Framing{Kind: api.Fixed, Length: n}, 0
}

func hostsHold(t *testing.T, p api.Profile, minor int, l []api.Field) {
	t.Helper()
	if got, want := Hosts(p, minor, l), hostsAsWritten(p, minor, l); got != want {
		t.Fatalf("P10.1: Hosts(%#x, %d, %+q): %d, want %d", p, minor, l, got, want)
	}
}

func codingHolds(t *testing.T, p api.Profile, values []string) {
	t.Helper()
	if got, want := Coding(p, values...), codingAsWritten(p, values); got != want {
		t.Fatalf("P10.1: Coding(%#x, %q): %v, want %v", p, values, got, want)
	}
}

func lengthHolds(t *testing.T, p api.Profile, most int, values []string) {
	t.Helper()
	got, errno := Length(p, most, values...)
	if want, wantErrno := lengthAsWritten(p, most, values); got != want || errno != wantErrno {
		t.Fatalf("P10.1: Length(%#x, %d, %q): %d, %d, want %d, %d", p, most, values, got, errno, want, wantErrno)
	}
}

func decideHolds(t *testing.T, p api.Profile, b api.Bounds, minor int, l []api.Field) {
	t.Helper()
	got, errno := Decide(p, b, minor, l)
	if want, wantErrno := decideAsWritten(p, b, minor, l); got != want || errno != wantErrno {
		t.Fatalf("P10.2: Decide(%#x, %+v, %d, %+q): %+v, %d, want %+v, %d", p, b, minor, l, got, errno, want, wantErrno)
	}
}

// P10.1, P10.2: the numbers of package api.
func TestNumbers(t *testing.T) {
	if api.OK != 0 || api.ErrBad != 400 || api.ErrBody != 413 || api.ErrCoding != 501 {
		t.Error("P10.1: package api's errors")
	}
	if api.Fixed != 1 || api.Chunks != 2 {
		t.Error("P10.2: package api's kinds")
	}
	clauses := [12]int{api.NoHost, api.ManyHosts, api.TEBlanks, api.TEList, api.TEIgnore, api.TEOld, api.TEWins, api.CLWins, api.CLPlus, api.CLComma, api.CLFirst, api.CLLast}
	if clauses != [12]int{15, 16, 17, 18, 19, 20, 21, 22, 23, 24, 25, 26} {
		t.Error("P10.1: package api's clauses")
	}
}

// P10.1: how many Hosts, and which.
func TestHosts(t *testing.T) {
	q := quirks.Of
	for i, x := range []struct {
		p     api.Profile
		minor int
		l     []api.Field
		want  api.Errno
	}{
		{0, 1, nil, 400},
		{0, 1, fieldsOf("Hosts", "a", "X-Host", "b", "Hos", "c", "", "d"), 400},
		{0, 0, nil, 0},
		{0, 1, fieldsOf("Host", "a"), 0},
		{0, 1, fieldsOf("X", "(", "hOST", "a:65535", "Y", ""), 0},
		{0, 0, fieldsOf("HOST", "a-._~Z9"), 0},
		{0, 1, fieldsOf("Host", ""), 400},
		{0, 0, fieldsOf("Host", ""), 400},
		{0, 0, fieldsOf("host", "a b"), 400},
		{0, 1, fieldsOf("Host", "a:65536"), 400},
		{0, 1, fieldsOf("Host", "a:"), 400},
		{0, 1, fieldsOf("Host", " a"), 400},
		{0, 1, fieldsOf("Host", "a, b"), 400},
		{0, 1, fieldsOf("Host", "a", "host", "a"), 400},
		{0, 0, fieldsOf("Host", "a", "host", "b"), 400},
		{every &^ q(api.NoHost), 1, nil, 400},
		{every &^ q(api.NoHost), 0, nil, 0},
		{q(api.NoHost), 1, nil, 0},
		{q(api.NoHost), 1, fieldsOf("Host", ""), 400},
		{q(api.NoHost), 1, fieldsOf("Host", "a", "Host", "a"), 400},
		{every &^ q(api.ManyHosts), 0, fieldsOf("Host", "a", "Host", "a"), 400},
		{q(api.ManyHosts), 1, nil, 400},
		{q(api.ManyHosts), 1, fieldsOf("Host", "a", "host", "b:1"), 0},
		{q(api.ManyHosts), 0, fieldsOf("Host", "a", "host", "b:1", "HOST", "a"), 0},
		{q(api.ManyHosts), 1, fieldsOf("Host", "a", "host", "b:x"), 400},
		{q(api.ManyHosts), 0, fieldsOf("Host", "(", "host", "b"), 400},
		{q(api.ManyHosts), 0, fieldsOf("Host", "a", "host", "", "Host", "b"), 400},
		{every, 1, fieldsOf("Host", "a", "Host", "b@"), 400},
	} {
		if got := Hosts(x.p, x.minor, x.l); got != x.want {
			t.Errorf("P10.1: Hosts %d: %d, want %d", i, got, x.want)
		}
		if got := hostsAsWritten(x.p, x.minor, x.l); got != x.want {
			t.Errorf("P10.1: as written, Hosts %d: %d, want %d", i, got, x.want)
		}
	}
}

// P10.1: each list of a few Hosts, other fields among them.
func TestEachHosts(t *testing.T) {
	long := strings.Repeat("a", 255)
	values := []string{"a", "b:80", "", "a b", ":1", "c:00001", "c:000001", long, long + "a", "\xff"}
	lists(values, 3, func(hosts []string) {
		l := fieldsOf("X", "(")
		for i, f := range named("Host", hosts) {
			if i%2 == 1 {
				f.Name = "hoST"
			}
			l = append(l, f, api.Field{Name: "Via", Value: "Host"})
		}
		for _, p := range profiles(hostClauses) {
			for minor := -1; minor <= 2; minor++ {
				hostsHold(t, p, minor, l)
			}
		}
	})
	for i := range 256 {
		c := string([]byte{byte(i)})
		for _, s := range []string{c, c + "a", "a" + c, "a:1" + c, "a:" + c} {
			hostsHold(t, 0, i%2, fieldsOf("Host", s))
			hostsHold(t, every, i%2, fieldsOf("Host", "a", "Host", s))
		}
	}
}

// P10.1: texts that say chunked, and others.
func TestCoding(t *testing.T) {
	q := quirks.Of
	blanks, list := q(api.TEBlanks), q(api.TEList)
	for i, x := range []struct {
		p    api.Profile
		l    []string
		want bool
	}{
		{0, nil, false},
		{0, []string{}, false},
		{0, []string{""}, false},
		{0, []string{"chunked"}, true},
		{0, []string{"CHUNKED"}, true},
		{0, []string{" \tcHuNkEd\t "}, true},
		{0, []string{"chun\u212aed"}, false},
		{0, []string{"chunke"}, false},
		{0, []string{"chunkedd"}, false},
		{0, []string{"xchunked"}, false},
		{0, []string{"chunked x"}, false},
		{0, []string{"chun ked"}, false},
		{0, []string{"\"chunked\""}, false},
		{0, []string{"chunked;a=b"}, false},
		{0, []string{"identity"}, false},
		{0, []string{"chunked,"}, false},
		{0, []string{",chunked"}, false},
		{0, []string{"", "chunked"}, false},
		{0, []string{"chunked", ""}, false},
		{0, []string{"chunked", "chunked"}, false},
		{0, []string{"gzip, chunked"}, false},
		{0, []string{"\vchunked"}, false},
		{0, []string{"chunked\f"}, false},
		{0, []string{"chunked\r"}, false},
		{0, []string{"chunked\u00a0"}, false},
		{blanks, []string{"\v\f chunked\t\f\v"}, true},
		{blanks, []string{"\v"}, false},
		{blanks, []string{"chunk\ved"}, false},
		{blanks, []string{"chunked\r"}, false},
		{blanks, []string{"chunked\n"}, false},
		{blanks, []string{"chunked\x00"}, false},
		{blanks, []string{"chunked\u0085"}, false},
		{blanks, []string{"\v,chunked"}, false},
		{blanks, []string{"x, chunked"}, false},
		{every &^ blanks, []string{"chunked\v"}, false},
		{list, []string{"gzip, chunked"}, true},
		{list, []string{"gzip", "x", "Chunked"}, true},
		{list, []string{",,chunked"}, true},
		{list, []string{"", "chunked"}, true},
		{list, []string{"chunked\v, chunked"}, true},
		{list, []string{"chunked"}, true},
		{list, nil, false},
		{list, []string{"", ""}, false},
		{list, []string{"chunked, chunked"}, false},
		{list, []string{"chunked", "gzip", "chunked"}, false},
		{list, []string{"chunked, gzip"}, false},
		{list, []string{"gzip, chunked,"}, false},
		{list, []string{"gzip, chunked\v"}, false},
		{list | blanks, []string{"chunked\v, chunked"}, false},
		{list | blanks, []string{"\v, \fchunked"}, true},
		{every &^ list, []string{"gzip, chunked"}, false},
	} {
		if got := Coding(x.p, x.l...); got != x.want {
			t.Errorf("P10.1: Coding %d of %q: %v", i, x.l, got)
		}
		codingHolds(t, x.p, x.l)
	}
}

// P10.1: each list of a few codings; each byte around one.
func TestEachCoding(t *testing.T) {
	all := profiles(codingClauses)
	values := []string{"chunked", "Chunked ", "gzip", "", "chunked\v", "\f chunked", "x,chunked", "chunked,", "chunkedchunked"}
	lists(values, 3, func(l []string) {
		for _, p := range all {
			codingHolds(t, p, l)
		}
	})
	for i := range 256 {
		c := string([]byte{byte(i)})
		for _, s := range []string{c, c + "chunked", "chunked" + c, "chun" + c + "ed", "chu" + c + "nked", " " + c + " chunked " + c, "a" + c + "chunked"} {
			for _, p := range all {
				codingHolds(t, p, []string{s})
				codingHolds(t, p, []string{"a", s})
				codingHolds(t, p, []string{s, "chunked"})
			}
		}
	}
}

// P10.1: codings at random.
func TestRandomCodings(t *testing.T) {
	pieces := []string{"chunked", ",", " ", "CHUNKED", "\v", "\f", "\t", "gzip", ", ", "chun", "ked", "\r", "\u212a", "\x00", "\xff", ";"}
	r := rand.New(rand.NewSource(101))
	for range 30000 {
		l := make([]string, r.Intn(4))
		for i := range l {
			for range r.Intn(6) {
				l[i] += pieces[r.Intn(1+r.Intn(len(pieces)))]
			}
		}
		for _, p := range profiles(codingClauses) {
			codingHolds(t, p, l)
		}
	}
}

// P10.1: lengths of one value and of several.
func TestLength(t *testing.T) {
	q := quirks.Of
	plus, comma, first, last := q(api.CLPlus), q(api.CLComma), q(api.CLFirst), q(api.CLLast)
	for i, x := range []struct {
		p    api.Profile
		l    []string
		want int
		e    api.Errno
	}{
		{0, nil, 0, 0}, {every, nil, 0, 0}, {every, []string{}, 0, 0},
		{0, []string{"0"}, 0, 0}, {0, []string{"100"}, 100, 0}, {0, []string{"101"}, 0, 413}, {0, []string{"000100"}, 100, 0},
		{0, []string{strings.Repeat("9", 400)}, 0, 413}, {0, []string{"18446744073709551616"}, 0, 413}, {0, []string{"18446744073709551621"}, 0, 413},
		{0, []string{""}, 0, 400}, {0, []string{" 5"}, 0, 400}, {0, []string{"5 "}, 0, 400}, {0, []string{"+5"}, 0, 400}, {0, []string{"-5"}, 0, 400}, {0, []string{"5x"}, 0, 400}, {0, []string{"0x5"}, 0, 400}, {0, []string{"a"}, 0, 400}, {0, []string{"5.0"}, 0, 400}, {0, []string{"1e1"}, 0, 400}, {0, []string{"1_0"}, 0, 400}, {0, []string{"\u0665"}, 0, 400}, {0, []string{"999x"}, 0, 400},
		{0, []string{"5", "5"}, 0, 400}, {0, []string{"5,5"}, 0, 400}, {0, []string{"101", "101"}, 0, 400}, {plus, []string{"5", "5"}, 0, 400},
		{plus, []string{"+5"}, 5, 0}, {plus, []string{"5"}, 5, 0}, {plus, []string{"+005"}, 5, 0}, {plus, []string{"++5"}, 0, 400}, {plus, []string{"+"}, 0, 400}, {plus, []string{""}, 0, 400}, {plus, []string{"5+"}, 0, 400}, {plus, []string{"+-5"}, 0, 400}, {plus, []string{"-5"}, 0, 400}, {plus, []string{" +5"}, 0, 400}, {plus, []string{"+ 5"}, 0, 400}, {plus, []string{"+101"}, 0, 413},
		{every &^ plus, []string{"+5"}, 0, 400},
		{comma, []string{"5"}, 5, 0}, {comma, []string{" 5\t"}, 5, 0}, {comma, []string{"5,5"}, 5, 0}, {comma, []string{"5", "5 ,\t5"}, 5, 0}, {comma, []string{"101, 101"}, 0, 413}, {comma, []string{"5, 6"}, 0, 400}, {comma, []string{"5, 5, 6"}, 0, 400}, {comma, []string{"6, 5, 5"}, 0, 400}, {comma, []string{"5, 6, 5"}, 0, 400}, {comma, []string{"5", "05"}, 0, 400}, {comma, []string{"5,"}, 0, 400}, {comma, []string{",5"}, 0, 400}, {comma, []string{","}, 0, 400}, {comma, []string{"x, x"}, 0, 400}, {comma, []string{""}, 0, 400}, {comma, []string{"+5, +5"}, 0, 400},
		{comma | plus, []string{"+5, +5"}, 5, 0}, {comma | plus, []string{"+5, 5"}, 0, 400},
		{first, []string{"5", "6"}, 5, 0}, {first, []string{"5", "x"}, 5, 0}, {first, []string{"x", "5"}, 0, 400}, {first, []string{"5", "101"}, 5, 0}, {first, []string{"101", "5"}, 0, 413}, {first, []string{"5, 6"}, 0, 400}, {first, []string{"7", "7", "8"}, 7, 0}, {first, []string{"", "5"}, 0, 400},
		{last, []string{"5", "6"}, 6, 0}, {last, []string{"x", "6"}, 6, 0}, {last, []string{"5", "x"}, 0, 400}, {last, []string{"101", "5"}, 5, 0}, {last, []string{"5", "101"}, 0, 413}, {last, []string{"5", "6, 7"}, 0, 400}, {last, []string{"5", ""}, 0, 400},
		{first | last, []string{"5", "6"}, 5, 0}, {first | last, []string{"x", "6"}, 0, 400},
		{comma | first, []string{"5, 6"}, 5, 0}, {comma | first, []string{"5, 6", "7"}, 5, 0}, {comma | first, []string{",5"}, 0, 400},
		{comma | last, []string{"5, 6"}, 6, 0}, {comma | last, []string{"5", "6, 7"}, 7, 0}, {comma | last, []string{"5,"}, 0, 400}, {comma | last, []string{"5, 05"}, 5, 0}, {comma | last, []string{"5, +8"}, 0, 400},
		{comma | last | plus, []string{"5, +8"}, 8, 0},
		{every, []string{"+5 , 6", "x"}, 5, 0},
	} {
		if got, e := Length(x.p, 100, x.l...); got != x.want || e != x.e {
			t.Errorf("P10.1: Length %d of %q, %#x: %d, %d", i, x.l, x.p, got, e)
		}
		lengthHolds(t, x.p, 100, x.l)
	}
}

// P10.1: each list of a few lengths; each byte around one.
func TestEachLength(t *testing.T) {
	all := profiles(lengthClauses)
	values := []string{"5", "05", "100", "101", "+5", " 5", "", "5,5", "5, 6", "x", "++5", "7,"}
	lists(values, 3, func(l []string) {
		for _, p := range all {
			lengthHolds(t, p, 100, l)
		}
	})
	for i := range 256 {
		c := string([]byte{byte(i)})
		for _, s := range []string{c, c + "5", "5" + c, "5" + c + "5", "+" + c, "+" + c + "5", c + "+5", c + c} {
			for _, p := range all {
				lengthHolds(t, p, 100, []string{s})
				lengthHolds(t, p, 60, []string{s, s})
				lengthHolds(t, p, 100, []string{"5", s, "6"})
			}
		}
	}
}

// P10.1: at the most, and one past it, whatever the most is.
func TestMost(t *testing.T) {
	for _, most := range []int{math.MinInt, -100, -1, 0, 1, 9, 10, 99, 1 << 20, math.MaxInt32, math.MaxInt - 1, math.MaxInt} {
		bound := big.NewInt(int64(max(most, 0)))
		for step := int64(-2); step <= 2; step++ {
			n := new(big.Int).Add(bound, big.NewInt(step)).String()
			for _, s := range []string{n, "0" + n, "00000000000000000000000" + n, "+" + n, n + "0", n + "x"} {
				for _, p := range profiles(lengthClauses) {
					lengthHolds(t, p, most, []string{s})
					lengthHolds(t, p, most, []string{s, s})
				}
			}
		}
	}
}

// P10.1: lengths at random.
func TestRandomLengths(t *testing.T) {
	pieces := []string{"5", "0", ",", "+", " ", "6", "\t", "x", "-", "\v", "\u0665", "\xff", "99999999999999999999"}
	r := rand.New(rand.NewSource(102))
	for range 30000 {
		l := make([]string, r.Intn(4))
		for i := range l {
			for range 1 + r.Intn(5) {
				l[i] += pieces[r.Intn(1+r.Intn(len(pieces)))]
			}
		}
		most := r.Intn(1 << r.Intn(20))
		for _, p := range profiles(lengthClauses) {
			lengthHolds(t, p, most, l)
		}
	}
}

// P10.1: values of any length, and any number of them.
func TestLongValues(t *testing.T) {
	n := 1 << 18
	noughts := strings.Repeat("0", 4*n) + "7"
	commas := strings.Repeat("7,", n) + "7"
	many := strings.Split(commas, ",")
	q := quirks.Of
	for i, x := range []struct {
		p    api.Profile
		l    []string
		want int
		e    api.Errno
	}{
		{0, []string{noughts}, 7, 0},
		{q(api.CLPlus), []string{"+" + noughts}, 7, 0},
		{0, []string{strings.Repeat("1", 4*n)}, 0, 413},
		{0, []string{strings.Repeat("1", 4*n) + "x"}, 0, 400},
		{q(api.CLComma), []string{commas}, 7, 0},
		{q(api.CLComma), many, 7, 0},
		{q(api.CLComma), []string{commas + "8"}, 0, 400},
		{q(api.CLComma, api.CLLast), []string{commas + "8"}, 78, 0},
		{0, many, 0, 400},
		{q(api.CLFirst), many, 7, 0},
	} {
		if got, e := Length(x.p, 100, x.l...); got != x.want || e != x.e {
			t.Errorf("P10.1: Length of long values %d: %d, %d", i, got, e)
		}
	}
	if list := q(api.TEList); !Coding(list, strings.Repeat("gzip,", n)+"chunked") || Coding(list, strings.Repeat("chunked,", n)) || Coding(list, "chunked", strings.Repeat("gzip,", n)+"chunked") {
		t.Error("P10.1: Coding of long values")
	}
	if q := q(api.ManyHosts); Hosts(q, 1, named("Host", many)) != 0 || Hosts(q, 1, named("Host", append(many, ""))) != 400 || Hosts(0, 1, named("Host", many)) != 400 {
		t.Error("P10.1: Hosts of many")
	}
}

// head: a case of Decide: a Host, and names and values behind it.
func head(x ...string) []api.Field { return append(fieldsOf("Host", "a"), fieldsOf(x...)...) }

// P10.2: what is asked first, and what then.
func TestDecide(t *testing.T) {
	b := bounds.Usual()
	none := b
	none.Chunked = false
	q := quirks.Of
	te, cl := "Transfer-Encoding", "Content-Length"
	fixed := func(n int) api.Framing { return api.Framing{Kind: api.Fixed, Length: n} }
	chunks := api.Framing{Kind: api.Chunks}
	bad := api.Framing{}
	for i, x := range []struct {
		p     api.Profile
		b     api.Bounds
		minor int
		l     []api.Field
		want  api.Framing
		e     api.Errno
	}{
		{0, b, 1, head(), fixed(0), 0},
		{0, b, 0, nil, fixed(0), 0},
		{0, none, 1, head("X", "chunked", "Content-Lengths", "7"), fixed(0), 0},
		{0, b, 1, head(cl, "65536"), fixed(65536), 0},
		{0, b, 1, head(cl, "65537"), bad, 413},
		{0, b, 1, head(cl, "x"), bad, 400},
		{0, b, 0, fieldsOf("content-LENGTH", "7"), fixed(7), 0},
		{0, b, 1, head("transfer-ENCODING", "chunked"), chunks, 0},
		{0, none, 1, head(te, "chunked"), bad, 501},
		{0, b, 1, head(te, ""), bad, 501},
		{0, b, 1, head(te, "gzip"), bad, 501},
		{0, b, 1, head(te, "gzip", cl, "x"), bad, 501},
		{0, b, 1, head(te, "chunked", te, "chunked"), bad, 501},
		{0, b, 1, head(te, "chunked", cl, "7"), bad, 400},
		{0, none, 1, head(te, "chunked", cl, "7"), bad, 400},
		{0, b, 1, head(te, "chunked", cl, "999999"), bad, 400},
		{0, b, 0, head(te, "chunked"), bad, 400},
		{0, none, 0, head(te, "chunked"), bad, 400},
		{0, b, 0, head(te, "gzip"), bad, 400},
		{0, b, 0, head(te, "gzip", cl, "999999"), bad, 400},
		{0, b, 1, fieldsOf(te, "gzip"), bad, 400},
		{0, b, 1, fieldsOf(cl, "999999"), bad, 400},
		{0, b, 1, fieldsOf("Host", "(", te, "gzip"), bad, 400},
		{q(api.TEOld), b, 0, head(te, "chunked"), chunks, 0},
		{q(api.TEOld), none, 0, head(te, "chunked"), bad, 501},
		{q(api.TEOld), b, 0, head(te, "gzip"), bad, 501},
		{q(api.TEOld), b, 0, head(te, "chunked", cl, "7"), bad, 400},
		{every &^ q(api.TEOld), b, 0, head(te, "chunked"), bad, 400},
		{every &^ q(api.TEOld), b, 0, head(te, "gzip", cl, "7"), bad, 400},
		{q(api.TEIgnore), b, 1, head(te, "gzip"), fixed(0), 0},
		{q(api.TEIgnore), none, 1, head(te, "gzip", cl, "7"), fixed(7), 0},
		{q(api.TEIgnore), b, 1, head(te, "gzip", cl, "x"), bad, 400},
		{q(api.TEIgnore), b, 1, head(te, "gzip", cl, "65537"), bad, 413},
		{q(api.TEIgnore), b, 1, head(te, "chunked"), chunks, 0},
		{q(api.TEIgnore), b, 1, head(te, "chunked", cl, "7"), bad, 400},
		{every &^ q(api.TEIgnore), b, 1, head(te, "gzip", cl, "7"), bad, 501},
		{q(api.TEWins), b, 1, head(te, "chunked", cl, "x", cl, "y"), chunks, 0},
		{q(api.TEWins), none, 1, head(te, "chunked", cl, "7"), bad, 501},
		{q(api.TEWins), b, 1, head(te, "gzip", cl, "7"), bad, 501},
		{q(api.CLWins), b, 1, head(te, "chunked", cl, "7"), fixed(7), 0},
		{q(api.CLWins), none, 1, head(te, "chunked", cl, "7"), fixed(7), 0},
		{q(api.CLWins), b, 1, head(te, "chunked", cl, "x"), bad, 400},
		{q(api.CLWins), b, 1, head(te, "chunked", cl, "65537"), bad, 413},
		{q(api.CLWins), b, 1, head(te, "chunked"), chunks, 0},
		{q(api.CLWins), none, 1, head(te, "chunked"), bad, 501},
		{q(api.CLWins), b, 1, head(te, "gzip", cl, "7"), bad, 501},
		{q(api.CLWins, api.TEWins), b, 1, head(te, "chunked", cl, "7"), chunks, 0},
		{q(api.CLWins, api.TEWins), none, 1, head(te, "chunked", cl, "7"), bad, 501},
		{every &^ q(api.CLWins) &^ q(api.TEWins), b, 1, head(te, "chunked", cl, "7"), bad, 400},
		{q(api.TEBlanks), b, 1, head(te, "\vchunked"), chunks, 0},
		{q(api.TEList), b, 1, head(te, "gzip", "X", "y", te, "chunked"), chunks, 0},
		{q(api.CLPlus), b, 1, head(cl, "+7"), fixed(7), 0},
		{q(api.CLComma), b, 1, head(cl, "7", cl, "7"), fixed(7), 0},
		{q(api.CLFirst), b, 1, head(cl, "7", cl, "8"), fixed(7), 0},
		{q(api.CLLast), b, 1, head(cl, "7", cl, "8"), fixed(8), 0},
		{q(api.NoHost), b, 1, fieldsOf(cl, "7"), fixed(7), 0},
		{q(api.ManyHosts), b, 1, head("host", "b", te, "chunked"), chunks, 0},
	} {
		got, e := Decide(x.p, x.b, x.minor, x.l)
		if got != x.want || e != x.e {
			t.Errorf("P10.2: Decide %d: %+v, %d, want %+v, %d", i, got, e, x.want, x.e)
		}
		decideHolds(t, x.p, x.b, x.minor, x.l)
	}
}

// heads calls f with each choice of Hosts, codings and lengths.
func heads(f func(l []api.Field)) {
	hosts := [][]string{nil, {"a"}, {"("}, {"a", "b:1"}, {"a", ""}}
	codings := [][]string{nil, {"chunked"}, {"gzip"}, {"gzip, Chunked"}, {"chunked\v"}, {"x", "chunked"}, {""}, {"chunked", "chunked"}}
	lengths := [][]string{nil, {"7"}, {"x"}, {"+7"}, {"7, 7"}, {"7", "7"}, {"7", "8"}, {"8", "+9"}, {"17"}, {"17", "7"}, {""}}
	for _, h := range hosts {
		for _, te := range codings {
			for _, cl := range lengths {
				f(slices.Concat(named("Content-length", cl), fieldsOf("A", "b"), named("hosT", h), named("transfer-Encoding", te)))
			}
		}
	}
}

// P10.2: each choice of Hosts, codings and lengths, of many profiles.
func TestEachHead(t *testing.T) {
	few := profiles([]int{api.NoHost, api.TEIgnore, api.TEOld, api.TEWins, api.CLWins})
	all := profiles(ownClauses)
	r := rand.New(rand.NewSource(103))
	heads(func(l []api.Field) {
		for _, ch := range []bool{false, true} {
			b := api.Bounds{Body: 16, Chunked: ch}
			for minor := -1; minor <= 2; minor++ {
				for _, p := range few {
					decideHolds(t, p, b, minor, l)
					decideHolds(t, all[r.Intn(len(all))], b, minor, l)
				}
			}
		}
	})
}

// P10.2: each set of the clauses, of heads that they have a say in.
func TestEachProfile(t *testing.T) {
	te, cl := "Transfer-Encoding", "Content-Length"
	l := [][]api.Field{
		fieldsOf(te, "gzip, \vchunked", cl, "+7, 8"),
		fieldsOf("Host", "a", "Host", "b", te, "chunked", cl, "7", cl, "7"),
		head(te, "chunked", cl, "17", cl, "7"),
		head(te, "gzip", cl, "7, 7"),
		head(te, "chunked\f", te, "chunked", cl, "+7"),
	}
	for _, p := range profiles(ownClauses) {
		for i, fields := range l {
			b := api.Bounds{Body: 16, Chunked: i%2 == 0 || p%3 == 0}
			decideHolds(t, p, b, 0, fields)
			decideHolds(t, p, b, 1, fields)
		}
	}
}

// P10.1, P10.2: no clause but their own has a say in the calls.
func TestOtherClauses(t *testing.T) {
	r := rand.New(rand.NewSource(104))
	b := api.Bounds{Body: 16, Chunked: true}
	hostBits, codingBits, lengthBits, bits := quirks.Of(hostClauses...), quirks.Of(codingClauses...), quirks.Of(lengthClauses...), quirks.Of(ownClauses...)
	heads(func(l []api.Field) {
		codings, lengths := valuesOf(l, "transfer-encoding"), valuesOf(l, "content-length")
		for range 20 {
			p, minor := api.Profile(r.Uint32()), r.Intn(2)
			if Hosts(p, minor, l) != Hosts(p&hostBits, minor, l) {
				t.Fatalf("P10.1: Hosts(%#x, %d, %+q)", p, minor, l)
			}
			if Coding(p, codings...) != Coding(p&codingBits, codings...) {
				t.Fatalf("P10.1: Coding(%#x, %q)", p, codings)
			}
			got, errno := Length(p, 16, lengths...)
			if want, wantErrno := Length(p&lengthBits, 16, lengths...); got != want || errno != wantErrno {
				t.Fatalf("P10.1: Length(%#x, %q): %d, %d", p, lengths, got, errno)
			}
			framed, errno := Decide(p, b, minor, l)
			if want, wantErrno := Decide(p&bits, b, minor, l); framed != want || errno != wantErrno {
				t.Fatalf("P10.2: Decide(%#x, %d, %+q): %+v, %d", p, minor, l, framed, errno)
			}
		}
	})
}

// P10.2: of the bounds, Chunked and Body alone have a say, right or not.
func TestBounds(t *testing.T) {
	r := rand.New(rand.NewSource(105))
	heads(func(l []api.Field) {
		for _, body := range []int{math.MinInt, -1, 0, 6, 7, 8, 17, math.MaxInt} {
			p, ch := api.Profile(r.Uint32()), r.Intn(2) == 1
			b := api.Bounds{Body: body, Chunked: ch}
			other := api.Bounds{Line: r.Int() - r.Int(), Fields: -r.Int(), Head: r.Int() - r.Int(), Body: body, Ext: -1, Trailers: r.Int(), Wait: -5, Idle: r.Intn(9), Chunked: ch, Old: true}
			decideHolds(t, p, b, 1, l)
			decideHolds(t, p, other, 1, l)
			decideHolds(t, p, other, 0, l)
		}
	})
}

// P10.1, P10.2: minor versions that there aren't: nothing is asked of them but
// what is asked of all.
func TestOtherMinors(t *testing.T) {
	b := bounds.Usual()
	for _, minor := range []int{math.MinInt, -1, 2, 9, 256, 257, math.MaxInt} {
		if got := Hosts(0, minor, nil); got != 0 {
			t.Errorf("P10.1: Hosts of minor %d without one: %d", minor, got)
		}
		if got := Hosts(0, minor, fieldsOf("Host", "a", "Host", "a")); got != 400 {
			t.Errorf("P10.1: Hosts of minor %d: %d", minor, got)
		}
		if got, errno := Decide(0, b, minor, fieldsOf("Transfer-Encoding", "chunked")); got.Kind != api.Chunks || errno != 0 {
			t.Errorf("P10.2: Decide of minor %d: %+v, %d", minor, got, errno)
		}
	}
}

// P10.2: what no clause is needed for, every profile decides alike.
func TestStrictHeads(t *testing.T) {
	r := rand.New(rand.NewSource(106))
	seen := map[int]int{}
	heads(func(l []api.Field) {
		for minor := range 2 {
			for _, b := range []api.Bounds{{Body: 16, Chunked: true}, {Body: 7}} {
				want, errno := Decide(0, b, minor, l)
				if errno != 0 {
					continue
				}
				seen[want.Kind]++
				for range 200 {
					p := api.Profile(r.Uint32())
					if got, errno := Decide(p, b, minor, l); got != want || errno != 0 {
						t.Fatalf("P10.2: Decide(%#x, %d, %+q): %+v, %d, want %+v", p, minor, l, got, errno, want)
					}
				}
			}
		}
	})
	if seen[api.Fixed] < 4 || seen[api.Chunks] < 1 {
		t.Errorf("P10.2: heads that are strict: %v", seen)
	}
}

// P10.3: one end, or an error and none.
func TestOneEnd(t *testing.T) {
	r := rand.New(rand.NewSource(107))
	heads(func(l []api.Field) {
		for range 50 {
			p, body := api.Profile(r.Uint32()), r.Intn(30)
			got, errno := Decide(p, api.Bounds{Body: body, Chunked: r.Intn(2) == 1}, r.Intn(2), l)
			switch {
			case errno == 400 || errno == 413 || errno == 501:
				if got != (api.Framing{}) {
					t.Fatalf("P10.3: beside error %d: %+v", errno, got)
				}
			case errno != 0:
				t.Fatalf("P10.3: error %d", errno)
			case got.Kind == api.Chunks && got.Length == 0:
			case got.Kind == api.Fixed && got.Length >= 0 && got.Length <= body:
			default:
				t.Fatalf("P10.3: %+v of Body %d", got, body)
			}
		}
	})
}

// P10.1, P10.2: the calls leave their lists as they were, the spare room behind
// them too.
func TestListsStay(t *testing.T) {
	room := fieldsOf("Host", "a", "Content-Length", " 7 , 7", "Transfer-Encoding", "\vchunked ", "Host", "b", "X", "y", "Z", "")
	ahead := slices.Clone(room)
	values := []string{" 7 , 8", "CHUNKED, 9 ", "8\t", "spare", "room"}
	valuesAhead := slices.Clone(values)
	for _, p := range append(profiles(ownClauses), every) {
		Decide(p, bounds.Usual(), 1, room[:4])
		Hosts(p, 1, room[:4])
		Coding(p, values[:3]...)
		Length(p, 100, values[:3]...)
	}
	if !slices.Equal(room, ahead) || !slices.Equal(values, valuesAhead) {
		t.Errorf("P10.2: the lists changed: %+q, %q", room, values)
	}
}
