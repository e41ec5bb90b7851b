package request

import (
	"math"
	"math/rand"
	"regexp"
	"strconv"
	"strings"
	"testing"

	"parallax/api"
	"parallax/bounds"
	"parallax/quirks"
	"parallax/target"
)

// The chapter's parts, written out as patterns.
var (
	single      = regexp.MustCompile(`\A([^ ]+) ([^ ]+)(?: ([^ ]+))?\z`)
	singleMore  = regexp.MustCompile(`\A([^ ]+) ([^ ]+(?: [^ ]+)*) ([^ ]+)\z`)
	blanks      = regexp.MustCompile(`\A[ \t]*([^ \t]+)[ \t]+([^ \t]+)(?:[ \t]+([^ \t]+))?[ \t]*\z`)
	blanksMore  = regexp.MustCompile(`\A[ \t]*([^ \t]+)[ \t]+([^ \t]+(?:[ \t]+[^ \t]+)*)[ \t]+([^ \t]+)[ \t]*\z`)
	methodForm  = regexp.MustCompile("\\A[A-Za-z0-9!#$%&'*+\\-.^_`|~]{1,32}\\z")
	versionForm = regexp.MustCompile(`\AHTTP/1\.([0-9])\z`)
	caseForm    = regexp.MustCompile(`\A[hH][tT][tT][pP]/1\.([0-9])\z`)
	targetForms = [4]*regexp.Regexp{
		regexp.MustCompile(`\A[\x21-\x7e]+\z`),
		regexp.MustCompile(`\A[\x21-\x7e \t]+\z`),
		regexp.MustCompile(`\A[\x21-\x7e\x00-\x1f\x7f]+\z`),
		regexp.MustCompile(`\A[\x21-\x7e \t\x00-\x1f\x7f]+\z`),
	}
)

// read: what Parse answers.
type read struct {
	method, target string
	minor          int
	errno          api.Errno
}

func parse(s string, p api.Profile, b api.Bounds) read {
	method, asked, minor, errno := Parse(s, p, b)
	return read{method, asked, minor, errno}
}

// partsAsWritten: the chapter's parts; the version is "" where there is none.
func partsAsWritten(s string, p api.Profile) []string {
	few, more := single, singleMore
	if p&(1<<api.Blanks) != 0 {
		few, more = blanks, blanksMore
	}
	if m := few.FindStringSubmatch(s); m != nil && (m[3] != "" || p&(1<<api.NoVersion) != 0) {
		return m[1:]
	}
	if m := more.FindStringSubmatch(s); m != nil && p&(1<<api.Spaces) != 0 {
		return m[1:]
	}
	return nil
}

// asWritten: the chapter's Parse.
func asWritten(s string, p api.Profile, b api.Bounds) read {
	parts := partsAsWritten(s, p)
	if parts == nil || !methodForm.MatchString(parts[0]) {
		return read{errno: 400}
	}
	var lets int
	if p&(1<<api.Spaces) != 0 {
		lets |= 1
	}
	if p&(1<<api.Controls) != 0 {
		lets |= 2
	}
	if !targetForms[lets].MatchString(parts[1]) {
		return read{errno: 400}
	}
	if _, errno := target.Parse(parts[0], parts[1]); lets == 0 && errno != 0 {
		return read{errno: 400}
	}
	form := versionForm
	if p&(1<<api.AnyCase) != 0 {
		form = caseForm
	}
	digit := "0"
	if parts[2] != "" {
		m := form.FindStringSubmatch(parts[2])
		if m == nil || m[1] > "1" && p&(1<<api.Minor) == 0 {
			return read{errno: 505}
		}
		digit = m[1]
	}
	if digit == "0" {
		if !b.Old {
			return read{errno: 505}
		}
		return read{parts[0], parts[1], 0, 0}
	}
	return read{parts[0], parts[1], 1, 0}
}

// own: the clauses that a request line's reader looks at.
var own = []int{api.Blanks, api.Minor, api.AnyCase, api.NoVersion, api.Spaces, api.Controls}

// profiles: each set of the clauses of own.
func profiles() []api.Profile {
	l := []api.Profile{0}
	for _, clause := range own {
		for _, p := range l {
			l = append(l, p|1<<clause)
		}
	}
	return l
}

// both: bounds with Old and without.
func both() (with, without api.Bounds) {
	with = bounds.Usual()
	without = with
	without.Old = false
	return with, without
}

// holds holds Parse of s against the chapter's words, of each profile of own.
func holds(t *testing.T, s string) {
	t.Helper()
	with, without := both()
	for _, p := range profiles() {
		for _, b := range []api.Bounds{with, without} {
			if got, want := parse(s, p, b), asWritten(s, p, b); got != want {
				t.Fatalf("P8.1: Parse(%q, %#x) with Old %v: %+v, want %+v", s, p, b.Old, got, want)
			}
		}
	}
}

// texts calls f with each text of these pieces of at most so many.
func texts(pieces []string, most int, f func(s string)) {
	l := []string{""}
	for range most + 1 {
		var longer []string
		for _, s := range l {
			f(s)
			for _, piece := range pieces {
				longer = append(longer, s+piece)
			}
		}
		l = longer
	}
}

// one answers the text of just that byte.
func one(c int) string { return string([]byte{byte(c)}) }

// P8.1: the numbers of package api.
func TestNumbers(t *testing.T) {
	if api.ErrBad != 400 || api.ErrVersion != 505 {
		t.Error("P8.1: package api's numbers")
	}
	clauses := [6]int{api.Blanks, api.Minor, api.AnyCase, api.NoVersion, api.Spaces, api.Controls}
	if clauses != [6]int{3, 4, 5, 6, 7, 8} {
		t.Error("P8.1: package api's clauses")
	}
}

// P8.1: lines that are read, and what of them.
func TestRead(t *testing.T) {
	with, _ := both()
	q := quirks.Of
	m32 := strings.Repeat("aZ09!#$%&'*+-.^_`|~", 2)[:32]
	for _, x := range []struct {
		s    string
		p    api.Profile
		want read
	}{
		{"GET / HTTP/1.1", 0, read{"GET", "/", 1, 0}},
		{"GET / HTTP/1.0", 0, read{"GET", "/", 0, 0}},
		{"g /a?b HTTP/1.1", 0, read{"g", "/a?b", 1, 0}},
		{m32 + " / HTTP/1.1", 0, read{m32, "/", 1, 0}},
		{"GET http://a HTTP/1.1", 0, read{"GET", "http://a", 1, 0}},
		{"CONNECT a:80 HTTP/1.1", 0, read{"CONNECT", "a:80", 1, 0}},
		{"OPTIONS * HTTP/1.0", 0, read{"OPTIONS", "*", 0, 0}},
		{"GET\t/  HTTP/1.1", q(api.Blanks), read{"GET", "/", 1, 0}},
		{"\t GET \t / \t HTTP/1.1 \t", q(api.Blanks), read{"GET", "/", 1, 0}},
		{"GET / HTTP/1.9", q(api.Minor), read{"GET", "/", 1, 0}},
		{"GET / HTTP/1.0", q(api.Minor), read{"GET", "/", 0, 0}},
		{"GET / http/1.0", q(api.AnyCase), read{"GET", "/", 0, 0}},
		{"GET / HttP/1.2", q(api.AnyCase, api.Minor), read{"GET", "/", 1, 0}},
		{"GET /", q(api.NoVersion), read{"GET", "/", 0, 0}},
		{"GET /HTTP/1.1", q(api.NoVersion), read{"GET", "/HTTP/1.1", 0, 0}},
		{" GET\t/ ", q(api.NoVersion, api.Blanks), read{"GET", "/", 0, 0}},
		{"GET HTTP/1.1", q(api.NoVersion, api.Spaces), read{"GET", "HTTP/1.1", 0, 0}},
		{"GET / HTTP/1.1 HTTP/1.1", q(api.Spaces), read{"GET", "/ HTTP/1.1", 1, 0}},
		{"GET a b c d HTTP/1.1", q(api.Spaces), read{"GET", "a b c d", 1, 0}},
		{"GET \ta\t b\t HTTP/1.1", q(api.Spaces), read{"GET", "\ta\t b\t", 1, 0}},
		{"GET \t \t HTTP/1.1", q(api.Spaces), read{"GET", "\t \t", 1, 0}},
		{" GET\t \ta\t b\t\tHTTP/1.1\t", q(api.Spaces, api.Blanks), read{"GET", "a\t b", 1, 0}},
		{"GET \x00\x01\t\r\n\x1f\x7f HTTP/1.1", q(api.Controls), read{"GET", "\x00\x01\t\r\n\x1f\x7f", 1, 0}},
		{"GET \x00 \x7f HTTP/1.1", q(api.Controls, api.Spaces), read{"GET", "\x00 \x7f", 1, 0}},
		{"GET a HTTP/1.1", q(api.Controls), read{"GET", "a", 1, 0}},
		{"CONNECT / HTTP/1.1", q(api.Spaces), read{"CONNECT", "/", 1, 0}},
	} {
		if got := parse(x.s, x.p, with); got != x.want {
			t.Errorf("P8.1: Parse(%q, %#x): %+v", x.s, x.p, got)
		}
	}
}

// P8.1: lines that are none: too few parts, too many, empty ones, wrong ones.
func TestBad(t *testing.T) {
	with, _ := both()
	q := quirks.Of
	for _, x := range []struct {
		p api.Profile
		l []string
	}{
		{0, []string{"", " ", "  ", "GET", "GET ", "GET /", "GET / ", " GET /", "GET  /", "GET / HTTP/1.1 ", " GET / HTTP/1.1", "GET  / HTTP/1.1", "GET /  HTTP/1.1", "GET  HTTP/1.1", "GET / a HTTP/1.1", "GET\t/\tHTTP/1.1", "GET /\tHTTP/1.1", "GET \t HTTP/1.1", "G:T / HTTP/1.1", "G\xe4T / HTTP/1.1", "GET a HTTP/1.1", "GET * HTTP/1.1", "GET a:80 HTTP/1.1", "CONNECT / HTTP/1.1", "GET /\x7f HTTP/1.1", "GET /\x80 HTTP/1.1", strings.Repeat("a", 33) + " / HTTP/1.1"}},
		{q(api.Blanks), []string{"", " \t", "GET", " GET ", "GET /", "GET / ", "GET / a HTTP/1.1", "GET\v/\vHTTP/1.1", "GET\u00a0/ HTTP/1.1", "GET\u0120/ HTTP/1.1", "GET\u0109/ HTTP/1.1", "GET\x85/ HTTP/1.1 a", "GET \u2003 HTTP/1.1"}},
		{q(api.NoVersion), []string{"", "GET", "GET ", " /", "GET  /", "GET / ", " GET /", "GET a", "GET / a HTTP/1.1"}},
		{q(api.Spaces), []string{"GET /", "GET  HTTP/1.1", "GET  a HTTP/1.1", "GET a  b HTTP/1.1", "GET a b HTTP/1.1 ", " GET a b HTTP/1.1", "GET a\x01b HTTP/1.1", "GET a \x80 HTTP/1.1"}},
		{q(api.Spaces, api.Blanks), []string{"GET  HTTP/1.1", "  GET \t HTTP/1.1 "}},
		{q(api.Controls), []string{"GET / / HTTP/1.1", "GET /\x80 HTTP/1.1", "GET \xff HTTP/1.1", "G\x01T / HTTP/1.1"}},
		{^api.Profile(0), []string{"", " ", "GET", "\tGET\t", "G\x01T / HTTP/1.1", "GET \x80 HTTP/1.1", "GET a \xff b HTTP/1.1"}},
	} {
		for _, s := range x.l {
			if got := parse(s, x.p, with); got != (read{errno: api.ErrBad}) {
				t.Errorf("P8.1: Parse(%q, %#x): %+v", s, x.p, got)
			}
		}
	}
}

// P8.1: versions that aren't known; what else is wrong with the line is named first.
func TestVersions(t *testing.T) {
	with, without := both()
	q := quirks.Of
	every := ^api.Profile(0)
	for _, x := range []struct {
		p api.Profile
		l []string
	}{
		{0, []string{"HTTP/1.2", "HTTP/1.9", "http/1.1", "HTTP/1.", "HTTP/1", "HTTP/1.10", "HTTP/1.01", "HTTP/11", "HTTP/2.0", "HTTP/2", "HTTP/0.9", "HTTP/1,1", "HTTP/1.a", "HTTP/1.\xb1", "HTTP/1.\u0661", "HTTPS/1.1", "HTTP/1.1\t", "\tHTTP/1.1", "\tHTTP/1.", "1.1", "a", "/", "\x00", "\xff"}},
		{q(api.Minor), []string{"http/1.2", "HTTP/1.a", "HTTP/1.22", "HTTP/1.+", "HTTP/1.:", "HTTP/2.2"}},
		{q(api.AnyCase), []string{"http/1.2", "http/2.1", "http/1.", "http\x0f1.1", "http/1\x0e1"}},
		{every, []string{"HTTP/1.", "HTTP/1.a", "HTTP/1.11", "HTTP/2.0", "HTTP/0.9", "HTTPS/1.1", "htt\u03c1/1.1", "a"}},
	} {
		for _, version := range x.l {
			want := read{errno: api.ErrVersion}
			if got := parse("GET / "+version, x.p, with); got != want {
				t.Errorf("P8.1: version %q of %#x: %+v", version, x.p, got)
			}
			want.errno = api.ErrBad
			for _, s := range []string{"G(T / ", "GET a\x80 ", strings.Repeat("a", 33) + " / "} {
				if got := parse(s+version, x.p, with); got != want {
					t.Errorf("P8.1: %q and version %q of %#x: %+v", s, version, x.p, got)
				}
			}
		}
	}
	for p, l := range map[api.Profile][]string{
		0:                        {"GET / HTTP/1.0"},
		q(api.AnyCase):           {"GET / hTTp/1.0"},
		q(api.Minor):             {"GET / HTTP/1.0"},
		q(api.NoVersion):         {"GET /", "GET /a?b"},
		every:                    {"GET /", " GET a\t", "GET a b c http/1.0"},
		q(api.Blanks, api.Minor): {" GET  / HTTP/1.0 "},
	} {
		for _, s := range l {
			if got := parse(s, p, without); got != (read{errno: api.ErrVersion}) {
				t.Errorf("P8.1: Parse(%q, %#x) without Old: %+v", s, p, got)
			}
			if got := parse(s, p, with); got.errno != api.OK || got.minor != 0 {
				t.Errorf("P8.1: Parse(%q, %#x) with Old: %+v", s, p, got)
			}
		}
	}
	for _, s := range []string{"GET", "GET a", "G(T /", "GET a HTTP/1.0", "GET / a HTTP/1.0"} {
		if got := parse(s, q(api.NoVersion), without); got != (read{errno: api.ErrBad}) {
			t.Errorf("P8.1: Parse(%q) without Old: %+v", s, got)
		}
	}
}

// P8.1: each byte, at each place of a line.
func TestEachByte(t *testing.T) {
	for i := range 256 {
		c := one(i)
		for _, s := range []string{
			c, c + c, c + " / HTTP/1.1", c + "GET / HTTP/1.1", "G" + c + "T / HTTP/1.1", "GE" + c + " / HTTP/1.1",
			"GET" + c + "/ HTTP/1.1", "GET " + c + "/ HTTP/1.1", "GET " + c + " HTTP/1.1", "GET /" + c + "a HTTP/1.1", "GET /?" + c + " HTTP/1.1",
			"GET /" + c + "HTTP/1.1", "GET / " + c + "HTTP/1.1", "GET / " + c + "TTP/1.1", "GET / HT" + c + "P/1.1", "GET / HTTP" + c + "1.1", "GET / HTTP/" + c + ".1", "GET / HTTP/1" + c + "1", "GET / HTTP/1." + c, "GET / http/1." + c, "GET / HTTP/1.1" + c,
			"GET " + c, "GET /" + c, "GET" + c + "/", "GET / a" + c + "b HTTP/1.1", "GET a" + c + c + "b HTTP/1.1",
		} {
			holds(t, s)
		}
	}
}

// P8.1: each text of a few pieces.
func TestShortTexts(t *testing.T) {
	texts([]string{" ", "\t", "GET", "/", "HTTP/1.1", "\x01"}, 5, func(s string) { holds(t, s) })
	texts([]string{" ", "\t", "a"}, 5, func(s string) {
		holds(t, "GET"+s+"HTTP/1.0")
		holds(t, s+"GET /a HTTP/1.7"+s)
	})
	texts([]string{"h", "T", "/", "1", ".", "0", "2"}, 2, func(s string) {
		holds(t, "GET / HT"+s+"P/1.1")
		holds(t, "GET / http/"+s)
		holds(t, "GET / HTTP/1."+s)
		holds(t, "GET / "+s)
	})
}

// P8.1: texts at random.
func TestRandomTexts(t *testing.T) {
	pieces := []string{" ", " ", "\t", "GET", "CONNECT", "OPTIONS", "/a?b", "*", "a:80", "http://a", "HTTP/1.1", "http/1.0", "HTTP/1.2", "HTTP/2.0", "/", "a", "\x00", "\v", "\r", "\n", "\x7f", "\x80", "\xff", "\u00a0", "\u0120", "("}
	r := rand.New(rand.NewSource(81))
	for range 6000 {
		var s string
		for range r.Intn(10) {
			s += pieces[r.Intn(1+r.Intn(len(pieces)))]
			if r.Intn(2) == 0 {
				s += " "
			}
		}
		holds(t, s)
		holds(t, "GET "+s+" HTTP/1.1")
	}
}

// P8.1: how long a method may be; a target is of any length.
func TestLengths(t *testing.T) {
	with, _ := both()
	for n := range 70 {
		method := strings.Repeat("ab-C9", n/5+1)[:n]
		want := read{method, "/", 1, 0}
		if n < 1 || n > 32 {
			want = read{errno: api.ErrBad}
		}
		for _, p := range profiles() {
			if p&(1<<api.Blanks) != 0 && n == 0 {
				continue
			}
			if got := parse(method+" / HTTP/1.1", p, with); got != want {
				t.Errorf("P8.1: a method of %d bytes, %#x: %+v", n, p, got)
			}
		}
	}
	for _, x := range []struct {
		asked string
		p     api.Profile
	}{
		{"/" + strings.Repeat("a", 1<<20), 0},
		{strings.Repeat("a b", 1<<16), quirks.Of(api.Spaces)},
		{"a" + strings.Repeat(" \t", 1<<18) + "b", quirks.Of(api.Spaces, api.Blanks)},
		{strings.Repeat("\x01", 1<<18), quirks.Of(api.Controls)},
	} {
		if got := parse("GET "+x.asked+" HTTP/1.1", x.p, with); got != (read{"GET", x.asked, 1, 0}) {
			t.Errorf("P8.1: a target of %d bytes, %#x: %d", len(x.asked), x.p, got.errno)
		}
	}
	for _, s := range []string{strings.Repeat("a", 1<<20) + " / HTTP/1.1", "GET / " + strings.Repeat("HTTP/1.1", 1<<17), strings.Repeat(" ", 1<<20)} {
		for _, p := range []api.Profile{0, ^api.Profile(0)} {
			if got := parse(s, p, with); got.method != "" || got.errno == api.OK {
				t.Errorf("P8.1: far too long a line, %#x: %d", p, got.errno)
			}
		}
	}
}

// P8.1: no clause but its own, and of the bounds Old alone, has a say.
func TestOtherClauses(t *testing.T) {
	var mine api.Profile
	for _, clause := range own {
		mine |= 1 << clause
	}
	r := rand.New(rand.NewSource(82))
	lines := []string{"GET / HTTP/1.1", "GET / HTTP/1.0", "GET / http/1.2", "GET /", " GET  /\t", "GET a b HTTP/1.1", "GET \x00 HTTP/1.0", "", "\r", "G(T / HTTP/1.1", "GET / HTTP/2.0"}
	strange := []api.Bounds{{}, {Line: math.MinInt, Fields: math.MinInt, Head: -1, Body: -1, Ext: -1, Trailers: -1, Wait: -1, Idle: -1, Chunked: true}, {Line: math.MaxInt, Head: math.MaxInt, Body: math.MaxInt}, {Line: 1, Head: 1}}
	for range 3000 {
		s := lines[r.Intn(len(lines))]
		p := api.Profile(r.Uint32())
		b := strange[r.Intn(len(strange))]
		b.Old = r.Intn(2) == 0
		if got, want := parse(s, p, b), asWritten(s, p&mine, b); got != want {
			t.Fatalf("P8.1: Parse(%q, %#x, %+v): %+v, want %+v", s, p, b, got, want)
		}
	}
}

// P8.1: what no clause is needed for, every profile reads alike.
func TestStrictLines(t *testing.T) {
	with, _ := both()
	texts([]string{" ", "OPTIONS", "a", "/", "*", "HTTP/1.0", "HTTP/1.1", "?"}, 5, func(s string) {
		want := parse(s, 0, with)
		if want.errno != api.OK {
			return
		}
		for _, p := range profiles() {
			if got := parse(s, p, with); got != want {
				t.Fatalf("P8.1: Parse(%q, %#x): %+v, want %+v", s, p, got, want)
			}
		}
	})
}

// P8.2: whatever the method and the target are.
func TestPut(t *testing.T) {
	l := []string{"", "GET", "/", " ", "\x00", "\xff", "a b", "/a?b", "*", "\u00e4", strings.Repeat("x", 5000)}
	for _, method := range l {
		for _, asked := range l {
			if got, want := Put(method, asked), strings.Join([]string{method, asked, "HTTP/1.1"}, " "); got != want {
				t.Errorf("P8.2: Put(%q, %q): %q", method, asked, got)
			}
		}
	}
}

// P8.2: what Put wrote of a right method and target, Parse reads as these.
func TestThereAndBack(t *testing.T) {
	with, without := both()
	texts([]string{"/", "a", "?", "*", ":8", "%41", "http://a"}, 4, func(s string) {
		for _, method := range []string{"GET", "OPTIONS", "CONNECT", "x"} {
			if _, errno := target.Parse(method, s); errno != api.OK {
				continue
			}
			want := read{method, s, 1, 0}
			for _, p := range []api.Profile{0, ^api.Profile(0)} {
				if parse(Put(method, s), p, with) != want || parse(Put(method, s), p, without) != want {
					t.Fatalf("P8.2: %s of %q there and back", s, method)
				}
			}
		}
	})
}

// P8.3: the first word is the method, of whatever profile, and nothing else is.
func TestFirstWord(t *testing.T) {
	with, _ := both()
	seen := 0
	for i := range 5 * 64 {
		for p := range 64 {
			profile := api.Profile(p) << api.Blanks
			s := strings.Repeat(" ", i%2) + "m" + strconv.Itoa(i) + strings.Repeat("\t", i/4%2) + " /a" + strings.Repeat(" b", i/2%3) + " HTTP/1.1"
			got := parse(s, profile, with)
			if got.errno != api.OK {
				continue
			}
			seen++
			if want := strings.Fields(s)[0]; got.method != want {
				t.Fatalf("P8.3: the method of %q, %#x: %q", s, profile, got.method)
			}
		}
	}
	if seen == 0 {
		t.Error("P8.3: no line was read")
	}
	for _, s := range []string{"/ GET HTTP/1.1", "HTTP/1.1 GET /", "HTTP/1.1 / GET"} {
		if got := parse(s, 0, with); got.errno == api.OK {
			t.Errorf("P8.3: Parse(%q): %+v", s, got)
		}
	}
}
