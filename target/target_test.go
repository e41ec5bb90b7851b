package target

import (
	"math"
	"math/rand"
	"regexp"
	"strconv"
	"strings"
	"testing"

	"parallax/api"
)

// The chapter's parts, written out as patterns.
var (
	hostForm  = regexp.MustCompile(`\A[A-Za-z0-9\-._~]{1,255}(:([0-9]{1,5}))?\z`)
	pathForm  = regexp.MustCompile(`\A/([A-Za-z0-9\-._~!$&'()*+,;=:@/]|%[0-9A-Fa-f][0-9A-Fa-f])*\z`)
	queryForm = regexp.MustCompile(`\A([A-Za-z0-9\-._~!$&'()*+,;=:@/?]|%[0-9A-Fa-f][0-9A-Fa-f])*\z`)
	wholeForm = regexp.MustCompile(`\A(?:([hH][tT][tT][pP]://)([^/?]*))?([^?]*)(\?((?s:.*)))?\z`)
)

// hostAsWritten: the chapter's Host.
func hostAsWritten(s string) bool {
	m := hostForm.FindStringSubmatch(s)
	if m == nil {
		return false
	}
	port, _ := strconv.Atoi(m[2])
	return port <= 65535
}

// asWritten: the chapter's Parse.
func asWritten(method, s string) (api.Target, api.Errno) {
	var t api.Target
	m := wholeForm.FindStringSubmatch(s)
	ok := false
	if method == "CONNECT" {
		t = api.Target{Form: 3, Host: s}
		ok = hostAsWritten(s) && strings.IndexByte(s, ':') > 0
	} else if method == "OPTIONS" && s == "*" {
		t, ok = api.Target{Form: 4}, true
	} else if m != nil {
		t = api.Target{Form: 1, Path: m[3], Query: m[5], Asked: m[4] != ""}
		ok = true
		if m[1] != "" {
			t.Form, t.Host = 2, m[2]
			ok = hostAsWritten(m[2])
			if t.Path == "" {
				t.Path = "/"
			}
		}
		ok = ok && pathForm.MatchString(t.Path) && queryForm.MatchString(t.Query)
	}
	if !ok {
		return api.Target{}, 400
	}
	return t, 0
}

// holds holds what the package answers of s against the chapter's words.
func holds(t *testing.T, method, s string) {
	t.Helper()
	want, errno := asWritten(method, s)
	if got, e := Parse(method, s); got != want || e != errno {
		t.Fatalf("P7.2: Parse(%q, %q): %+v, %d, want %+v, %d", method, s, got, e, want, errno)
	}
	if got := Host(s); got != hostAsWritten(s) {
		t.Fatalf("P7.1: Host(%q): %v", s, got)
	}
	if got := Path(s); got != pathForm.MatchString(s) {
		t.Fatalf("P7.1: Path(%q): %v", s, got)
	}
	if got := Query(s); got != queryForm.MatchString(s) {
		t.Fatalf("P7.1: Query(%q): %v", s, got)
	}
}

// texts calls f with each text of these pieces of at most so many.
func texts(pieces []string, most int, f func(s string)) {
	l := []string{""}
	for range most + 1 {
		var longer []string
		for _, s := range l {
			f(s)
			for _, piece := range pieces {
				longer = append(longer, s+piece)
			}
		}
		l = longer
	}
}

// one answers the text of just that byte.
func one(c int) string { return string([]byte{byte(c)}) }

// P7.1, P7.2: the numbers of package api.
func TestNumbers(t *testing.T) {
	if api.Origin != 1 || api.Absolute != 2 || api.Authority != 3 || api.Asterisk != 4 || api.ErrBad != 400 {
		t.Error("P7.2: package api's numbers")
	}
}

// P7.1: each byte, at each place of a host, a path, a query.
func TestEachByte(t *testing.T) {
	const name = "abcdefghijklmnopqrstuvwxyzABCDEFGHIJKLMNOPQRSTUVWXYZ0123456789-._~"
	const path = name + "!$&'()*+,;=:@/"
	for i := range 256 {
		c := one(i)
		inName, inPath := strings.Contains(name, c), strings.Contains(path, c)
		inQuery := inPath || c == "?"
		for _, x := range []struct {
			what      string
			got, want bool
		}{
			{"Host alone", Host(c), inName},
			{"Host first", Host(c + "b"), inName},
			{"Host between", Host("a" + c + "b"), inName},
			{"Host last", Host("a" + c), inName},
			{"Host ahead of a port", Host(c + ":80"), inName},
			{"Host, port", Host("a:8" + c + "8"), i >= '0' && i <= '9'},
			{"Host, port's first", Host("a:" + c), i >= '0' && i <= '9'},
			{"Path alone", Path(c), c == "/"},
			{"Path first", Path(c + "/a"), c == "/"},
			{"Path between", Path("/a" + c + "b"), inPath},
			{"Path last", Path("/" + c), inPath},
			{"Query alone", Query(c), inQuery},
			{"Query between", Query("a" + c + "b"), inQuery},
			{"Query behind a %", Query("%41" + c), inQuery},
		} {
			if x.got != x.want {
				t.Errorf("P7.1: %s, %q: %v", x.what, c, x.got)
			}
		}
	}
}

// P7.1: each two bytes behind a %.
func TestPercent(t *testing.T) {
	const hex = "0123456789abcdefABCDEF"
	for i := range 256 {
		for j := range 256 {
			s := "%" + one(i) + one(j)
			want := strings.Contains(hex, one(i)) && strings.Contains(hex, one(j))
			if Path("/"+s) != want || Path("/a"+s+"b/") != want || Query(s) != want || Query("a"+s+"?") != want {
				t.Fatalf("P7.1: %q: not %v", s, want)
			}
			if Host(s) || Host("a"+s) || Host("a:"+s) {
				t.Fatalf("P7.1: Host takes %q", s)
			}
		}
		if Path("/%"+one(i)) || Query("%"+one(i)) || Query("%41%"+one(i)) || Path(one(i)+"%41") != (i == '/') {
			t.Fatalf("P7.1: %% and %q", one(i))
		}
	}
	if Path("/%") || Query("%") || Query("%41%") || Query("%%41") || Query("%4%41") || !Path("/%2F%00%ff") {
		t.Error("P7.1: % with other than two Hex behind it")
	}
}

// P7.1: how long a host's name may be, with a port and without one.
func TestLongNames(t *testing.T) {
	for n := range 600 {
		name := strings.Repeat("a-B.9", n/5+1)[:n]
		want := n >= 1 && n <= 255
		for _, s := range []string{name, name + ":1", name + ":65535"} {
			if Host(s) != want {
				t.Errorf("P7.1: a name of %d bytes, %q: %v", n, s[n:], !want)
			}
		}
		if Host(name + ":") {
			t.Errorf("P7.1: a name of %d bytes and no port behind the colon", n)
		}
	}
	if Host(strings.Repeat("a", 1<<20)) || Host("a:"+strings.Repeat("0", 1<<20)) {
		t.Error("P7.1: far too long a host")
	}
	long := strings.Repeat("/a%41", 1<<18)
	if !Path(long) || !Query(long) || Path(long+"%4") || Query(long+"#") {
		t.Error("P7.1: paths and queries are of any length")
	}
}

// P7.1: each port, with noughts ahead, too.
func TestPorts(t *testing.T) {
	for n := range 131072 {
		s := strconv.Itoa(n)
		for len(s) <= 7 {
			want := len(s) <= 5 && n <= 65535
			if Host("a:"+s) != want {
				t.Fatalf("P7.1: port %q: %v", s, !want)
			}
			s = "0" + s
		}
	}
	for _, s := range []string{"", "-1", "+1", " 1", "1 ", "0x1", "a", "1a", "1:1", ":", "99999", "65536", "655350", strconv.Itoa(math.MaxInt), "18446744073709551617", "\u0661", "%31"} {
		if Host("a:" + s) {
			t.Errorf("P7.1: port %q", s)
		}
	}
	for _, s := range []string{":", ":1", ":80", "a:80:", "a:80/", "[::1]", "[::1]:80", "u@a", "a,b", "a b", "%61", "\u00e4", "a\x00", "a\n"} {
		if Host(s) {
			t.Errorf("P7.1: Host takes %q", s)
		}
	}
}

// P7.1, P7.2: each text of up to six of these pieces.
func TestShortTexts(t *testing.T) {
	for _, method := range []string{"GET", "CONNECT", "OPTIONS"} {
		texts([]string{"/", "?", "a", ":", "8", "%", "*"}, 6, func(s string) { holds(t, method, s) })
		texts([]string{"/", "?", "a", ":", "80", "%4", "#"}, 4, func(s string) {
			holds(t, method, "http://"+s)
			holds(t, method, "hTTp:/"+s)
			holds(t, method, "/"+s)
		})
	}
}

// P7.1, P7.2: texts at random.
func TestRandomTexts(t *testing.T) {
	pieces := []string{"/", "//", "?", "a", "B.c", ":", ":80", ":65535", ":65536", "%41", "%4", "*", "http://", "HTTP://", "https://", "-_~", "!$&'()+,;=@", "#", " ", "\x00", "\n", "\xff", "\u00e4", "[", "\\"}
	methods := []string{"GET", "OPTIONS", "CONNECT", "", "Connect", "options", "X-Y", "\xff"}
	r := rand.New(rand.NewSource(72))
	for range 100000 {
		var s string
		for range r.Intn(8) {
			// Most pieces are such that a target may have them.
			s += pieces[r.Intn(1+r.Intn(len(pieces)))]
		}
		if r.Intn(3) == 0 {
			s = "http://a" + s
		}
		holds(t, methods[r.Intn(len(methods))], s)
	}
}

// P7.2: a target of each form, and what isn't one.
func TestForms(t *testing.T) {
	for _, x := range []struct {
		method, s string
		want      api.Target
	}{
		{"GET", "/", api.Target{Form: api.Origin, Path: "/"}},
		{"GET", "/a?b", api.Target{Form: api.Origin, Path: "/a", Query: "b", Asked: true}},
		{"GET", "/a?", api.Target{Form: api.Origin, Path: "/a", Asked: true}},
		{"GET", "/?a?/b?", api.Target{Form: api.Origin, Path: "/", Query: "a?/b?", Asked: true}},
		{"GET", "//a:80/b", api.Target{Form: api.Origin, Path: "//a:80/b"}},
		{"", "/http://a", api.Target{Form: api.Origin, Path: "/http://a"}},
		{"OPTIONS", "/*", api.Target{Form: api.Origin, Path: "/*"}},
		{"OPTIONS", "*", api.Target{Form: api.Asterisk}},
		{"OPTIONS", "http://a", api.Target{Form: api.Absolute, Host: "a", Path: "/"}},
		{"GET", "http://a", api.Target{Form: api.Absolute, Host: "a", Path: "/"}},
		{"GET", "http://a:080/", api.Target{Form: api.Absolute, Host: "a:080", Path: "/"}},
		{"GET", "HtTp://A/B", api.Target{Form: api.Absolute, Host: "A", Path: "/B"}},
		{"GET", "http://a?", api.Target{Form: api.Absolute, Host: "a", Path: "/", Asked: true}},
		{"GET", "http://a?b/c?d", api.Target{Form: api.Absolute, Host: "a", Path: "/", Query: "b/c?d", Asked: true}},
		{"GET", "http://a//?b", api.Target{Form: api.Absolute, Host: "a", Path: "//", Query: "b", Asked: true}},
		{"CONNECT", "a:80", api.Target{Form: api.Authority, Host: "a:80"}},
		{"CONNECT", "http:80", api.Target{Form: api.Authority, Host: "http:80"}},
	} {
		if got, errno := Parse(x.method, x.s); got != x.want || errno != api.OK {
			t.Errorf("P7.2: Parse(%q, %q): %+v, %d", x.method, x.s, got, errno)
		}
	}
	for method, l := range map[string][]string{
		"GET":     {"", "*", "**", "a", "a:80", "?a", "?", "a/b", " /", "/ ", "/#", "/a?#", "/a?%", "/%4", "/\x00", "/\u00e4", "http:", "http:/", "http://", "http:///", "http:///a", "http://?", "http://:80/", "http://a:/", "http://a:65536/", "http://u@a/", "http://a#b", "http://a/#", "http://a/%", "http://a?[", "http://a\\b/", "http:a", "http:/a", "https://a/", "ftp://a/", " http://a/", "http ://a/", "h\u1e97tp://a/", "http://[::1]/", "http://" + strings.Repeat("a", 256)},
		"OPTIONS": {"", "**", "*?", "*/", "* ", "a", "a:80"},
		"CONNECT": {"", "*", "/", "/a", "a", "a:", ":80", "a:65536", "a:80/", "a:80?", "http://a/", "http://a:80", "a:80:80", "//a:80"},
		"connect": {"a:80", "a", "*"},
		"options": {"*"},
		"":        {"", "*", "a:80"},
	} {
		for _, s := range l {
			if got, errno := Parse(method, s); got != (api.Target{}) || errno != api.ErrBad {
				t.Errorf("P7.2: Parse(%q, %q): %+v, %d", method, s, got, errno)
			}
		}
	}
}

// P7.2: Put of each form, whatever the other fields are.
func TestPut(t *testing.T) {
	full := api.Target{Host: "h:1", Path: "/p", Query: "q", Asked: true}
	plain := full
	plain.Asked = false
	for form := -3; form < 9; form++ {
		full.Form, plain.Form = form, form
		want, wantPlain := "", ""
		switch form {
		case 1:
			want, wantPlain = "/p?q", "/p"
		case 2:
			want, wantPlain = "http://h:1/p?q", "http://h:1/p"
		case 3:
			want, wantPlain = "h:1", "h:1"
		case 4:
			want, wantPlain = "*", "*"
		}
		if Put(full) != want || Put(plain) != wantPlain {
			t.Errorf("P7.2: Put of form %d: %q, %q", form, Put(full), Put(plain))
		}
	}
	for _, x := range []struct {
		t    api.Target
		want string
	}{
		{api.Target{}, ""},
		{api.Target{Form: math.MinInt, Host: "a", Path: "/"}, ""},
		{api.Target{Form: math.MaxInt, Host: "a", Path: "/"}, ""},
		{api.Target{Form: api.Origin}, ""},
		{api.Target{Form: api.Origin, Asked: true}, "?"},
		{api.Target{Form: api.Absolute}, "http://"},
		{api.Target{Form: api.Absolute, Host: "a", Asked: true}, "http://a?"},
		{api.Target{Form: api.Absolute, Host: "A b", Path: "\x00", Query: "\xff", Asked: true}, "http://A b\x00?\xff"},
		{api.Target{Form: api.Authority}, ""},
		{api.Target{Form: api.Asterisk}, "*"},
	} {
		if got := Put(x.t); got != x.want {
			t.Errorf("P7.2: Put(%+v): %q", x.t, got)
		}
	}
}

// P7.2: what Parse read, Put writes, and Parse reads it as the same.
func TestThereAndBack(t *testing.T) {
	back := func(method, s string) {
		was, errno := Parse(method, s)
		if errno != api.OK {
			return
		}
		put := Put(was)
		if got, errno := Parse(method, put); got != was || errno != api.OK {
			t.Fatalf("P7.2: %q of %s there and back, as %q: %+v, %d, was %+v", s, method, put, got, errno, was)
		}
		if was.Form != api.Absolute && put != s {
			t.Fatalf("P7.2: Put of %q: %q", s, put)
		}
	}
	for _, method := range []string{"GET", "CONNECT", "OPTIONS"} {
		texts([]string{"/", "?", "a", ":8", "%41", "*"}, 5, func(s string) {
			back(method, s)
			back(method, "http://a"+s)
			back(method, "HTTP://"+s)
		})
	}
}

// P7.3: the method says which form is meant, and one form alone: what isn't right in it is right in no other.
func TestWhoAsks(t *testing.T) {
	forms := func(s string) (l [4]int) {
		for i, method := range []string{"CONNECT", "OPTIONS", "GET", "cONNECT"} {
			got, _ := Parse(method, s)
			l[i] = got.Form
		}
		return l
	}
	for s, want := range map[string][4]int{
		"a:80":        {api.Authority, 0, 0, 0},
		"*":           {0, api.Asterisk, 0, 0},
		"/a":          {0, api.Origin, api.Origin, api.Origin},
		"http://a:80": {0, api.Absolute, api.Absolute, api.Absolute},
		"http:80":     {api.Authority, 0, 0, 0},
		"a":           {},
	} {
		if got := forms(s); got != want {
			t.Errorf("P7.3: the forms of %q: %v", s, got)
		}
	}
	// A method of any other name is one like GET, what comes of it aside.
	r := rand.New(rand.NewSource(73))
	for range 2000 {
		b := make([]byte, r.Intn(8))
		r.Read(b)
		for _, s := range []string{"/a?b", "http://a?b", "*", "a:80", ""} {
			want, wantErrno := Parse("GET", s)
			if got, errno := Parse(string(b), s); got != want || errno != wantErrno {
				t.Fatalf("P7.3: Parse(%q, %q): %+v, %d", b, s, got, errno)
			}
		}
	}
}
