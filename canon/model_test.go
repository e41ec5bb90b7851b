package canon

import (
	"fmt"
	"math/rand"
	"regexp"
	"slices"
	"strings"
	"testing"

	"parallax/api"
	"parallax/bounds"
	"parallax/target"
)

const every = api.Profile(1<<api.Clauses - 1)

// The chapter's names, and what chapters 8 and 9 let a method, a name and a value be.
var (
	hostName   = regexp.MustCompile(`\A[Hh][Oo][Ss][Tt]\z`)
	framedName = regexp.MustCompile(`\A(?:[Cc][Oo][Nn][Tt][Ee][Nn][Tt]-[Ll][Ee][Nn][Gg][Tt][Hh]|[Tt][Rr][Aa][Nn][Ss][Ff][Ee][Rr]-[Ee][Nn][Cc][Oo][Dd][Ii][Nn][Gg])\z`)
	bringer    = regexp.MustCompile(`\A(?:POST|PUT|PATCH)\z`)
	methodForm = regexp.MustCompile("\\A[A-Za-z0-9!#$%&'*+.^_`|~-]{1,32}\\z")
	nameForm   = regexp.MustCompile("\\A[A-Za-z0-9!#$%&'*+.^_`|~-]+\\z")
	noText     = regexp.MustCompile(`[\x00-\x08\x0a-\x1f\x7f]`)
	untrimmed  = regexp.MustCompile(`\A[ \t]|[ \t]\z`)
)

// fields answers fields of these names and values, one behind the other.
func fields(x ...string) []api.Field {
	var l []api.Field
	for i := 0; i+1 < len(x); i += 2 {
		l = append(l, api.Field{Name: x[i], Value: x[i+1]})
	}
	return l
}

// get answers a GET of / with these fields.
func get(x ...string) api.Record {
	return api.Record{Method: "GET", Target: "/", Minor: 1, Fields: fields(x...)}
}

// show answers records so that each byte of theirs can be read.
func show(l ...api.Record) string {
	s := ""
	for _, r := range l {
		s += fmt.Sprintf("{%q %q %d %q %v %q %q}", r.Method, r.Target, r.Minor, r.Fields, r.Chunked, r.Body, r.Trailers)
	}
	return s
}

// fieldsAsWritten: the chapter's Fields.
func fieldsAsWritten(r api.Record) []api.Field {
	l := slices.DeleteFunc(slices.Clone(r.Fields), func(f api.Field) bool { return framedName.MatchString(f.Name) })
	if !slices.ContainsFunc(l, func(f api.Field) bool { return hostName.MatchString(f.Name) }) {
		l = slices.Insert(l, 0, api.Field{Name: "Host", Value: "localhost"})
	}
	if len(r.Trailers) > 0 {
		return append(l, api.Field{Name: "Transfer-Encoding", Value: "chunked"})
	}
	if len(r.Body) > 0 || bringer.MatchString(r.Method) {
		return append(l, api.Field{Name: "Content-Length", Value: fmt.Sprint(len(r.Body))})
	}
	return l
}

// linesAsWritten answers the lines that end with an empty one.
func linesAsWritten(l []api.Field) string {
	s := ""
	for _, f := range l {
		s += f.Name + ": " + f.Value + "\r\n"
	}
	return s + "\r\n"
}

// headAsWritten, bodyAsWritten, tailAsWritten: the chapter's Put, in three parts.
func headAsWritten(r api.Record) string {
	return r.Method + " " + r.Target + " HTTP/1.1\r\n" + linesAsWritten(fieldsAsWritten(r))
}

func bodyAsWritten(r api.Record) string {
	switch n := len(r.Body); {
	case len(r.Trailers) == 0:
		return string(r.Body)
	case n == 0:
		return "0\r\n"
	default:
		return fmt.Sprintf("%x\r\n%s\r\n0\r\n", n, r.Body)
	}
}

func tailAsWritten(r api.Record) string {
	if len(r.Trailers) == 0 {
		return ""
	}
	return linesAsWritten(r.Trailers)
}

// listIsRight: are there at most so many of these lines, of at most so many
// bytes each, and is each one read as the field that it is?
func listIsRight(l []api.Field, lines, bytes int) bool {
	for _, f := range l {
		if !nameForm.MatchString(f.Name) || noText.MatchString(f.Value) || untrimmed.MatchString(f.Value) || len(f.Name)+2+len(f.Value) > bytes {
			return false
		}
	}
	return len(l) <= lines
}

// rightAsWritten: what chapters 4 and 7 to 13 ask of what Put writes of r, asked
// of its parts, without a parser.
func rightAsWritten(r api.Record, b api.Bounds) bool {
	hosts := 0
	for _, f := range fieldsAsWritten(r) {
		if hostName.MatchString(f.Name) {
			if hosts++; hosts > 1 || !target.Host(f.Value) {
				return false
			}
		}
	}
	_, errno := target.Parse(r.Method, r.Target)
	return bounds.Right(b) &&
		methodForm.MatchString(r.Method) && errno == api.OK &&
		len(r.Method)+1+len(r.Target)+len(" HTTP/1.1") <= b.Line &&
		listIsRight(fieldsAsWritten(r), b.Fields, b.Line) &&
		listIsRight(r.Trailers, b.Trailers, b.Line) &&
		len(headAsWritten(r))+len(tailAsWritten(r)) <= b.Head &&
		len(r.Body) <= b.Body && (len(r.Trailers) == 0 || b.Chunked)
}

// hold holds all four calls against the chapter, and answers whether r is right.
func hold(t *testing.T, r api.Record, b api.Bounds) bool {
	t.Helper()
	if got, want := Fields(r), fieldsAsWritten(r); !slices.Equal(got, want) {
		t.Fatalf("P17.1: Fields of %s: %+q, want %+q", show(r), got, want)
	}
	if got, want := string(Put(r)), headAsWritten(r)+bodyAsWritten(r)+tailAsWritten(r); got != want {
		t.Fatalf("P17.1: Put of %s: %q, want %q", show(r), got, want)
	}
	if got, want := Chunked(r), len(r.Trailers) > 0; got != want {
		t.Fatalf("P17.1: Chunked of %s: %v, want %v", show(r), got, want)
	}
	got, want := Right(r, b), rightAsWritten(r, b)
	if got != want {
		t.Fatalf("P17.2: Right of %s within %+v: %v, want %v", show(r), b, got, want)
	}
	return got
}

// least and most answer the narrowest bounds and the widest ones.
func least() api.Bounds {
	return api.Bounds{Line: api.LeastLine, Fields: api.MinFields, Head: api.LeastHead, Body: api.LeastBody, Wait: 1, Idle: 1}
}

func most() api.Bounds {
	return api.Bounds{Line: api.MostLine, Fields: api.MaxFields, Head: api.MostHead, Body: api.MostBody, Ext: api.MaxExt, Trailers: api.MaxFields, Wait: api.MaxWait, Idle: api.MaxIdle, Chunked: true, Old: true}
}

// someBounds: some that are right, and some that aren't.
func someBounds() []api.Bounds {
	l := []api.Bounds{least(), bounds.Usual(), most(), {}}
	for _, change := range []func(b *api.Bounds){
		func(b *api.Bounds) { b.Chunked = false },
		func(b *api.Bounds) { b.Old = false },
		func(b *api.Bounds) { b.Line = 64 },
		func(b *api.Bounds) { b.Fields = 4 },
		func(b *api.Bounds) { b.Head = 256 },
		func(b *api.Bounds) { b.Body = 16 },
		func(b *api.Bounds) { b.Trailers = 1 },
		func(b *api.Bounds) { b.Trailers = 0 },
		func(b *api.Bounds) { b.Trailers = -1 },
		func(b *api.Bounds) { b.Line = 63 },
		func(b *api.Bounds) { b.Idle = 0 },
	} {
		b := bounds.Usual()
		change(&b)
		l = append(l, b)
	}
	return l
}

// pick answers one of l.
func pick[T any](r *rand.Rand, l []T) T { return l[r.Intn(len(l))] }

// randomList answers up to most fields of these names.
func randomList(r *rand.Rand, most int, names []string) []api.Field {
	values := []string{"a", "", "a, b", "h:80", "chunked", "gzip", "5", "0", "*", "a\tb", "\x80\xff", ": a", strings.Repeat("v", r.Intn(70))}
	wrong := []string{" a", "a\t", "a\r\nB: c", "a\rb", "a\nb", "\x00", "\x7f", "(", "a b"}
	var l []api.Field
	for range r.Intn(most + 1) {
		f := api.Field{Name: pick(r, names), Value: pick(r, values)}
		if r.Intn(12) == 0 {
			f.Value = pick(r, wrong)
		}
		if r.Intn(25) == 0 {
			f.Name = pick(r, []string{"", "a b", " a", "a ", "a:b", "a\r\nb", "(", "\xe4"})
		}
		l = append(l, f)
	}
	return l
}

// random answers a record that is right more often than not.
func random(r *rand.Rand) api.Record {
	x := api.Record{
		Method:   pick(r, []string{"GET", "POST", "PUT", "PATCH", "DELETE", "HEAD", "post", "X", "OPTIONS"}),
		Target:   pick(r, []string{"/", "/a?b", "/a%2fb?", "http://h/a", "HTTP://h:8080?b", "/" + strings.Repeat("a", r.Intn(60))}),
		Minor:    r.Intn(4) - 1,
		Fields:   randomList(r, 4, []string{"A", "b", "Content-Length", "content-length", "TRANSFER-ENCODING", "Transfer-Encoding", "Connection", "Hosts"}),
		Chunked:  r.Intn(2) == 0,
		Trailers: randomList(r, r.Intn(2)*3, []string{"T", "Host", "Content-Length", "transfer-encoding", "u"}),
	}
	if r.Intn(3) > 0 {
		x.Fields = slices.Insert(x.Fields, r.Intn(len(x.Fields)+1), api.Field{Name: pick(r, []string{"Host", "host", "HOST"}), Value: pick(r, []string{"h", "a.b:80", "h:65535"})})
	}
	if r.Intn(12) == 0 {
		x.Fields = append(x.Fields, fields("hosT", pick(r, []string{"", "h", "h:65536", "a b"}))...)
	}
	if r.Intn(2) == 0 {
		x.Body = []byte(pick(r, []string{"a", "0\r\n\r\n", "GET / HTTP/1.1\r\nHost: a\r\n\r\n", "\r\n", "\n\n\n", strings.Repeat("b", 15), strings.Repeat("b", 16), strings.Repeat("b", 17), "\x00\xff"}))
	}
	if r.Intn(20) == 0 {
		x.Method = pick(r, []string{"", " ", "G T", "GET /", "CONNECT", "\r\nGET", "P\xd6ST", strings.Repeat("M", 32), strings.Repeat("M", 33)})
	}
	if r.Intn(20) == 0 {
		x.Target = pick(r, []string{"", "*", "a", "h:80", " /", "/ ", "/a b", "/#", "/%2", "http://", "http:///", "/\r\n", "/ HTTP/1.1\r\nHost: a\r\n\r\nGET /"})
	}
	return x
}
