package witness

import (
	"strings"

	"parallax/api"
	"parallax/quirks"
)

const (
	end  = "\r\n"
	top  = "GET / HTTP/1.1" + end
	old  = "GET / HTTP/1.0" + end
	host = "Host: a"

	chunked = "Transfer-Encoding: chunked"
	unknown = "Transfer-Encoding: gzip"
	noBody  = "Content-Length: 0"
)

// maker writes the stream of one clause, which is in p, and can take effect
// there. The strict reader refuses the stream at its last byte, not ahead of
// it. One of p doesn't refuse it, whatever other clauses there are.
type maker func(p api.Profile, b api.Bounds) string

// makers holds each clause's maker at its number.
func makers() [api.Clauses]maker {
	return [api.Clauses]maker{
		api.Empty:      first(""),
		api.BareLF:     exactly("GET / HTTP/1.1\n"),
		api.BareCR:     exactly("GET / HTTP/1.1\rH"),
		api.Blanks:     first("GET  / HTTP/1.1"),
		api.Minor:      first("GET / HTTP/1.2"),
		api.AnyCase:    first("GET / http/1.1"),
		api.NoVersion:  first("GET /"),
		api.Spaces:     first("GET /a b HTTP/1.1"),
		api.Controls:   first("GET /\x01 HTTP/1.1"),
		api.ColonSpace: fields("Host : a"),
		api.NameBytes:  fields("(: a"),
		api.NoColon:    fields("a"),
		api.NoName:     fields(": a"),
		api.Fold:       fields(host, " b"),
		api.ValueBytes: fields("A: \x01"),
		api.NoHost:     head(),
		api.ManyHosts:  head(host, host),
		// The strict reader refuses the blanks themselves, ahead of the coding.
		api.TEBlanks:    fields("Transfer-Encoding: \vchunked"),
		api.TEList:      head(host, "Transfer-Encoding: gzip, chunked"),
		api.TEIgnore:    head(host, unknown),
		api.TEOld:       oldCoding,
		api.TEWins:      head(host, chunked, noBody),
		api.CLWins:      head(host, chunked, noBody),
		api.CLPlus:      head(host, "Content-Length: +0"),
		api.CLComma:     head(host, "Content-Length: 0, 0"),
		api.CLFirst:     head(host, noBody, "Content-Length: 1"),
		api.CLLast:      head(host, noBody, "Content-Length: 1"),
		api.ChunkHex:    chunks("0x1" + end),
		api.ChunkBlanks: chunks(" 1" + end),
		api.ChunkEnd:    chunks("1" + end + "a0"),
	}
}

// exactly writes s as it stands.
func exactly(s string) maker {
	return func(api.Profile, api.Bounds) string { return s }
}

// first writes a first line.
func first(line string) maker { return exactly(line + end) }

// fields writes a head up to the end of the last one of these lines.
func fields(list ...string) maker { return exactly(top + lines(list...)) }

// head writes a whole head of these lines.
func head(list ...string) maker { return exactly(top + lines(list...) + end) }

// chunks writes s where a body in chunks is to be.
func chunks(s string) maker { return exactly(top + lines(host, chunked) + end + s) }

// oldCoding writes a head of 1.0 with a coding: one that is taken, one that is
// ignored, or one that a length wins against. There is a way for each p and b
// beside which TEOld can take effect.
func oldCoding(p api.Profile, b api.Bounds) string {
	switch {
	case b.Chunked:
		return old + lines(chunked) + end
	case quirks.Has(p, api.TEIgnore):
		return old + lines(unknown) + end
	}
	return old + lines(chunked, noBody) + end
}

func lines(list ...string) string {
	var b strings.Builder
	for _, line := range list {
		b.WriteString(line + end)
	}
	return b.String()
}
