package parser

import (
	"parallax/api"
	"parallax/field"
)

// fault is what went wrong, for good.
type fault struct{ errno api.Errno }

// Err: the error that ended all reading.
func (f *fault) Err() api.Errno { return f.errno }

func (f *fault) failed() bool { return f.errno != api.OK }

// list is what lines told, one a field.
type list struct {
	lines  int // those that are joined or left out, too
	fields []api.Field
}

// add takes a line, if it isn't one more than most.
func (l *list) add(s string, p api.Profile, most int) api.Errno {
	l.lines++
	if l.lines > most {
		return api.ErrHead
	}
	if last := len(l.fields) - 1; last >= 0 && field.Goes(s, p) {
		l.fields[last] = field.Join(l.fields[last], s)
		return api.OK
	}
	f, is, errno := field.Parse(s, p)
	if is {
		l.fields = append(l.fields, f)
	}
	return errno
}

// head is what stands ahead of a body.
type head struct {
	list
	method, target string
	minor          int
	size           int  // bytes that were looked at, those of trailers, too
	counted        bool // is the byte that is looked at one of them?
}

// count answers whether the byte that is looked at has room within most. One
// that is looked at again, as it showed that a line ended, counts once.
func (h *head) count(most int) bool {
	if !h.counted {
		h.counted = true
		h.size++
	}
	return h.size <= most
}

// body is what stands behind a head: its list is of trailers.
type body struct {
	list
	chunked bool
	data    []byte
	left    int // bytes of it, or of a chunk, that are to come
}

// keep takes a byte, and answers whether it is the last one that was to come.
func (b *body) keep(c byte) bool {
	b.data = append(b.data, c)
	b.left--
	return b.left == 0
}
