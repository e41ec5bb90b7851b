package filter

import (
	"parallax/api"
	"parallax/parser"
)

// readers are the two that are fed the same bytes.
type readers struct{ strict, lenient *parser.Parser }

// Waits: does the client wait for a word, as the strict reader sees it?
func (r *readers) Waits() bool { return r.strict.Waits() }

// Held: how many bytes the reader keeps that keeps more.
func (r *readers) Held() int { return max(r.strict.Held(), r.lenient.Held()) }

// Clean: has nothing of another record come, as the strict reader sees it?
func (r *readers) Clean() bool { return r.strict.Clean() }

// judgement is what is said of a stream so far.
type judgement struct {
	code   api.Errno // why it is blocked; of none it passes
	parted bool
}

// Verdict: api.Pass, or api.Block.
func (j *judgement) Verdict() int {
	if j.code == api.OK {
		return api.Pass
	}
	return api.Block
}

// Code: the error of a stream that is blocked.
func (j *judgement) Code() api.Errno { return j.code }

// Parted: is it blocked because the two read it apart?
func (j *judgement) Parted() bool { return j.parted }

// judge takes the readers' errors behind a byte, and whether their records are
// alike. What the strict one refuses has its error, however the other one goes
// on, so that the client is told of the standard's.
func (j *judgement) judge(strict, lenient api.Errno, alike bool) {
	switch {
	case strict != api.OK:
		*j = judgement{code: strict, parted: lenient == api.OK}
	case lenient != api.OK || !alike:
		*j = judgement{code: api.ErrBad, parted: true}
	}
}
