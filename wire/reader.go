package wire

import (
	"math"

	"kedge/api"
	"kedge/octet"
	"kedge/vint"
)

// reader takes a transaction's parts off a text, one behind the other. At the first one that is wrong it stays, whatever is asked of it from then on: so the place is that part's, and the error the first.
type reader struct {
	text  string
	at    int
	wrong api.Errno
}

// span of what a number may be, and the error of one that is outside.
type span struct {
	least, most uint64
	outside     api.Errno
}

// refuse what is here, by its error, if nothing was wrong so far.
func (r *reader) refuse(e api.Errno) {
	if r.wrong == api.OK {
		r.wrong = e
	}
}

// accept a number that was read from here to the place behind it. If something is wrong it is 0, so that a list of that many has nothing more to read.
func (r *reader) accept(n uint64, behind int, s span) uint64 {
	if n < s.least || n > s.most {
		r.refuse(s.outside)
	}
	if r.wrong != api.OK {
		return 0
	}
	r.at = behind
	return n
}

func (r *reader) number(size int, s span) uint64 {
	n, ok := octet.Get(r.text, r.at, size)
	if !ok {
		r.refuse(api.ErrShort)
	}
	return r.accept(n, r.at+size, s)
}

// word: a number of 4 bytes, of which each may be.
func (r *reader) word() uint32 {
	return uint32(r.number(4, span{most: math.MaxUint32}))
}

// count, or a length.
func (r *reader) count(s span) int {
	n, behind, e := vint.Get(r.text, r.at)
	r.refuse(e)
	return int(r.accept(n, behind, s))
}

// bytes: as many as are told.
func (r *reader) bytes(size int) string {
	if size > len(r.text)-r.at {
		r.refuse(api.ErrShort)
	}
	if r.wrong != api.OK {
		return ""
	}
	from := r.at
	r.at += size
	return r.text[from:r.at]
}

func (r *reader) transaction() api.Tx {
	var t api.Tx
	t.Version = r.word()
	marked := r.marked()
	t.Ins = r.ins()
	t.Outs = r.outs()
	if marked {
		r.witnesses(t.Ins)
	}
	t.LockTime = r.word()
	r.end()
	return t
}

// marked: is there a marker? Then the flag is read, too.
func (r *reader) marked() bool {
	n, ok := octet.Get(r.text, r.at, 1)
	if !ok || n != marker || r.wrong != api.OK {
		return false
	}
	r.at++
	r.number(1, span{flag, flag, api.ErrForm})
	return true
}

// ins: without their Witnesses, which stand behind the Outs.
func (r *reader) ins() []api.In {
	l := make([]api.In, r.count(span{1, api.MaxIns, api.ErrCount}))
	for i := range l {
		l[i].From.ID = r.bytes(idSize)
		l[i].From.Index = r.word()
		r.count(span{0, 0, api.ErrForm})
		l[i].Sequence = r.word()
	}
	return l
}

func (r *reader) outs() []api.Out {
	l := make([]api.Out, r.count(span{1, api.MaxOuts, api.ErrCount}))
	for i := range l {
		l[i].Value = int(r.number(8, span{0, api.MaxMoney, api.ErrRange}))
		l[i].Script = r.bytes(r.count(span{0, api.MaxScript, api.ErrLong}))
	}
	return l
}

// witnesses of all Ins: a marker that none of them needs is wrong, at the first one's place.
func (r *reader) witnesses(ins []api.In) {
	first, texts := r.at, 0
	for i := range ins {
		ins[i].Witness = r.witness()
		texts += len(ins[i].Witness)
	}
	if texts == 0 && r.wrong == api.OK {
		r.at, r.wrong = first, api.ErrForm
	}
}

func (r *reader) witness() []string {
	l := make([]string, r.count(span{0, api.MaxItems, api.ErrCount}))
	for i := range l {
		l[i] = r.bytes(r.count(span{0, api.MaxItem, api.ErrLong}))
	}
	return l
}

func (r *reader) end() {
	if r.at < len(r.text) {
		r.refuse(api.ErrForm)
	}
}
