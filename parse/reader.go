package parse

import (
	"stratum/api"
	"stratum/grammar"
)

// reader goes through a text's tokens from the front, and keeps the first fault.
type reader struct {
	tokens []api.Token // the last one is the TokEnd
	next   int
	place  int
	err    api.Errno
}

// fault keeps a fault, if it is the first. Behind it the reader stands at the end, where no loop and no
// recursion of the grammar goes on: so its callers needn't ask.
func (r *reader) fault(at int, err api.Errno) {
	if r.err == api.OK {
		r.place, r.err = at, err
	}
	r.next = len(r.tokens) - 1
}

func (r *reader) peek() api.Token {
	return r.tokens[r.next]
}

// take is for a token that peek has shown to be another one than the TokEnd.
func (r *reader) take() api.Token {
	r.next++
	return r.tokens[r.next-1]
}

// want is the next token if it may stand there, else the zero Token and a fault.
func (r *reader) want(may bool) api.Token {
	if !may {
		r.fault(r.peek().At, api.ErrSyntax)
		return api.Token{}
	}
	return r.take()
}

func (r *reader) atWord(word string) bool {
	t := r.peek()
	return t.Kind == api.TokName && t.Text == word
}

func (r *reader) atMark(mark string) bool {
	t := r.peek()
	return t.Kind == api.TokMark && t.Text == mark
}

// word is the place of the word that must stand here.
func (r *reader) word(word string) int {
	return r.want(r.atWord(word)).At
}

func (r *reader) mark(mark string) {
	r.want(r.atMark(mark))
}

func (r *reader) name() string {
	t := r.peek()
	return r.want(t.Kind == api.TokName && !grammar.IsWord(t.Text)).Text
}

func (r *reader) number() uint64 {
	return r.want(r.peek().Kind == api.TokNumber).Num
}

func (r *reader) text() string {
	return r.want(r.peek().Kind == api.TokText).Text
}

func (r *reader) end() {
	if t := r.peek(); t.Kind != api.TokEnd {
		r.fault(t.At, api.ErrSyntax)
	}
}
