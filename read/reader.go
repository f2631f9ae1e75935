package read

import (
	"slices"

	"demotic/api"
	"demotic/token"
)

// putIn is the text of a semicolon that was put in.
const putIn = "\n"

// reader has read what stands ahead of its tokens.
type reader struct {
	tokens []token.Token
	end    int  // where the text ends
	head   bool // does a { behind a name begin the block of an if or a for?
}

// wrong is what a text ends with that does not go on by the rules.
type wrong struct{ at int }

// formed reads by a form; what does not go on by the rules has none.
func (r *reader) formed(form func(*reader) api.Node) (n api.Node, at int, e api.Errno) {
	defer func() {
		x := recover()
		if w, ok := x.(wrong); ok {
			n, at, e = api.Node{}, w.at, api.ErrForm
		} else if x != nil {
			panic(x)
		}
	}()
	return form(r), 0, api.OK
}

// fail ends with the next token: there it does not go on.
func (r *reader) fail() {
	panic(wrong{r.at()})
}

// at tells where the next token begins.
func (r *reader) at() int {
	if len(r.tokens) == 0 {
		return r.end
	}
	return r.tokens[0].At
}

// next takes a token.
func (r *reader) next() token.Token {
	if len(r.tokens) == 0 {
		r.fail()
	}
	t := r.tokens[0]
	r.tokens = r.tokens[1:]
	return t
}

// kind tells the kind of the token so far ahead, the next one being 0; 0 without one.
func (r *reader) kind(ahead int) int {
	if ahead >= len(r.tokens) {
		return 0
	}
	return r.tokens[ahead].Kind
}

// sign tells the sign or word so far ahead (a semicolon, put in or not, is one); nothing of another token.
func (r *reader) sign(ahead int) string {
	switch kind := r.kind(ahead); {
	case kind == signKind && r.tokens[ahead].Text == putIn:
		return ";"
	case kind == signKind || kind == wordKind:
		return r.tokens[ahead].Text
	}
	return ""
}

// is: is one of these the next sign or word?
func (r *reader) is(signs ...string) bool {
	sign := r.sign(0)
	return sign != "" && slices.Contains(signs, sign)
}

// take goes on behind a sign or word, if it comes next.
func (r *reader) take(sign string) bool {
	is := r.is(sign)
	if is {
		r.next()
	}
	return is
}

// must goes on behind a sign or word, which has to come next, and tells where it stands.
func (r *reader) must(sign string) int {
	at := r.at()
	if !r.take(sign) {
		r.fail()
	}
	return at
}

// name takes a name, which has to come next.
func (r *reader) name() token.Token {
	if r.kind(0) != nameKind {
		r.fail()
	}
	return r.next()
}

// row reads any count of parts in brackets of a kind, with commas between, and behind the last one as may be. In
// brackets no { begins the block of a head.
func row[T any](r *reader, open, end string, part func() T) []T {
	head := r.head
	r.head = false
	r.must(open)
	var l []T
	for !r.is(end) {
		l = append(l, part())
		if !r.is(end) {
			r.must(",")
		}
	}
	r.must(end)
	r.head = head
	return l
}

// filled reads a row of one part at least.
func filled[T any](r *reader, open, end string, part func() T) []T {
	if r.is(open) && r.sign(1) == end {
		r.next()
		r.fail()
	}
	return row(r, open, end, part)
}
