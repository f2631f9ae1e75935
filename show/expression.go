package show

import (
	"demotic/api"
	"demotic/lit"
	"demotic/tight"
)

// expression tells one.
func (t *teller) expression(n api.Node, in spot) {
	switch n.Kind {
	case api.EInt, api.EName:
		t.put(n.Text)
	case api.EStr:
		t.put(lit.Quote(n.Text))
	case api.EUnary:
		t.put(n.Text)
		t.operand(n.Kids[0], in, beneath(n.Kids[0], n.Text))
	case api.EBinary:
		t.binary(n, in)
	case api.ECall:
		t.front(n.Kids[0], in)
		t.enclosed("(", ")", t.expression, in, n.Kids[1:]...)
	case api.EIndex:
		t.front(n.Kids[0], in)
		t.enclosed("[", "]", t.part, in, n.Kids[1:]...)
	case api.EField:
		t.front(n.Kids[0], in)
		t.put(".", n.Text)
	case api.ELit:
		t.literal(n, in)
	case api.EFunc:
		t.put("func")
		t.function(n.Kids, in)
	}
}

// operand tells one, with brackets or without.
func (t *teller) operand(n api.Node, in spot, brackets bool) {
	if brackets {
		t.enclosed("(", ")", t.expression, in, n)
		return
	}
	t.expression(n, in)
}

// beneath: does an operand need brackets behind a sign of one?
func beneath(n api.Node, sign string) bool {
	return n.Kind == api.EBinary || n.Kind == api.EUnary && n.Text == "-" && sign == "-" // -- is another sign
}

// binary tells two operands; on the right what binds as tightly needs brackets, too: it is read from the left.
func (t *teller) binary(n api.Node, in spot) {
	binds := tight.Of(n.Text)
	t.operand(n.Kids[0], in, looser(n.Kids[0], binds))
	t.put(" ", n.Text, " ")
	t.operand(n.Kids[1], in, looser(n.Kids[1], binds+1))
}

// looser: does an operand bind less tightly?
func looser(n api.Node, binds int) bool {
	return n.Kind == api.EBinary && tight.Of(n.Text) < binds
}

// front tells what is called, indexed, or whose field is told.
func (t *teller) front(n api.Node, in spot) {
	t.operand(n, in, n.Kind == api.EUnary || n.Kind == api.EBinary)
}

// part tells what stands in [ ]: an expression, or a type.
func (t *teller) part(n api.Node, in spot) {
	switch n.Kind {
	case api.TSlice, api.TFunc:
		t.kind(n, in)
	default:
		t.expression(n, in)
	}
}

// literal tells a type, and what is in it: in a head not without brackets, where the type is a name.
func (t *teller) literal(n api.Node, in spot) {
	if in.head && n.Kids[0].Kind == api.TName {
		t.enclosed("(", ")", t.literal, in, n)
		return
	}
	t.kind(n.Kids[0], in)
	t.enclosed("{", "}", t.expression, in, n.Kids[1:]...)
}
