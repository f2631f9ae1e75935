package read

import (
	"slices"

	"demotic/api"
	"demotic/tight"
	"demotic/token"
)

// shape is what an operand is as it stands: in brackets a call is no call, and a name no name, though a type.
type shape int

const (
	another shape = iota
	aName
	aGeneric // a name, with parts in [ ] that may be types
	aType    // that of a slice or a function, or one of these two in brackets
	aCall    // its last part is that in ( )
)

// operand is a part of an expression, or what stands in its place.
type operand struct {
	node api.Node
	is   shape
}

// alone reads an expression that is all there is.
func (r *reader) alone() api.Node {
	n := r.expr()
	if r.is(";") && r.tokens[0].Text == putIn {
		r.next()
	}
	if len(r.tokens) > 0 {
		r.fail()
	}
	return n
}

// expr reads an expression.
func (r *reader) expr() api.Node {
	return r.shaped().node
}

// shaped reads an expression, and tells what it is.
func (r *reader) shaped() operand {
	return r.binary(r.unary(), tight.Least)
}

// binary goes on behind an operand, as long as signs of two operands bind at least so tightly.
func (r *reader) binary(left operand, least int) operand {
	for {
		sign := r.sign(0)
		binds := tight.Of(sign)
		if binds < least {
			return left
		}
		r.next()
		right := r.binary(r.unary(), binds+1)
		left = operand{grown(api.EBinary, sign, left.node, right.node), another}
	}
}

// unary reads signs of one operand, and the operand.
func (r *reader) unary() operand {
	var signs []token.Token
	for r.is("-", "!") {
		signs = append(signs, r.next())
	}
	x := r.primary(r.operand())
	for _, sign := range slices.Backward(signs) {
		x = operand{api.Node{Kind: api.EUnary, Text: sign.Text, Kids: []api.Node{x.node}, At: sign.At}, another}
	}
	return x
}

// operand reads what primaries begin with.
func (r *reader) operand() operand {
	switch {
	case r.kind(0) == nameKind:
		return operand{r.leaf(api.EName), aName}
	case r.kind(0) == numberKind:
		return operand{r.leaf(api.EInt), another}
	case r.kind(0) == textKind:
		return operand{r.leaf(api.EStr), another}
	case r.is("("):
		return r.bracketed()
	case r.is("["):
		return r.literal(r.slice())
	case r.is("func"):
		at := r.must("func")
		return r.lambda(at, r.signature())
	}
	r.fail()
	return operand{}
}

// leaf takes a token that is an expression.
func (r *reader) leaf(kind int) api.Node {
	t := r.next()
	return api.Node{Kind: kind, Text: t.Text, At: t.At}
}

// bracketed reads an expression in brackets, which leave no trace in its tree.
func (r *reader) bracketed() operand {
	head := r.head
	r.head = false
	r.must("(")
	x := r.shaped()
	r.must(")")
	r.head = head
	switch x.is {
	case aName, aGeneric, aType:
		return operand{x.node, aType}
	}
	return operand{x.node, another}
}

// lambda reads the block of a function without a name.
func (r *reader) lambda(at int, signature api.Node) operand {
	return operand{api.Node{Kind: api.EFunc, Kids: []api.Node{signature, r.block()}, At: at}, another}
}

// primary goes on behind an operand with what belongs to it.
func (r *reader) primary(x operand) operand {
	for {
		switch {
		case r.is("("):
			x = operand{grown(api.ECall, "", x.node, row(r, "(", ")", r.expr)...), aCall}
		case r.take("."):
			x = operand{grown(api.EField, r.name().Text, x.node), another}
		case r.is("["):
			x = r.indexed(x)
		case r.is("{") && !r.head && (x.is == aName || x.is == aGeneric):
			x = r.literal(asType(x.node))
		default:
			return x
		}
	}
}

// grown is a node of what stands in front and others: it begins where that begins.
func grown(kind int, text string, front api.Node, others ...api.Node) api.Node {
	return api.Node{Kind: kind, Text: text, Kids: append([]api.Node{front}, others...), At: front.At}
}

// indexed reads parts in [ ] behind an operand.
func (r *reader) indexed(x operand) operand {
	is := another
	if x.is == aName {
		is = aGeneric
	}
	n := grown(api.EIndex, "", x.node)
	for _, part := range filled(r, "[", "]", r.part) {
		n.Kids = append(n.Kids, part.node)
		if part.is == another || part.is == aCall {
			is = another
		}
	}
	return operand{n, is}
}

// literal reads what is in a literal, behind its type.
func (r *reader) literal(typ api.Node) operand {
	return operand{grown(api.ELit, "", typ, row(r, "{", "}", r.expr)...), another}
}

// asType is what a name, one with parts that may be types, or a type means as a type.
func asType(n api.Node) api.Node {
	switch n.Kind {
	case api.EName:
		return api.Node{Kind: api.TName, Text: n.Text, At: n.At}
	case api.EIndex:
		t := asType(n.Kids[0])
		for _, kid := range n.Kids[1:] {
			t.Kids = append(t.Kids, asType(kid))
		}
		return t
	}
	return n
}

// part reads what may stand in [ ]: an expression, or the type of a slice or a function.
func (r *reader) part() operand {
	x := operand{}
	switch {
	case r.is("["):
		x = operand{r.slice(), aType}
		if r.is("{") {
			x = r.literal(x.node)
		}
	case r.is("func"):
		x = r.functionPart()
	default:
		return r.shaped()
	}
	if x.is == aType {
		return x
	}
	return r.binary(r.primary(x), tight.Least)
}

// functionPart reads a function or the type of one. Without parameters it is a type, if no block comes.
func (r *reader) functionPart() operand {
	if r.sign(1) == "(" && r.sign(2) != ")" && !r.namedAt(2) {
		return operand{r.functionType(), aType}
	}
	at := r.must("func")
	n := r.signature()
	if len(n.Kids[0].Kids) == 0 && !r.is("{") {
		n.At = at
		return operand{n, aType}
	}
	return r.lambda(at, n)
}

// namedAt: does a parameter with a name stand so far ahead? (A name and [ are one only with ] behind.)
func (r *reader) namedAt(ahead int) bool {
	if r.kind(ahead) != nameKind {
		return false
	}
	switch r.sign(ahead + 1) {
	case "(", "func":
		return true
	case "[":
		return r.sign(ahead+2) == "]"
	}
	return r.kind(ahead+1) == nameKind
}
