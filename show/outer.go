package show

import (
	"strings"

	"demotic/api"
)

// file tells a file.
func (t *teller) file(n api.Node) {
	t.put("package ", n.Text, "\n")
	for _, d := range n.Kids {
		t.put("\n")
		t.declaration(d, spot{})
		t.put("\n")
	}
}

// declaration tells one.
func (t *teller) declaration(n api.Node, in spot) {
	switch n.Kind {
	case api.Func:
		t.put("func ", n.Text)
		t.params(n.Kids[0], in)
		t.function(n.Kids[1:], in)
	case api.Type:
		t.meaning(n, "", in)
	case api.Alias:
		t.meaning(n, "= ", in)
	case api.Var:
		t.variable(n, in)
	}
}

// meaning tells a name and the type that it means, with what stands ahead of the type.
func (t *teller) meaning(n api.Node, ahead string, in spot) {
	t.put("type ", n.Text)
	t.params(n.Kids[0], in)
	t.put(" ", ahead)
	t.kind(n.Kids[1], in)
}

// params tells parameters of types.
func (t *teller) params(n api.Node, in spot) {
	if len(n.Kids) > 0 {
		t.enclosed("[", "]", t.named, in, n.Kids...)
	}
}

// function tells what stands behind a function's name: a signature and a block.
func (t *teller) function(kids []api.Node, in spot) {
	t.signature(kids[0], in)
	t.put(" ")
	t.statement(kids[1], in)
}

// signature tells parameters, with names or without, and a result.
func (t *teller) signature(n api.Node, in spot) {
	t.enclosed("(", ")", t.named, in, n.Kids[0].Kids...)
	t.ifThere(" ", t.kind, n.Kids[1], in, "")
}

// named tells a name, if there is one, and its type.
func (t *teller) named(n api.Node, in spot) {
	if n.Text != "" {
		t.put(n.Text, " ")
	}
	t.kind(n.Kids[0], in)
}

// variable tells the declaration of one.
func (t *teller) variable(n api.Node, in spot) {
	t.put("var ", n.Text)
	t.ifThere(" ", t.kind, n.Kids[0], in, "")
	t.ifThere(" = ", t.expression, n.Kids[1], in, "")
}

// kind tells a type, or what may stand for one in a declaration.
func (t *teller) kind(n api.Node, in spot) {
	switch n.Kind {
	case api.TName:
		t.put(n.Text)
		if len(n.Kids) > 0 {
			t.enclosed("[", "]", t.kind, in, n.Kids...)
		}
	case api.TSlice:
		t.put("[]")
		t.kind(n.Kids[0], in)
	case api.TFunc:
		t.put("func")
		t.signature(n, in)
	case api.TStruct:
		t.put("struct ")
		t.lines(t.named, in, n.Kids...)
	case api.TInter:
		t.put("interface{ ")
		t.between(" | ", t.term, in, n.Kids...)
		t.put(" }")
	}
}

// term tells one of a TInter.
func (t *teller) term(n api.Node, in spot) {
	t.put(n.Text)
	t.kind(n.Kids[0], in)
}

// statement tells one.
func (t *teller) statement(n api.Node, in spot) {
	switch n.Kind {
	case api.Var:
		t.variable(n, in)
	case api.SShort:
		t.put(n.Text, " := ")
		t.expression(n.Kids[0], in)
	case api.SAssign:
		t.between(" = ", t.expression, in, n.Kids...)
	case api.SInc, api.SExpr:
		t.expression(n.Kids[0], in)
		t.put(n.Text)
	case api.SIf:
		t.choice(n, in)
	case api.SFor:
		t.loop(n, in)
	case api.SRange:
		t.ranged(n, in)
	case api.SReturn:
		t.put("return")
		t.ifThere(" ", t.expression, n.Kids[0], in, "")
	case api.SBreak:
		t.put("break")
	case api.SContinue:
		t.put("continue")
	case api.SBlock:
		t.lines(t.statement, in, n.Kids...)
	}
}

// choice tells an if, and what stands behind its else.
func (t *teller) choice(n api.Node, in spot) {
	t.put("if ")
	t.expression(n.Kids[0], in.ahead())
	t.put(" ")
	t.statement(n.Kids[1], in)
	t.ifThere(" else ", t.statement, n.Kids[2], in, "")
}

// loop tells a for, with semicolons only where they are needed.
func (t *teller) loop(n api.Node, in spot) {
	first, condition, last, block := n.Kids[0], n.Kids[1], n.Kids[2], n.Kids[3]
	t.put("for ")
	if first.Kind == api.None && last.Kind == api.None {
		t.ifThere("", t.expression, condition, in.ahead(), " ")
	} else {
		t.ifThere("", t.statement, first, in.ahead(), "")
		t.put("; ")
		t.ifThere("", t.expression, condition, in.ahead(), "")
		t.put("; ")
		t.ifThere("", t.statement, last, in.ahead(), " ")
	}
	t.statement(block, in)
}

// ranged tells a for that goes through something.
func (t *teller) ranged(n api.Node, in spot) {
	t.put("for ")
	if n.Text != "" {
		t.put(strings.ReplaceAll(n.Text, ",", ", "), " := ")
	}
	t.put("range ")
	t.expression(n.Kids[0], in.ahead())
	t.put(" ")
	t.statement(n.Kids[1], in)
}
