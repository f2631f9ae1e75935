package read

import "demotic/api"

// block reads statements in { }; empty ones leave no trace.
func (r *reader) block() api.Node {
	head := r.head
	r.head = false
	n := api.Node{Kind: api.SBlock, At: r.must("{")}
	for !r.is("}") {
		if !r.take(";") {
			n.Kids = append(n.Kids, r.statement())
			r.endPart()
		}
	}
	r.must("}")
	r.head = head
	return n
}

// statement reads one.
func (r *reader) statement() api.Node {
	switch r.sign(0) {
	case "var":
		return r.variable()
	case "if":
		return r.choice()
	case "for":
		return r.loop()
	case "{":
		return r.block()
	case "return":
		return r.result()
	case "break":
		return api.Node{Kind: api.SBreak, At: r.next().At}
	case "continue":
		return api.Node{Kind: api.SContinue, At: r.next().At}
	}
	return r.simple()
}

// result reads a return.
func (r *reader) result() api.Node {
	n := api.Node{Kind: api.SReturn, At: r.must("return")}
	var value api.Node
	if !r.is(";", "}") {
		value = r.expr()
	}
	n.Kids = []api.Node{value}
	return n
}

// simple reads an expression, and what makes a statement of it.
func (r *reader) simple() api.Node {
	at := r.at()
	return r.made(at, r.shaped())
}

// made reads what makes a statement of an expression that began there: of a call nothing is needed.
func (r *reader) made(at int, x operand) api.Node {
	switch {
	case r.is(":=") && x.is == aName && x.node.Text != "_":
		r.next()
		return api.Node{Kind: api.SShort, Text: x.node.Text, Kids: []api.Node{r.expr()}, At: at}
	case r.take("="):
		return api.Node{Kind: api.SAssign, Kids: []api.Node{x.node, r.expr()}, At: at}
	case r.is("++", "--"):
		return api.Node{Kind: api.SInc, Text: r.next().Text, Kids: []api.Node{x.node}, At: at}
	case x.is != aCall:
		r.fail()
	}
	return api.Node{Kind: api.SExpr, Kids: []api.Node{x.node}, At: at}
}

// choice reads an if, and what stands behind its else.
func (r *reader) choice() api.Node {
	n := api.Node{Kind: api.SIf, At: r.must("if")}
	r.head = true
	condition := r.expr()
	r.head = false
	block := r.block()
	var other api.Node
	if r.take("else") {
		if r.is("if") {
			other = r.choice()
		} else {
			other = r.block()
		}
	}
	n.Kids = []api.Node{condition, block, other}
	return n
}

// loop reads a for.
func (r *reader) loop() api.Node {
	at := r.must("for")
	r.head = true
	n := r.turns()
	r.head = false
	n.Kids = append(n.Kids, r.block())
	n.At = at
	return n
}

// turns reads the head of a for.
func (r *reader) turns() api.Node {
	var first api.Node
	switch {
	case r.is("{"):
		return api.Node{Kind: api.SFor, Kids: make([]api.Node, 3)}
	case r.ranges():
		return r.ranged()
	case !r.is(";"):
		at := r.at()
		x := r.shaped()
		if r.is("{") {
			return api.Node{Kind: api.SFor, Kids: []api.Node{{}, x.node, {}}}
		}
		first = r.made(at, x)
	}
	return r.clauses(first)
}

// clauses reads the head of a for behind what is done first.
func (r *reader) clauses(first api.Node) api.Node {
	var condition, last api.Node
	r.must(";")
	if !r.is(";") {
		condition = r.expr()
	}
	r.must(";")
	if !r.is("{") {
		last = r.simple()
	}
	return api.Node{Kind: api.SFor, Kids: []api.Node{first, condition, last}}
}

// ranges: does the head of a for go through something? (Not behind _ alone: up to the := it may be another head.)
func (r *reader) ranges() bool {
	if r.kind(0) != nameKind {
		return r.is("range")
	}
	return r.sign(1) == "," || r.sign(1) == ":=" && r.sign(2) == "range" && r.tokens[0].Text != "_"
}

// ranged reads the names of a range, and what it goes through.
func (r *reader) ranged() api.Node {
	n := api.Node{Kind: api.SRange}
	if !r.is("range") {
		if r.sign(1) == "," {
			n.Text = r.name().Text + ","
			r.must(",")
		}
		n.Text += r.used()
		r.must(":=")
	}
	r.must("range")
	n.Kids = []api.Node{r.expr()}
	return n
}

// used takes a name that is not _.
func (r *reader) used() string {
	if r.kind(0) == nameKind && r.tokens[0].Text == "_" {
		r.fail()
	}
	return r.name().Text
}
