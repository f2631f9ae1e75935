package read

import "demotic/api"

// file reads a whole one.
func (r *reader) file() api.Node {
	n := api.Node{Kind: api.File, At: r.must("package")}
	n.Text = r.name().Text
	r.must(";")
	for len(r.tokens) > 0 {
		n.Kids = append(n.Kids, r.declaration())
		r.must(";")
	}
	return n
}

// declaration reads one.
func (r *reader) declaration() api.Node {
	switch {
	case r.is("func"):
		return r.function()
	case r.is("type"):
		return r.meaning()
	}
	return r.variable()
}

// function reads a func that has a name.
func (r *reader) function() api.Node {
	n := api.Node{Kind: api.Func, At: r.must("func")}
	n.Text = r.name().Text
	params := api.Node{Kind: api.List}
	if r.is("[") {
		params = r.params()
	}
	n.Kids = []api.Node{params, r.signature(), r.block()}
	return n
}

// meaning reads a type, or an alias: what stands for a type in a declaration stands behind no =.
func (r *reader) meaning() api.Node {
	n := api.Node{Kind: api.Type, At: r.must("type")}
	n.Text = r.name().Text
	params := api.Node{Kind: api.List}
	if r.is("[") && r.sign(1) != "]" {
		params = r.params()
	}
	var meant api.Node
	switch {
	case r.take("="):
		n.Kind = api.Alias
		meant = r.typ()
	case r.is("struct"):
		meant = r.structure()
	case r.is("interface"):
		meant = r.inter()
	default:
		meant = r.typ()
	}
	n.Kids = []api.Node{params, meant}
	return n
}

// variable reads the declaration of a var.
func (r *reader) variable() api.Node {
	n := api.Node{Kind: api.Var, At: r.must("var")}
	n.Text = r.name().Text
	var typ, value api.Node
	if !r.is("=") {
		typ = r.typ()
	}
	if r.take("=") {
		value = r.expr()
	}
	n.Kids = []api.Node{typ, value}
	return n
}

// params reads parameters of types.
func (r *reader) params() api.Node {
	return api.Node{Kind: api.List, At: r.at(), Kids: filled(r, "[", "]", func() api.Node {
		return r.named(api.TParam, r.constraint)
	})}
}

// named reads a name, and what is its type.
func (r *reader) named(kind int, typ func() api.Node) api.Node {
	name := r.name()
	return api.Node{Kind: kind, Text: name.Text, Kids: []api.Node{typ()}, At: name.At}
}

// constraint reads one: a name alone stands for itself.
func (r *reader) constraint() api.Node {
	if r.is("interface") {
		return r.inter()
	}
	n := api.Node{Kind: api.TInter, At: r.at(), Kids: r.terms()}
	if first := n.Kids[0]; len(n.Kids) == 1 && first.Text == "" && first.Kids[0].Kind == api.TName {
		return first.Kids[0]
	}
	return n
}

// inter reads terms in an interface.
func (r *reader) inter() api.Node {
	n := api.Node{Kind: api.TInter, At: r.must("interface")}
	r.must("{")
	n.Kids = r.terms()
	r.take(";")
	r.must("}")
	return n
}

// terms reads one at least.
func (r *reader) terms() []api.Node {
	l := []api.Node{r.term()}
	for r.take("|") {
		l = append(l, r.term())
	}
	return l
}

func (r *reader) term() api.Node {
	n := api.Node{Kind: api.Term, At: r.at()}
	if r.take("~") {
		n.Text = "~"
	}
	n.Kids = []api.Node{r.typ()}
	return n
}

// structure reads fields in a struct.
func (r *reader) structure() api.Node {
	n := api.Node{Kind: api.TStruct, At: r.must("struct")}
	r.must("{")
	for !r.is("}") {
		n.Kids = append(n.Kids, r.named(api.Field, r.typ))
		r.endPart()
	}
	r.must("}")
	return n
}

// endPart goes on behind the semicolon of a part in { }, which may be left out ahead of the }.
func (r *reader) endPart() {
	if !r.is("}") {
		r.must(";")
	}
}

// signature reads parameters with names, and a result.
func (r *reader) signature() api.Node {
	return r.signed(func() api.Node { return r.named(api.Param, r.typ) })
}

// signed reads parameters, each by a form, and a result: a type, if one may begin there.
func (r *reader) signed(param func() api.Node) api.Node {
	at := r.at()
	params := api.Node{Kind: api.List, At: at, Kids: row(r, "(", ")", param)}
	var result api.Node
	if r.kind(0) == nameKind || r.is("[", "(", "func") {
		result = r.typ()
	}
	return api.Node{Kind: api.TFunc, Kids: []api.Node{params, result}, At: at}
}

// typ reads a type: brackets leave no trace.
func (r *reader) typ() api.Node {
	switch {
	case r.is("["):
		return r.slice()
	case r.is("func"):
		return r.functionType()
	case r.take("("):
		n := r.typ()
		r.must(")")
		return n
	}
	name := r.name()
	n := api.Node{Kind: api.TName, Text: name.Text, At: name.At}
	if r.is("[") {
		n.Kids = filled(r, "[", "]", r.typ)
	}
	return n
}

// slice reads the type of one.
func (r *reader) slice() api.Node {
	at := r.must("[")
	r.must("]")
	return api.Node{Kind: api.TSlice, Kids: []api.Node{r.typ()}, At: at}
}

// functionType reads the type of a function, whose parameters have no names.
func (r *reader) functionType() api.Node {
	at := r.must("func")
	n := r.signed(func() api.Node {
		return api.Node{Kind: api.Param, At: r.at(), Kids: []api.Node{r.typ()}}
	})
	n.At = at
	return n
}
