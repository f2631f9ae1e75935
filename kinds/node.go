package kinds

import (
	"slices"
	"strings"

	"demotic/api"
	"demotic/kind"
	"demotic/show"
	"demotic/tree"
)

// maxNodes is the greatest count of nodes of a right one.
const maxNodes = 1 << 16

// Of tells a tree's type.
func Of(n api.Node, params []string) Type {
	if !tree.Right(n, "type") && !rightStruct(n) {
		return Type{}
	}
	place := finder(len(params), func(i int) string { return params[i] })
	return of(n, func(name string) bool { return place(name) >= 0 })
}

// Tree tells a type's tree.
func Tree(t Type) api.Node {
	switch t.Kind {
	case kind.Basic, kind.Param:
		return api.Node{Kind: api.TName, Text: t.Name, Kids: turned(t.Args, Tree)}
	case kind.Named:
		return whole(api.Node{Kind: api.TName, Text: t.Name, Kids: turned(t.Args, Tree)})
	case kind.Slice:
		if len(t.Args) == 1 {
			return whole(api.Node{Kind: api.TSlice, Kids: turned(t.Args, Tree)})
		}
	case kind.Func:
		if len(t.Args) > 0 {
			return function(t.Args[:len(t.Args)-1], t.Args[len(t.Args)-1])
		}
	}
	return api.Node{}
}

// Text tells its text.
func Text(t Type) string {
	s, _ := show.Text(Tree(t), "type")
	return s
}

// rightStruct: is it a right TStruct, for which layer 6 has no sort of its own?
func rightStruct(n api.Node) bool {
	if n.Kind != api.TStruct || n.Text != "" || tree.Depth(n) > api.MaxDepth || tree.Size(n) > maxNodes {
		return false
	}
	return !slices.ContainsFunc(n.Kids, func(field api.Node) bool { return !rightField(field) })
}

// rightField: is it a right field? It is, if a variable of its name and its type is.
func rightField(n api.Node) bool {
	if n.Kind != api.Field || len(n.Kids) != 1 {
		return false
	}
	return tree.Right(api.Node{Kind: api.Var, Text: n.Text, Kids: []api.Node{n.Kids[0], {}}}, "declaration")
}

// of is the type of a right tree, or of a function's result.
func of(n api.Node, param func(name string) bool) Type {
	row := func(l []api.Node) []Type {
		return turned(l, func(kid api.Node) Type { return of(kid, param) })
	}
	switch n.Kind {
	case api.TName:
		return named(n.Text, row(n.Kids), param)
	case api.TSlice:
		return Type{Kind: kind.Slice, Args: row(n.Kids)}
	case api.TFunc:
		return Type{Kind: kind.Func, Args: row(append(turned(n.Kids[0].Kids, only), n.Kids[1]))}
	case api.TStruct:
		texts := turned(n.Kids, func(field api.Node) string { return field.Text })
		return Type{Kind: kind.Struct, Name: strings.Join(texts, ","), Args: row(turned(n.Kids, only))}
	}
	return Type{Kind: kind.Nothing}
}

// named is what a name means, with what it was given.
func named(name string, args []Type, param func(name string) bool) Type {
	switch {
	case len(args) == 0 && param(name):
		return Type{Kind: kind.Param, Name: name}
	case len(args) == 0 && kind.IsBasic(name):
		return Type{Kind: kind.Basic, Name: name}
	}
	return Type{Kind: kind.Named, Name: name, Args: args}
}

// only is what a node has in it, if it is one.
func only(n api.Node) api.Node {
	return n.Kids[0]
}

// whole is a node; None, if something in it has no tree.
func whole(n api.Node) api.Node {
	if slices.ContainsFunc(n.Kids, isNone) {
		return api.Node{}
	}
	return n
}

func isNone(n api.Node) bool {
	return n.Kind == api.None
}

// function is the tree of one; None, if something in it has no tree.
func function(params []Type, result Type) api.Node {
	end := Tree(result)
	list := whole(api.Node{Kind: api.List, Kids: turned(params, Tree)})
	if isNone(list) || isNone(end) && result.Kind != kind.Nothing {
		return api.Node{}
	}
	list.Kids = turned(list.Kids, func(n api.Node) api.Node {
		return api.Node{Kind: api.Param, Kids: []api.Node{n}}
	})
	return api.Node{Kind: api.TFunc, Kids: []api.Node{list, end}}
}
