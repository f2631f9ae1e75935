package tree

import (
	"slices"
	"strings"

	"demotic/api"
	"demotic/lit"
	"demotic/token"
)

const (
	maxName = 100  // bytes of a name
	maxText = 1000 // bytes of what a text means
)

// shape: has a node the text and the kids that its row names?
type shape func(n api.Node) bool

// rule: is it a text as a row says?
type rule func(text string) bool

// table is the shapes of the nodes of each sort, by their kinds.
type table map[string]map[int]shape

// newTable makes the table of all sorts.
func newTable() table {
	t := table{}
	t["type"] = t.types()
	t["signature"] = t.signatures()
	t["expression"] = t.expressions()
	t["statement"] = t.statements()
	t["declaration"] = t.declarations()
	t["file"] = map[int]shape{api.File: open(name, 0, t.of("declaration"))}
	return t
}

// of asks for a node of a sort; for one of these kinds, if some are told.
func (t table) of(sort string, kinds ...int) shape {
	return func(n api.Node) bool {
		is, ok := t[sort][n.Kind]
		return ok && (len(kinds) == 0 || slices.Contains(kinds, n.Kind)) && is(n)
	}
}

func (t table) types() map[int]shape {
	part := t.of("type")
	return map[int]shape{
		api.TName:  open(name, 0, part),
		api.TSlice: row(empty, part),
		api.TFunc:  row(empty, list(only(api.Param, row(empty, part))), orNone(part)),
	}
}

func (t table) signatures() map[int]shape {
	part := t.of("type")
	return map[int]shape{
		api.TFunc: row(empty, list(only(api.Param, row(name, part))), orNone(part)),
	}
}

func (t table) expressions() map[int]shape {
	part := t.of("expression")
	return map[int]shape{
		api.EInt:    row(lit.Plain),
		api.EStr:    row(func(text string) bool { return len(text) <= maxText }),
		api.EName:   row(name),
		api.EUnary:  row(among("-", "!"), part),
		api.EBinary: row(among("+", "-", "*", "/", "%", "==", "!=", "<", "<=", ">", ">=", "&&", "||"), part, part),
		api.ECall:   open(empty, 1, part),
		api.EIndex:  open(empty, 1, either(part, t.of("type", api.TSlice, api.TFunc)), part),
		api.EField:  row(name, part),
		api.ELit:    open(empty, 0, part, t.of("type", api.TName, api.TSlice)),
		api.EFunc:   row(empty, t.of("signature"), t.block()),
	}
}

func (t table) statements() map[int]shape {
	part := t.of("expression")
	first := t.of("statement", api.SShort, api.SAssign, api.SInc)
	last := t.of("statement", api.SAssign, api.SInc, api.SExpr)
	return map[int]shape{
		api.Var:       t.variable(),
		api.SShort:    row(used, part),
		api.SAssign:   row(empty, part, part),
		api.SInc:      row(among("++", "--"), part),
		api.SExpr:     row(empty, t.of("expression", api.ECall)),
		api.SIf:       row(empty, part, t.block(), orNone(t.of("statement", api.SBlock, api.SIf))),
		api.SFor:      row(empty, orNone(first), orNone(part), orNone(last), t.block()),
		api.SRange:    row(rangeNames, part, t.block()),
		api.SReturn:   row(empty, orNone(part)),
		api.SBreak:    row(empty),
		api.SContinue: row(empty),
		api.SBlock:    open(empty, 0, t.of("statement")),
	}
}

func (t table) declarations() map[int]shape {
	part := t.of("type")
	fields := only(api.TStruct, open(empty, 0, only(api.Field, row(name, part))))
	terms := only(api.TInter, open(empty, 1, only(api.Term, row(among("", "~"), part))))
	params := list(only(api.TParam, row(name, either(t.of("type", api.TName), terms))))
	return map[int]shape{
		api.Func:  row(name, params, t.of("signature"), t.block()),
		api.Type:  row(name, params, either(part, fields, terms)),
		api.Alias: row(name, params, part),
		api.Var:   t.variable(),
	}
}

// variable asks for a type, or an expression, or both.
func (t table) variable() shape {
	part, value := t.of("type"), t.of("expression")
	return either(row(name, part, orNone(value)), row(name, none, value))
}

func (t table) block() shape {
	return t.of("statement", api.SBlock)
}

// row asks for a text, and for just so many kids as there are shapes, each of its shape.
func row(text rule, kids ...shape) shape {
	return func(n api.Node) bool {
		return len(n.Kids) == len(kids) && text(n.Text) && begins(n.Kids, kids)
	}
}

// open asks for a text, for the first kids, each of its shape, and for at least so many others of one shape.
func open(text rule, least int, other shape, first ...shape) shape {
	return func(n api.Node) bool {
		if len(n.Kids) < len(first)+least || !text(n.Text) || !begins(n.Kids, first) {
			return false
		}
		return !slices.ContainsFunc(n.Kids[len(first):], func(kid api.Node) bool { return !other(kid) })
	}
}

// begins: have the first kids these shapes?
func begins(kids []api.Node, shapes []shape) bool {
	for i, is := range shapes {
		if !is(kids[i]) {
			return false
		}
	}
	return true
}

// only asks for a kind, and a shape.
func only(kind int, is shape) shape {
	return func(n api.Node) bool { return n.Kind == kind && is(n) }
}

// either asks for one of some shapes.
func either(shapes ...shape) shape {
	return func(n api.Node) bool {
		return slices.ContainsFunc(shapes, func(is shape) bool { return is(n) })
	}
}

// orNone asks for a shape, or for None.
func orNone(is shape) shape {
	return either(none, is)
}

// list asks for a List of any count of one shape.
func list(of shape) shape {
	return only(api.List, open(empty, 0, of))
}

// none: is it None?
func none(n api.Node) bool {
	return n.Kind == api.None && n.Text == "" && len(n.Kids) == 0
}

func empty(text string) bool {
	return text == ""
}

// name: is it a name that is short enough?
func name(text string) bool {
	return len(text) <= maxName && token.Name(text)
}

// used: is it a name by which something can be asked for?
func used(text string) bool {
	return text != "_" && name(text)
}

// rangeNames: is it nothing, or the names of a range? Its last one is used.
func rangeNames(text string) bool {
	first, last, both := strings.Cut(text, ",")
	if both {
		return name(first) && used(last)
	}
	return text == "" || used(text)
}

// among asks for one of some texts.
func among(texts ...string) rule {
	return func(text string) bool { return slices.Contains(texts, text) }
}
