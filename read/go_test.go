package read

import (
	goast "go/ast"
	goparser "go/parser"
	gotoken "go/token"
	"math/big"
	"strconv"

	"demotic/api"
)

// gone turns what Go's own reader has read into a tree, each node with where it begins.
type gone struct{ file *gotoken.File }

// goFile reads a file by Go's own reader.
func goFile(text string) (api.Node, error) {
	fset := gotoken.NewFileSet()
	f, err := goparser.ParseFile(fset, "a.go", text, goparser.SkipObjectResolution)
	if err != nil {
		return api.Node{}, err
	}
	g := gone{fset.File(f.FileStart)}
	n := g.node(api.File, f.Name.Name, f.Package)
	for _, d := range f.Decls {
		n.Kids = append(n.Kids, g.declaration(d))
	}
	return n, nil
}

func (g gone) node(kind int, text string, at gotoken.Pos, kids ...api.Node) api.Node {
	return api.Node{Kind: kind, Text: text, Kids: kids, At: g.file.Offset(at)}
}

func (g gone) declaration(d goast.Decl) api.Node {
	if f, ok := d.(*goast.FuncDecl); ok {
		return g.node(api.Func, f.Name.Name, f.Pos(), g.params(f.Type.TypeParams), g.signature(f.Type), g.block(f.Body))
	}
	d0 := d.(*goast.GenDecl)
	switch s := d0.Specs[0].(type) {
	case *goast.TypeSpec:
		kind := api.Type
		if s.Assign.IsValid() {
			kind = api.Alias
		}
		return g.node(kind, s.Name.Name, d0.Pos(), g.params(s.TypeParams), g.typ(s.Type))
	case *goast.ValueSpec:
		var typ, value api.Node
		if s.Type != nil {
			typ = g.typ(s.Type)
		}
		if len(s.Values) > 0 {
			value = g.expr(s.Values[0])
		}
		return g.node(api.Var, s.Names[0].Name, d0.Pos(), typ, value)
	}
	panic("no declaration of the fragment")
}

func (g gone) params(l *goast.FieldList) api.Node {
	if l == nil {
		return api.Node{Kind: api.List}
	}
	n := g.node(api.List, "", l.Pos())
	for _, f := range l.List {
		n.Kids = append(n.Kids, g.node(api.TParam, f.Names[0].Name, f.Pos(), g.constraint(f.Type)))
	}
	return n
}

func (g gone) constraint(x goast.Expr) api.Node {
	if _, ok := x.(*goast.InterfaceType); ok {
		return g.typ(x)
	}
	l := g.terms(x)
	if len(l) == 1 && l[0].Text == "" && l[0].Kids[0].Kind == api.TName {
		return l[0].Kids[0]
	}
	return g.node(api.TInter, "", x.Pos(), l...)
}

func (g gone) terms(x goast.Expr) []api.Node {
	switch t := x.(type) {
	case *goast.BinaryExpr:
		return append(g.terms(t.X), g.terms(t.Y)...)
	case *goast.UnaryExpr:
		return []api.Node{g.node(api.Term, "~", t.Pos(), g.typ(t.X))}
	}
	return []api.Node{g.node(api.Term, "", x.Pos(), g.typ(x))}
}

func (g gone) signature(t *goast.FuncType) api.Node {
	list := g.node(api.List, "", t.Params.Pos())
	for _, f := range t.Params.List {
		name := ""
		if len(f.Names) > 0 {
			name = f.Names[0].Name
		}
		list.Kids = append(list.Kids, g.node(api.Param, name, f.Pos(), g.typ(f.Type)))
	}
	var result api.Node
	if t.Results != nil {
		result = g.typ(t.Results.List[0].Type)
	}
	return g.node(api.TFunc, "", t.Params.Pos(), list, result)
}

func (g gone) typ(x goast.Expr) api.Node {
	switch t := x.(type) {
	case *goast.ParenExpr:
		return g.typ(t.X)
	case *goast.Ident:
		return g.node(api.TName, t.Name, t.Pos())
	case *goast.IndexExpr:
		return g.node(api.TName, t.X.(*goast.Ident).Name, t.Pos(), g.typ(t.Index))
	case *goast.IndexListExpr:
		return g.node(api.TName, t.X.(*goast.Ident).Name, t.Pos(), g.all(t.Indices, g.typ)...)
	case *goast.ArrayType:
		return g.node(api.TSlice, "", t.Pos(), g.typ(t.Elt))
	case *goast.FuncType:
		n := g.signature(t)
		n.At = g.file.Offset(t.Pos())
		return n
	case *goast.StructType:
		n := g.node(api.TStruct, "", t.Pos())
		for _, f := range t.Fields.List {
			n.Kids = append(n.Kids, g.node(api.Field, f.Names[0].Name, f.Pos(), g.typ(f.Type)))
		}
		return n
	case *goast.InterfaceType:
		return g.node(api.TInter, "", t.Pos(), g.terms(t.Methods.List[0].Type)...)
	}
	panic("no type of the fragment")
}

func (g gone) all(l []goast.Expr, one func(goast.Expr) api.Node) []api.Node {
	var kids []api.Node
	for _, x := range l {
		kids = append(kids, one(x))
	}
	return kids
}

// grown begins where what stands in front begins.
func (g gone) grown(kind int, text string, front api.Node, others ...api.Node) api.Node {
	return api.Node{Kind: kind, Text: text, Kids: append([]api.Node{front}, others...), At: front.At}
}

func (g gone) expr(x goast.Expr) api.Node {
	switch t := x.(type) {
	case *goast.ParenExpr:
		return g.expr(t.X)
	case *goast.BasicLit:
		return g.literal(t)
	case *goast.Ident:
		return g.node(api.EName, t.Name, t.Pos())
	case *goast.UnaryExpr:
		return g.node(api.EUnary, t.Op.String(), t.Pos(), g.expr(t.X))
	case *goast.BinaryExpr:
		return g.grown(api.EBinary, t.Op.String(), g.expr(t.X), g.expr(t.Y))
	case *goast.CallExpr:
		return g.grown(api.ECall, "", g.expr(t.Fun), g.all(t.Args, g.expr)...)
	case *goast.IndexExpr:
		return g.grown(api.EIndex, "", g.expr(t.X), g.part(t.Index))
	case *goast.IndexListExpr:
		return g.grown(api.EIndex, "", g.expr(t.X), g.all(t.Indices, g.part)...)
	case *goast.SelectorExpr:
		return g.grown(api.EField, t.Sel.Name, g.expr(t.X))
	case *goast.CompositeLit:
		return g.grown(api.ELit, "", g.typ(t.Type), g.all(t.Elts, g.expr)...)
	case *goast.FuncLit:
		return g.node(api.EFunc, "", t.Pos(), g.signature(t.Type), g.block(t.Body))
	}
	panic("no expression of the fragment")
}

func (g gone) part(x goast.Expr) api.Node {
	switch x.(type) {
	case *goast.ArrayType, *goast.FuncType:
		return g.typ(x)
	}
	return g.expr(x)
}

func (g gone) literal(t *goast.BasicLit) api.Node {
	if t.Kind == gotoken.STRING {
		s, _ := strconv.Unquote(t.Value)
		return g.node(api.EStr, s, t.Pos())
	}
	v, _ := new(big.Int).SetString(t.Value, 0)
	return g.node(api.EInt, v.String(), t.Pos())
}

func (g gone) block(b *goast.BlockStmt) api.Node {
	n := g.node(api.SBlock, "", b.Pos())
	for _, s := range b.List {
		if _, ok := s.(*goast.EmptyStmt); !ok {
			n.Kids = append(n.Kids, g.statement(s))
		}
	}
	return n
}

func (g gone) statement(s goast.Stmt) api.Node {
	switch t := s.(type) {
	case nil:
		return api.Node{}
	case *goast.DeclStmt:
		return g.declaration(t.Decl)
	case *goast.AssignStmt:
		if t.Tok == gotoken.DEFINE {
			return g.node(api.SShort, t.Lhs[0].(*goast.Ident).Name, t.Pos(), g.expr(t.Rhs[0]))
		}
		return g.node(api.SAssign, "", t.Pos(), g.expr(t.Lhs[0]), g.expr(t.Rhs[0]))
	case *goast.IncDecStmt:
		return g.node(api.SInc, t.Tok.String(), t.Pos(), g.expr(t.X))
	case *goast.ExprStmt:
		return g.node(api.SExpr, "", t.Pos(), g.expr(t.X))
	case *goast.IfStmt:
		return g.node(api.SIf, "", t.Pos(), g.expr(t.Cond), g.block(t.Body), g.statement(t.Else))
	case *goast.ForStmt:
		var condition api.Node
		if t.Cond != nil {
			condition = g.expr(t.Cond)
		}
		return g.node(api.SFor, "", t.Pos(), g.statement(t.Init), condition, g.statement(t.Post), g.block(t.Body))
	case *goast.RangeStmt:
		names := ""
		if t.Key != nil {
			names = t.Key.(*goast.Ident).Name
		}
		if t.Value != nil {
			names += "," + t.Value.(*goast.Ident).Name
		}
		return g.node(api.SRange, names, t.Pos(), g.expr(t.X), g.block(t.Body))
	case *goast.ReturnStmt:
		var value api.Node
		if len(t.Results) > 0 {
			value = g.expr(t.Results[0])
		}
		return g.node(api.SReturn, "", t.Pos(), value)
	case *goast.BranchStmt:
		return g.node(map[gotoken.Token]int{gotoken.BREAK: api.SBreak, gotoken.CONTINUE: api.SContinue}[t.Tok], "", t.Pos())
	case *goast.BlockStmt:
		return g.block(t)
	}
	panic("no statement of the fragment")
}
