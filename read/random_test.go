package read

import (
	"math/big"
	"math/rand/v2"
	"reflect"
	"slices"
	"strings"
	"testing"

	"demotic/api"
	"demotic/lit"
	"demotic/show"
	"demotic/token"
	"demotic/tree"
)

// grower makes right trees by chance, always the same ones.
type grower struct{ *rand.Rand }

func node(kind int, text string, kids ...api.Node) api.Node {
	return api.Node{Kind: kind, Text: text, Kids: kids}
}

// some is at most so many nodes, of one at least.
func (g grower) some(least, most int, one func(int) api.Node, fuel int) []api.Node {
	var l []api.Node
	for range least + g.IntN(most-least+1) {
		l = append(l, one(fuel))
	}
	return l
}

func (g grower) name() string { return strings.Fields("a b c T _ x1 int")[g.IntN(7)] }
func (g grower) used() string { return strings.Fields("a b c T x1 int")[g.IntN(6)] }
func (g grower) half() bool   { return g.IntN(2) == 0 }

func (g grower) or(n api.Node) api.Node {
	if g.half() {
		return api.Node{}
	}
	return n
}

func (g grower) file() api.Node {
	return node(api.File, g.used(), g.some(0, 3, g.declaration, 4)...)
}

func (g grower) declaration(fuel int) api.Node {
	params := node(api.List, "", g.some(0, 2, g.param, 2)...)
	switch g.IntN(7) {
	case 0:
		return node(api.Type, g.name(), params, g.typ(fuel))
	case 1:
		return node(api.Type, g.name(), params, node(api.TStruct, "", g.some(0, 3, g.field, fuel)...))
	case 2:
		return node(api.Type, g.name(), params, g.inter(fuel))
	case 3:
		return node(api.Alias, g.name(), params, g.typ(fuel))
	case 4:
		return g.variable(fuel)
	}
	return node(api.Func, g.name(), params, g.signature(fuel), g.block(fuel))
}

func (g grower) param(fuel int) api.Node {
	if g.half() {
		return node(api.TParam, g.name(), g.inter(fuel))
	}
	return node(api.TParam, g.name(), node(api.TName, g.name(), g.some(0, 2, g.typ, fuel-1)...))
}

func (g grower) inter(fuel int) api.Node {
	return node(api.TInter, "", g.some(1, 3, func(fuel int) api.Node {
		return node(api.Term, []string{"", "~"}[g.IntN(2)], g.typ(fuel))
	}, fuel)...)
}

func (g grower) field(fuel int) api.Node { return node(api.Field, g.name(), g.typ(fuel)) }
func (g grower) named(fuel int) api.Node { return node(api.Param, g.name(), g.typ(fuel)) }
func (g grower) blank(fuel int) api.Node { return node(api.Param, "", g.typ(fuel)) }

func (g grower) signature(fuel int) api.Node {
	return node(api.TFunc, "", node(api.List, "", g.some(0, 2, g.named, fuel-1)...), g.or(g.typ(fuel-1)))
}

func (g grower) typ(fuel int) api.Node {
	if fuel <= 0 {
		return node(api.TName, g.name())
	}
	switch g.IntN(4) {
	case 0:
		return node(api.TSlice, "", g.typ(fuel-1))
	case 1:
		return node(api.TFunc, "", node(api.List, "", g.some(0, 2, g.blank, fuel-1)...), g.or(g.typ(fuel-1)))
	}
	return node(api.TName, g.name(), g.some(0, 2, g.typ, fuel-1)...)
}

func (g grower) variable(fuel int) api.Node {
	typ := g.or(g.typ(2))
	value := g.expr(fuel)
	if typ.Kind != api.None {
		value = g.or(value)
	}
	return node(api.Var, g.name(), typ, value)
}

func (g grower) expr(fuel int) api.Node {
	if fuel <= 0 {
		return node(api.EName, g.name())
	}
	fuel--
	switch g.IntN(12) {
	case 0:
		return node(api.EInt, strings.Fields("0 1 42 340282366920938463463374607431768211456")[g.IntN(4)])
	case 1:
		return node(api.EStr, []string{"", "a", "\x00\xff\"\\\n", "ä`\ufeff"}[g.IntN(4)])
	case 2, 3:
		return node(api.EUnary, []string{"-", "!"}[g.IntN(2)], g.expr(fuel))
	case 4, 5:
		signs := strings.Fields("+ - * / % == != < <= > >= && ||")
		return node(api.EBinary, signs[g.IntN(len(signs))], g.expr(fuel), g.expr(fuel))
	case 6:
		return node(api.ECall, "", g.some(1, 3, g.expr, fuel)...)
	case 7:
		return node(api.EIndex, "", append([]api.Node{g.expr(fuel)}, g.some(1, 2, g.part, fuel)...)...)
	case 8:
		return node(api.EField, g.name(), g.expr(fuel))
	case 9:
		typ := node(api.TSlice, "", g.typ(2))
		if g.half() {
			typ = node(api.TName, g.name(), g.some(0, 2, g.typ, 2)...)
		}
		return node(api.ELit, "", append([]api.Node{typ}, g.some(0, 2, g.expr, fuel)...)...)
	case 10:
		return node(api.EFunc, "", g.signature(2), g.block(fuel-1))
	}
	return node(api.EName, g.name())
}

func (g grower) part(fuel int) api.Node {
	if t := g.typ(2); g.half() && t.Kind != api.TName {
		return t
	}
	return g.expr(fuel)
}

func (g grower) block(fuel int) api.Node {
	return node(api.SBlock, "", g.some(0, 2, g.statement, fuel-1)...)
}

// simple is a statement that is no block, of some kinds.
func (g grower) simple(fuel int, kinds ...int) api.Node {
	switch kinds[g.IntN(len(kinds))] {
	case api.SShort:
		return node(api.SShort, g.used(), g.expr(fuel))
	case api.SAssign:
		return node(api.SAssign, "", g.expr(fuel), g.expr(fuel))
	case api.SInc:
		return node(api.SInc, []string{"++", "--"}[g.IntN(2)], g.expr(fuel))
	}
	return node(api.SExpr, "", node(api.ECall, "", g.some(1, 2, g.expr, fuel)...))
}

func (g grower) statement(fuel int) api.Node {
	if fuel <= 0 {
		return node([]int{api.SBreak, api.SContinue}[g.IntN(2)], "")
	}
	switch g.IntN(10) {
	case 0:
		return g.variable(fuel)
	case 1:
		return g.choice(fuel)
	case 2, 3:
		return node(api.SFor, "", g.or(g.simple(fuel, api.SShort, api.SAssign, api.SInc)), g.or(g.expr(fuel)), g.or(g.simple(fuel, api.SAssign, api.SInc, api.SExpr)), g.block(fuel))
	case 4:
		return node(api.SRange, []string{"", "a", "_,b", "a,b"}[g.IntN(4)], g.expr(fuel), g.block(fuel))
	case 5:
		return node(api.SReturn, "", g.or(g.expr(fuel)))
	case 6:
		return g.block(fuel)
	}
	return g.simple(fuel, api.SShort, api.SAssign, api.SInc, api.SExpr)
}

func (g grower) choice(fuel int) api.Node {
	var other api.Node
	switch g.IntN(3) {
	case 0:
		other = g.block(fuel)
	case 1:
		other = g.choice(fuel - 1)
	}
	return node(api.SIf, "", g.expr(fuel), g.block(fuel), other)
}

// plain is a node whose empty lists are nil.
func plain(n api.Node) api.Node {
	var kids []api.Node
	for _, kid := range n.Kids {
		kids = append(kids, plain(kid))
	}
	n.Kids = kids
	return n
}

// odd: would Go's own reader take it for something else? It takes the point behind a number for the number's, and the
// second part in [ ] for a type.
func odd(n api.Node) bool {
	return slices.ContainsFunc(tree.Find(n, api.EField), func(x api.Node) bool {
		return x.Kids[0].Kind == api.EInt
	}) || slices.ContainsFunc(tree.Find(n, api.EIndex), func(x api.Node) bool {
		return slices.ContainsFunc(x.Kids[2:], func(part api.Node) bool {
			return !slices.Contains([]int{api.EName, api.TSlice, api.TFunc}, part.Kind)
		})
	})
}

// same holds what is read of a text against a tree, and against Go's own reader, with where each node begins.
func same(t *testing.T, text string, want api.Node) {
	t.Helper()
	n, at, e := File([]byte(text))
	if e != api.OK || at != 0 || !tree.Right(n, "file") || !tree.Same(n, want) {
		t.Fatalf("P8.2: %s: %d at %d", text, e, at)
	}
	if odd(want) {
		return
	}
	other, err := goFile(text)
	if err != nil {
		t.Fatalf("P8.1: %s: %v", text, err)
	}
	if !reflect.DeepEqual(plain(n), plain(other)) {
		t.Fatalf("P8.1: %s: %v, by Go's own reader %v", text, n, other)
	}
}

// bare tells a text's tokens, but for brackets, commas and semicolons: numbers and texts as what they mean, and no word
// of a constraint that a tree has, written or not.
func bare(t *testing.T, text []byte) []string {
	t.Helper()
	l, at, e := token.Scan(text)
	if e != api.OK {
		t.Fatalf("%s: %d at %d", text, e, at)
	}
	var words []string
	for _, x := range l {
		word := x.Text
		switch x.Kind {
		case numberKind:
			word, _ = lit.Number(word)
		case textKind:
			word, _ = lit.Text(word)
			word = lit.Quote(word)
		}
		if !slices.Contains(strings.Fields("( ) [ ] { } , ; interface"), word) && word != "\n" {
			words = append(words, word)
		}
	}
	return words
}

// TestShown: the text of a right file is read as it was.
func TestShown(t *testing.T) {
	g := grower{rand.New(rand.NewPCG(7, 2))}
	for range 6000 {
		n := g.file()
		text, e := show.File(n)
		if e != api.OK {
			t.Fatalf("P7.1: %v: %d", n, e)
		}
		if len(text) <= api.MaxSource {
			same(t, string(text), n)
		}
	}
}

// TestShownExpressions: .. and that of an expression.
func TestShownExpressions(t *testing.T) {
	g := grower{rand.New(rand.NewPCG(7, 3))}
	for range 20000 {
		n := g.expr(5)
		text, e := show.Text(n, "expression")
		if e != api.OK {
			t.Fatalf("P7.1: %v: %d", n, e)
		}
		if again, at, e := Expr(text); e != api.OK || at != 0 || !tree.Same(again, n) {
			t.Fatalf("P8.2: %s: %v, %d at %d", text, again, e, at)
		}
	}
}

// loose writes trees with brackets, commas, semicolons, blanks and notes where they may be.
type loose struct{ grower }

func (w loose) gap() string {
	return []string{" ", " ", "\t", "\r ", " /* x */ "}[w.IntN(5)]
}

func (w loose) end() string {
	return []string{";", "\n", " // x\n", "; \n", " /*\n*/"}[w.IntN(5)]
}

// may puts brackets round what needs them, and round other things, too.
func (w loose) may(needed bool, s string) string {
	if needed || w.IntN(3) == 0 {
		return w.may(false, "("+w.gap()+s+")")
	}
	return s
}

func (w loose) row(open string, l []api.Node, one func(api.Node) string, end string) string {
	s := open
	for i, n := range l {
		s += one(n)
		if i < len(l)-1 || w.half() {
			s += "," + []string{"", "\n", " "}[w.IntN(3)]
		}
	}
	return s + end
}

func (w loose) file(n api.Node) string {
	s := w.gap() + "package" + w.gap() + n.Text + w.end()
	for _, d := range n.Kids {
		s += w.declaration(d) + w.end()
	}
	return s
}

func (w loose) declaration(n api.Node) string {
	switch n.Kind {
	case api.Func:
		return "func" + w.gap() + n.Text + w.params(n.Kids[0]) + w.signature(n.Kids[1]) + w.block(n.Kids[2])
	case api.Type:
		return "type" + w.gap() + n.Text + w.params(n.Kids[0]) + w.gap() + w.meaning(n.Kids[1])
	case api.Alias:
		return "type" + w.gap() + n.Text + w.params(n.Kids[0]) + w.gap() + "=" + w.typ(n.Kids[1])
	}
	return w.variable(n)
}

func (w loose) meaning(n api.Node) string {
	switch n.Kind {
	case api.TStruct:
		s := "struct" + w.gap() + "{"
		for i, f := range n.Kids {
			s += f.Text + w.gap() + w.typ(f.Kids[0])
			if i < len(n.Kids)-1 || w.half() {
				s += w.end()
			}
		}
		return s + "}"
	case api.TInter:
		return "interface" + w.gap() + "{" + w.terms(n.Kids) + []string{"", ";", "\n"}[w.IntN(3)] + "}"
	}
	return w.typ(n)
}

func (w loose) terms(l []api.Node) string {
	var terms []string
	for _, n := range l {
		terms = append(terms, n.Text+w.kind(n.Kids[0]))
	}
	return strings.Join(terms, w.gap()+"|"+w.gap())
}

func (w loose) params(n api.Node) string {
	if len(n.Kids) == 0 {
		return ""
	}
	return w.row("[", n.Kids, func(p api.Node) string {
		c := p.Kids[0]
		alone := c.Kind == api.TInter && len(c.Kids) == 1 && c.Kids[0].Text == "" && c.Kids[0].Kids[0].Kind == api.TName
		switch {
		case c.Kind == api.TName:
			return p.Text + w.gap() + w.kind(c)
		case alone || w.half():
			return p.Text + w.gap() + w.meaning(c)
		}
		return p.Text + w.gap() + w.terms(c.Kids)
	}, "]")
}

func (w loose) signature(n api.Node) string {
	s := w.row("(", n.Kids[0].Kids, func(p api.Node) string {
		return p.Text + w.gap() + w.typ(p.Kids[0])
	}, ")")
	if n.Kids[1].Kind != api.None {
		s += w.gap() + w.kind(n.Kids[1])
	}
	return s
}

func (w loose) typ(n api.Node) string { return w.may(false, w.kind(n)) }

func (w loose) kind(n api.Node) string {
	switch n.Kind {
	case api.TSlice:
		return "[" + w.gap() + "]" + w.typ(n.Kids[0])
	case api.TFunc:
		return "func" + w.gap() + w.signature(n)
	}
	if len(n.Kids) == 0 {
		return n.Text
	}
	return n.Text + w.row("[", n.Kids, w.typ, "]")
}

// literal writes the type of one: in its [ ] a slice or a function has no brackets round it.
func (w loose) literal(n api.Node) string {
	if n.Kind == api.TSlice || len(n.Kids) == 0 {
		return w.kind(n)
	}
	return n.Text + w.row("[", n.Kids, func(kid api.Node) string {
		if kid.Kind == api.TName {
			return w.may(false, w.literal(kid))
		}
		return w.kind(kid)
	}, "]")
}

func (w loose) variable(n api.Node) string {
	s := "var" + w.gap() + n.Text
	if n.Kids[0].Kind != api.None {
		s += w.gap() + w.typ(n.Kids[0])
	}
	if n.Kids[1].Kind != api.None {
		s += w.gap() + "=" + w.expr(n.Kids[1])
	}
	return s
}

func (w loose) expr(n api.Node) string { return w.may(false, w.whole(n)) }

func (w loose) operand(n api.Node) string {
	return w.may(n.Kind == api.EUnary || n.Kind == api.EBinary, w.whole(n))
}

func (w loose) whole(n api.Node) string {
	switch n.Kind {
	case api.EInt:
		v, _ := new(big.Int).SetString(n.Text, 10)
		return []string{n.Text, "0x_" + v.Text(16), "0B" + v.Text(2), "0o" + v.Text(8), "0" + v.Text(8)}[w.IntN(5)] + w.gap()
	case api.EStr:
		if !strings.ContainsAny(n.Text, "`\r\x00\ufeff\xff") && w.half() {
			return "`" + n.Text + "`"
		}
		return lit.Quote(n.Text)
	case api.EUnary:
		return n.Text + w.gap() + w.operand(n.Kids[0])
	case api.EBinary:
		return w.operand(n.Kids[0]) + w.gap() + n.Text + w.gap() + w.operand(n.Kids[1])
	case api.ECall:
		return w.operand(n.Kids[0]) + w.row("(", n.Kids[1:], w.expr, ")")
	case api.EIndex:
		return w.operand(n.Kids[0]) + w.row("[", n.Kids[1:], w.part, "]")
	case api.EField:
		return w.operand(n.Kids[0]) + "." + w.gap() + n.Text
	case api.ELit:
		return w.literal(n.Kids[0]) + w.gap() + w.row("{", n.Kids[1:], w.expr, "}")
	case api.EFunc:
		return "func" + w.signature(n.Kids[0]) + w.block(n.Kids[1])
	}
	return n.Text
}

func (w loose) part(n api.Node) string {
	if n.Kind == api.TSlice || n.Kind == api.TFunc {
		return w.kind(n)
	}
	return w.expr(n)
}

func (w loose) block(n api.Node) string {
	s := w.gap() + "{" + []string{"", "\n", ";", ";;"}[w.IntN(4)]
	for i, kid := range n.Kids {
		s += w.statement(kid, w.expr)
		if i < len(n.Kids)-1 || w.half() {
			s += w.end() + []string{"", "\n", ";", ";\n;"}[w.IntN(4)]
		}
	}
	return s + "}"
}

// head writes an expression that is in one: what has a literal in it in brackets.
func (w loose) head(n api.Node) string {
	return w.may(len(tree.Find(n, api.ELit)) > 0, w.whole(n))
}

func (w loose) statement(n api.Node, expr func(api.Node) string) string {
	switch n.Kind {
	case api.Var:
		return w.variable(n)
	case api.SShort:
		return n.Text + w.gap() + ":=" + expr(n.Kids[0])
	case api.SAssign:
		return expr(n.Kids[0]) + w.gap() + "=" + expr(n.Kids[1])
	case api.SInc:
		return expr(n.Kids[0]) + w.gap() + n.Text
	case api.SExpr:
		front := n.Kids[0].Kids[0]
		return w.may(front.Kind != api.EName, w.whole(front)) + w.row("(", n.Kids[0].Kids[1:], w.expr, ")")
	case api.SIf:
		s := "if" + w.gap() + w.head(n.Kids[0]) + w.block(n.Kids[1])
		if n.Kids[2].Kind != api.None {
			s += "else" + w.gap() + w.statement(n.Kids[2], nil)
		}
		return s
	case api.SFor:
		return w.loop(n)
	case api.SRange:
		s := "for" + w.gap()
		if n.Text != "" {
			s += strings.ReplaceAll(n.Text, ",", w.gap()+","+w.gap()) + w.gap() + ":="
		}
		return s + "range" + w.gap() + w.head(n.Kids[0]) + w.block(n.Kids[1])
	case api.SReturn:
		if n.Kids[0].Kind == api.None {
			return "return"
		}
		return "return" + w.gap() + w.expr(n.Kids[0])
	case api.SBreak:
		return "break"
	case api.SContinue:
		return "continue"
	}
	return w.block(n)
}

func (w loose) loop(n api.Node) string {
	s := "for" + w.gap()
	condition := ""
	if n.Kids[1].Kind != api.None {
		condition = w.head(n.Kids[1])
	}
	if n.Kids[0].Kind == api.None && n.Kids[2].Kind == api.None && w.half() {
		return s + condition + w.block(n.Kids[3])
	}
	first, last := "", ""
	if n.Kids[0].Kind != api.None {
		first = w.statement(n.Kids[0], w.head)
	}
	if n.Kids[2].Kind != api.None {
		last = w.statement(n.Kids[2], w.head)
	}
	return s + first + ";" + condition + ";" + last + w.block(n.Kids[3])
}

// TestLoose: brackets, commas, semicolons, blanks and notes more or less change nothing but where nodes begin.
func TestLoose(t *testing.T) {
	g := grower{rand.New(rand.NewPCG(7, 4))}
	for range 4000 {
		n := g.file()
		text := loose{g}.file(n)
		if len(text) > api.MaxSource {
			continue
		}
		same(t, text, n)
		shown, _ := show.File(n)
		if len(shown) > api.MaxSource {
			continue
		}
		if !slices.Equal(bare(t, []byte(text)), bare(t, shown)) {
			t.Fatalf("P8.2: the tokens of %s are not those of %s", shown, text)
		}
	}
}
