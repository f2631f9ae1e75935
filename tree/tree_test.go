package tree_test

import (
	"math"
	"reflect"
	"slices"
	"strconv"
	"strings"
	"testing"

	"demotic/api"
	"demotic/tree"
)

// sorts are those that Right knows.
var sorts = []string{"file", "declaration", "type", "expression", "statement", "signature"}

func node(kind int, text string, kids ...api.Node) api.Node {
	return api.Node{Kind: kind, Text: text, Kids: kids}
}

var (
	none   = node(api.None, "")
	one    = node(api.EInt, "1")
	x      = node(api.EName, "x")
	whole  = node(api.TName, "int")
	row    = node(api.TSlice, "", whole)
	list   = node(api.List, "")
	block  = node(api.SBlock, "")
	inter  = node(api.TInter, "", node(api.Term, "", whole), node(api.Term, "~", row))
	named  = node(api.TFunc, "", node(api.List, "", node(api.Param, "a", whole), node(api.Param, "_", row)), whole)
	blank  = node(api.TFunc, "", node(api.List, "", node(api.Param, "", whole), node(api.Param, "", row)), none)
	bare   = node(api.TFunc, "", list, none)
	params = node(api.List, "", node(api.TParam, "P", whole), node(api.TParam, "Q", inter))
	call   = node(api.ECall, "", x, one)
	loop   = node(api.SFor, "", node(api.SShort, "i", one), x, node(api.SInc, "++", x), block)
	choice = node(api.SIf, "", x, block, node(api.SIf, "", x, block, block))
)

// sample is a node, and the sorts of which it is a right one.
type sample struct {
	name  string
	sorts string
	n     api.Node
}

// samples tells a node of each kind at least, and by its name where it may stand.
func samples() []sample {
	return []sample{
		{"none", "", none},
		{"file", "file", node(api.File, "main", node(api.Var, "x", whole, none), node(api.Alias, "A", list, row))},
		{"func", "declaration", node(api.Func, "f", params, named, block)},
		{"typedef", "declaration", node(api.Type, "T", params, row)},
		{"alias", "declaration", node(api.Alias, "A", params, row)},
		{"var", "declaration statement", node(api.Var, "v", whole, one)},
		{"list", "", list},
		{"list of tparams", "", params},
		{"list of named", "", node(api.List, "", node(api.Param, "a", whole))},
		{"list of unnamed", "", node(api.List, "", node(api.Param, "", whole))},
		{"list of types", "", node(api.List, "", whole)},
		{"tparam", "", node(api.TParam, "P", inter)},
		{"named", "", node(api.Param, "a", whole)},
		{"unnamed", "", node(api.Param, "", whole)},
		{"field", "", node(api.Field, "a", whole)},
		{"tname", "type", node(api.TName, "T", whole, row)},
		{"tslice", "type", row},
		{"bare func", "type signature", bare},
		{"unnamed func", "type", blank},
		{"named func", "signature", named},
		{"struct", "", node(api.TStruct, "", node(api.Field, "a", whole), node(api.Field, "b", row))},
		{"inter", "", inter},
		{"term", "", node(api.Term, "~", whole)},
		{"int", "expression", one},
		{"str", "expression", node(api.EStr, "\xff\x00\n")},
		{"name", "expression", x},
		{"unary", "expression", node(api.EUnary, "-", one)},
		{"binary", "expression", node(api.EBinary, "||", one, x)},
		{"call", "expression", call},
		{"index", "expression", node(api.EIndex, "", x, one, row)},
		{"fieldof", "expression", node(api.EField, "a", x)},
		{"lit", "expression", node(api.ELit, "", row, one, x)},
		{"lambda", "expression", node(api.EFunc, "", named, block)},
		{"short", "statement", node(api.SShort, "y", one)},
		{"assign", "statement", node(api.SAssign, "", x, one)},
		{"inc", "statement", node(api.SInc, "--", x)},
		{"expr", "statement", node(api.SExpr, "", call)},
		{"if", "statement", choice},
		{"for", "statement", loop},
		{"range", "statement", node(api.SRange, "i,y", x, block)},
		{"return", "statement", node(api.SReturn, "", x)},
		{"break", "statement", node(api.SBreak, "")},
		{"continue", "statement", node(api.SContinue, "")},
		{"block", "statement", node(api.SBlock, "", block, loop)},
		{"no kind", "", node(api.Kinds, "")},
		{"less than a kind", "", node(-1, "")},
		{"far from a kind", "", node(math.MaxInt, "")},
	}
}

const (
	types       = "tname,tslice,bare func,unnamed func"
	expressions = "int,str,name,unary,binary,call,index,fieldof,lit,lambda"
	statements  = "var,short,assign,inc,expr,if,for,range,return,break,continue,block"
)

// place is where something stands in a node of a sort, and what may stand there.
type place struct {
	sort string
	n    api.Node
	path []int
	may  string
}

// places tells all places of all rows.
func places() []place {
	fn := node(api.Func, "f", params, named, block)
	record := node(api.Type, "T", list, node(api.TStruct, "", node(api.Field, "a", whole)))
	union := node(api.Type, "T", list, inter)
	lambda := node(api.EFunc, "", named, block)
	index := node(api.EIndex, "", x, one, one)
	return []place{
		{"file", node(api.File, "p", fn, fn), []int{0}, "func,typedef,alias,var"},
		{"file", node(api.File, "p", fn, fn), []int{1}, "func,typedef,alias,var"},
		{"declaration", fn, []int{0}, "list,list of tparams"},
		{"declaration", fn, []int{0, 1}, "tparam"},
		{"declaration", fn, []int{0, 0, 0}, "tname,inter"},
		{"declaration", fn, []int{1}, "bare func,named func"},
		{"declaration", fn, []int{1, 0}, "list,list of named"},
		{"declaration", fn, []int{1, 0, 0}, "named"},
		{"declaration", fn, []int{1, 0, 1, 0}, types},
		{"declaration", fn, []int{1, 1}, types + ",none"},
		{"declaration", fn, []int{2}, "block"},
		{"declaration", record, []int{0}, "list,list of tparams"},
		{"declaration", record, []int{1}, types + ",struct,inter"},
		{"declaration", record, []int{1, 0}, "field"},
		{"declaration", record, []int{1, 0, 0}, types},
		{"declaration", union, []int{1, 1}, "term"},
		{"declaration", union, []int{1, 0, 0}, types},
		{"declaration", node(api.Alias, "A", list, whole), []int{0}, "list,list of tparams"},
		{"declaration", node(api.Alias, "A", list, whole), []int{1}, types},
		{"declaration", node(api.Var, "v", whole, one), []int{0}, types + ",none"},
		{"declaration", node(api.Var, "v", whole, one), []int{1}, expressions + ",none"},
		{"declaration", node(api.Var, "v", none, one), []int{1}, expressions},
		{"declaration", node(api.Var, "v", whole, none), []int{0}, types},
		{"statement", node(api.Var, "v", none, one), []int{1}, expressions},
		{"statement", node(api.Var, "v", whole, none), []int{0}, types},
		{"signature", named, []int{0}, "list,list of named"},
		{"signature", named, []int{0, 1}, "named"},
		{"signature", named, []int{0, 0, 0}, types},
		{"signature", named, []int{1}, types + ",none"},
		{"type", node(api.TName, "T", whole, whole), []int{0}, types},
		{"type", node(api.TName, "T", whole, whole), []int{1}, types},
		{"type", row, []int{0}, types},
		{"type", blank, []int{0}, "list,list of unnamed"},
		{"type", blank, []int{0, 1}, "unnamed"},
		{"type", blank, []int{0, 0, 0}, types},
		{"type", blank, []int{1}, types + ",none"},
		{"expression", node(api.EUnary, "!", x), []int{0}, expressions},
		{"expression", node(api.EBinary, "%", x, x), []int{0}, expressions},
		{"expression", node(api.EBinary, "%", x, x), []int{1}, expressions},
		{"expression", node(api.ECall, "", x, x, x), []int{0}, expressions},
		{"expression", node(api.ECall, "", x, x, x), []int{2}, expressions},
		{"expression", index, []int{0}, expressions},
		{"expression", index, []int{1}, expressions + ",tslice,bare func,unnamed func"},
		{"expression", index, []int{2}, expressions + ",tslice,bare func,unnamed func"},
		{"expression", node(api.EField, "a", x), []int{0}, expressions},
		{"expression", node(api.ELit, "", row, x, x), []int{0}, "tname,tslice"},
		{"expression", node(api.ELit, "", row, x, x), []int{1}, expressions},
		{"expression", node(api.ELit, "", row, x, x), []int{2}, expressions},
		{"expression", lambda, []int{0}, "bare func,named func"},
		{"expression", lambda, []int{1}, "block"},
		{"statement", node(api.SShort, "y", x), []int{0}, expressions},
		{"statement", node(api.SAssign, "", x, x), []int{0}, expressions},
		{"statement", node(api.SAssign, "", x, x), []int{1}, expressions},
		{"statement", node(api.SInc, "++", x), []int{0}, expressions},
		{"statement", node(api.SExpr, "", call), []int{0}, "call"},
		{"statement", choice, []int{0}, expressions},
		{"statement", choice, []int{1}, "block"},
		{"statement", choice, []int{2}, "none,block,if"},
		{"statement", choice, []int{2, 2}, "none,block,if"},
		{"statement", loop, []int{0}, "none,short,assign,inc"},
		{"statement", loop, []int{1}, expressions + ",none"},
		{"statement", loop, []int{2}, "none,assign,inc,expr"},
		{"statement", loop, []int{3}, "block"},
		{"statement", node(api.SRange, "i", x, block), []int{0}, expressions},
		{"statement", node(api.SRange, "i", x, block), []int{1}, "block"},
		{"statement", node(api.SReturn, "", x), []int{0}, expressions + ",none"},
		{"statement", node(api.SBlock, "", block, block), []int{0}, statements},
		{"statement", node(api.SBlock, "", block, block), []int{1}, statements},
	}
}

// at tells what stands in n at a place.
func at(n api.Node, path []int) api.Node {
	for _, i := range path {
		n = n.Kids[i]
	}
	return n
}

// put is n with another node at a place.
func put(n api.Node, path []int, by api.Node) api.Node {
	if len(path) == 0 {
		return by
	}
	n.Kids = slices.Clone(n.Kids)
	n.Kids[path[0]] = put(n.Kids[path[0]], path[1:], by)
	return n
}

func TestRightSorts(t *testing.T) {
	kinds := map[int]bool{}
	for _, s := range samples() {
		kinds[s.n.Kind] = true
		for _, sort := range sorts {
			if want := slices.Contains(strings.Fields(s.sorts), sort); tree.Right(s.n, sort) != want {
				t.Errorf("P6.1: Right(%s, %s) = %v", s.name, sort, !want)
			}
		}
		for _, sort := range []string{"", "x", "File", "none", "parameter of types", "(Param)", "(TStruct)", "(TInter)", "(Term)", "Param", "TInter", "TStruct", "Term", "expressions", " type", "type "} {
			if tree.Right(s.n, sort) {
				t.Errorf("P6.1: Right(%s, %q)", s.name, sort)
			}
		}
	}
	for kind := range api.Kinds {
		if !kinds[kind] {
			t.Errorf("no sample of the kind %d", kind)
		}
	}
}

// TestRightPlaces puts each sample to each place.
func TestRightPlaces(t *testing.T) {
	for _, p := range places() {
		if !tree.Right(p.n, p.sort) {
			t.Errorf("P6.1: %v is a right %s", p.n, p.sort)
		}
		may := strings.Split(p.may, ",")
		for _, s := range samples() {
			if want := slices.Contains(may, s.name); tree.Right(put(p.n, p.path, s.n), p.sort) != want {
				t.Errorf("P6.1: %s of the kind %d: %s at %v: %v", p.sort, p.n.Kind, s.name, p.path, !want)
			}
		}
	}
}

// TestRightAll: of all nodes of a right one none may have another kind, text or kid.
func TestRightAll(t *testing.T) {
	for _, p := range places() {
		part := at(p.n, p.path)
		for _, wrong := range []api.Node{
			{Kind: part.Kind, Text: part.Text + " ", Kids: part.Kids},
			{Kind: part.Kind, Text: part.Text + "\x00", Kids: part.Kids},
			{Kind: part.Kind, Text: "if", Kids: part.Kids},
			{Kind: part.Kind, Text: part.Text, Kids: append(slices.Clone(part.Kids), api.Node{})},
			{Kind: part.Kind, Text: part.Text, Kids: append([]api.Node{{}}, part.Kids...)},
			{Kind: part.Kind, Text: part.Text, Kids: append(slices.Clone(part.Kids), node(api.List, ""))},
			{Kind: part.Kind + api.Kinds, Text: part.Text, Kids: part.Kids},
			{Kind: -part.Kind - 1, Text: part.Text, Kids: part.Kids},
		} {
			if tree.Right(put(p.n, p.path, wrong), p.sort) {
				t.Errorf("P6.1: %s of the kind %d: %v at %v", p.sort, p.n.Kind, wrong, p.path)
			}
		}
	}
	for _, wrong := range []api.Node{node(api.None, "x"), node(api.None, "", none), node(api.None, " ")} {
		for _, n := range []api.Node{node(api.SReturn, "", wrong), node(api.Var, "v", wrong, one), node(api.Var, "v", whole, wrong), node(api.SIf, "", x, block, wrong), node(api.SFor, "", wrong, none, none, block), node(api.SFor, "", none, wrong, none, block), node(api.SFor, "", none, none, wrong, block)} {
			if tree.Right(n, "statement") {
				t.Errorf("P6.1: %v", n)
			}
		}
	}
}

// counts tells of each kind the least count of kids, and whether there may be more.
func counts() map[int]struct {
	least int
	open  bool
} {
	type count = struct {
		least int
		open  bool
	}
	return map[int]count{
		api.File: {0, true}, api.Func: {3, false}, api.Type: {2, false}, api.Alias: {2, false}, api.Var: {2, false}, api.TName: {0, true}, api.TSlice: {1, false}, api.TFunc: {2, false},
		api.EInt: {0, false}, api.EStr: {0, false}, api.EName: {0, false}, api.EUnary: {1, false}, api.EBinary: {2, false}, api.ECall: {1, true}, api.EIndex: {2, true}, api.EField: {1, false}, api.ELit: {1, true}, api.EFunc: {2, false},
		api.SShort: {1, false}, api.SAssign: {2, false}, api.SInc: {1, false}, api.SExpr: {1, false}, api.SIf: {3, false}, api.SFor: {4, false}, api.SRange: {2, false}, api.SReturn: {1, false}, api.SBreak: {0, false}, api.SContinue: {0, false}, api.SBlock: {0, true},
	}
}

func TestRightCounts(t *testing.T) {
	for _, s := range samples() {
		for _, sort := range strings.Fields(s.sorts) {
			count := counts()[s.n.Kind]
			for size := range len(s.n.Kids) + 1 {
				n := s.n
				n.Kids = n.Kids[:size]
				want := size >= count.least && (count.open || size == count.least)
				if tree.Right(n, sort) != want {
					t.Errorf("P6.1: %s with %d kids: %v", s.name, size, !want)
				}
			}
			for _, more := range []int{1, 2, 30} {
				n := s.n
				last := one
				if len(n.Kids) > 0 {
					last = n.Kids[len(n.Kids)-1]
				}
				n.Kids = append(slices.Clone(n.Kids), slices.Repeat([]api.Node{last}, more)...)
				if tree.Right(n, sort) != count.open {
					t.Errorf("P6.1: %s with %d kids more: %v", s.name, more, !count.open)
				}
			}
		}
	}
	field, term, tparam := node(api.Field, "a", whole), node(api.Term, "", whole), node(api.TParam, "P", whole)
	for _, c := range []struct {
		n    api.Node
		want bool
	}{
		{node(api.Type, "T", list, node(api.TStruct, "")), true},
		{node(api.Type, "T", list, node(api.TStruct, "", field, field, field)), true},
		{node(api.Type, "T", list, node(api.TInter, "")), false},
		{node(api.Type, "T", list, node(api.TInter, "", term)), true},
		{node(api.Type, "T", list, node(api.TInter, "", term, term, term)), true},
		{node(api.Type, "T", node(api.List, "", tparam, tparam, tparam), whole), true},
		{node(api.Type, "T", list, node(api.TStruct, "", node(api.Field, "a"))), false},
		{node(api.Type, "T", list, node(api.TStruct, "", node(api.Field, "a", whole, whole))), false},
		{node(api.Type, "T", list, node(api.TInter, "", node(api.Term, ""))), false},
		{node(api.Type, "T", list, node(api.TInter, "", node(api.Term, "", whole, whole))), false},
		{node(api.Type, "T", node(api.List, "", node(api.TParam, "P")), whole), false},
		{node(api.Type, "T", node(api.List, "", node(api.TParam, "P", whole, whole)), whole), false},
		{node(api.Func, "f", list, node(api.TFunc, "", node(api.List, "", node(api.Param, "a")), none), block), false},
		{node(api.Func, "f", list, node(api.TFunc, "", node(api.List, "", node(api.Param, "a", whole, whole)), none), block), false},
	} {
		if tree.Right(c.n, "declaration") != c.want {
			t.Errorf("P6.1: %v: %v", c.n, !c.want)
		}
	}
}

const (
	names   = "a Z _ _9 x1 int nil main String " + hundred
	hundred = "nnnnnnnnnnnnnnnnnnnnnnnnnnnnnnnnnnnnnnnnnnnnnnnnnnnnnnnnnnnnnnnnnnnnnnnnnnnnnnnnnnnnnnnnnnnnnnnnnnnn"
	wrongs  = "1 1a a-b a.b ä aä if package range go select chan -x x, ,x \xff a\x00 \ufeffa a() n" + hundred
	signs   = "+ - * / % == != < <= > >= && ||"
	other   = "& | ^ << >> &^ = ! ~ += -= := ++ -- , . ; ( <> === &&& and or"
)

// texts tells, of a node with a text at a place, which texts may stand there, and which may not.
type texts struct {
	sort       string
	n          api.Node
	path       []int
	may, mayNt string
}

func TestRightTexts(t *testing.T) {
	if len(hundred) != 100 {
		t.Fatal("no name of 100 bytes")
	}
	fn := node(api.Func, "f", params, named, block)
	record := node(api.Type, "T", list, node(api.TStruct, "", node(api.Field, "a", whole)))
	union := node(api.Type, "T", list, inter)
	for _, c := range []texts{
		{"file", node(api.File, "p"), nil, names, wrongs},
		{"declaration", fn, nil, names, wrongs},
		{"declaration", fn, []int{0, 0}, names, wrongs},
		{"declaration", fn, []int{1, 0, 0}, names, wrongs},
		{"declaration", union, nil, names, wrongs},
		{"declaration", union, []int{1, 1}, "~", "- ~~ ! a ~a"},
		{"declaration", record, []int{1, 0}, names, wrongs},
		{"declaration", node(api.Alias, "A", list, whole), nil, names, wrongs},
		{"declaration", node(api.Var, "v", whole, one), nil, names, wrongs},
		{"statement", node(api.Var, "v", none, one), nil, names, wrongs},
		{"type", whole, nil, names, wrongs},
		{"type", blank, []int{0, 0}, "", "a _ if -"},
		{"expression", one, nil, "0 1 9 10 1234567890 " + strings.Repeat("9", 200), "01 00 -1 +1 1_0 0x1 1. 1e5 a \u0661 " + strings.Repeat("9", 201)},
		{"expression", node(api.EStr, ""), nil, "a \" \\ \xff \x00 \ufeff ä if " + strings.Repeat("\xff", 1000), strings.Repeat("x", 1001) + " " + strings.Repeat("ä", 501)},
		{"expression", x, nil, names, wrongs},
		{"expression", node(api.EUnary, "-", x), nil, "- !", "+ -- !! ^ & * <- ~ a"},
		{"expression", node(api.EBinary, "+", x, x), nil, signs, other},
		{"expression", node(api.EField, "a", x), nil, names, wrongs},
		{"statement", node(api.SShort, "a", x), nil, strings.Replace(names, "_ ", "", 1), wrongs + " _"},
		{"statement", node(api.SInc, "++", x), nil, "++ --", "+ - += +++ a"},
		{"statement", node(api.SRange, "", x, block), nil, strings.Replace(names, "_ ", "", 1) + " a,b _,b a,a _1,_2 " + hundred + "," + hundred, wrongs + " _ _,_ a,_ a,b,c , a, ,b a,1 1,a a;b a,,b if,a a,if a,go n" + hundred + ",a a,n" + hundred},
	} {
		part := at(c.n, c.path)
		for _, text := range strings.Fields(c.may) {
			part.Text = text
			if !tree.Right(put(c.n, c.path, part), c.sort) {
				t.Errorf("P6.1: %s of the kind %d: no %q at %v", c.sort, c.n.Kind, text, c.path)
			}
		}
		for _, text := range strings.Fields(c.mayNt) {
			part.Text = text
			if tree.Right(put(c.n, c.path, part), c.sort) {
				t.Errorf("P6.1: %s of the kind %d: %q at %v", c.sort, c.n.Kind, text, c.path)
			}
		}
	}
	if tree.Right(node(api.SRange, "a, b", x, block), "statement") || tree.Right(node(api.SRange, "a ,b", x, block), "statement") || !tree.Right(node(api.EStr, strings.Repeat(" \n", 500)), "expression") {
		t.Error("P6.1: blanks")
	}
}

// TestRightEmptyTexts: what has no text of its own has none, and what has one is not without.
func TestRightEmptyTexts(t *testing.T) {
	texted := []int{api.File, api.Func, api.Type, api.Alias, api.Var, api.TName, api.EInt, api.EName, api.EUnary, api.EBinary, api.EField, api.SShort, api.SInc}
	free := []int{api.EStr, api.SRange}
	for _, s := range samples() {
		for _, sort := range strings.Fields(s.sorts) {
			n := s.n
			n.Text = ""
			if want := !slices.Contains(texted, n.Kind); tree.Right(n, sort) != want {
				t.Errorf("P6.1: %s without a text: %v", s.name, !want)
			}
			for _, text := range []string{"a", "~", "-", "++", "1", " "} {
				n.Text = text
				if !slices.Contains(texted, n.Kind) && !slices.Contains(free, n.Kind) && tree.Right(n, sort) {
					t.Errorf("P6.1: %s with the text %q", s.name, text)
				}
			}
		}
	}
}

// TestRightPlaceDoesNotCount: a node may begin anywhere.
func TestRightPlaceDoesNotCount(t *testing.T) {
	var moved func(n api.Node, by int) api.Node
	moved = func(n api.Node, by int) api.Node {
		kids := []api.Node{}
		for i, kid := range n.Kids {
			kids = append(kids, moved(kid, by+i))
		}
		return api.Node{Kind: n.Kind, Text: n.Text, Kids: kids, At: by}
	}
	for _, s := range samples() {
		for _, by := range []int{1, -1, math.MaxInt - 1000, math.MinInt} {
			n := moved(s.n, by)
			for _, sort := range sorts {
				if tree.Right(n, sort) != tree.Right(s.n, sort) {
					t.Errorf("P6.1: %s, moved", s.name)
				}
			}
			if !tree.Same(n, s.n) || !tree.Same(s.n, n) {
				t.Errorf("P6.1: %s is not the same, moved", s.name)
			}
			if tree.Copy(n).At != by || len(n.Kids) > 0 && tree.Copy(n).Kids[0].At != by {
				t.Errorf("P6.2: %s has another place, copied", s.name)
			}
		}
	}
}

// tower is n with so many nodes round it.
func tower(n api.Node, high int) api.Node {
	for range high {
		n = node(api.EUnary, "-", n)
	}
	return n
}

func TestRightDeep(t *testing.T) {
	slice := whole
	for range 99 {
		slice = node(api.TSlice, "", slice)
	}
	blocks := block
	for range 99 {
		blocks = node(api.SBlock, "", block, blocks, block)
	}
	file := func(high int) api.Node { // a file, a Var, and so many
		return node(api.File, "p", node(api.Var, "v", none, tower(x, high-1)))
	}
	for _, c := range []struct {
		name, sort string
		n          api.Node
		want       bool
	}{
		{"100 of an expression", "expression", tower(x, 99), true},
		{"101 of an expression", "expression", tower(x, 100), false},
		{"100 of a type", "type", slice, true},
		{"101 of a type", "type", node(api.TSlice, "", slice), false},
		{"100 of a statement", "statement", blocks, true},
		{"101 of a statement", "statement", node(api.SBlock, "", blocks), false},
		{"100 of a file", "file", file(98), true},
		{"101 of a file", "file", file(99), false},
		{"101, the last one wrong", "expression", tower(node(api.EName, "if"), 100), false},
		{"100, the last one wrong", "expression", tower(node(api.EName, "if"), 99), false},
		{"101, beside others", "expression", node(api.ECall, "", x, tower(x, 99), tower(x, 100)), false},
		{"10000", "expression", tower(x, 9999), false},
	} {
		if tree.Right(c.n, c.sort) != c.want {
			t.Errorf("P6.1: %s: %v", c.name, !c.want)
		}
	}
}

func TestRightGreat(t *testing.T) {
	wide := func(n api.Node, kid api.Node, count int) api.Node {
		n.Kids = append(slices.Clone(n.Kids), slices.Repeat([]api.Node{kid}, count)...)
		return n
	}
	for _, c := range []struct {
		name, sort string
		n          api.Node
		want       bool
	}{
		{"2^16 of an expression", "expression", wide(node(api.ECall, "", x), one, 1<<16-2), true},
		{"2^16 and 1 of an expression", "expression", wide(node(api.ECall, "", x), one, 1<<16-1), false},
		{"2^16 of a block", "statement", wide(block, node(api.SReturn, "", none), 1<<15-1), true},
		{"2^16 and 1 of a block", "statement", wide(block, node(api.SReturn, "", none), 1<<15), false},
		{"2^16, the last one wrong", "statement", wide(block, node(api.SReturn, ""), 1<<16-1), false},
		{"2^20", "type", wide(whole, whole, 1<<20), false},
	} {
		if tree.Right(c.n, c.sort) != c.want {
			t.Errorf("P6.1: %s: %v", c.name, !c.want)
		}
	}
	many := node(api.EBinary, "+", x, x)
	for range 14 {
		many = node(api.EBinary, "+", many, many)
	}
	if tree.Size(many) != 1<<16-1 || !tree.Right(many, "expression") || !tree.Right(node(api.EUnary, "-", many), "expression") || tree.Right(node(api.EUnary, "-", node(api.EUnary, "-", many)), "expression") {
		t.Error("P6.1: 2^16 in all")
	}
}

// TestRightEnds: what is great beyond all bounds is found to be so early.
func TestRightEnds(t *testing.T) {
	n := x
	for range 90 {
		n = node(api.EBinary, "+", n, n)
	}
	if tree.Right(n, "expression") {
		t.Error("P6.1: 2^90 nodes")
	}
}

func TestSame(t *testing.T) {
	all := samples()
	for i, a := range all {
		for j, b := range all {
			if tree.Same(a.n, b.n) != (i == j) {
				t.Errorf("P6.1: Same(%s, %s) = %v", a.name, b.name, i != j)
			}
		}
	}
	for _, c := range []struct {
		a, b api.Node
		want bool
	}{
		{api.Node{}, api.Node{}, true},
		{api.Node{Kids: []api.Node{}}, api.Node{}, true},
		{node(api.EName, "x"), node(api.EName, "y"), false},
		{node(api.EName, "x"), node(api.TName, "x"), false},
		{node(api.EName, "x"), node(api.EName, "x", none), false},
		{call, node(api.ECall, "", x, one), true},
		{call, node(api.ECall, "", one, x), false},
		{call, node(api.ECall, "", x, one, one), false},
		{call, node(api.ECall, "", x), false},
		{call, node(api.ECall, "", x, node(api.EInt, "2")), false},
		{api.Node{Kind: -7, Text: "\xff", At: 3}, api.Node{Kind: -7, Text: "\xff", At: -3}, true},
		{tower(x, 99), tower(x, 99), true},
		{tower(x, 99), tower(one, 99), false},
		{tower(x, 100), tower(x, 100), false}, // too deep
		{tower(x, 99), tower(x, 100), false},
		{tower(x, 100), tower(x, 99), false},
		{tower(x, 9999), tower(x, 9999), false},
		{node(api.ECall, "", x, tower(x, 98)), node(api.ECall, "", x, tower(x, 98)), true},
		{node(api.ECall, "", x, tower(x, 99)), node(api.ECall, "", x, tower(x, 99)), false},
	} {
		if tree.Same(c.a, c.b) != c.want || tree.Same(c.b, c.a) != c.want {
			t.Errorf("P6.1: Same(%.99v, %.99v) = %v", c.a, c.b, !c.want)
		}
	}
}

// TestSameIsAnEquality: each one is itself, and what is the same as the same one is the same.
func TestSameIsAnEquality(t *testing.T) {
	var l []api.Node
	for _, s := range samples() {
		l = append(l, s.n, tree.Copy(s.n), put(s.n, nil, api.Node{Kind: s.n.Kind, Text: s.n.Text, Kids: s.n.Kids, At: 9}), node(api.List, s.n.Text, s.n.Kids...))
	}
	for _, a := range l {
		if !tree.Same(a, a) {
			t.Errorf("P6.3: %v is not itself", a)
		}
		for _, b := range l {
			if tree.Same(a, b) != tree.Same(b, a) {
				t.Errorf("P6.3: %v and %v", a, b)
			}
			for _, c := range l {
				if tree.Same(a, b) && tree.Same(b, c) && !tree.Same(a, c) {
					t.Errorf("P6.3: %v, %v and %v", a, b, c)
				}
			}
		}
	}
}

func TestSizeDepth(t *testing.T) {
	for _, c := range []struct {
		name        string
		n           api.Node
		size, depth int
	}{
		{"nothing", api.Node{}, 1, 1},
		{"of no kind", node(-1, "x", node(99, ""), none), 3, 2},
		{"example", node(api.EUnary, "-", one), 2, 2},
		{"a call", call, 3, 2},
		{"deeper on the left", node(api.ECall, "", tower(x, 5), one), 8, 7},
		{"deeper on the right", node(api.ECall, "", one, tower(x, 5), one), 9, 7},
		{"parameters", params, 10, 6},
		{"99", tower(x, 98), 99, 99},
		{"100", tower(x, 99), 100, 100},
		{"101", tower(x, 100), 100, 101},
		{"102", tower(x, 101), 100, 101},
		{"10000", tower(x, 9999), 100, 101},
		{"what is deeper is left out", node(api.ECall, "", tower(call, 98), tower(call, 97), x), 1 + 99 + 100 + 1, 101},
	} {
		if size, depth := tree.Size(c.n), tree.Depth(c.n); size != c.size || depth != c.depth {
			t.Errorf("P6.1: %s: Size %d, Depth %d, want %d, %d", c.name, size, depth, c.size, c.depth)
		}
	}
}

func TestNames(t *testing.T) {
	name := func(s string) api.Node { return node(api.EName, s) }
	for _, c := range []struct {
		n    api.Node
		want []string
	}{
		{none, nil},
		{one, nil},
		{x, []string{"x"}},
		{whole, []string{"int"}},
		{node(api.ECall, "", name("b"), name("a"), name("b"), name("a"), name("c")), []string{"a", "b", "c"}},
		{node(api.ECall, "", name("a"), name("B"), name("_"), name("aa"), name("Z1"), name("Z")), []string{"B", "Z", "Z1", "_", "a", "aa"}},
		{node(api.ELit, "", node(api.TName, "T", node(api.TName, "U"), row), name("T"), name("v")), []string{"T", "U", "int", "v"}},
		{node(api.EField, "f", name("v")), []string{"v"}}, // names of others don't count
		{node(api.Func, "f", params, named, block), []string{"int"}},
		{node(api.EStr, "x"), nil},
		{node(api.SShort, "y", x), []string{"x"}},
		{node(api.EName, "", node(api.EName, "\xff"), node(api.TName, "if"), node(-1, "z", name("ä"))), []string{"", "if", "ä", "\xff"}},
		{tower(x, 99), []string{"x"}},
		{tower(x, 100), nil},
		{node(api.ECall, "", tower(x, 98), tower(name("y"), 99), name("z"), tower(name("w"), 9999)), []string{"x", "z"}},
	} {
		if got := tree.Names(c.n); !slices.Equal(got, c.want) {
			t.Errorf("P6.2: Names(%.99v) = %q, want %q", c.n, got, c.want)
		}
	}
}

// told tells nodes, each with where it begins.
func told(l []api.Node) string {
	var parts []string
	for _, n := range l {
		parts = append(parts, n.Text+strconv.Itoa(n.At)+"/"+strconv.Itoa(len(n.Kids)))
	}
	return strings.Join(parts, " ")
}

func TestFind(t *testing.T) {
	leaf := func(text string, at int) api.Node { return api.Node{Kind: api.EName, Text: text, At: at} }
	n := api.Node{Kind: api.EName, Text: "a", At: 1, Kids: []api.Node{
		{Kind: api.ECall, At: 2, Kids: []api.Node{leaf("b", 3), {Kind: api.EName, Text: "c", At: 4, Kids: []api.Node{leaf("d", 5), {}}}}},
		leaf("b", 6),
		{Kind: -1, Kids: []api.Node{{}, leaf("e", 7)}},
	}}
	for kind, want := range map[int]string{
		api.EName: "a1/3 b3/0 c4/2 d5/0 b6/0 e7/0",
		api.ECall: "2/2",
		api.None:  "0/0 0/0",
		-1:        "0/2",
		api.EInt:  "",
		99:        "",
		api.TName: "",
	} {
		if got := told(tree.Find(n, kind)); got != want {
			t.Errorf("P6.2: Find(%d): %s, want %s", kind, got, want)
		}
	}
	if l := tree.Find(n, api.EName); !reflect.DeepEqual(l[0], n) || !reflect.DeepEqual(l[2], n.Kids[0].Kids[1]) {
		t.Errorf("P6.2: what is found is not whole: %v", l)
	}
}

func TestFindMany(t *testing.T) {
	var kids []api.Node
	for i := range 5000 {
		kids = append(kids, api.Node{Kind: api.EName, Text: "x", At: i})
	}
	l := tree.Find(node(api.ECall, "", kids...), api.EName)
	if !reflect.DeepEqual(l, kids) {
		t.Errorf("P6.2: %d of %d are found in order", len(l), len(kids))
	}
}

func TestFindDeep(t *testing.T) {
	for _, high := range []int{0, 98, 99, 100, 101, 150, 9999} {
		n := tower(x, high)
		l := tree.Find(n, api.EUnary)
		if len(l) != min(high, 100) {
			t.Errorf("P6.2: of %d within one another %d are found", high+1, len(l))
		}
		for i, found := range l { // a node is told whole, whatever it has in it
			if !reflect.DeepEqual(found, tower(x, high-i)) {
				t.Errorf("P6.2: of %d within one another the %dth is not whole", high+1, i)
			}
		}
		if got := len(tree.Find(n, api.EName)); got != max(0, min(1, 100-high)) {
			t.Errorf("P6.2: of %d within one another: %d names", high+1, got)
		}
	}
}

func TestSwap(t *testing.T) {
	by := node(api.EBinary, "+", x, api.Node{Kind: api.EInt, Text: "2", At: 7})
	for _, c := range []struct {
		n    api.Node
		kind int
		text string
		by   api.Node
		want api.Node
	}{
		{x, api.EName, "x", one, one},
		{x, api.EName, "x", by, by},
		{x, api.EName, "y", one, x},
		{x, api.TName, "x", one, x},
		{x, api.EName, "", one, x},
		{x, -1, "x", one, x},
		{none, api.None, "", x, x},
		{node(-1, "\xff"), -1, "\xff", x, x},
		{node(api.EName, "x", none), api.EName, "x", one, node(api.EName, "x", none)}, // it has kids
		{node(api.EName, "x", x), api.EName, "x", one, node(api.EName, "x", one)},
		{api.Node{Kind: api.EName, Text: "x", Kids: []api.Node{}}, api.EName, "x", one, one},
		{node(api.ECall, "", x, one, x, whole), api.EName, "x", by, node(api.ECall, "", by, one, by, whole)}, // in what comes in nothing is swapped
		{node(api.ECall, "", x, tower(x, 3)), api.EName, "x", api.Node{}, node(api.ECall, "", none, tower(none, 3))},
		{node(api.TName, "T", node(api.TName, "P"), node(api.TName, "P", whole)), api.TName, "P", row, node(api.TName, "T", row, node(api.TName, "P", whole))},
		{node(api.ECall, "", one, one), api.EInt, "1", x, node(api.ECall, "", x, x)},
		{block, api.SBlock, "", loop, loop},
		{tower(x, 99), api.EName, "x", by, tower(by, 99)},
		{tower(x, 100), api.EName, "x", by, tower(x, 100)}, // too deep: it is left
		{tower(x, 9999), api.EName, "x", by, tower(x, 9999)},
		{node(api.ECall, "", x, tower(x, 98), tower(x, 99)), api.EName, "x", one, node(api.ECall, "", one, tower(one, 98), tower(x, 99))},
		{x, api.EName, "x", tower(x, 9999), tower(x, 9999)},
		{tower(x, 99), api.EName, "x", tower(x, 120), tower(x, 219)},
	} {
		if got := tree.Swap(c.n, c.kind, c.text, c.by); !reflect.DeepEqual(got, c.want) {
			t.Errorf("P6.2: Swap(%.99v, %d, %q, %.99v) = %.99v", c.n, c.kind, c.text, c.by, got)
		}
	}
	at := api.Node{Kind: api.ECall, At: 3, Kids: []api.Node{{Kind: api.EName, Text: "x", At: 4}, {Kind: api.EInt, Text: "1", At: 5}}}
	got := tree.Swap(at, api.EName, "x", by)
	if got.At != 3 || got.Kids[0].At != by.At || got.Kids[0].Kids[1].At != 7 || got.Kids[1].At != 5 {
		t.Errorf("P6.2: other places: %v", got)
	}
}

func TestCopy(t *testing.T) {
	for _, s := range samples() {
		if got := tree.Copy(s.n); !reflect.DeepEqual(got, s.n) && len(s.n.Kids) > 0 || !tree.Same(got, s.n) {
			t.Errorf("P6.2: Copy(%s) = %v", s.name, got)
		}
	}
	for _, high := range []int{98, 99, 100, 101, 9999} {
		if !reflect.DeepEqual(tree.Copy(tower(x, high)), tower(x, high)) {
			t.Errorf("P6.2: of %d within one another", high+1)
		}
	}
}

// lists tells where all lists of kids of a node begin in memory.
func lists(n api.Node, do func(*api.Node)) {
	if len(n.Kids) > 0 {
		do(&n.Kids[0])
	}
	for _, kid := range n.Kids {
		lists(kid, do)
	}
}

// TestNewMemory: no list that is told is one that was handed in, or another one that is told.
func TestNewMemory(t *testing.T) {
	n := node(api.SBlock, "", node(api.SExpr, "", node(api.ECall, "", x, tower(x, 90), call)), choice, loop)
	by := node(api.EBinary, "+", x, one)
	seen := map[*api.Node]bool{}
	lists(n, func(p *api.Node) { seen[p] = true })
	lists(by, func(p *api.Node) { seen[p] = true })
	was, wasBy := tree.Copy(n), tree.Copy(by)
	answers := []api.Node{was, wasBy, tree.Swap(n, api.EName, "x", by), tree.Swap(n, api.EName, "nothing", by), tree.Swap(by, api.EBinary, "+", by)}
	for _, kind := range []int{api.SBlock, api.SExpr, api.ECall, api.EUnary, api.SIf, api.EName} {
		answers = append(answers, tree.Find(n, kind)...)
	}
	for _, a := range answers {
		lists(a, func(p *api.Node) {
			if seen[p] {
				t.Fatal("R4: a list is told that stands elsewhere")
			}
			seen[p] = true
		})
	}
	for _, a := range answers[2:] { // what is told is changed: what was handed in is not
		lists(a, func(p *api.Node) { *p = api.Node{} })
	}
	if !reflect.DeepEqual(n, was) || !reflect.DeepEqual(by, wasBy) {
		t.Error("R4: what was handed in is changed")
	}
}

// TestSpareRoom: what stands behind a list's end stays.
func TestSpareRoom(t *testing.T) {
	kids := []api.Node{x, one, x, one}
	n := api.Node{Kind: api.ECall, Kids: kids[:2]}
	for range 2 {
		tree.Right(n, "expression")
		tree.Same(n, n)
		tree.Size(n)
		tree.Depth(n)
		tree.Names(n)
		tree.Copy(n)
		got := tree.Swap(n, api.EName, "x", one)
		_ = append(got.Kids, whole)
		_ = append(tree.Find(n, api.ECall)[0].Kids, whole)
		if !reflect.DeepEqual(kids, []api.Node{x, one, x, one}) {
			t.Fatalf("R4: what was handed in is changed: %v", kids)
		}
	}
}

// byBytes makes a node of bytes, and tells those that are left.
func byBytes(b []byte, deep int) (api.Node, []byte) {
	if len(b) < 2 || deep > 110 {
		return api.Node{}, nil
	}
	texts := []string{"", "x", "1", "-", "+", "++", "_", "a,b", "~", "if"}
	n := api.Node{Kind: int(b[0]) % api.Kinds, Text: texts[int(b[1])%len(texts)], At: len(b)}
	kids := int(b[1]) / len(texts) % 5
	for b = b[2:]; kids > 0; kids-- {
		var kid api.Node
		kid, b = byBytes(b, deep+1)
		n.Kids = append(n.Kids, kid)
	}
	return n, b
}

func FuzzTree(f *testing.F) {
	f.Add([]byte{api.EUnary, 13, api.EInt, 2})
	f.Add([]byte{api.SReturn, 10, api.None, 0})
	f.Fuzz(func(t *testing.T, b []byte) {
		n, _ := byBytes(b, 1)
		deep := tree.Depth(n) > api.MaxDepth
		for _, sort := range sorts {
			if tree.Right(n, sort) && (deep || !tree.Right(tree.Copy(n), sort)) {
				t.Errorf("P6.1: %v is a right %s", n, sort)
			}
		}
		if tree.Same(n, n) == deep || tree.Same(n, tree.Copy(n)) == deep || !reflect.DeepEqual(n, tree.Copy(n)) || !reflect.DeepEqual(n, tree.Swap(n, api.EName, "x", node(api.EName, "x"))) && !deep && len(tree.Find(n, api.EName)) == 0 {
			t.Errorf("P6.2: %v", n)
		}
		count := 0
		for kind := range api.Kinds {
			count += len(tree.Find(n, kind))
		}
		if count != tree.Size(n) {
			t.Errorf("P6.2: of %d nodes %d are found", tree.Size(n), count)
		}
	})
}
