package read

import (
	"math/rand/v2"
	"slices"
	"strings"
	"testing"

	"demotic/api"
)

// grammar is the document's, one alternative a line: what is no left side is a token. The names with H behind are in a
// head, outside of brackets of any kind; aname is a name that is not _, call an expression whose last part is in ( ).
const grammar = `
file : package name ; declarations
declarations :
declarations : declarations declaration ;
declaration : func name signature block
declaration : func name params signature block
declaration : type name meaning
declaration : type name params meaning
declaration : variable
meaning : typ
meaning : = typ
meaning : structure
meaning : inter
variable : var name typ
variable : var name typ = expr
variable : var name = expr
params : [ tparams ]
params : [ tparams , ]
tparams : name constraint
tparams : tparams , name constraint
constraint : inter
constraint : terms
inter : interface { terms }
inter : interface { terms ; }
terms : term
terms : terms | term
term : typ
term : ~ typ
structure : struct { }
structure : struct { fields }
structure : struct { fields ; }
fields : name typ
fields : fields ; name typ
signature : bare
signature : bare typ
bare : ( )
bare : ( named )
bare : ( named , )
named : name typ
named : named , name typ
typ : name
typ : name [ typs ]
typ : name [ typs , ]
typ : [ ] typ
typ : ( typ )
typ : func unnamed
unnamed : blanks
unnamed : blanks typ
blanks : ( )
blanks : ( typs )
blanks : ( typs , )
typs : typ
typs : typs , typ
block : { statements }
statements : statement
statements : statements ; statement
statement :
statement : variable
statement : simple
statement : choice
statement : loop
statement : block
statement : return
statement : return expr
statement : break
statement : continue
simple : aname := expr
simple : expr = expr
simple : expr ++
simple : expr --
simple : call
simpleH : aname := exprH
simpleH : exprH = exprH
simpleH : exprH ++
simpleH : exprH --
simpleH : callH
choice : if exprH block
choice : if exprH block else choice
choice : if exprH block else block
loop : for block
loop : for exprH block
loop : for first ; condition ; first block
loop : for range exprH block
loop : for aname := range exprH block
loop : for name , aname := range exprH block
first :
first : simpleH
condition :
condition : exprH
expr : unary
expr : expr sign unary
unary : primary
unary : - unary
unary : ! unary
primary : operand
primary : call
primary : primary . name
primary : primary [ parts ]
primary : primary [ parts , ]
primary : typename values
call : primary ( )
call : primary ( exprs )
call : primary ( exprs , )
exprH : unaryH
exprH : exprH sign unaryH
unaryH : primaryH
unaryH : - unaryH
unaryH : ! unaryH
primaryH : operand
primaryH : callH
primaryH : primaryH . name
primaryH : primaryH [ parts ]
primaryH : primaryH [ parts , ]
callH : primaryH ( )
callH : primaryH ( exprs )
callH : primaryH ( exprs , )
typename : name
typename : name [ typeparts ]
typename : name [ typeparts , ]
typeparts : typepart
typeparts : typeparts , typepart
typepart : typename
typepart : [ ] typ
typepart : func unnamed
typepart : enclosed
enclosed : ( typename )
enclosed : ( enclosed )
values : { }
values : { exprs }
values : { exprs , }
exprs : expr
exprs : exprs , expr
operand : 1
operand : "s"
operand : name
operand : ( expr )
operand : func signature block
operand : [ ] typ values
parts : part
parts : parts , part
part : expr
part : [ ] typ
part : func unnamed
name : aname
name : _
aname : a
sign : +
sign : -
sign : *
sign : ==
sign : <
sign : &&
sign : ||
alone : expr
alone : expr put
`

// rule is an alternative of the grammar.
type rule struct {
	left  string
	right []string
}

// item is a rule that was begun at a token, and has gone so far.
type item struct{ rule, dot, from int }

// oracle goes through tokens by the grammar, by the way of Earley.
type oracle struct {
	rules  []rule
	of     map[string][]int
	empty  map[string]bool
	charts [][]item
}

func newOracle(start string) *oracle {
	o := &oracle{of: map[string][]int{}, empty: map[string]bool{}}
	for line := range strings.SplitSeq(strings.TrimSpace(grammar), "\n") {
		left, right, _ := strings.Cut(line, " :")
		o.of[left] = append(o.of[left], len(o.rules))
		o.rules = append(o.rules, rule{left, strings.Fields(right)})
	}
	for range o.rules {
		for _, r := range o.rules {
			if !slices.ContainsFunc(r.right, func(s string) bool { return !o.empty[s] }) {
				o.empty[r.left] = true
			}
		}
	}
	var first []item
	for _, r := range o.of[start] {
		first = append(first, item{rule: r})
	}
	o.charts = [][]item{o.closed(first, 0)}
	return o
}

// closed is a chart with all that follows from its items.
func (o *oracle) closed(l []item, at int) []item {
	seen := map[item]bool{}
	add := func(x item) {
		if !seen[x] {
			seen[x] = true
			l = append(l, x)
		}
	}
	begun := l
	l = nil
	for _, x := range begun {
		add(x)
	}
	for i := 0; i < len(l); i++ {
		x := l[i]
		next, ok := o.next(x)
		if !ok {
			from := l
			if x.from < at {
				from = o.charts[x.from]
			}
			for _, y := range slices.Clone(from) {
				if s, ok := o.next(y); ok && s == o.rules[x.rule].left {
					add(item{y.rule, y.dot + 1, y.from})
				}
			}
			continue
		}
		for _, r := range o.of[next] {
			add(item{rule: r, from: at})
		}
		if o.empty[next] {
			add(item{x.rule, x.dot + 1, x.from})
		}
	}
	return l
}

// next tells what comes next in an item, if it is not at its end.
func (o *oracle) next(x item) (string, bool) {
	right := o.rules[x.rule].right
	if x.dot == len(right) {
		return "", false
	}
	return right[x.dot], true
}

// goes: does it go on with a token? Then it has gone on.
func (o *oracle) goes(token string) bool {
	var l []item
	for _, x := range o.charts[len(o.charts)-1] {
		if s, ok := o.next(x); ok && s == token && len(o.of[s]) == 0 {
			l = append(l, item{x.rule, x.dot + 1, x.from})
		}
	}
	if len(l) == 0 {
		return false
	}
	o.charts = append(o.charts, o.closed(l, len(o.charts)))
	return true
}

// back undoes the last token.
func (o *oracle) back() {
	o.charts = o.charts[:len(o.charts)-1]
}

// ends: is what it has gone through whole?
func (o *oracle) ends(start string) bool {
	return slices.ContainsFunc(o.charts[len(o.charts)-1], func(x item) bool {
		return x.from == 0 && o.rules[x.rule].left == start && x.dot == len(o.rules[x.rule].right)
	})
}

// tokens are those that are tried everywhere.
const tokens = `package func type var struct interface if else for range return break continue a _ 1 "s" ( ) [ ] { } , ; := = ++ -- . | ~ ! - + * == < && ||`

// endings: is a semicolon put in behind it?
func endings(token string) bool {
	return slices.Contains(strings.Fields(`a _ 1 "s" break continue return ++ -- ) ] }`), token)
}

// trial tries each token behind rows of tokens that go on, with the reader and the oracle.
type trial struct {
	t     *testing.T
	start string
	read  func(s string) (api.Node, int, api.Errno)
	o     *oracle
	row   []string
	tried int
}

func newTrial(t *testing.T, start string, ahead string) *trial {
	x := &trial{t: t, start: start, o: newOracle(start), read: func(s string) (api.Node, int, api.Errno) { return File([]byte(s)) }}
	if start == "alone" {
		x.read = Expr
	}
	for token := range strings.FieldsSeq(ahead) {
		if !x.o.goes(token) {
			t.Fatalf("%s does not go on with %s", x.row, token)
		}
		x.row = append(x.row, token)
	}
	return x
}

// try asks for a row with one more token; it tells whether it goes on.
func (x *trial) try(token string) bool {
	x.tried++
	goes := x.o.goes(token)
	ahead := strings.Join(x.row, " ")
	if ahead != "" {
		ahead += " "
	}
	s := ahead + token
	_, at, e := x.read(s)
	if !goes {
		if e != api.ErrForm || at != len(ahead) {
			x.t.Errorf("P8.1: %s: %d at %d, want %d at %d", s, e, at, api.ErrForm, len(ahead))
		}
		return false
	}
	whole := x.o.ends(x.start)
	put := map[string]string{"file": ";", "alone": "put"}[x.start]
	if endings(token) && x.o.goes(put) {
		whole = x.o.ends(x.start)
		x.o.back()
	} else if endings(token) {
		whole = false
	}
	if whole != (e == api.OK || e == api.ErrDeep) || !whole && (e != api.ErrForm || at != len(s)) || e == api.OK && at != 0 {
		x.t.Errorf("P8.1: %s: %d at %d; whole: %v", s, e, at, whole)
	}
	x.o.back()
	return true
}

// all tries all rows of at most so many tokens more.
func (x *trial) all(more int) {
	for token := range strings.FieldsSeq(tokens) {
		if x.try(token) && more > 1 {
			x.o.goes(token)
			x.row = append(x.row, token)
			x.all(more - 1)
			x.row = x.row[:len(x.row)-1]
			x.o.back()
		}
	}
}

// TestForms: in all rows of tokens that begin so, up to so many more, the reader goes on where the grammar does.
func TestForms(t *testing.T) {
	for _, c := range []struct {
		start, ahead string
		more         int
	}{
		{"alone", "", 4},
		{"alone", "a [", 4},
		{"alone", "a [ func (", 4},
		{"alone", "a [ [ ] a", 4},
		{"alone", "[ ] a [ a ]", 3},
		{"alone", "func ( a", 4},
		{"alone", "func ( ) {", 3},
		{"alone", "a [ a ] {", 3},
		{"alone", "a [ (", 4},
		{"alone", "a [ ( a ) ]", 3},
		{"alone", "( a ) [ a ]", 3},
		{"alone", "( a", 3},
		{"alone", "a { a", 3},
		{"file", "", 5},
		{"file", "package a ; type a", 4},
		{"file", "package a ; type a [ a", 4},
		{"file", "package a ; type a interface {", 4},
		{"file", "package a ; type a struct {", 4},
		{"file", "package a ; var a", 3},
		{"file", "package a ; func a (", 4},
		{"file", "package a ; func a [", 4},
		{"file", "package a ; func a ( ) {", 4},
		{"file", "package a ; func a ( ) { for", 4},
		{"file", "package a ; func a ( ) { for a :=", 3},
		{"file", "package a ; func a ( ) { for a ( ) ;", 4},
		{"file", "package a ; func a ( ) { if a", 4},
		{"file", "package a ; func a ( ) { if a { } else", 4},
		{"file", "package a ; func a ( ) { if func ( ) {", 3},
		{"file", "package a ; func a ( ) { a [ a ]", 3},
		{"file", "package a ; func a ( ) { ( a ( ) )", 3},
		{"file", "package a ; func a ( ) { return", 3},
	} {
		newTrial(t, c.start, c.ahead).all(c.more)
	}
}

// walk goes on with tokens by chance, and tries all others at each.
func (x *trial) walk(chance *rand.Rand, steps int) {
	for range steps {
		var may []string
		for token := range strings.FieldsSeq(tokens) {
			if x.try(token) {
				may = append(may, token)
			}
		}
		if len(may) == 0 {
			return
		}
		token := may[chance.IntN(len(may))]
		x.o.goes(token)
		x.row = append(x.row, token)
	}
}

// TestLongForms goes through longer rows, by chance (always the same).
func TestLongForms(t *testing.T) {
	chance := rand.New(rand.NewPCG(8, 1))
	for range 25 {
		newTrial(t, "file", "").walk(chance, 40)
		newTrial(t, "alone", "").walk(chance, 30)
		newTrial(t, "file", "package a ; func a ( ) {").walk(chance, 40)
		newTrial(t, "file", "package a ; func a ( ) { for").walk(chance, 30)
		newTrial(t, "file", "package a ; func a ( ) { if a [").walk(chance, 30)
		newTrial(t, "file", "package a ; type a [ a").walk(chance, 30)
	}
}
