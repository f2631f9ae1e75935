package sets

import (
	"slices"

	"demotic/api"
	"demotic/kind"
	"demotic/kinds"
)

// bare: is it a name without types?
func bare(n api.Node) bool {
	return n.Kind == api.TName && len(n.Kids) == 0
}

// named tells what a name means as a constraint.
func named(name string, given []Bound) (Set, bool) {
	s, ok := Find(given, name)
	switch {
	case ok:
		return s, true
	case name == "any":
		return Set{All: true}, true
	case name == "comparable":
		return Set{Comparable: true}, true
	}
	return Set{}, false
}

// union tells the constraint of terms' trees.
func union(kids []api.Node) (Set, bool) {
	if len(kids) == 0 || slices.ContainsFunc(kids, func(n api.Node) bool { return !isTerm(n) }) {
		return Set{}, false
	}
	var s Set
	for _, n := range kids {
		s.Terms = append(s.Terms, Term{Tilde: n.Text == "~", Name: n.Kids[0].Text})
	}
	return s, true
}

// isTerm: is it the tree of a basic type's name, with ~ or without?
func isTerm(n api.Node) bool {
	if n.Kind != api.Term || n.Text != "" && n.Text != "~" || len(n.Kids) != 1 {
		return false
	}
	return bare(n.Kids[0]) && kind.IsBasic(n.Kids[0].Text)
}

// each: does something hold of all terms?
func (s Set) each(holds func(Term) bool) bool {
	return !slices.ContainsFunc(s.Terms, func(t Term) bool { return !holds(t) })
}

// How a name is there in a union. (As 0 it is not.)
const (
	alone     = 1 + iota // without ~ alone
	withTilde            // with ~ it lets in more
)

// there tells how each name is there.
func (s Set) there() map[string]int {
	m := map[string]int{}
	for _, t := range s.Terms {
		m[t.Name] = max(m[t.Name], t.asks())
	}
	return m
}

// asks tells how its name must be there that a term is let in.
func (t Term) asks() int {
	if t.Tilde {
		return withTilde
	}
	return alone
}

// letsParam: does a right constraint let in a parameter with a right one of its own?
func (s Set) letsParam(own Set) bool {
	switch {
	case s.All:
		return true
	case s.Comparable:
		return !own.All
	}
	there := s.there()
	return len(own.Terms) > 0 && own.each(func(t Term) bool { return there[t.Name] >= t.asks() })
}

// letsBasic: does a union let in a type with a basic one behind it?
func (s Set) letsBasic(t, behind kinds.Type) bool {
	there := s.there()
	return t.Kind == kind.Basic && there[t.Name] >= alone || there[behind.Name] >= withTilde
}
