package unify

import (
	"slices"

	"demotic/api"
	"demotic/kind"
	"demotic/kinds"
)

// finding is what stands for parameters so far, in full.
type finding struct {
	l     []kinds.Def
	by    []kinds.Type
	place func(t kinds.Type) int // of the parameter that a type is; -1, if it is none of the row
}

// newFinding begins with what stands already; false, if it can't.
func newFinding(l []kinds.Def, row []string, by []kinds.Type) (*finding, bool) {
	places := map[string]int{}
	for i, name := range row {
		places[name] = i
	}
	if len(places) != len(row) || len(by) != len(row) {
		return nil, false
	}
	f := &finding{l: l, place: func(t kinds.Type) int {
		if i, ok := places[t.Name]; ok && t.Kind == kind.Param {
			return i
		}
		return -1
	}}
	for _, t := range by {
		t = kinds.Full(l, t)
		if isNone(t) {
			t = kinds.Type{}
		}
		f.by = append(f.by, t)
	}
	return f, true
}

// fits: does a pattern fit a type, both as they are handed in?
func (f *finding) fits(pattern, t kinds.Type) bool {
	whole := kinds.Full(f.l, pattern)
	if isNone(whole) || isNone(kinds.Full(f.l, t)) {
		return false // ahead of how deep they are: what is too great is not looked through
	}
	return !deeper(pattern, api.MaxDepth) && !deeper(t, api.MaxDepth) && f.parts([]kinds.Type{whole}, []kinds.Type{t}, 1)
}

// parts: does each of some patterns, which are in full, and so deep, fit the type beside it?
func (f *finding) parts(patterns, types []kinds.Type, deep int) bool {
parts:
	for i, pattern := range patterns {
		t := kinds.Full(f.l, types[i])
		if deep > api.MaxDepth || isNone(pattern) || isNone(t) {
			return false
		}
		if at := f.place(pattern); at >= 0 {
			if !f.stands(at, t) {
				return false
			}
			continue
		}
		for _, x := range f.sights(pattern, t) {
			if alike(pattern, x) {
				if !f.parts(pattern.Args, x.Args, deep+1) {
					return false
				}
				continue parts
			}
		}
		if !kinds.Same(pattern, t) {
			return false
		}
	}
	return true
}

// stands: does a type stand for a parameter, or can it from now on?
func (f *finding) stands(at int, t kinds.Type) bool {
	if isNone(f.by[at]) {
		f.by[at] = t
		return true
	}
	return kinds.Same(f.by[at], t)
}

// sights are what a type is to a pattern: it, and what stands behind it, if the pattern has no name.
func (f *finding) sights(pattern, t kinds.Type) []kinds.Type {
	if t.Kind == kind.Named && (pattern.Kind == kind.Slice || pattern.Kind == kind.Func) {
		return []kinds.Type{t, kinds.Behind(f.l, t)}
	}
	return []kinds.Type{t}
}

// alike: are two types so that only their parts may differ?
func alike(pattern, t kinds.Type) bool {
	switch pattern.Kind {
	case kind.Named, kind.Slice, kind.Func:
		return pattern.Kind == t.Kind && pattern.Name == t.Name && len(pattern.Args) == len(t.Args)
	}
	return false
}

// deeper: are more types than most within one another?
func deeper(t kinds.Type, most int) bool {
	return most == 0 || slices.ContainsFunc(t.Args, func(x kinds.Type) bool { return deeper(x, most-1) })
}

func isNone(t kinds.Type) bool {
	return t.Kind == kind.None
}
