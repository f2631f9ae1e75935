package kinds

import (
	"slices"

	"demotic/kind"
)

const (
	maxTypes     = 1000 // in a named one of which a step is done
	maxNames     = 100  // of aliases within one another
	tooManySteps = 100  // from a name to what stands behind it
	tooManyLooks = 20_000
)

// view is a type, looked at as if types stood in the place of its parameters already: what would be too great is not
// made just to be looked at. (It is itself no parameter for which one stands.)
type view struct {
	Type
	by    []Type
	place func(param string) int // of the one in by that stands for a parameter
}

// open is a type with types for parameters.
func open(t Type, params []string, by []Type) view {
	place := finder(min(len(params), len(by)), func(i int) string { return params[i] })
	return view{by: by, place: place}.part(t)
}

// part is what stands in a view; in what stands there for a parameter nothing stands for any.
func (v view) part(t Type) view {
	if t.Kind == kind.Param && len(v.by) > 0 {
		if i := v.place(t.Name); i >= 0 {
			return view{Type: v.by[i]}
		}
	}
	v.Type = t
	return v
}

// made is the type that a view shows, in memory of its own.
func (v view) made() Type {
	args := turned(v.Args, func(t Type) Type { return v.part(t).made() })
	return Type{Kind: v.Kind, Name: v.Name, Args: args}
}

// small: are there few enough types in it that a step is done?
func (v view) small() bool {
	count := 0
	var look func(v view) bool
	look = func(v view) bool {
		count++
		return count <= maxTypes && !slices.ContainsFunc(v.Args, func(t Type) bool { return !look(v.part(t)) })
	}
	return look(v)
}

// behind shows what stands behind a type; no type, if nothing does.
func behind(l []Def, t Type) view {
	find := definitions(l)
	v := view{Type: t}
	for range tooManySteps {
		if v.Kind != kind.Named {
			return v
		}
		i := find(v.Name)
		if i < 0 || len(l[i].Params) != len(v.Args) || !v.small() {
			return view{}
		}
		v = open(l[i].Type, l[i].Params, v.made().Args)
	}
	return view{}
}

// full is what a view shows, in full; no type, if it is none.
func full(l []Def, v view) Type {
	w := writer{l: l, find: definitions(l)}
	t, _ := w.full(v, 0)
	return t
}

// writer writes aliases out.
type writer struct {
	l      []Def
	find   func(name string) int
	looked int // at so many types
}

// full is a type in full that stands within so many aliases' types.
func (w *writer) full(v view, within int) (Type, bool) {
	if w.looked++; w.looked >= tooManyLooks {
		return Type{}, false
	}
	var args []Type // grows with what was looked at, however many there are to look at
	for _, t := range v.Args {
		arg, ok := w.full(v.part(t), within)
		if !ok {
			return Type{}, false
		}
		args = append(args, arg)
	}
	if v.Kind == kind.Named {
		if i := w.find(v.Name); i >= 0 && w.l[i].Alias {
			return w.alias(w.l[i], args, within+1)
		}
	}
	return Type{Kind: v.Kind, Name: v.Name, Args: args}, true
}

// alias is what comes in the place of the name of one.
func (w *writer) alias(d Def, args []Type, within int) (Type, bool) {
	if len(d.Params) != len(args) || within > maxNames {
		return Type{}, false
	}
	return w.full(open(d.Type, d.Params, args), within)
}
