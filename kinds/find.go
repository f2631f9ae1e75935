package kinds

// few is how many names are looked for one by one, ahead of a map of all of them: it pays only where many are.
const few = 8

// finder tells where the first one of a name stands among names; -1, if there is none.
func finder(names int, name func(i int) string) func(string) int {
	asked := 0
	var places map[string]int
	return func(s string) int {
		if asked++; asked <= few {
			return first(names, func(i int) bool { return name(i) == s })
		}
		if places == nil {
			places = map[string]int{}
			for i := range names {
				places[name(names-1-i)] = names - 1 - i
			}
		}
		if i, ok := places[s]; ok {
			return i
		}
		return -1
	}
}

// first tells the first number below n of which something holds; -1, if there is none.
func first(n int, holds func(int) bool) int {
	for i := range n {
		if holds(i) {
			return i
		}
	}
	return -1
}

// definitions finds the first definition of a name.
func definitions(l []Def) func(string) int {
	return finder(len(l), func(i int) string { return l[i].Name })
}
