// Package kind numbers the kinds of types: whoever looks into a type does so by the same numbers.
package kind

// The kinds.
const (
	None    = iota // no type
	Basic          // int, string, bool
	Untyped        // what a constant is, or what comes of a comparison
	Named
	Param
	Slice
	Func
	Nothing // the result of a function that has none
	Struct
)

// IsBasic: is it the name of a basic type?
func IsBasic(name string) bool {
	switch name {
	case "int", "string", "bool":
		return true
	}
	return false
}
