// Package tight tells how tightly the signs of two operands bind: trees are told and read by the same table.
package tight

// Least is how tightly those signs bind that bind least.
const Least = 1

// Of tells how tightly a sign binds, the more the tighter; 0 of what is no sign of two operands.
func Of(sign string) int {
	switch sign {
	case "*", "/", "%":
		return 5
	case "+", "-":
		return 4
	case "==", "!=", "<", "<=", ">", ">=":
		return 3
	case "&&":
		return 2
	case "||":
		return Least
	}
	return 0
}
