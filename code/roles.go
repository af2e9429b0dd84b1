package code

import (
	"slices"

	"strider/api"
)

// Role is what an operand is to its instruction.
type Role int

const (
	Register Role = iota // d and a digit
	Value                // # and a number
	Number               // a number alone
	Place                // a number or a name
)

var roleMarks = [...]string{Register: "d", Value: "#", Number: "", Place: ""}

// Mark is what stands ahead of the operand's number in a source.
func (r Role) Mark() string { return roleMarks[r] }

// Roles tells which operands an instruction must have; the count is how many it has, where that is free.
func (k Kind) Roles(count int) []Role {
	switch k {
	case Pair:
		return []Role{Register, Register}
	case Quick, AddValue:
		return []Role{Value, Register}
	case Jump, FarJump:
		return []Role{Place}
	case Words, Bytes:
		return slices.Repeat([]Role{Place}, min(max(count, 1), api.MaxPlaces))
	case Space, Align, Org:
		return []Role{Number}
	}
	return nil
}
