package code

import "strings"

// Match tells the instruction that the bytes begin with, if it is one that does not lay down data. A long jump is told as the far jump that has the same bytes.
func Match(bytes string, address int) (Instruction, bool) {
	for op := range matchable {
		in := Instruction{Op: op, Operands: op.operandsIn(bytes, address)}
		if in.begins(bytes, address) {
			return in, true
		}
	}
	return Instruction{}, false
}

// matchable goes through all that Match may tell; jumps have one form each.
func matchable(yield func(Op) bool) {
	for _, row := range fixedWords {
		if row.kind < Words && !yield(Op{Kind: row.kind, Base: row.base}) {
			return
		}
	}
	for number := range jumpWords {
		for form := Short; form <= Word; form++ {
			if !yield(jumpOp(Condition(number), form, form)) {
				return
			}
		}
	}
	for _, row := range farWords {
		for form := Word; form <= Long; form++ {
			if !yield(farJumpOp(row.base, form, form)) {
				return
			}
		}
	}
}

// begins says whether the bytes begin with just those that the instruction is made into: so none is told that is written in another way.
func (in Instruction) begins(bytes string, address int) bool {
	if in.IsJump() && !in.Fits(in.First, address, in.number(0)) {
		return false
	}
	return strings.HasPrefix(bytes, string(in.Append(nil, in.First, address)))
}

// operandsIn reads the operands where the op's bytes hold them; whether they are its bytes at all is not asked here.
func (o Op) operandsIn(bytes string, address int) []Operand {
	first, second := wordAt(bytes, 0), wordAt(bytes, 2)
	low, high := first&MaxRegister, first>>9&MaxRegister
	switch o.Kind {
	case Pair:
		return numbers(low, high)
	case Quick:
		return numbers(int(int8(first)), high)
	case AddValue:
		if first < addShortBase {
			return numbers(second, low)
		}
		return numbers((high+7)%8+1, low)
	case Jump:
		if o.First == Short {
			return numbers(target(address, int(int8(first))))
		}
		return numbers(target(address, int(int16(second))))
	case FarJump:
		if o.First == Word {
			return numbers(second)
		}
		return numbers(second<<16 + wordAt(bytes, 4))
	}
	return nil
}

func numbers(list ...int) []Operand {
	operands := make([]Operand, len(list))
	for k, n := range list {
		operands[k] = Operand{Number: n}
	}
	return operands
}

// wordAt tells 0 where there are too few bytes, for which no instruction is told anyway.
func wordAt(bytes string, at int) int {
	if at+2 > len(bytes) {
		return 0
	}
	return int(bytes[at])<<8 + int(bytes[at+1])
}
