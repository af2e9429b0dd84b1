package code

// Operand is a number, or a name that stands for a number till it has a place.
type Operand struct {
	Name   string
	Number int
}

// Instruction is an Op and its operands.
type Instruction struct {
	Op
	Operands []Operand
}

// The first word of an addi whose value is part of it.
const addShortBase = 0x5040

// Size tells how many bytes the instruction has at this address; the form counts for jumps alone.
func (in Instruction) Size(form Form, address int) int {
	switch in.Kind {
	case Plain, Pair, Quick:
		return 2
	case AddValue:
		if addsShort(in.number(0)) {
			return 2
		}
		return 4
	case Jump, FarJump:
		return in.jumpSize(form)
	case Words:
		return 2 * len(in.Operands)
	case Bytes:
		return len(in.Operands)
	case Space:
		return in.number(0)
	case Align:
		return -address & (in.number(0) - 1)
	}
	return 0
}

func (o Op) jumpSize(form Form) int {
	switch {
	case form == Short:
		return 2
	case form == Word:
		return 4
	case o.isConditional():
		return 8
	}
	return 6
}

// Append writes the instruction's bytes behind those that are there; its operands must have their places.
func (in Instruction) Append(to []byte, form Form, address int) []byte {
	switch in.Kind {
	case Plain:
		return appendWord(to, in.Base)
	case Pair:
		return appendWord(to, in.Base+0x200*in.number(1)+in.number(0))
	case Quick:
		return appendWord(to, in.Base+0x200*in.number(1)+in.number(0)&0xff)
	case AddValue:
		return in.appendAdd(to)
	case Jump:
		return in.appendJump(to, form, address)
	case FarJump:
		return in.appendFarJump(to, form)
	case Words:
		for _, operand := range in.Operands {
			to = appendWord(to, operand.Number)
		}
	case Bytes:
		for _, operand := range in.Operands {
			to = append(to, byte(operand.Number))
		}
	case Space, Align:
		return append(to, make([]byte, in.Size(form, address))...)
	}
	return to
}

func (in Instruction) appendAdd(to []byte) []byte {
	value, register := in.number(0), in.number(1)
	if addsShort(value) {
		return appendWord(to, addShortBase+0x200*(value%8)+register)
	}
	return appendWord(appendWord(to, in.Base+register), value)
}

func (in Instruction) appendJump(to []byte, form Form, address int) []byte {
	target := in.number(0)
	by := distance(address, target)
	switch {
	case form == Short:
		return appendWord(to, in.Base+by&0xff)
	case form == Word:
		return appendWord(appendWord(to, in.Base), by)
	case in.Number == Subroutine:
		return appendLongJump(to, farSubroutineBase, target)
	case in.isConditional():
		to = appendWord(to, 0x6000+0x100*int(in.Number.opposite())+6)
	}
	return appendLongJump(to, farJumpBase, target)
}

func (in Instruction) appendFarJump(to []byte, form Form) []byte {
	if form == Word {
		return appendWord(appendWord(to, in.Base), in.number(0))
	}
	return appendLongJump(to, in.Base, in.number(0))
}

func (in Instruction) number(k int) int { return in.Operands[k].Number }

// IsJump says whether it is a jump or a far jump.
func (o Op) IsJump() bool { return o.Kind == Jump || o.Kind == FarJump }

func (o Op) isConditional() bool { return o.Kind == Jump && o.Number > Subroutine }

func addsShort(value int) bool { return within(value, 1, 8) }

func appendLongJump(to []byte, base, target int) []byte {
	return appendWord(appendWord(appendWord(to, base+1), target>>16), target)
}

func appendWord(to []byte, word int) []byte { return append(to, byte(word>>8), byte(word)) }
