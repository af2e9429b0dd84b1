// Package code has the instructions: their words, which numbers they take, their lengths and their bytes.
package code

import "strings"

// Kind is what a line does, and so which operands it has.
type Kind int

const (
	Empty    Kind = iota // no instruction
	Plain                // nop, rts
	Pair                 // move, add, sub, cmp: two registers
	Quick                // moveq
	AddValue             // addi
	Jump                 // bra, bsr, and b with a condition
	FarJump              // jmp, jsr
	Words                // dc.w
	Bytes                // dc.b
	Space                // ds
	Align
	Org
)

// Condition is a jump's number: bra and bsr have the two that no condition has.
type Condition int

const (
	Always Condition = iota
	Subroutine
	Higher
	LowerSame
	CarryClear
	CarrySet
	NotEqual
	Equal
	OverflowClear
	OverflowSet
	Plus
	Minus
	GreaterEqual
	Less
	Greater
	LessEqual
)

// Form is the length of a jump; a longer one is greater.
type Form int

const (
	Short Form = iota
	Word
	Long
)

// Op is what the word of an instruction says, without its operands.
type Op struct {
	Kind   Kind
	Base   int       // the first word, to which the operands add; of a far jump that of the form Word
	Number Condition // of a jump
	First  Form      // the shortest form of a jump
	Last   Form      // and the longest
}

var fixedWords = [...]struct {
	word string
	kind Kind
	base int
}{
	{"nop", Plain, 0x4e71},
	{"rts", Plain, 0x4e75},
	{"move", Pair, 0x3000},
	{"add", Pair, 0xd040},
	{"sub", Pair, 0x9040},
	{"cmp", Pair, 0xb040},
	{"moveq", Quick, 0x7000},
	{"addi", AddValue, 0x0640},
	{"dc.w", Words, 0},
	{"dc.b", Bytes, 0},
	{"ds", Space, 0},
	{"align", Align, 0},
	{"org", Org, 0},
}

var jumpWords = [...]string{
	Always:        "bra",
	Subroutine:    "bsr",
	Higher:        "bhi",
	LowerSame:     "bls",
	CarryClear:    "bcc",
	CarrySet:      "bcs",
	NotEqual:      "bne",
	Equal:         "beq",
	OverflowClear: "bvc",
	OverflowSet:   "bvs",
	Plus:          "bpl",
	Minus:         "bmi",
	GreaterEqual:  "bge",
	Less:          "blt",
	Greater:       "bgt",
	LessEqual:     "ble",
}

var formEndings = [...]string{Short: ".s", Word: ".w", Long: ".l"}

// The first words of far jumps in the form Word; those of the form Long are greater by 1.
const (
	farJumpBase       = 0x4ef8
	farSubroutineBase = 0x4eb8
)

// Find tells the instruction that has this word.
func Find(word string) (Op, bool) {
	for _, row := range fixedWords {
		if row.word == word {
			return Op{Kind: row.kind, Base: row.base}, true
		}
	}
	stem, first, last := cutForm(word)
	for number, jump := range jumpWords {
		if jump == stem {
			return Op{Kind: Jump, Base: 0x6000 + 0x100*number, Number: Condition(number), First: first, Last: last}, true
		}
	}
	return findFar(stem, first, last)
}

func findFar(stem string, first, last Form) (Op, bool) {
	if last == Short {
		return Op{}, false
	}
	op := Op{Kind: FarJump, First: max(first, Word), Last: last}
	switch stem {
	case "jmp":
		op.Base = farJumpBase
	case "jsr":
		op.Base = farSubroutineBase
	default:
		return Op{}, false
	}
	return op, true
}

// cutForm takes the ending that names a form off a word; without one all forms are open.
func cutForm(word string) (stem string, first, last Form) {
	for form, ending := range formEndings {
		if stem, ok := strings.CutSuffix(word, ending); ok {
			return stem, Form(form), Form(form)
		}
	}
	return word, Short, Long
}

// opposite: the conditions stand in pairs, an even number and the odd one behind it.
func (c Condition) opposite() Condition { return c ^ 1 }
