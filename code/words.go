// Package code has the instructions: their words, which numbers they take, their lengths and their bytes.
package code

import "strings"

// Kind is what a line does, and so which operands it has.
type Kind int

const (
	Empty    Kind = iota // no instruction
	Plain                // nop, rts
	Pair                 // move, add, sub, cmp: two registers
	Quick                // moveq
	AddValue             // addi
	Jump                 // bra, bsr, and b with a condition
	FarJump              // jmp, jsr
	Words                // dc.w; from here on what lays down data, or nothing
	Bytes                // dc.b
	Space                // ds
	Align
	Org
)

// Condition is a jump's number: bra and bsr have the two that no condition has.
type Condition int

const (
	Always Condition = iota
	Subroutine
	Higher
	LowerSame
	CarryClear
	CarrySet
	NotEqual
	Equal
	OverflowClear
	OverflowSet
	Plus
	Minus
	GreaterEqual
	Less
	Greater
	LessEqual
)

// Form is the length of a jump; a longer one is greater.
type Form int

const (
	Short Form = iota
	Word
	Long
)

// Op is what the word of an instruction says, without its operands.
type Op struct {
	Kind   Kind
	Base   int       // the first word, to which the operands add; of a far jump that of the form Word
	Number Condition // of a jump
	First  Form      // the shortest form of a jump
	Last   Form      // and the longest
}

var fixedWords = [...]struct {
	word string
	kind Kind
	base int
}{
	{"nop", Plain, 0x4e71},
	{"rts", Plain, 0x4e75},
	{"move", Pair, 0x3000},
	{"add", Pair, 0xd040},
	{"sub", Pair, 0x9040},
	{"cmp", Pair, 0xb040},
	{"moveq", Quick, 0x7000},
	{"addi", AddValue, 0x0640},
	{"dc.w", Words, 0},
	{"dc.b", Bytes, 0},
	{"ds", Space, 0},
	{"align", Align, 0},
	{"org", Org, 0},
}

var jumpWords = [...]string{
	Always:        "bra",
	Subroutine:    "bsr",
	Higher:        "bhi",
	LowerSame:     "bls",
	CarryClear:    "bcc",
	CarrySet:      "bcs",
	NotEqual:      "bne",
	Equal:         "beq",
	OverflowClear: "bvc",
	OverflowSet:   "bvs",
	Plus:          "bpl",
	Minus:         "bmi",
	GreaterEqual:  "bge",
	Less:          "blt",
	Greater:       "bgt",
	LessEqual:     "ble",
}

var formEndings = [...]string{Short: ".s", Word: ".w", Long: ".l"}

// The first words of far jumps in the form Word; those of the form Long are greater by 1.
const (
	farJumpBase       = 0x4ef8
	farSubroutineBase = 0x4eb8
)

var farWords = [...]struct {
	word string
	base int
}{
	{"jmp", farJumpBase},
	{"jsr", farSubroutineBase},
}

// Find tells the instruction that has this word.
func Find(word string) (Op, bool) {
	for _, row := range fixedWords {
		if row.word == word {
			return Op{Kind: row.kind, Base: row.base}, true
		}
	}
	stem, first, last := cutForm(word)
	for number, jump := range jumpWords {
		if jump == stem {
			return jumpOp(Condition(number), first, last), true
		}
	}
	for _, row := range farWords {
		if row.word == stem && last != Short {
			return farJumpOp(row.base, max(first, Word), last), true
		}
	}
	return Op{}, false
}

// Word is the way back from Find.
func (o Op) Word() string {
	switch o.Kind {
	case Jump:
		return jumpWords[o.Number] + o.ending()
	case FarJump:
		for _, row := range farWords {
			if row.base == o.Base {
				return row.word + o.ending()
			}
		}
	}
	for _, row := range fixedWords {
		if row.kind == o.Kind && row.base == o.Base {
			return row.word
		}
	}
	return ""
}

// ending names the form of a jump that has one alone.
func (o Op) ending() string {
	if o.First < o.Last {
		return ""
	}
	return formEndings[o.First]
}

func jumpOp(number Condition, first, last Form) Op {
	return Op{Kind: Jump, Base: 0x6000 + 0x100*int(number), Number: number, First: first, Last: last}
}

func farJumpOp(base int, first, last Form) Op {
	return Op{Kind: FarJump, Base: base, First: first, Last: last}
}

// cutForm takes the ending that names a form off a word; without one all forms are open.
func cutForm(word string) (stem string, first, last Form) {
	for form, ending := range formEndings {
		if stem, ok := strings.CutSuffix(word, ending); ok {
			return stem, Form(form), Form(form)
		}
	}
	return word, Short, Long
}

// opposite: the conditions stand in pairs, an even number and the odd one behind it.
func (c Condition) opposite() Condition { return c ^ 1 }
