package code

import (
	"fmt"
	"slices"
	"testing"
)

func TestFind(t *testing.T) {
	for word, want := range map[string]Op{
		"nop":   {Kind: Plain, Base: 0x4e71},
		"dc.w":  {Kind: Words},
		"org":   {Kind: Org},
		"bra":   {Kind: Jump, Base: 0x6000, Number: Always, First: Short, Last: Long},
		"ble.s": {Kind: Jump, Base: 0x6f00, Number: LessEqual, First: Short, Last: Short},
		"bsr.l": {Kind: Jump, Base: 0x6100, Number: Subroutine, First: Long, Last: Long},
		"jmp":   {Kind: FarJump, Base: 0x4ef8, First: Word, Last: Long},
		"jsr.w": {Kind: FarJump, Base: 0x4eb8, First: Word, Last: Word},
	} {
		if op, ok := Find(word); !ok || op != want {
			t.Errorf("Find(%q): %v, %v; want %v", word, op, ok, want)
		}
	}
	for _, word := range []string{"", ".", "b", "jmp.s", "jsr.s", "nop.w", "bra.x", "bra.s.w", "Nop", "hi"} {
		if op, ok := Find(word); ok || op != (Op{}) {
			t.Errorf("Find(%q): %v, %v; want nothing", word, op, ok)
		}
	}
}

func TestWordIsTheWayBackFromFind(t *testing.T) {
	words := []string{"jmp", "jsr", "jmp.w", "jsr.w", "jmp.l", "jsr.l"}
	for _, row := range fixedWords {
		words = append(words, row.word)
	}
	for _, stem := range jumpWords {
		words = append(words, stem, stem+".s", stem+".w", stem+".l")
	}
	for _, word := range words {
		if op, ok := Find(word); !ok || op.Word() != word {
			t.Errorf("%q is found as %v (%v), which is %q", word, op, ok, op.Word())
		}
	}
	if word := (Op{}).Word(); word != "" {
		t.Errorf("no instruction is %q", word)
	}
}

func TestRoles(t *testing.T) {
	for _, c := range []struct {
		kind  Kind
		count int
		want  string
	}{
		{Empty, 1, ""}, {Plain, 1, ""}, {Pair, 0, "d d "}, {Quick, 0, "# d "}, {AddValue, 9, "# d "}, {Jump, 2, "p "}, {FarJump, 0, "p "}, {Space, 0, "n "}, {Align, 2, "n "}, {Org, 2, "n "},
		{Words, 0, "p "}, {Words, 3, "p p p "}, {Bytes, 8, "p p p p p p p p "}, {Bytes, 9, "p p p p p p p p "},
	} {
		got := ""
		for _, role := range c.kind.Roles(c.count) {
			got += []string{Register: "d", Value: "#", Number: "n", Place: "p"}[role] + " "
		}
		if got != c.want {
			t.Errorf("kind %d, %d operands: %q; want %q", c.kind, c.count, got, c.want)
		}
	}
	if Register.Mark() != "d" || Value.Mark() != "#" || Number.Mark() != "" || Place.Mark() != "" {
		t.Error("wrong marks")
	}
}

func TestConditionsHaveTheirNumbers(t *testing.T) {
	if Higher != 2 || LessEqual != 15 || len(jumpWords) != 16 {
		t.Errorf("conditions go from %d to %d", Higher, LessEqual)
	}
	for c := Higher; c <= LessEqual; c++ {
		want := c + 1
		if c%2 == 1 {
			want = c - 1
		}
		if c.opposite() != want {
			t.Errorf("the opposite of %d is %d; want %d", c, c.opposite(), want)
		}
	}
}

func instructionOf(t *testing.T, word string, numbers ...int) Instruction {
	t.Helper()
	op, ok := Find(word)
	if !ok {
		t.Fatalf("no instruction %q", word)
	}
	in := Instruction{Op: op}
	for _, n := range numbers {
		in.Operands = append(in.Operands, Operand{Number: n})
	}
	return in
}

func TestSizeIsTheNumberOfBytes(t *testing.T) {
	list := []Instruction{
		{},
		instructionOf(t, "nop"), instructionOf(t, "move", 1, 2), instructionOf(t, "moveq", -1, 2),
		instructionOf(t, "addi", 0, 1), instructionOf(t, "addi", 1, 1), instructionOf(t, "addi", 8, 1), instructionOf(t, "addi", 9, 1),
		instructionOf(t, "dc.w", 1, 2, 3), instructionOf(t, "dc.b", 1, 2, 3), instructionOf(t, "ds", 0), instructionOf(t, "ds", 1024),
		instructionOf(t, "align", 2), instructionOf(t, "align", 256), instructionOf(t, "org", 6),
		instructionOf(t, "bra", 20), instructionOf(t, "bsr", 20), instructionOf(t, "bhi", 20), instructionOf(t, "jmp", 20), instructionOf(t, "jsr", 20),
	}
	for _, in := range list {
		for form := in.First; form <= in.Last; form++ {
			for address := range 260 {
				bytes := in.Append([]byte{1}, form, address)
				if bytes[0] != 1 || len(bytes)-1 != in.Size(form, address) {
					t.Errorf("%v, form %d, at %d: size %d, bytes % x", in, form, address, in.Size(form, address), bytes[1:])
				}
			}
		}
	}
}

func TestAlignReachesTheNextAddress(t *testing.T) {
	in := instructionOf(t, "align", 8)
	for address, want := range []int{0, 7, 6, 5, 4, 3, 2, 1, 0, 7} {
		if size := in.Size(Short, address); size != want {
			t.Errorf("align 8 at %d: %d bytes; want %d", address, size, want)
		}
	}
}

func TestJumpBytes(t *testing.T) {
	for _, c := range []struct {
		word            string
		form            Form
		address, target int
		want            string
	}{
		{"bra", Short, 10, 10, "60fe"}, {"bsr", Word, 10, 0x1000c, "61000000"}, {"bne", Word, 0x8000, 2, "66008000"},
		{"bra", Long, 4, 0x123456, "4ef900123456"}, {"bsr", Long, 4, 0x123456, "4eb900123456"}, {"blt", Long, 4, 2, "6c064ef900000002"},
		{"jmp", Word, 0, 0x7ffe, "4ef87ffe"}, {"jsr", Word, 0, 2, "4eb80002"}, {"jmp", Long, 0, 2, "4ef900000002"}, {"jsr", Long, 0, 2, "4eb900000002"},
	} {
		got := fmt.Sprintf("%x", instructionOf(t, c.word, c.target).Append(nil, c.form, c.address))
		if got != c.want {
			t.Errorf("%s, form %d, from %d to %d: %s; want %s", c.word, c.form, c.address, c.target, got, c.want)
		}
	}
}

func TestFits(t *testing.T) {
	jump, far := Op{Kind: Jump}, Op{Kind: FarJump}
	for _, c := range []struct {
		op              Op
		form            Form
		address, target int
		want            bool
	}{
		{jump, Short, 200, 200 + 2 + 126, true}, {jump, Short, 200, 200 + 2 + 128, false}, {jump, Short, 200, 200 + 2 - 128, true}, {jump, Short, 200, 200 + 2 - 130, false}, {jump, Short, 200, 202, false},
		{jump, Word, 0x9000, 0x9002 + 0x7ffe, true}, {jump, Word, 0x9000, 0x9002 + 0x8000, false}, {jump, Word, 0x9000, 0x9002 - 0x8000, true}, {jump, Word, 0x9000, 0x9002 - 0x8002, false}, {jump, Word, 0, 2, true},
		{jump, Long, 0, 0xfffffe, true}, {jump, Long, 0x2000000, 0, true}, {jump, Long, 0, 0x1000000, false}, {jump, Long, 0, -2, false}, {jump, Long, 0, 3, false}, {jump, Long, 1, 2, false},
		{far, Word, 0x20000, 0x7ffe, true}, {far, Word, 0x8000, 0x8000, false}, {far, Word, 0, -2, false}, {far, Word, 0, 1, false}, {far, Word, 1, 0, false}, {far, Long, 0, 0xfffffe, true}, {far, Long, 0, 0x1000000, false},
	} {
		if got := c.op.Fits(c.form, c.address, c.target); got != c.want {
			t.Errorf("kind %d, form %d, from %d to %d: %v", c.op.Kind, c.form, c.address, c.target, got)
		}
	}
}

func TestAllows(t *testing.T) {
	for _, c := range []struct {
		kind      Kind
		low, high int
	}{{Quick, -0x80, 0x7f}, {AddValue, -0x8000, 0xffff}, {Words, -0x8000, 0xffff}, {Bytes, -0x80, 0xff}, {Space, 0, 0x400}, {Align, 2, 0x100}, {Org, 0, 0xfffffe}} {
		if !c.kind.Allows(c.low) || !c.kind.Allows(c.high) || c.kind.Allows(c.low-1) || c.kind.Allows(c.high+1) {
			t.Errorf("kind %d does not allow just %d to %d", c.kind, c.low, c.high)
		}
	}
	if Align.Allows(6) || !Align.Allows(64) || Org.Allows(7) || !Jump.Allows(-99999999) {
		t.Error("wrong numbers between the bounds")
	}
}

func TestMatch(t *testing.T) {
	for _, c := range []struct {
		bytes   string
		address int
		word    string
		numbers []int
	}{
		{"\x4e\x71\x4e\x75", 0, "nop", nil}, {"\x34\x01", 0, "move", []int{1, 2}}, {"\x7e\x80", 0, "moveq", []int{-128, 7}},
		{"\x50\x47", 0, "addi", []int{8, 7}}, {"\x52\x40", 0, "addi", []int{1, 0}}, {"\x06\x41\xff\xff", 0, "addi", []int{65535, 1}},
		{"\x6f\xfe", 100, "ble.s", []int{100}}, {"\x60\x00\x80\x00", 0x8000, "bra.w", []int{2}}, {"\x61\x00\x00\x00", 6, "bsr.w", []int{8}},
		{"\x4e\xf8\x7f\xfe", 0, "jmp.w", []int{0x7ffe}}, {"\x4e\xb9\x00\xff\xff\xfe", 0, "jsr.l", []int{0xfffffe}},
	} {
		in, ok := Match(c.bytes, c.address)
		if want := instructionOf(t, c.word, c.numbers...); !ok || in.Op != want.Op || !slices.Equal(in.Operands, want.Operands) {
			t.Errorf("Match(% x, %d): %v, %v; want %s %v", c.bytes, c.address, in, ok, c.word, c.numbers)
		}
	}
	for _, bytes := range []string{"", "\x4e", "\x4e\x70", "\x06\x41\x00\x08", "\x06\x41\x00", "\x60\x01", "\x60\xfc", "\x60\x00", "\x60\x00\x00\x01", "\x4e\xf8\x80\x00", "\x4e\xf9\x01\x00\x00\x00", "\x4e\xf9\x00\x00\x00", "\x71\x00", "\x00\x00"} {
		if in, ok := Match(bytes, 0); ok || in.Op != (Op{}) || in.Operands != nil {
			t.Errorf("Match(% x, 0): %v, %v; want nothing", bytes, in, ok)
		}
	}
}
