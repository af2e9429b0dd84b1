package read

import (
	"slices"
	"strings"

	"strider/api"
	"strider/code"
)

// role is what an operand is to its instruction.
type role int

const (
	asRegister role = iota // dK
	asValue                // # and a number
	asNumber               // a number alone
	asPlace                // a number or a name
)

// roles tells which operands an instruction must have; the count is how many it has, where that is free.
func roles(kind code.Kind, count int) []role {
	switch kind {
	case code.Pair:
		return []role{asRegister, asRegister}
	case code.Quick, code.AddValue:
		return []role{asValue, asRegister}
	case code.Jump, code.FarJump:
		return []role{asPlace}
	case code.Words, code.Bytes:
		return slices.Repeat([]role{asPlace}, min(max(count, 1), api.MaxPlaces))
	case code.Space, code.Align, code.Org:
		return []role{asNumber}
	}
	return nil
}

// operands reads the texts of all operands of an instruction.
func operands(kind code.Kind, texts []string) ([]code.Operand, bool) {
	wanted := roles(kind, len(texts))
	if len(wanted) != len(texts) {
		return nil, false
	}
	list := make([]code.Operand, len(texts))
	for k, text := range texts {
		operand, ok := readOperand(wanted[k], trimBlanks(text))
		if !ok {
			return nil, false
		}
		list[k] = operand
	}
	return list, true
}

func readOperand(wanted role, text string) (code.Operand, bool) {
	switch wanted {
	case asRegister:
		digit, ok := strings.CutPrefix(text, "d")
		return numberOperand(digit, ok && isDigit(digit))
	case asValue:
		rest, ok := strings.CutPrefix(text, "#")
		return numberOperand(rest, ok)
	case asPlace:
		if isName(text) {
			return code.Operand{Name: text}, true
		}
	}
	return numberOperand(text, true)
}

func numberOperand(text string, ok bool) (code.Operand, bool) {
	n, isNumber := number(text)
	if !ok || !isNumber {
		return code.Operand{}, false
	}
	return code.Operand{Number: n}, true
}

func isDigit(text string) bool { return len(text) == 1 && '0' <= text[0] && text[0] <= '9' }

// numbersMayBe asks the numbers and registers of an instruction; names have their numbers later.
func numbersMayBe(in code.Instruction) bool {
	wanted := roles(in.Kind, len(in.Operands))
	for k, operand := range in.Operands {
		switch {
		case operand.Name != "":
		case wanted[k] == asRegister && operand.Number > code.MaxRegister:
			return false
		case wanted[k] != asRegister && !in.Kind.Allows(operand.Number):
			return false
		}
	}
	return true
}
