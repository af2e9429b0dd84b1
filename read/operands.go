package read

import (
	"strings"

	"strider/code"
)

// operands reads the texts of all operands of an instruction.
func operands(kind code.Kind, texts []string) ([]code.Operand, bool) {
	roles := kind.Roles(len(texts))
	if len(roles) != len(texts) {
		return nil, false
	}
	list := make([]code.Operand, len(texts))
	for k, text := range texts {
		operand, ok := readOperand(roles[k], trimBlanks(text))
		if !ok {
			return nil, false
		}
		list[k] = operand
	}
	return list, true
}

func readOperand(role code.Role, text string) (code.Operand, bool) {
	if role == code.Place && isName(text) {
		return code.Operand{Name: text}, true
	}
	digits, marked := strings.CutPrefix(text, role.Mark())
	if !marked || role == code.Register && !isDigit(digits) {
		return code.Operand{}, false
	}
	n, ok := number(digits)
	return code.Operand{Number: n}, ok
}

func isDigit(text string) bool { return len(text) == 1 && '0' <= text[0] && text[0] <= '9' }

// numbersMayBe asks the numbers and registers of an instruction; names have their numbers later.
func numbersMayBe(in code.Instruction) bool {
	roles := in.Kind.Roles(len(in.Operands))
	for k, operand := range in.Operands {
		switch {
		case operand.Name != "":
		case roles[k] == code.Register && operand.Number > code.MaxRegister:
			return false
		case roles[k] != code.Register && !in.Kind.Allows(operand.Number):
			return false
		}
	}
	return true
}
