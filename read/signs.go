package read

import (
	"strings"
	"unicode/utf8"

	"strider/api"
)

// pieces cuts a text at each mark; a mark is a sign of one byte.
func pieces(text string, mark rune) []string {
	var list []string
	start := 0
	for at, sign := range text {
		if sign == mark {
			list = append(list, text[start:at])
			start = at + 1
		}
	}
	return append(list, text[start:])
}

func isBlank(sign rune) bool { return sign == ' ' || sign == '\t' }

func trimBlanks(text string) string { return strings.TrimFunc(text, isBlank) }

// cutWord takes the word off the head of an instruction.
func cutWord(text string) (word, rest string) {
	for at, sign := range text {
		if isBlank(sign) {
			return text[:at], trimBlanks(text[at:])
		}
	}
	return text, ""
}

func isName(text string) bool {
	count := 0
	for at, sign := range text {
		count++
		if !isNameSign(sign, count == 1) || isBroken(sign, text[at:]) {
			return false
		}
	}
	return 1 <= count && count <= api.MaxName
}

func isNameSign(sign rune, first bool) bool {
	switch {
	case 'a' <= sign && sign <= 'z', 'A' <= sign && sign <= 'Z', sign == '_', sign >= utf8.RuneSelf:
		return true
	}
	return '0' <= sign && sign <= '9' && !first
}

// isBroken tells a byte that is not UTF-8 from the sign that stands for it, which may be written in a source too.
func isBroken(sign rune, rest string) bool {
	return sign == utf8.RuneError && !strings.HasPrefix(rest, string(utf8.RuneError))
}

const digitSigns = "0123456789abcdef"

func number(text string) (int, bool) {
	text, negative := strings.CutPrefix(text, "-")
	digits, sixteen := strings.CutPrefix(text, "$")
	base := 10
	if sixteen {
		base = 16
	}
	if len(digits) < 1 || len(digits) > api.MaxDigits {
		return 0, false
	}
	value := 0
	for _, sign := range digits {
		digit := strings.IndexRune(digitSigns[:base], sign)
		if digit < 0 {
			return 0, false
		}
		value = value*base + digit
	}
	if negative {
		value = -value
	}
	return value, true
}
