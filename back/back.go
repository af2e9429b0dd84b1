// Package back makes a source of an image.
package back

import (
	"strconv"
	"strings"

	"strider/api"
	"strider/code"
)

// Source tells a source that is made into this image.
func Source(image api.Image) (string, api.Errno) {
	if !mayBe(image) {
		return "", api.ErrArg
	}
	var text strings.Builder
	writeLine(&text, with("org", image.Org))
	for at := 0; at < len(image.Bytes); {
		address := image.Org + at
		in := first(image.Bytes[at:], address)
		writeLine(&text, in)
		at += in.Size(in.First, address)
	}
	return text.String(), api.OK
}

// mayBe asks Org first: a sum with one that is too great might wrap round.
func mayBe(image api.Image) bool {
	if !code.Org.Allows(image.Org) || len(image.Bytes) > api.MaxImage {
		return false
	}
	return image.Org+len(image.Bytes)-1 <= api.MaxPlace
}

// first tells what the bytes begin with: an instruction, or a word or a byte of data.
func first(bytes string, address int) code.Instruction {
	if in, ok := code.Match(bytes, address); ok {
		return in
	}
	if len(bytes) == 1 {
		return with("dc.b", int(bytes[0]))
	}
	return with("dc.w", int(bytes[0])<<8+int(bytes[1]))
}

func with(word string, number int) code.Instruction {
	op, _ := code.Find(word)
	return code.Instruction{Op: op, Operands: []code.Operand{{Number: number}}}
}

func writeLine(text *strings.Builder, in code.Instruction) {
	text.WriteString(in.Word())
	before := " "
	for k, role := range in.Kind.Roles(len(in.Operands)) {
		text.WriteString(before + role.Mark() + strconv.Itoa(in.Operands[k].Number))
		before = ","
	}
	text.WriteByte('\n')
}
