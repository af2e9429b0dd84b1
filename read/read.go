// Package read makes lines of a source and tells the errors of form.
package read

import (
	"strider/api"
	"strider/code"
)

// Line is one line of a source; Label is empty if there is none.
type Line struct {
	Label string
	code.Instruction
}

// Program is a source without errors of form.
type Program struct {
	Org    int
	Lines  []Line
	Labels map[string]int // where in Lines each label stands
}

// Source reads a source; with an error it tells the line, counted from 1.
func Source(source string) (Program, int, api.Errno) {
	if len(source) > api.MaxSource {
		return Program{}, 0, api.ErrLong
	}
	r := reader{Program: Program{Labels: map[string]int{}}}
	for k, text := range pieces(source, '\n') {
		if errno := r.add(text); errno != api.OK {
			return Program{}, k + 1, errno
		}
	}
	return r.Program, 0, api.OK
}

// reader is a Program as far as it has been read.
type reader struct {
	Program
	begun bool // a label or an instruction has been read
}

// add reads one line more; its errors are asked for in the order in which they are told.
func (r *reader) add(text string) api.Errno {
	line, ok := readLine(text)
	if !ok {
		return api.ErrText
	}
	if _, twice := r.Labels[line.Label]; twice {
		return api.ErrTwice
	}
	if !numbersMayBe(line.Instruction) {
		return api.ErrNumber
	}
	if line.Label != "" {
		r.Labels[line.Label] = len(r.Lines)
		r.begun = true
	}
	if line.Kind == code.Org {
		if r.begun {
			return api.ErrOrg
		}
		r.Org = line.Operands[0].Number
	}
	r.begun = r.begun || line.Kind != code.Empty
	r.Lines = append(r.Lines, line)
	return api.OK
}

func readLine(text string) (Line, bool) {
	counted := pieces(text, ';')[0]
	parts := pieces(counted, ':')
	switch len(parts) {
	case 1:
		in, ok := instruction(parts[0])
		return Line{Instruction: in}, ok
	case 2:
		in, ok := instruction(parts[1])
		label, named := labelName(parts[0])
		return Line{Label: label, Instruction: in}, ok && named
	}
	return Line{}, false
}

// labelName reads what stands ahead of a ':'; blanks may be ahead of the name, not behind it.
func labelName(text string) (string, bool) {
	name := trimBlanks(text)
	return name, isName(name) && text[len(text)-len(name):] == name
}

func instruction(text string) (code.Instruction, bool) {
	word, rest := cutWord(trimBlanks(text))
	if word == "" {
		return code.Instruction{}, true
	}
	op, ok := code.Find(word)
	if !ok {
		return code.Instruction{}, false
	}
	var texts []string
	if rest != "" {
		texts = pieces(rest, ',')
	}
	list, ok := operands(op.Kind, texts)
	return code.Instruction{Op: op, Operands: list}, ok
}
