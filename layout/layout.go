// Package layout gives each line its address and each jump its form, and tells the errors that hang on them.
package layout

import (
	"maps"
	"slices"
	"strings"

	"strider/api"
	"strider/code"
	"strider/read"
)

// Plan is a program that has been laid out.
type Plan struct {
	program read.Program
	forms   []code.Form // by line; they count for jumps alone
	starts  []int       // the address of each line, and behind them that of the end
}

// Make lays a program out; with an error it tells the line, counted from 1.
func Make(program read.Program) (Plan, int, api.Errno) {
	if line := firstUnknown(program); line > 0 {
		return Plan{}, line, api.ErrName
	}
	plan := shortest(program)
	plan.settle()
	if line := plan.firstThat(plan.misses); line > 0 {
		return Plan{}, line, api.ErrFar
	}
	if line := plan.firstThat(plan.overflows); line > 0 {
		return Plan{}, line, api.ErrNumber
	}
	if plan.end()-1 > api.MaxPlace {
		return Plan{}, 0, api.ErrLong
	}
	return plan, 0, api.OK
}

// Image tells the bytes of all lines.
func (p *Plan) Image() api.Image {
	bytes := make([]byte, 0, p.end()-p.program.Org)
	for k, line := range p.program.Lines {
		bytes = p.placed(line.Instruction).Append(bytes, p.forms[k], p.starts[k])
	}
	return api.Image{Org: p.program.Org, Bytes: string(bytes)}
}

// Names tells all labels by rising names, in new memory: a name as it was read is a piece of the source.
func (p *Plan) Names() []api.Name {
	list := make([]api.Name, 0, len(p.program.Labels))
	for _, name := range slices.Sorted(maps.Keys(p.program.Labels)) {
		list = append(list, api.Name{Name: strings.Clone(name), Place: p.place(name)})
	}
	return list
}

func (p *Plan) place(label string) int { return p.starts[p.program.Labels[label]] }

func firstUnknown(program read.Program) int {
	for k, line := range program.Lines {
		for _, operand := range line.Operands {
			if _, known := program.Labels[operand.Name]; operand.Name != "" && !known {
				return k + 1
			}
		}
	}
	return 0
}

func shortest(program read.Program) Plan {
	plan := Plan{
		program: program,
		forms:   make([]code.Form, len(program.Lines)),
		starts:  make([]int, len(program.Lines)+1),
	}
	for k, line := range program.Lines {
		plan.forms[k] = line.First
	}
	return plan
}

// settle lengthens what does not fit, a whole round at once, till nothing is left that has a longer form.
func (p *Plan) settle() {
	p.setStarts()
	for p.lengthen() {
		p.setStarts()
	}
}

func (p *Plan) setStarts() {
	address := p.program.Org
	for k, line := range p.program.Lines {
		p.starts[k] = address
		address += line.Size(p.forms[k], address)
	}
	p.starts[len(p.program.Lines)] = address
}

// lengthen leaves the addresses as they are, so that all jumps of a round are held against the same ones.
func (p *Plan) lengthen() bool {
	longer := false
	for k, line := range p.program.Lines {
		if p.forms[k] < line.Last && p.misses(k) {
			p.forms[k]++
			longer = true
		}
	}
	return longer
}

func (p *Plan) firstThat(holds func(k int) bool) int {
	for k := range p.program.Lines {
		if holds(k) {
			return k + 1
		}
	}
	return 0
}

// misses says whether line k has a jump that does not fit.
func (p *Plan) misses(k int) bool {
	line := p.program.Lines[k]
	return line.IsJump() && !line.Fits(p.forms[k], p.starts[k], p.number(line.Operands[0]))
}

// overflows says whether line k has a name whose place its instruction can't hold.
func (p *Plan) overflows(k int) bool {
	line := p.program.Lines[k]
	for _, operand := range line.Operands {
		if operand.Name != "" && !line.Kind.Allows(p.number(operand)) {
			return true
		}
	}
	return false
}

func (p *Plan) number(operand code.Operand) int {
	if operand.Name == "" {
		return operand.Number
	}
	return p.place(operand.Name)
}

// placed gives an instruction's names their places, in a copy: the program stays as it was read.
func (p *Plan) placed(in code.Instruction) code.Instruction {
	list := make([]code.Operand, len(in.Operands))
	for k, operand := range in.Operands {
		list[k] = code.Operand{Number: p.number(operand)}
	}
	return code.Instruction{Op: in.Op, Operands: list}
}

func (p *Plan) end() int { return p.starts[len(p.starts)-1] }
