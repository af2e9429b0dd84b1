package layout

import (
	"slices"
	"testing"

	"strider/api"
	"strider/code"
	"strider/read"
)

func makePlan(t *testing.T, source string) (Plan, int, api.Errno) {
	t.Helper()
	program, line, errno := read.Source(source)
	if errno != api.OK {
		t.Fatalf("%q: line %d, error %d", source, line, errno)
	}
	return Make(program)
}

func TestMake(t *testing.T) {
	plan, line, errno := makePlan(t, "org 4\na: bra.w b\nds 3\nalign 4\nb: jmp.l a")
	if line != 0 || errno != api.OK {
		t.Fatalf("line %d, error %d", line, errno)
	}
	if want := []int{4, 4, 8, 11, 12, 18}; !slices.Equal(plan.starts, want) {
		t.Errorf("starts: %v; want %v", plan.starts, want)
	}
	if plan.forms[1] != code.Word || plan.forms[4] != code.Long {
		t.Errorf("forms: %v", plan.forms)
	}
}

func TestErrorsInTheirOrder(t *testing.T) {
	for _, c := range []struct {
		source string
		line   int
		errno  api.Errno
	}{
		{"org $fffffe\na: dc.w a\nbra.s 0\ndc.w x", 4, api.ErrName},
		{"org $fffffe\na: dc.w a\nbra.s 0", 3, api.ErrFar},
		{"org $fffffe\na: dc.w a", 2, api.ErrNumber},
		{"org $fffffe\na: dc.w 1", 0, api.ErrLong},
	} {
		plan, line, errno := makePlan(t, c.source)
		if line != c.line || errno != c.errno || plan.starts != nil {
			t.Errorf("%q: %v, %d, %d", c.source, plan, line, errno)
		}
	}
}

func TestJumpsWithoutAFormGrowTillTheyFit(t *testing.T) {
	plan, _, errno := makePlan(t, "bra b\na: ds 124\nbra a\nnop\nb:")
	if errno != api.OK || plan.forms[0] != code.Word || plan.forms[2] != code.Short {
		t.Errorf("error %d, forms %v", errno, plan.forms)
	}
	// The second jump fits at first, but no more when the first one has grown.
	plan, _, errno = makePlan(t, "a: bra b\nds 124\nbra a\nnop\nb:")
	if errno != api.OK || plan.forms[0] != code.Word || plan.forms[2] != code.Word {
		t.Errorf("error %d, forms %v", errno, plan.forms)
	}
	// A jump that no form brings there has its longest one in the end.
	if _, line, errno := makePlan(t, "bra 4\nbra 7"); line != 2 || errno != api.ErrFar {
		t.Errorf("line %d, error %d", line, errno)
	}
}

func TestImageLeavesTheProgramAsItWas(t *testing.T) {
	plan, _, _ := makePlan(t, "nop\na: dc.w a,7")
	first, second := plan.Image(), plan.Image()
	if first != second || first.Bytes != "\x4e\x71\x00\x02\x00\x07" {
		t.Errorf("% x, then % x", first.Bytes, second.Bytes)
	}
	if plan.program.Lines[1].Operands[0] != (code.Operand{Name: "a"}) {
		t.Errorf("operands: %v", plan.program.Lines[1].Operands)
	}
}
