package read

import (
	"slices"
	"strings"
	"testing"

	"strider/api"
	"strider/code"
)

func TestPieces(t *testing.T) {
	for text, want := range map[string][]string{
		"": {""}, ",": {"", ""}, "a": {"a"}, "a,b": {"a", "b"}, "é,\xff,": {"é", "\xff", ""}, "\xc3,x": {"\xc3", "x"},
	} {
		if got := pieces(text, ','); !slices.Equal(got, want) {
			t.Errorf("pieces(%q): %q; want %q", text, got, want)
		}
	}
}

func TestNames(t *testing.T) {
	for _, name := range []string{"a", "Z", "_", "a1", "é", "éa_9", "\ufffd", "\u0080", "\U0010ffff", strings.Repeat("a", 20), strings.Repeat("\U0001f600", 20)} {
		if !isName(name) {
			t.Errorf("%q is a name", name)
		}
	}
	for _, text := range []string{"", "1", "1a", "a b", "a.", "a-", "a\x7f", "\x00", "\xff", "a\xff", "é\xc3", "\xed\xa0\x80", "\xc0\x80", "\xf4\x90\x80\x80", "\ufffd\xbd", strings.Repeat("a", 21), strings.Repeat("é", 21)} {
		if isName(text) {
			t.Errorf("%q is no name", text)
		}
	}
}

func TestNumbers(t *testing.T) {
	for text, want := range map[string]int{
		"0": 0, "-0": 0, "7": 7, "-7": -7, "99999999": 99999999, "00000012": 12, "$0": 0, "$ff": 255, "-$80": -128, "$ffffffff": 0xffffffff, "-$ffffffff": -0xffffffff,
	} {
		if got, ok := number(text); !ok || got != want {
			t.Errorf("number(%q): %d, %v; want %d", text, got, ok, want)
		}
	}
	for _, text := range []string{"", "-", "$", "-$", "$-1", "--1", "+1", "$F", "f", "1f", "$g", "$$1", "100000000", "$100000000", "1 ", " 1", "é", "\xff", "\ufffd"} {
		if got, ok := number(text); ok || got != 0 {
			t.Errorf("number(%q): %d, %v; want nothing", text, got, ok)
		}
	}
}

func TestSource(t *testing.T) {
	program, line, errno := Source("; first\norg 8\na:\tmoveq #-1,d3 ; x\n b: bra.w a\n")
	if line != 0 || errno != api.OK || program.Org != 8 || len(program.Lines) != 5 {
		t.Fatalf("%v, %d, %d", program, line, errno)
	}
	if len(program.Labels) != 2 || program.Labels["a"] != 2 || program.Labels["b"] != 3 {
		t.Errorf("labels: %v", program.Labels)
	}
	quick, jump := program.Lines[2], program.Lines[3]
	if quick.Label != "a" || quick.Kind != code.Quick || !slices.Equal(quick.Operands, []code.Operand{{Number: -1}, {Number: 3}}) {
		t.Errorf("line 3: %v", quick)
	}
	if jump.Label != "b" || jump.Kind != code.Jump || jump.First != code.Word || !slices.Equal(jump.Operands, []code.Operand{{Name: "a"}}) {
		t.Errorf("line 4: %v", jump)
	}
	if program.Lines[0].Kind != code.Empty || program.Lines[1].Kind != code.Org || program.Lines[4].Kind != code.Empty {
		t.Errorf("kinds: %v", program.Lines)
	}
}

func TestSourceErrors(t *testing.T) {
	for _, c := range []struct {
		source string
		line   int
		errno  api.Errno
	}{
		{strings.Repeat(" ", api.MaxSource+1), 0, api.ErrLong}, {"nop\nx", 2, api.ErrText}, {"a:\n\na:", 3, api.ErrTwice}, {"move d0,d8", 1, api.ErrNumber}, {"nop\norg 0", 2, api.ErrOrg},
	} {
		program, line, errno := Source(c.source)
		if line != c.line || errno != c.errno || program.Lines != nil || program.Labels != nil {
			t.Errorf("%.20q: %v, %d, %d", c.source, program, line, errno)
		}
	}
}
