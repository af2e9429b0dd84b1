package strider_test

import (
	"encoding/hex"
	"fmt"
	"slices"
	"strings"
	"testing"

	"strider/api"
	"strider/strider"
)

func lines(l ...string) string { return strings.Join(l, "\n") }

func bytesOf(t *testing.T, text string) string {
	t.Helper()
	bytes, err := hex.DecodeString(strings.ReplaceAll(text, " ", ""))
	if err != nil {
		t.Fatal(err)
	}
	return string(bytes)
}

// checkImage holds an image that must be against the one that is.
func checkImage(t *testing.T, promise, source string, org int, bytes string) {
	t.Helper()
	want := bytesOf(t, bytes)
	image, line, errno := strider.Assemble(source)
	if image != (api.Image{Org: org, Bytes: want}) || line != 0 || errno != api.OK {
		t.Errorf("%s: %q: Org %d: % x, line %d, error %d; want Org %d: % x", promise, source, image.Org, image.Bytes, line, errno, org, want)
	}
}

// checkError holds the error of both calls against the one that must be.
func checkError(t *testing.T, promise, source string, line int, errno api.Errno) {
	t.Helper()
	image, n, e := strider.Assemble(source)
	if n != line || e != errno {
		t.Errorf("%s: Assemble(%.60q): line %d, error %d; want %d, %d", promise, source, n, e, line, errno)
	}
	if e != api.OK && image != (api.Image{}) {
		t.Errorf("P1: Assemble(%.60q): an image beside the error %d", source, e)
	}
	list, n, e := strider.Names(source)
	if n != line || e != errno {
		t.Errorf("P5: Names(%.60q): line %d, error %d; want %d, %d", source, n, e, line, errno)
	}
	if e != api.OK && len(list) != 0 {
		t.Errorf("P1: Names(%.60q): names beside the error %d", source, e)
	}
}

type fault struct {
	source string
	line   int
	errno  api.Errno
}

func checkErrors(t *testing.T, promise string, faults []fault) {
	t.Helper()
	for _, f := range faults {
		checkError(t, promise, f.source, f.line, f.errno)
	}
}

func TestP1EveryCallEnds(t *testing.T) {
	scraps := []string{"", " ", "\t", "\n", "\r", "\x00", "\xff", "\xc3", "é", "\ufffd", "a", "d1", "d9", ":", ";", ",", "#", "$", "-", ".", "9", "99999999",
		"nop", "move", "moveq ", "addi ", "dc.w ", "dc.b ", "ds ", "align ", "org ", "bra ", "bne.l ", "jmp ", "jsr.w ", "bra.s ", "$fffffe"}
	for _, a := range scraps {
		for _, b := range scraps {
			for _, c := range scraps {
				source := a + b + c
				_, n, e := strider.Assemble(source)
				if _, n2, e2 := strider.Names(source); n != n2 || e != e2 {
					t.Fatalf("P5: %q: Names tells %d, %d, Assemble %d, %d", source, n2, e2, n, e)
				}
				if e == api.OK && n != 0 || n > strings.Count(source, "\n")+1 {
					t.Fatalf("P2: %q: line %d, error %d", source, n, e)
				}
			}
		}
	}
}

func TestP1GreatSources(t *testing.T) {
	for _, unit := range []string{"\n", ";", "a", "é", "ds 1024\n", "align 256\ndc.b 1\n", "bra 2\n", "bra 1\n", "bne 99999998\n", "bra a\n", "jmp a\n", ",", ":"} {
		source := strings.Repeat(unit, api.MaxSource/len(unit))
		strider.Assemble(source)
		strider.Assemble(source[:len(source)-len(unit)] + "\na:")
		strider.Names(source + "!")
	}
	// Each jump that grows moves the next one out of its reach.
	var chain strings.Builder
	for k := range 120 {
		fmt.Fprintf(&chain, "a%d: bra a%d\nds 122\n", k, k+1)
	}
	chain.WriteString("a120: ds 2\n")
	if _, n, e := strider.Assemble(chain.String()); n != 0 || e != api.OK {
		t.Errorf("P1: a chain of jumps: %d, %d", n, e)
	}
}

func TestP1AnswersAreNewMemory(t *testing.T) {
	source := lines("b: nop", "a: rts", "c:")
	want := []api.Name{{Name: "a", Place: 2}, {Name: "b", Place: 0}, {Name: "c", Place: 4}}
	first, _, _ := strider.Names(source)
	second, _, _ := strider.Names(source)
	spare := first[:cap(first)]
	for k := range spare {
		spare[k] = api.Name{Name: "!", Place: -1}
	}
	third, _, _ := strider.Names(source)
	if !slices.Equal(second, want) || !slices.Equal(third, want) {
		t.Errorf("P1: after a list was written into: %v, %v; want %v", second, third, want)
	}
}

func TestP1AnswersHangOnArgumentsAlone(t *testing.T) {
	var source strings.Builder
	for k := range 60 {
		fmt.Fprintf(&source, "n%d: bra n%d\nds 20\n", k*37%60, k*11%60)
	}
	image, _, errno := strider.Assemble(source.String())
	names, _, _ := strider.Names(source.String())
	if errno != api.OK {
		t.Fatalf("P2: error %d", errno)
	}
	for range 20 {
		strider.Assemble("org 6\na: bra a")
		again, _, _ := strider.Assemble(source.String())
		list, _, _ := strider.Names(source.String())
		if again != image || !slices.Equal(list, names) {
			t.Fatal("P1: two answers to one source")
		}
	}
}

func TestP2Examples(t *testing.T) {
	checkImage(t, "P2", "nop", 0, "4e71")
	checkImage(t, "P2", "a: bra a", 0, "60fe")
	checkImage(t, "P2", lines("bra a", "a:"), 0, "60000002")
	checkImage(t, "P2", lines("beq x", "ds 200", "x: rts"), 0, "670000ca"+strings.Repeat("00", 200)+"4e75")
	checkImage(t, "P2", lines("org $8000", "x: jmp x"), 32768, "4ef900008000")
	checkImage(t, "P2", "addi #8,d1", 0, "5041")
	checkImage(t, "P2", "addi #9,d1", 0, "06410009")
}

func TestP2Lines(t *testing.T) {
	for _, source := range []string{"nop", "nop\n", "\nnop", " nop", "nop ", "\t nop\t ", "nop;", "nop;rts", "nop ; a: rts ; \xff", "a:nop", "a: nop", " a:\tnop ", "a:\nnop", " a: ;\n nop",
		";\nnop", "nop\n \t", "nop: nop", "é:nop", "_: nop", "Zz_09é\U0001f600: nop", "\ufffd: nop", "\u00a0: nop", strings.Repeat("\U0001f600", 20) + ": nop"} {
		checkImage(t, "P2", source, 0, "4e71")
	}
	for _, source := range []string{"move d1,d2", "move\td1,d2", "move  d1 , d2 ", "a:move d1\t,\td2;", "d1: move d1,d2"} {
		checkImage(t, "P2", source, 0, "3401")
	}
	for _, source := range []string{"", "\n", " ", "\t", ";", "a:", "\n\n;nop\n", "org 0", "ds 0", "ds -0", "align 256"} {
		checkImage(t, "P2", source, 0, "")
	}
}

func TestP2Instructions(t *testing.T) {
	for source, want := range map[string]string{
		"nop": "4e71", "rts": "4e75",
		"move d0,d0": "3000", "move d7,d0": "3007", "move d0,d7": "3e00", "add d1,d2": "d441", "sub d1,d2": "9441", "cmp d1,d2": "b441",
		"moveq #0,d0": "7000", "moveq #127,d7": "7e7f", "moveq #-128,d1": "7280", "moveq #-1,d0": "70ff", "moveq #$7f,d0": "707f", "moveq #-$80,d0": "7080",
		"addi #0,d7": "06470000", "addi #1,d7": "5247", "addi #7,d0": "5e40", "addi #8,d0": "5040", "addi #9,d0": "06400009",
		"addi #-1,d0": "0640ffff", "addi #-32768,d0": "06408000", "addi #65535,d0": "0640ffff", "addi #$ffff,d1": "0641ffff",
		"dc.w 0": "0000", "dc.w 65535,-32768,$12ab": "ffff800012ab", "dc.b 255,-128,-1,$a": "ff80ff0a",
		"dc.w 1,2,3,4,5,6,7,8": "00010002000300040005000600070008", "dc.b 1,2,3,4,5,6,7,8": "0102030405060708",
		"dc.b 00000001": "01", "dc.b $00000001": "01", "dc.b -0": "00",
		"ds 1": "00", "ds $5": "0000000000",
	} {
		checkImage(t, "P2", source, 0, want)
	}
	checkImage(t, "P2", "ds 1024", 0, strings.Repeat("00", 1024))
}

func TestP2Addresses(t *testing.T) {
	checkImage(t, "P2", lines("dc.b 1", "align 4", "align 4", "dc.b 2"), 0, "0100000002")
	checkImage(t, "P2", lines("dc.b 1", "align 256", "dc.b 2"), 0, "01"+strings.Repeat("00", 255)+"02")
	checkImage(t, "P2", lines("org 6", "align 4", "nop"), 6, "00004e71")
	checkImage(t, "P2", lines("org $102", "a: dc.w a,b", "dc.b 1", "b: align 2"), 0x102, "0102 0107 01 00")
	checkImage(t, "P2", lines(" ; first", "", "org 16777214 ;", "dc.b 9"), 0xfffffe, "09")
	checkImage(t, "P2", lines("dc.w a,b", "a:", "b: dc.b b,c", "c:"), 0, "0004 0004 0406")
	checkImage(t, "P2", lines("e: dc.b e,E,é", "E: ds 1", "é:"), 0, "00 03 04 00")
}

func TestP2JumpsWithForms(t *testing.T) {
	words := []string{"bra", "bsr", "bhi", "bls", "bcc", "bcs", "bne", "beq", "bvc", "bvs", "bpl", "bmi", "bge", "blt", "bgt", "ble"}
	opposites := []int{0, 0, 3, 2, 5, 4, 7, 6, 9, 8, 11, 10, 13, 12, 15, 14}
	for number, word := range words {
		checkImage(t, "P2", lines("nop", word+".s 0"), 0, fmt.Sprintf("4e71 6%xfc", number))
		checkImage(t, "P2", word+".w $102", 0, fmt.Sprintf("6%x00 0100", number))
		if number > 1 {
			checkImage(t, "P2", word+".l $123456", 0, fmt.Sprintf("6%x06 4ef9 00123456", opposites[number]))
		}
	}
	checkImage(t, "P2", lines("bra.l a", "bsr.l a", "a:"), 0, "4ef9 0000000c 4eb9 0000000c")
	checkImage(t, "P2", lines("jmp.w a", "jsr.w 0", "a: jmp.l a", "jsr.l $fffffe"), 0, "4ef80008 4eb80000 4ef900000008 4eb900fffffe")
	checkImage(t, "P2", lines("org $fff000", "bra.w a", "ds 2", "a: beq.s a", "bsr.l 0"), 0xfff000, "60000004 0000 67fe 4eb900000000")
}

func TestP3Text(t *testing.T) {
	for _, bad := range []string{"nopp", "no", "Nop", "NOP", "nop.w", "nop x", "nop ,", "nop,", "rts 1", "a", "x9", "nop nop", "\r", "nop\r", "nop\x00", "nop\u00a0",
		":", " : nop", "a :", "a : nop", "a\t:", "1:", "1a: nop", "a-b:", "a.b:", "a b:", "a::", "a: b:", "a: b: nop", "nop a:", "\xff:", "a\xc3: nop", "\xc0\x80:", "\xed\xa0\x80:", "\xff nop", "nop \xff",
		strings.Repeat("a", 21) + ":", strings.Repeat("é", 21) + ":", "bra " + strings.Repeat("a", 21),
		"move", "move d1", "move d1,", "move ,d1", "move d1,d2,d3", "move d1 d2", "move d1,a2", "move d1,d10", "move d1,d", "move d1,D2", "move d1,#2", "move d1,2", "moved1,d2", "move, d1,d2", "add d 1,d2", "cmp d1,dx", "sub d1,d-1",
		"moveq d1", "moveq 1,d1", "moveq #a,d1", "moveq # 1,d1", "moveq #1", "moveq #1,2", "moveq d1,#1", "moveq #,d1", "moveq #1 d1", "addi #1,d1,d2", "addi ##1,d1", "moveq #123456789,d1",
		"dc.w", "dc.b", "dc.w ,", "dc.w 1,", "dc.w ,1", "dc.w 1,,2", "dc.w 1 2", "dc.w 1,2,3,4,5,6,7,8,9", "dc.b 1,2,3,4,5,6,7,8,9", "dc.w #1", "dc.l 1", "dc 1", "dc.w1", "dc.w$1", "dc .w 1", "dc.b a b", "dc.b \xff",
		"dc.w 123456789", "dc.w 000000001", "dc.w $123456789", "dc.w $", "dc.w -", "dc.w -$", "dc.w $-1", "dc.w $1g", "dc.w $A", "dc.w 1a", "dc.w +1", "dc.w --1", "dc.w - 1", "dc.w $ 1", "dc.w 1.0", "moveq #١,d1", "ds ١",
		"ds", "ds a", "ds #1", "ds 1,2", "ds d1", "align", "align a", "align 2,2", "org", "org a", "org 0,0", "org #0",
		"bra", "bra.s", "bra #2", "bra 2,4", "bra.x 2", "bra. 2", "bra.S 2", "bra.s.s 2", "bra .s 2", "b 2", "bxx 2", "beqq 2", "eq 2", "beq.b 2", "jmp", "jmp.s 2", "jsr.s 2", "jmp.x 2", "jmp #2", "jmp 2,2", "jmp.w", "ds.w 2", "align.l 2", "moveq.l #1,d1"} {
		checkError(t, "P3", bad, 1, api.ErrText)
		checkError(t, "P3", lines("nop ; ", "a0:", bad, "nopp"), 3, api.ErrText)
	}
}

func TestP3Long(t *testing.T) {
	checkErrors(t, "P3", []fault{
		{strings.Repeat(";", 4000), 0, api.OK},
		{strings.Repeat("\n", 4000), 0, api.OK},
		{strings.Repeat("\n", 4001), 0, api.ErrLong},
		{strings.Repeat("!", 4001), 0, api.ErrLong},
		{strings.Repeat("!", 4000), 1, api.ErrText},
		{";" + strings.Repeat("é", 2000), 0, api.ErrLong},
	})
}

func TestP3Twice(t *testing.T) {
	checkErrors(t, "P3", []fault{
		{lines("a:", "a:"), 2, api.ErrTwice},
		{lines("a: nop", "b: nop", "", " a: nop"), 4, api.ErrTwice},
		{lines("é:", "é:"), 2, api.ErrTwice},
		{lines("a:", "A:", "a_:"), 0, api.OK},
		{lines("e\u0301:", "\u00e9:"), 0, api.OK},
	})
}

func TestP3Number(t *testing.T) {
	for _, bad := range []string{"move d8,d0", "move d0,d8", "add d9,d9", "moveq #0,d8", "addi #0,d9", "moveq #128,d0", "moveq #-129,d0", "moveq #$80,d0", "moveq #255,d0", "addi #65536,d0", "addi #-32769,d0", "addi #$ffffffff,d0",
		"dc.w 65536", "dc.w -32769", "dc.w 1,65536", "dc.w nowhere,65536", "dc.b 256", "dc.b -129", "dc.b 1,2,3,4,5,6,7,256", "dc.w -99999999",
		"ds 1025", "ds -1", "align 0", "align 1", "align 3", "align 6", "align 512", "align -2", "align 255", "org 1", "org -2", "org $ffffff", "org $1000000"} {
		checkError(t, "P3", bad, 1, api.ErrNumber)
		checkError(t, "P3", lines("", "bra nowhere", bad, "nopp"), 3, api.ErrNumber)
	}
	// Where a jump goes to is not asked here.
	checkError(t, "P3", lines("bra.l 1", "jmp.l -99999999", "nopp"), 3, api.ErrText)
}

func TestP3Org(t *testing.T) {
	checkErrors(t, "P3", []fault{
		{lines("nop", "org 2"), 2, api.ErrOrg},
		{lines("ds 0", "org 2"), 2, api.ErrOrg},
		{lines("a:", "org 2"), 2, api.ErrOrg},
		{"a: org 2", 1, api.ErrOrg},
		{lines("org 2", "org 2"), 2, api.ErrOrg},
		{lines("org 0", "", "org 0"), 3, api.ErrOrg},
		{lines("", " ;", "org 2"), 0, api.OK},
	})
}

func TestP3Order(t *testing.T) {
	checkErrors(t, "P3", []fault{
		{lines("a:", "a: moveq"), 2, api.ErrText},
		{lines("a:", "a: moveq #200,d1"), 2, api.ErrTwice},
		{lines("a:", "a: org 2"), 2, api.ErrTwice},
		{lines("nop", "org 1"), 2, api.ErrNumber},
		{"a: org 1", 1, api.ErrNumber},
		{lines("a:", "org 2", "a:", "moveq #200,d1", "nopp"), 2, api.ErrOrg},
		{lines("moveq #200,d1", "nopp"), 1, api.ErrNumber},
		{"moveq #200,d10", 1, api.ErrText},
		{lines("bra nowhere", "dc.b 1", "bra.s 1", "org 2"), 4, api.ErrOrg},
	})
}

func TestP4Name(t *testing.T) {
	checkErrors(t, "P4", []fault{
		{"bra nowhere", 1, api.ErrName},
		{"jmp.l nowhere", 1, api.ErrName},
		{"dc.w 1,2,nowhere", 1, api.ErrName},
		{"dc.b d1", 1, api.ErrName},
		{lines("a: bra.s a", "bra.w A"), 2, api.ErrName},
		{lines("bra.s 1", "dc.w nowhere"), 2, api.ErrName},
		{lines("dc.w nowhere", "bra elsewhere"), 1, api.ErrName},
		{lines("bra.w a", "nop", "a:"), 0, api.OK},
	})
}

func TestP4Far(t *testing.T) {
	checkErrors(t, "P4", []fault{
		{"bra.s 2", 1, api.ErrFar}, // by 0
		{"bra.s 4", 0, api.OK},
		{"bra.s 128", 0, api.OK},
		{"bra.s 130", 1, api.ErrFar},
		{lines("ds 126", "bra.s 0"), 0, api.OK},
		{lines("ds 128", "bra.s 0"), 2, api.ErrFar},
		{"bne.w 2", 0, api.OK},
		{"bne.w 32768", 0, api.OK},
		{"bne.w 32770", 1, api.ErrFar},
		{lines("org 32766", "bne.w 0"), 0, api.OK},
		{lines("org 32768", "bne.w 0"), 2, api.ErrFar},
		{"jmp.w 32766", 0, api.OK},
		{"jsr.w 32768", 1, api.ErrFar},
		{"jmp.l $fffffe", 0, api.OK},
		{"jmp.l $1000000", 1, api.ErrFar},
		{"bhi.l $1000000", 1, api.ErrFar},
		{"bra.l -2", 1, api.ErrFar},
		{"jmp.w -2", 1, api.ErrFar},
		{lines("ds 100", "bra.s -2"), 2, api.ErrFar},
		{"bra.s 5", 1, api.ErrFar},
		{"bsr.w 5", 1, api.ErrFar},
		{"jmp.l 5", 1, api.ErrFar},
		{lines("dc.b 1", "bra.s 4"), 2, api.ErrFar},
		{lines("dc.b 1", "jsr.l 4"), 2, api.ErrFar},
		{lines("dc.b 1", "align 2", "jsr.l 4"), 0, api.OK},
		{lines("nop", "bra.s 200", "bra.s 2", "bra.s 200"), 2, api.ErrFar},
		{lines("org $fffffe", "bra.s a", "nop", "a: nop"), 2, api.ErrFar}, // a is above the highest place
	})
}

func TestP4NumberAndLong(t *testing.T) {
	checkErrors(t, "P4", []fault{
		{lines("ds 255", "a: dc.b a"), 0, api.OK},
		{lines("ds 256", "a: dc.b a"), 2, api.ErrNumber},
		{lines("dc.b a", "ds 255", "a: dc.b a"), 1, api.ErrNumber},
		{lines("org $fffe", "dc.b 1", "a: dc.w a"), 0, api.OK},
		{lines("org $10000", "nop", "dc.w 1,a", "a:"), 3, api.ErrNumber},
		{lines("org $10000", "a: dc.b a", "bra.s a"), 3, api.ErrFar},
		{lines("org $fffffe", "a: dc.w a,1"), 2, api.ErrNumber},
		{lines("org $fffffe", "dc.b 1"), 0, api.OK},
		{lines("org $fffffe", "dc.b 1", "a:"), 0, api.OK},
		{lines("org $fffffe", "nop"), 0, api.ErrLong},
		{lines("org $fffffe", "ds 0"), 0, api.OK},
		{lines("org $fffffc", "ds 3", "align 2"), 0, api.ErrLong},
		{lines("org $fffffe", "nop", "bra.l 0"), 0, api.ErrLong}, // it fits, however great its address is
		{lines("org $fffffe", "nop", "bra.s 4"), 3, api.ErrFar},
	})
}

func checkNames(t *testing.T, source string, want ...api.Name) {
	t.Helper()
	list, line, errno := strider.Names(source)
	if !slices.Equal(list, want) || line != 0 || errno != api.OK {
		t.Errorf("P5: Names(%q): %v, %d, %d; want %v", source, list, line, errno, want)
	}
}

func TestP5Names(t *testing.T) {
	checkNames(t, "")
	checkNames(t, "nop ; a:")
	checkNames(t, "a:", api.Name{Name: "a", Place: 0})
	checkNames(t, lines("org 16", "b: nop", "a:", "é: rts", "Z: ds 6", "_:"),
		api.Name{Name: "Z", Place: 20}, api.Name{Name: "_", Place: 26}, api.Name{Name: "a", Place: 18}, api.Name{Name: "b", Place: 16}, api.Name{Name: "é", Place: 18})
	// Byte by byte: the shorter one ahead, small behind great letters, and U+FFFD ahead of what has four bytes.
	checkNames(t, lines("\U0001f600:", "\ufffd:", "ab:", "aB:", "a9:", "a:", "a_:"),
		api.Name{Name: "a"}, api.Name{Name: "a9"}, api.Name{Name: "aB"}, api.Name{Name: "a_"}, api.Name{Name: "ab"}, api.Name{Name: "\ufffd"}, api.Name{Name: "\U0001f600"})
	checkNames(t, lines("dc.b 1", "a: align 4", "b: bra.l a0", "c: bne.l a0", "d: addi #8,d1", "a0: addi #9,d1", "e:"),
		api.Name{Name: "a", Place: 1}, api.Name{Name: "a0", Place: 20}, api.Name{Name: "b", Place: 4}, api.Name{Name: "c", Place: 10}, api.Name{Name: "d", Place: 18}, api.Name{Name: "e", Place: 24})
	checkNames(t, lines("org $fffffe", "dc.b 1", "end:"), api.Name{Name: "end", Place: 0xffffff})
}
