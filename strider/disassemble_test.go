package strider_test

import (
	"fmt"
	"math"
	"slices"
	"strings"
	"testing"

	"strider/api"
	"strider/strider"
)

// checkBack holds a source that must be told, whole, against the one that is; the lines behind org are given.
func checkBack(t *testing.T, org int, bytes string, want ...string) {
	t.Helper()
	image := api.Image{Org: org, Bytes: bytesOf(t, bytes)}
	whole := lines(append([]string{fmt.Sprintf("org %d", org)}, want...)...) + "\n"
	if source, errno := strider.Disassemble(image); source != whole || errno != api.OK {
		t.Errorf("P6: Org %d: %s: %q, error %d; want %q", org, bytes, source, errno, whole)
	}
	checkRoundTrip(t, image)
}

func checkRoundTrip(t *testing.T, image api.Image) {
	t.Helper()
	source, errno := strider.Disassemble(image)
	if errno != api.OK {
		t.Errorf("P8: Org %d: % x: error %d", image.Org, image.Bytes, errno)
		return
	}
	again, line, errno := strider.Assemble(source)
	if again != image || line != 0 || errno != api.OK {
		t.Errorf("P8: Org %d: % x: %q is made into Org %d: % x, line %d, error %d", image.Org, image.Bytes, source, again.Org, again.Bytes, line, errno)
	}
}

func TestP6Instructions(t *testing.T) {
	checkBack(t, 0, "")
	checkBack(t, 0xfffffe, "")
	checkBack(t, 16, "60000002 ffff 01", "bra.w 20", "dc.w 65535", "dc.b 1")
	checkBack(t, 2, "4e71 4e75", "nop", "rts")
	checkBack(t, 0, "3401 d047 9e40 b643", "move d1,d2", "add d7,d0", "sub d0,d7", "cmp d3,d3")
	checkBack(t, 0, "7000 7eff 727f 7480", "moveq #0,d0", "moveq #-1,d7", "moveq #127,d1", "moveq #-128,d2")
	checkBack(t, 0, "5240 5e47 5041", "addi #1,d0", "addi #7,d7", "addi #8,d1")
	checkBack(t, 0, "06420009 0643ffff 06440000 06478000", "addi #9,d2", "addi #65535,d3", "addi #0,d4", "addi #32768,d7")
	checkBack(t, 0, "00", "dc.b 0")
	checkBack(t, 0xfffffe, "ff", "dc.b 255")
	checkBack(t, 0, "0000 0102 ffff 4e70 4e", "dc.w 0", "dc.w 258", "dc.w 65535", "dc.w 20080", "dc.b 78")
}

func TestP6Jumps(t *testing.T) {
	for number, word := range []string{"bra", "bsr", "bhi", "bls", "bcc", "bcs", "bne", "beq", "bvc", "bvs", "bpl", "bmi", "bge", "blt", "bgt", "ble"} {
		checkBack(t, 200, fmt.Sprintf("6%x02", number), word+".s 204")
		checkBack(t, 200, fmt.Sprintf("6%x7e", number), word+".s 328")
		checkBack(t, 200, fmt.Sprintf("6%x80", number), word+".s 74")
		checkBack(t, 200, fmt.Sprintf("6%xff", number), fmt.Sprintf("dc.w %d", 0x60ff+number<<8))
		checkBack(t, 0x8000, fmt.Sprintf("6%x00 7ffe", number), word+".w 65536")
		checkBack(t, 0x8000, fmt.Sprintf("6%x00 8000", number), word+".w 2")
		checkBack(t, 0x8000, fmt.Sprintf("6%x00 0000", number), word+".w 32770")
	}
	checkBack(t, 0, "4ef80004 4eb87ffe 4ef900000004 4eb900fffffe", "jmp.w 4", "jsr.w 32766", "jmp.l 4", "jsr.l 16777214")
	// Bytes of a long bra or bsr, too.
	checkBack(t, 0, "4ef900000002", "jmp.l 2")
	checkBack(t, 6, "4eb900000008", "jsr.l 8")
	// The two that a long jump by a condition is made of.
	checkBack(t, 0, "6706 4ef900000002", "beq.s 8", "jmp.l 2")
	checkBack(t, 0xfffff6, "6606 4ef900fffffe", "bne.s 16777214", "jmp.l 16777214")
}

func TestP6WordsThatAreNoInstructions(t *testing.T) {
	// Numbers that are written in another way.
	checkBack(t, 0, "06420001 06470008", "dc.w 1602", "dc.w 1", "dc.w 1607", "dc.w 8")
	// Jumps that go to no place.
	checkBack(t, 0, "60fc", "dc.w 24828")
	checkBack(t, 0, "60fe", "bra.s 0")
	checkBack(t, 0, "6003 6000 fffc", "dc.w 24579", "bra.w 0")
	checkBack(t, 0, "6000 fffc", "dc.w 24576", "dc.w 65532")
	checkBack(t, 0, "6000 fffe", "bra.w 0")
	checkBack(t, 0xfffffa, "6002 6002", "bra.s 16777214", "dc.w 24578")
	checkBack(t, 0xfffff8, "6000 0004 61", "bra.w 16777214", "dc.b 97")
	checkBack(t, 0xfffff8, "6000 0006 61", "dc.w 24576", "dc.w 6", "dc.b 97")
	checkBack(t, 0, "4ef88000 4eb80003", "dc.w 20216", "dc.w 32768", "dc.w 20152", "dc.w 3")
	checkBack(t, 0, "4ef901000000 4eb900000001", "dc.w 20217", "dc.w 256", "dc.w 0", "dc.w 20153", "dc.w 0", "dc.w 1")
	checkBack(t, 0, "4ef9fffffffe", "dc.w 20217", "dc.w 65535", "dc.w 65534")
	// What stands behind such a word is looked at for itself.
	checkBack(t, 0, "4ef84e71 60004e75", "dc.w 20216", "nop", "dc.w 24576", "rts")
	checkBack(t, 0, "4ef94e714ef8 0004", "dc.w 20217", "nop", "jmp.w 4")
	// Too few bytes.
	checkBack(t, 0, "0642", "dc.w 1602")
	checkBack(t, 0, "0642 10", "dc.w 1602", "dc.b 16")
	checkBack(t, 0, "6000", "dc.w 24576")
	checkBack(t, 0, "6200 00", "dc.w 25088", "dc.b 0")
	checkBack(t, 0, "4ef8", "dc.w 20216")
	checkBack(t, 0, "4eb8 00", "dc.w 20152", "dc.b 0")
	checkBack(t, 0, "4ef9 0000", "dc.w 20217", "dc.w 0")
	checkBack(t, 0, "4ef9 0000 00", "dc.w 20217", "dc.w 0", "dc.b 0")
}

// shortTexts lists all instructions of one word that stand at this address, without jumps that go too low or too high.
func shortTexts(address int) []string {
	list := []string{"nop", "rts"}
	for k := range 8 {
		for j := range 8 {
			for _, word := range []string{"move", "add", "sub", "cmp"} {
				list = append(list, fmt.Sprintf("%s d%d,d%d", word, j, k))
			}
			list = append(list, fmt.Sprintf("addi #%d,d%d", j+1, k))
		}
		for n := -128; n < 128; n++ {
			list = append(list, fmt.Sprintf("moveq #%d,d%d", n, k))
		}
	}
	for _, word := range []string{"bra", "bsr", "bhi", "bls", "bcc", "bcs", "bne", "beq", "bvc", "bvs", "bpl", "bmi", "bge", "blt", "bgt", "ble"} {
		for by := -128; by < 128; by += 2 {
			if by != 0 {
				list = append(list, fmt.Sprintf("%s.s %d", word, address+2+by))
			}
		}
	}
	return list
}

func TestP6AllWordsAlone(t *testing.T) {
	const org = 4096
	texts := make([]string, 1<<16)
	for _, text := range shortTexts(org) {
		image, _, errno := strider.Assemble(fmt.Sprintf("org %d\n%s", org, text))
		if errno != api.OK || len(image.Bytes) != 2 {
			t.Fatalf("P2: %q: % x, error %d", text, image.Bytes, errno)
		}
		texts[int(image.Bytes[0])<<8|int(image.Bytes[1])] = text
	}
	for word, text := range texts {
		if text == "" {
			text = fmt.Sprintf("dc.w %d", word)
		}
		checkBack(t, org, fmt.Sprintf("%04x", word), text)
	}
}

func TestP6WrongImages(t *testing.T) {
	for _, image := range []api.Image{
		{Org: 1}, {Org: -1}, {Org: -2}, {Org: 0xffffff}, {Org: 1 << 24}, {Org: math.MaxInt}, {Org: math.MaxInt - 1}, {Org: math.MinInt}, {Org: 3, Bytes: "Nq"},
		{Org: math.MaxInt - 1, Bytes: "Nq"}, {Org: 1 << 24, Bytes: "Nq"},
		{Bytes: strings.Repeat("x", api.MaxImage+1)}, {Bytes: strings.Repeat("x", 1<<20)},
		{Org: 0xfffffe, Bytes: "xx"}, {Org: 0xfffffc, Bytes: "xxxx"}, {Org: 0xfffffe - 398, Bytes: strings.Repeat("x", 400)},
	} {
		if source, errno := strider.Disassemble(image); source != "" || errno != api.ErrArg {
			t.Errorf("P6: Org %d, %d bytes: %q, error %d", image.Org, len(image.Bytes), source, errno)
		}
	}
	for _, image := range []api.Image{
		{}, {Org: 0xfffffe}, {Org: 0xfffffe, Bytes: "x"}, {Org: 0xfffffc, Bytes: "xxx"}, {Org: 0xfffffe - 398, Bytes: strings.Repeat("x", 399)}, {Org: 0xfffffe - 400, Bytes: strings.Repeat("x", 400)},
		{Bytes: strings.Repeat("x", api.MaxImage)},
	} {
		checkRoundTrip(t, image)
	}
}

// checkLines asks what holds of every source that is told.
func checkLines(t *testing.T, source string) {
	t.Helper()
	list := strings.SplitAfter(source, "\n")
	if list[len(list)-1] != "" || !strings.HasPrefix(list[0], "org ") {
		t.Fatalf("P6: %q", source)
	}
	for _, line := range list[:len(list)-1] {
		word, rest, blank := strings.Cut(strings.TrimSuffix(line, "\n"), " ")
		if strings.ContainsAny(rest, " \t;:$") || blank != (rest != "") || word == "" {
			t.Fatalf("P6: the line %q", line)
		}
	}
}

// firstWords are all words that an instruction of more than one word may begin with, their neighbours, and some others.
func firstWords() []int {
	var list []int
	for word := range 1 << 16 {
		if word&0xff == 0 || word>>8 == 0x4e || word>>4 == 0x64 || word%61 == 0 {
			list = append(list, word)
		}
	}
	return list
}

func TestP8AllKindsOfWords(t *testing.T) {
	seconds := []string{"", "\x00\x00", "\x00\x01", "\x00\x08", "\x00\x09", "\x7f\xfe", "\x7f\xff", "\x80\x00", "\xff\xfe", "\xff\xff", "\x4e\x71", "\x00"}
	for _, org := range []int{0, 130, 0x7ffe, 0x9000, 0xfffffe - 400} {
		for _, second := range seconds {
			var bytes strings.Builder
			for _, first := range firstWords() {
				bytes.WriteString(string([]byte{byte(first >> 8), byte(first)}) + second)
			}
			for chunk := range slices.Chunk([]byte(bytes.String()), api.MaxImage) {
				image := api.Image{Org: org, Bytes: string(chunk)}
				source, _ := strider.Disassemble(image)
				checkLines(t, source)
				checkRoundTrip(t, image)
			}
		}
	}
}

func TestP8LongestSource(t *testing.T) {
	for _, word := range []string{"\x7e\x80", "\x6d\x80", "\xff\xff", "\x4e\x71", "\x60\xfe"} {
		checkRoundTrip(t, api.Image{Org: 0xfffffe - 400, Bytes: strings.Repeat(word, api.MaxImage/2)})
	}
}

func TestP8WhatAssembleMade(t *testing.T) {
	for _, source := range []string{
		"", "org 16", "nop", lines("org $fffff0", "bra.l 0", "beq.l $fffffe"),
		lines("a: bra b", "bsr c", "ds 120", "b: beq a", "moveq #-3,d3", "addi #3,d4", "addi #30,d4", "c: rts", "dc.b 1,2,3"),
		lines("org $8000", "x: jmp x", "jsr 4", "bne 2", "ble $10004", "bra.l x", "bsr.l x", "bhi.l x", "dc.w x,1602,1", "dc.b 6"),
		lines("dc.w $4ef9", "bra.s 0", "dc.b $60", "align 4", "ds 3"),
	} {
		image, _, errno := strider.Assemble(source)
		if errno != api.OK {
			t.Fatalf("P2: %q: error %d", source, errno)
		}
		checkRoundTrip(t, image)
	}
}

func TestP1DisassembleHangsOnItsArgumentAlone(t *testing.T) {
	bytes := []byte(bytesOf(t, "60000002 06420001 4ef900000004 01"))
	image := api.Image{Org: 8, Bytes: string(bytes)}
	var told []string
	for range 3 {
		source, _ := strider.Disassemble(image)
		told = append(told, source)
		strider.Disassemble(api.Image{Org: 1})
		strider.Assemble("org 4\na: bra a")
	}
	if len(slices.Compact(told)) != 1 {
		t.Errorf("P1: one image, more than one source: %q", told)
	}
}
