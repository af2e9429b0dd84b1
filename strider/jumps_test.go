package strider_test

import (
	"fmt"
	"slices"
	"strings"
	"testing"

	"strider/api"
	"strider/strider"
)

func zeros(n int) string { return strings.Repeat("00", n) }

// space is a text of lines that lay down n bytes 0.
func space(n int) string {
	return strings.Repeat("ds 1024\n", n/1024) + fmt.Sprintf("ds %d", n%1024)
}

func TestP4ShortAndWordForms(t *testing.T) {
	checkImage(t, "P4", "a: bra a", 0, "60fe")
	checkImage(t, "P4", lines("bsr a", "nop", "a:"), 0, "6102 4e71")
	checkImage(t, "P4", lines("bra a", "ds 0", "a:"), 0, "60000002") // by 0 there is no short jump
	checkImage(t, "P4", lines("beq a", "ds 126", "a:"), 0, "677e"+zeros(126))
	checkImage(t, "P4", lines("beq a", "ds 128", "a:"), 0, "67000082"+zeros(128))
	checkImage(t, "P4", lines("a: ds 126", "beq a"), 0, zeros(126)+"6780")
	checkImage(t, "P4", lines("a: ds 128", "beq a"), 0, zeros(128)+"6700ff7e")
	checkImage(t, "P4", lines("org 100", "bra 102", "bhi 0", "bls 230"), 100, "60000000 6296 637a")
	checkImage(t, "P4", lines("org $fffff8", "bra a", "ds 4", "a:"), 0xfffff8, "6004 00000000")
}

func TestP4LongForms(t *testing.T) {
	checkImage(t, "P4", lines("bne a", space(32764), "a:"), 0, "66007ffe"+zeros(32764))
	checkImage(t, "P4", lines("bne a", space(32766), "a:"), 0, "67064ef900008006"+zeros(32766))
	checkImage(t, "P4", lines("bra a", space(32766), "a:"), 0, "4ef900008004"+zeros(32766))
	checkImage(t, "P4", lines("bsr a", space(32766), "a:"), 0, "4eb900008004"+zeros(32766))
	checkImage(t, "P4", lines("a: "+space(32766), "bge a"), 0, zeros(32766)+"6c008000")
	checkImage(t, "P4", lines("a: "+space(32768), "bge a"), 0, zeros(32768)+"6d064ef900000000")
	checkImage(t, "P4", lines("jmp a", space(32762), "a:"), 0, "4ef87ffe"+zeros(32762))
	checkImage(t, "P4", lines("jsr a", space(32764), "a:"), 0, "4eb900008002"+zeros(32764))
	checkImage(t, "P4", lines("bra 32768", "bsr 32772"), 0, "60007ffe 61007ffe")
	checkImage(t, "P4", lines("bra 32770", "bsr 32778", "ble $fffffe"), 0, "4ef900008002 4eb90000800a 6e064ef900fffffe")
	checkImage(t, "P4", lines("jmp 32766", "jsr 32768"), 0, "4ef87ffe 4eb900008000")
}

func TestP4OneGrowsAndSoAnotherMust(t *testing.T) {
	checkImage(t, "P4", lines("bra a", "bra b", "ds 122", "a: ds 4", "b:"), 0, "607c 607e"+zeros(126))
	checkImage(t, "P4", lines("bra a", "bra b", "ds 124", "a: ds 4", "b:"), 0, "60000082 60000082"+zeros(128))
	checkImage(t, "P4", lines("bra a", "bra b", "ds 122", "a: ds 6", "b:"), 0, "607e 60000082"+zeros(128))
	checkImage(t, "P4", lines("a: bra b", "ds 124", "bra a", "nop", "b:"), 0, "60000084"+zeros(124)+"6000ff7e 4e71")
	checkImage(t, "P4", lines("org $7ff0", "jmp a", "jsr b", "ds 6", "a: nop", "b:"), 0x7ff0, "4ef900008002 4eb900008004"+zeros(6)+"4e71")
	checkImage(t, "P4", lines("org $7ff8", "jmp b", "bra a", "a:", "b:"), 0x7ff8, "4ef900008002 60000002")
	checkImage(t, "P4", lines("bra a", "bne b", space(32760), "a: ds 4", "b:"), 0, "60007ffe 66007ffe"+zeros(32764))
	checkImage(t, "P4", lines("bra a", "bne b", space(32760), "a: ds 6", "b:"), 0, "4ef900008006 67064ef90000800c"+zeros(32766))
}

func TestP4RoundByRound(t *testing.T) {
	// Both grow at once, though the second would fit behind the first one's growth: what has grown stays so.
	checkImage(t, "P4", lines("bra a", "a: bra 132"), 0, "60000002 6000007e")
	checkImage(t, "P4", lines("bra a", "a: bra b", "ds 126", "align 4", "b:"), 0, "60000002 60000082"+zeros(128))
	// One form a round: the second is too far for the form Word at first, but not where it stands then.
	checkImage(t, "P4", lines("bra a", "a: bra 32772"), 0, "60000002 60007ffe")
	checkImage(t, "P4", lines("bra a", "a: bhi 32774"), 0, "60000002 63064ef900008006")
	// What has one form alone waits for the growth of others.
	checkImage(t, "P4", lines("bra a", "a: bra.s 132"), 0, "60000002 607e")
	checkImage(t, "P4", lines("bra a", "a: bra.w 32772"), 0, "60000002 60007ffe")
	// An align takes up what grows ahead of it.
	checkImage(t, "P4", lines("bra a", "bra b", "align 128", "a: ds 4", "b:"), 0, "607e 60000080"+zeros(122)+zeros(4))
	checkImage(t, "P4", lines("bcc a", "align 16", "a: rts"), 0, "640e"+zeros(14)+"4e75")
	checkImage(t, "P4", lines("bra.w a", "bra a", "a:"), 0, "60000006 60000002")
}

func TestP4NoLayout(t *testing.T) {
	checkErrors(t, "P4", []fault{
		{"bra 1", 1, api.ErrFar},
		{"jsr 3", 1, api.ErrFar},
		{lines("bra 4", "bne -2", "bra 1"), 2, api.ErrFar},
		{lines("nop", "jmp 16777216"), 2, api.ErrFar},
		{lines("bra a", "dc.b 1", "a:"), 1, api.ErrFar},
		{lines("dc.b 1", "bra a", "a: jmp b", "b:"), 2, api.ErrFar},
		{lines("org $fffff8", "beq a", "ds 6", "a:"), 2, api.ErrFar},
		{lines("org $fffffe", "bra a", "a:"), 2, api.ErrFar},
		// It fits at first, but not where the other one's growth places it.
		{lines("bra.s a", "bra b", "ds 124", "a: ds 4", "b:"), 1, api.ErrFar},
		{lines("bra.s a", "bra b", "ds 122", "a: ds 4", "b:"), 0, api.OK},
		// It does not fit at first, but does in the end: the line is that of the one that does not then.
		{lines("bra a", "a: bra.s 132", "bra.s 1"), 3, api.ErrFar},
		{lines("bra a", "ds 130", "a: bra.s a", "bra.s b", "b:"), 4, api.ErrFar},
	})
}

func TestP4ErrorsBehindTheLayout(t *testing.T) {
	checkErrors(t, "P4", []fault{
		{lines("dc.b a", "bra 1", "bra nowhere", "ds 256", "a:"), 3, api.ErrName},
		{lines("dc.b a", "bra 1", "ds 256", "a:"), 2, api.ErrFar},
		// The place is too great by a jump's growth alone.
		{lines("dc.b 0,a", "bra b", "b: ds 249", "a:"), 0, api.OK},
		{lines("dc.b 0,a", "bra b", "b: ds 251", "a:"), 1, api.ErrNumber},
		{lines("dc.w b", "bra b", "b: ds 252", "dc.b a", "a:"), 4, api.ErrNumber},
		{lines("dc.w b", "bra b", "b: ds 248", "dc.b a", "a:"), 0, api.OK},
		{lines("org $fffffa", "bra $fffffc", "dc.b 1"), 0, api.OK},
		{lines("org $fffffc", "bra $fffffe", "dc.b 1"), 0, api.ErrLong},
		{lines("org $fffff8", "a: bra 0", "dc.b 1"), 0, api.OK},
		{lines("org $fffff8", "a: bne 0"), 0, api.ErrLong},
	})
}

func TestP5NamesBehindGrownJumps(t *testing.T) {
	checkNames(t, lines("a: bra c", "b: ds 128", "c: jmp a", "d: jmp $8000", "e:"),
		api.Name{Name: "a", Place: 0}, api.Name{Name: "b", Place: 4}, api.Name{Name: "c", Place: 132}, api.Name{Name: "d", Place: 136}, api.Name{Name: "e", Place: 142})
}

// row is a part of a source for P7; where a form may be put, there is a %.
type row struct {
	text  string
	forms []string
}

// rows makes lines of pseudo-random jumps and spaces, a label ahead of each and one behind them.
func rows(pick func(n int) int) []row {
	count := 3 + pick(6)
	list := make([]row, 0, count+1)
	jumps, great := 0, pick(3) == 0
	for k := range count {
		label, target := fmt.Sprintf("p%d: ", k), fmt.Sprintf("%% p%d", pick(count+1))
		switch kind := pick(5); {
		case kind < 2 && jumps < 4:
			jumps++
			word := []string{"bra", "bsr", "bne", "bls"}[pick(4)]
			list = append(list, row{label + word + target, []string{".s", ".w", ".l"}})
		case kind == 2 && jumps < 4:
			jumps++
			list = append(list, row{label + []string{"jmp", "jsr"}[pick(2)] + target, []string{".w", ".l"}})
		case great:
			great = false
			list = append(list, row{text: label + space(32738+2*pick(17))})
		default:
			spaces := []int{0, 2, 4, 6, 114, 116, 118, 120, 122, 124, 126, 126, 128, 3}
			list = append(list, row{text: label + fmt.Sprintf("ds %d", spaces[pick(len(spaces))])})
		}
	}
	return append(list, row{text: fmt.Sprintf("p%d:", count)})
}

// withForms tells all ways to put forms behind the jumps.
func withForms(list []row) []string {
	texts := []string{""}
	for _, r := range list {
		var longer []string
		for _, head := range texts {
			if r.forms == nil {
				longer = append(longer, head+r.text+"\n")
			}
			for _, form := range r.forms {
				longer = append(longer, head+strings.Replace(r.text, "%", form, 1)+"\n")
			}
		}
		texts = longer
	}
	return texts
}

func withoutForms(list []row) string {
	var text strings.Builder
	for _, r := range list {
		text.WriteString(strings.Replace(r.text, "%", "", 1) + "\n")
	}
	return text.String()
}

// sizes tells the bytes of each row, by the labels around it.
func sizes(t *testing.T, source string, count int) ([]int, api.Errno) {
	t.Helper()
	names, _, errno := strider.Names(source)
	if errno != api.OK {
		return nil, errno
	}
	places := make([]int, count)
	for _, name := range names {
		var k int
		if _, err := fmt.Sscanf(name.Name, "p%d", &k); err != nil {
			t.Fatal(err)
		}
		places[k] = name.Place
	}
	list := make([]int, count-1)
	for k := range list {
		list[k] = places[k+1] - places[k]
	}
	return list, errno
}

// checkLeast holds the layout against all ways to put forms behind the jumps; it tells the bytes of each row.
func checkLeast(t *testing.T, list []row) ([]int, api.Errno) {
	t.Helper()
	free := withoutForms(list)
	least, errno := sizes(t, free, len(list))
	met := false
	for _, put := range withForms(list) {
		other, e := sizes(t, put, len(list))
		if e == api.ErrFar {
			continue
		}
		if e != api.OK || errno != api.OK {
			t.Fatalf("P7: %q: error %d; %q: error %d", free, errno, put, e)
		}
		for k := range other {
			if other[k] < least[k] {
				t.Fatalf("P7: %q has %v bytes, but %q has %v", free, least, put, other)
			}
		}
		met = met || slices.Equal(other, least)
	}
	if met != (errno == api.OK) {
		t.Fatalf("P7: %q: error %d, though nobody's forms are so: %v", free, errno, least)
	}
	return least, errno
}

func TestP7LeastLayout(t *testing.T) {
	seed := uint32(1)
	pick := func(n int) int {
		seed = seed*1664525 + 1013904223
		return int(seed>>16) % n
	}
	seen := map[string]int{}
	for range 600 {
		list := rows(pick)
		least, errno := checkLeast(t, list)
		if errno != api.OK {
			seen["none"]++
		}
		for k, size := range least {
			if list[k].forms != nil {
				seen[fmt.Sprint(size)]++
			}
		}
	}
	for _, kind := range []string{"none", "2", "4", "6", "8"} {
		if seen[kind] < 20 {
			t.Errorf("the sources try too little: %v", seen)
		}
	}
}
