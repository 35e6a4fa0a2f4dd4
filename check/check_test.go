package check

import (
	"math"
	"math/bits"
	"slices"
	"strings"
	"testing"
)

// whole is what sums are divided by: the bit that goes out, and the rest.
const whole uint32 = 0x1864cfb

// divide answers the remainder of s as a polynomial over two elements, its
// first 24 bits changed by sum and 24 noughts behind it: long division bit by
// bit, so that the tests have another way to a sum than the program's.
func divide(sum uint32, s string) uint32 {
	l := make([]byte, 0, 8*len(s)+24)
	for i := range len(s) {
		for k := 7; k >= 0; k-- {
			l = append(l, s[i]>>k&1)
		}
	}
	l = append(l, make([]byte, 24)...)
	for k := range 24 {
		l[k] ^= byte(sum >> (23 - k) & 1)
	}
	for i := range 8 * len(s) {
		if l[i] == 0 {
			continue
		}
		for k := range 25 {
			l[i+k] ^= byte(whole >> (24 - k) & 1)
		}
	}
	var rest uint32
	for _, b := range l[8*len(s):] {
		rest = rest<<1 | uint32(b)
	}
	return rest
}

// everyByte has all bytes, in order.
func everyByte() string {
	b := make([]byte, 256)
	for i := range b {
		b[i] = byte(i)
	}
	return string(b)
}

// texts are ordinary ones and ones at the edges.
func texts() []string {
	return []string{
		"",
		"\x00",
		"\x01",
		"\x80",
		"\xff",
		"a",
		"é",
		"\xff\xfe\xfd",
		"123456789",
		strings.Repeat("\x00", 40),
		strings.Repeat("\xff", 40),
		"the quick brown fox jumps over the lazy dog",
		everyByte(),
		strings.Repeat("weir", 500),
	}
}

// sums are some at the edges of 24 bits.
func sums() []uint32 {
	return []uint32{0, 1, 0x80, 0xff, 0xffff, 0x7fffff, 0x800000, 0x864cfb, 0xb704ce, 0xfffffe, 0xffffff}
}

// changed answers s, changed by the bits of what, the lowest of them at the
// bit at of s, and the others behind.
func changed(s string, what uint32, at int) string {
	b := []byte(s)
	for k := range 32 {
		if what>>k&1 == 1 {
			b[(at+k)/8] ^= 0x80 >> ((at + k) % 8)
		}
	}
	return string(b)
}

// both answers a and b, of one length, changed by each other.
func both(a, b string) string {
	l := []byte(a)
	for i := range l {
		l[i] ^= b[i]
	}
	return string(l)
}

// P2.1: sums that are known: the chapter's example, and others.
func TestSumKnown(t *testing.T) {
	for _, c := range []struct {
		s    string
		want uint32
	}{
		{"", 0xb704ce},
		{"123456789", 0x21cf02},
		{"a", 0xf25713},
		{"abc", 0xba1c7b},
		{"foo", 0x4fc255},
		{"message digest", 0xdbf0b6},
		{"abcdefghijklmnopqrstuvwxyz", 0xed3665},
	} {
		if n := Sum(c.s); n != c.want {
			t.Errorf("Sum(%q) = %06x, not %06x", c.s, n, c.want)
		}
	}
}

// P2.1: no text, and texts of no bytes, leave the sum as it is at first.
func TestSumOfNothing(t *testing.T) {
	for _, l := range [][]string{nil, {}, {""}, {"", "", ""}} {
		if n := Sum(l...); n != 0xb704ce {
			t.Errorf("Sum(%q) = %06x", l, n)
		}
	}
}

// P2.1: the sum is what long division leaves, and has no more than 24 bits.
func TestSumDivides(t *testing.T) {
	for _, s := range texts() {
		if n, want := Sum(s), divide(0xb704ce, s); n != want || n > 0xffffff {
			t.Errorf("Sum of %d bytes, %.9q: %06x, not %06x", len(s), s, n, want)
		}
	}
}

// P2.1: texts count one behind the other, wherever they are cut.
func TestSumOfParts(t *testing.T) {
	for _, s := range texts() {
		want := Sum(s)
		for i := range len(s) + 1 {
			if n := Sum(s[:i], s[i:]); n != want {
				t.Errorf("Sum of %.9q, cut at %d: %06x, not %06x", s, i, n, want)
			}
			if n := Sum("", s[:i], "", s[i:], ""); n != want {
				t.Errorf("Sum of %.9q, cut at %d, with texts of no bytes: %06x, not %06x", s, i, n, want)
			}
		}
		if n := Sum(strings.Split(s, "")...); n != want {
			t.Errorf("Sum of %.9q, in its letters: %06x, not %06x", s, n, want)
		}
	}
	if Sum("a", "b") == Sum("b", "a") {
		t.Error("the order of the texts is not told")
	}
}

// P2.1: More goes on from any sum of 24 bits.
func TestMoreDivides(t *testing.T) {
	for _, sum := range sums() {
		for _, s := range texts() {
			if n, want := More(sum, s), divide(sum, s); n != want {
				t.Errorf("More(%06x, %.9q) = %06x, not %06x", sum, s, n, want)
			}
		}
	}
}

// P2.1: the sum goes on from that of what stands ahead.
func TestMoreGoesOn(t *testing.T) {
	for _, a := range texts() {
		for _, b := range texts() {
			if n, want := More(Sum(a), b), Sum(a+b); n != want {
				t.Errorf("More(Sum(%.9q), %.9q) = %06x, not %06x", a, b, n, want)
			}
		}
	}
}

// P2.1: bits above the lowest 24 count for nothing, with and without bytes.
func TestMoreOfTooManyBits(t *testing.T) {
	for _, sum := range sums() {
		if n := More(sum, ""); n != sum {
			t.Errorf("More(%06x, no bytes) = %06x", sum, n)
		}
		for _, high := range []uint32{1 << 24, 1 << 31, 0x5a000000, math.MaxUint32 &^ 0xffffff} {
			for _, s := range texts() {
				if n, want := More(high|sum, s), divide(sum, s); n != want {
					t.Errorf("More(%08x, %.9q) = %06x, not %06x", high|sum, s, n, want)
				}
			}
		}
	}
}

// P2.2: each place has what becomes of a sum of 0 by its byte.
func TestTable(t *testing.T) {
	l := Table()
	for n, got := range l {
		s := string([]byte{byte(n)})
		if want := divide(0, s); got != want || got != More(0, s) {
			t.Errorf("Table at %d: %06x, not %06x", n, got, want)
		}
	}
	for n, want := range []uint32{0, 0x864cfb, 0x8ad50d, 0x0c99f6} {
		if l[n] != want {
			t.Errorf("Table at %d: %06x, not %06x", n, l[n], want)
		}
	}
}

// P2.2: a sum can be told by the table, byte by byte.
func TestTableTellsSums(t *testing.T) {
	l := Table()
	for _, s := range texts() {
		sum := uint32(0xb704ce)
		for i := range len(s) {
			sum = sum<<8&0xffffff ^ l[byte(sum>>16)^s[i]]
		}
		if n := Sum(s); n != sum {
			t.Errorf("Sum of %.9q: %06x, by the table %06x", s, n, sum)
		}
	}
}

// P2.2, P2.3: the table's places differ, and go with each other.
func TestTableGoesTogether(t *testing.T) {
	l := Table()
	sorted := slices.Sorted(slices.Values(l[:]))
	if len(slices.Compact(sorted)) != 256 {
		t.Error("two places of the table are the same")
	}
	for a := range l {
		for b := range l {
			if l[a]^l[b] != l[a^b] {
				t.Fatalf("Table at %d and %d, and at %d", a, b, a^b)
			}
		}
	}
}

// P2.3: whatever is changed within 12 bits, at every place, changes the sum.
func TestShortChangesAreTold(t *testing.T) {
	s := "weirkeeper"
	sum := Sum(s)
	for what := uint32(1); what < 1<<12; what++ {
		for at := range 8*len(s) - 11 {
			if Sum(changed(s, what, at)) == sum {
				t.Fatalf("changed by %x at bit %d: the sum is the same", what, at)
			}
		}
	}
}

// P2.3: whatever is changed within 24 bits changes the sum: of those whose
// first and last bit are changed, every 251st, and the edges.
func TestLongChangesAreTold(t *testing.T) {
	for _, s := range []string{"\x00\x00\x00", "weir", "\xff\xff\xff\xff\xff\xff\xff"} {
		sum := Sum(s)
		for _, what := range []uint32{0x800001, 0xffffff, 0x864cfb, 0xdf3261} {
			for at := range 8*len(s) - 23 {
				if Sum(changed(s, what, at)) == sum {
					t.Errorf("%q changed by %x at bit %d: the sum is the same", s, what, at)
				}
			}
		}
		for inner := uint32(0); inner < 1<<22; inner += 251 {
			what := 1<<23 | inner<<1 | 1
			at := int(inner) % (8*len(s) - 23)
			if Sum(changed(s, what, at)) == sum {
				t.Fatalf("%q changed by %x at bit %d: the sum is the same", s, what, at)
			}
		}
	}
}

// P2.3: the edge is at 24 bits: one change within 25 is not told.
func TestOneChangeIsNotTold(t *testing.T) {
	s := "weirkeeper"
	for at := range 8*len(s) - 24 {
		if Sum(changed(s, bits.Reverse32(whole)>>7, at)) != Sum(s) {
			t.Errorf("changed at bit %d: the sum is another", at)
		}
	}
}

// P2.3: of texts of one length, the sum is changed by what the change makes
// of a sum of 0, whatever the text.
func TestSumsGoWithChanges(t *testing.T) {
	for _, length := range []int{0, 1, 2, 3, 9, 64, 255} {
		var l []string
		for _, s := range texts() {
			if len(s) >= length {
				l = append(l, s[:length], s[len(s)-length:])
			}
		}
		for _, a := range l {
			for _, b := range l {
				change := both(a, b)
				if n, want := Sum(a)^Sum(b), More(0, change); n != want {
					t.Errorf("Sum of %.9q and of %.9q differ by %06x, not %06x", a, b, n, want)
				}
				for _, c := range l {
					if Sum(both(c, change)) != Sum(c)^Sum(a)^Sum(b) {
						t.Errorf("%.9q changed as %.9q to %.9q", c, a, b)
					}
				}
			}
		}
	}
}

// R1, R4: what is handed in stays as it was, and nothing is kept.
func TestNothingIsKept(t *testing.T) {
	l := []string{"12", "", "3456789"}
	for range 2 {
		if n := Sum(l...); n != 0x21cf02 {
			t.Errorf("Sum(%q) = %06x", l, n)
		}
		if !slices.Equal(l, []string{"12", "", "3456789"}) {
			t.Errorf("Sum changed its texts: %q", l)
		}
		table := Table()
		clear(table[:])
		if n := Table()[1]; n != 0x864cfb {
			t.Errorf("Table, once more: %06x at 1", n)
		}
	}
}
