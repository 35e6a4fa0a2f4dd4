package pack

import (
	"math"
	"slices"
	"strings"
	"testing"

	"weirkeeper/api"
)

// greatest is the greatest number of so many bytes.
func greatest(size int) uint64 {
	return math.MaxUint64 >> (64 - 8*uint(size))
}

// wrongSizes are sizes that no number has.
func wrongSizes() []int {
	return []int{0, 9, -1, -8, 16, 64, 1 << 31, math.MinInt, math.MaxInt}
}

// tails are what may stand behind what is packed.
func tails() []string {
	return []string{"", "\x00", "\xff", "z", "\x00\x01", "\x00\x02ab", strings.Repeat("\xff", 300)}
}

// P1.1: the bytes of ordinary numbers, and of those at the edges.
func TestNum(t *testing.T) {
	for _, c := range []struct {
		n    uint64
		size int
		want string
	}{
		{0, 1, "\x00"},
		{65, 1, "A"},
		{255, 1, "\xff"},
		{0, 2, "\x00\x00"},
		{255, 2, "\x00\xff"},
		{256, 2, "\x01\x00"},
		{258, 3, "\x00\x01\x02"},
		{0x01020304, 4, "\x01\x02\x03\x04"},
		{0x80, 5, "\x00\x00\x00\x00\x80"},
		{0x010203040506, 6, "\x01\x02\x03\x04\x05\x06"},
		{0x01020304050607, 7, "\x01\x02\x03\x04\x05\x06\x07"},
		{0x0102030405060708, 8, "\x01\x02\x03\x04\x05\x06\x07\x08"},
		{0, 8, "\x00\x00\x00\x00\x00\x00\x00\x00"},
		{1 << 63, 8, "\x80\x00\x00\x00\x00\x00\x00\x00"},
	} {
		if s, e := Num(c.n, c.size); s != c.want || e != api.OK {
			t.Errorf("Num(%d, %d) = %q, %d, not %q", c.n, c.size, s, e, c.want)
		}
	}
}

// P1.1: the greatest number of each size has bytes, the next one has none.
func TestNumGreatest(t *testing.T) {
	for size := 1; size <= 8; size++ {
		most := greatest(size)
		if s, e := Num(most, size); s != strings.Repeat("\xff", size) || e != api.OK {
			t.Errorf("Num(%d, %d) = %q, %d", most, size, s, e)
		}
		if size == 8 {
			break
		}
		for _, n := range []uint64{most + 1, most + 2, 1 << 63, math.MaxUint64} {
			if s, e := Num(n, size); s != "" || e != api.ErrArg {
				t.Errorf("Num(%d, %d) = %q, %d, not ErrArg", n, size, s, e)
			}
		}
	}
}

// P1.1: sizes that are none, whatever the number.
func TestNumWrongSize(t *testing.T) {
	for _, size := range wrongSizes() {
		for _, n := range []uint64{0, 1, math.MaxUint64} {
			if s, e := Num(n, size); s != "" || e != api.ErrArg {
				t.Errorf("Num(%d, %d) = %q, %d, not ErrArg", n, size, s, e)
			}
		}
	}
}

// P1.1: the number of the first bytes, and the rest.
func TestTake(t *testing.T) {
	for _, c := range []struct {
		s    string
		size int
		n    uint64
		rest string
	}{
		{"\x00", 1, 0, ""},
		{"A", 1, 65, ""},
		{"\xff\x01", 1, 255, "\x01"},
		{"\x01\x00", 2, 256, ""},
		{"\x01\x00\x00z", 3, 65536, "z"},
		{"\xff\xff\xff\xff", 4, math.MaxUint32, ""},
		{"\x00\x00\x00\x00\x80\x00", 5, 128, "\x00"},
		{"\x01\x02\x03\x04\x05\x06\x07", 6, 0x010203040506, "\x07"},
		{"\x01\x02\x03\x04\x05\x06\x07", 7, 0x01020304050607, ""},
		{"\x01\x02\x03\x04\x05\x06\x07\x08\x09", 8, 0x0102030405060708, "\x09"},
		{"\xff\xff\xff\xff\xff\xff\xff\xff", 8, math.MaxUint64, ""},
	} {
		if n, rest, e := Take(c.s, c.size); n != c.n || rest != c.rest || e != api.OK {
			t.Errorf("Take(%q, %d) = %d, %q, %d, not %d, %q", c.s, c.size, n, rest, e, c.n, c.rest)
		}
	}
}

// P1.1: too few bytes, of each size, and none at all.
func TestTakeTooFew(t *testing.T) {
	for size := 1; size <= 8; size++ {
		for has := range size {
			s := strings.Repeat("\x07", has)
			if n, rest, e := Take(s, size); n != 0 || rest != "" || e != api.ErrForm {
				t.Errorf("Take(%q, %d) = %d, %q, %d, not ErrForm", s, size, n, rest, e)
			}
		}
	}
}

// P1.1: a size that is none is named ahead of too few bytes.
func TestTakeWrongSize(t *testing.T) {
	for _, size := range wrongSizes() {
		for _, s := range []string{"", "a", "abcdefgh", strings.Repeat("x", 100)} {
			if n, rest, e := Take(s, size); n != 0 || rest != "" || e != api.ErrArg {
				t.Errorf("Take(%q, %d) = %d, %q, %d, not ErrArg", s, size, n, rest, e)
			}
		}
	}
}

// P1.2: a text's bytes are its length, in two, and it.
func TestText(t *testing.T) {
	for _, c := range []struct{ t, want string }{
		{"", "\x00\x00"},
		{"ab", "\x00\x02ab"},
		{"\x00", "\x00\x01\x00"},
		{"\xff\xfe", "\x00\x02\xff\xfe"},
		{"é", "\x00\x02\xc3\xa9"},
		{strings.Repeat("a", 255), "\x00\xff" + strings.Repeat("a", 255)},
		{strings.Repeat("a", 256), "\x01\x00" + strings.Repeat("a", 256)},
		{strings.Repeat("a", 65_534), "\xff\xfe" + strings.Repeat("a", 65_534)},
		{strings.Repeat("a", 65_535), "\xff\xff" + strings.Repeat("a", 65_535)},
	} {
		if s, e := Text(c.t); s != c.want || e != api.OK {
			t.Errorf("Text of %d bytes: %d bytes, %d", len(c.t), len(s), e)
		}
	}
}

// P1.2: a text that is too long has no bytes.
func TestTextTooLong(t *testing.T) {
	for _, size := range []int{65_536, 65_537, 1 << 17, 1 << 24} {
		if s, e := Text(strings.Repeat("a", size)); s != "" || e != api.ErrArg {
			t.Errorf("Text of %d bytes: %d bytes, %d, not ErrArg", size, len(s), e)
		}
	}
}

// P1.2: the text that s begins with, and the rest.
func TestTakeText(t *testing.T) {
	long := strings.Repeat("q", 65_535)
	for _, c := range []struct{ s, t, rest string }{
		{"\x00\x00", "", ""},
		{"\x00\x00\x00", "", "\x00"},
		{"\x00\x02ab", "ab", ""},
		{"\x00\x02abc", "ab", "c"},
		{"\x00\x01\x00\x00\x01x", "\x00", "\x00\x01x"},
		{"\x01\x00" + long[:256], long[:256], ""},
		{"\xff\xff" + long, long, ""},
		{"\xff\xff" + long + "!", long, "!"},
	} {
		if text, rest, e := TakeText(c.s); text != c.t || rest != c.rest || e != api.OK {
			t.Errorf("TakeText of %d bytes: %d bytes, %d bytes, %d", len(c.s), len(text), len(rest), e)
		}
	}
}

// P1.2: what does not begin with a text's bytes.
func TestTakeTextOfNone(t *testing.T) {
	for _, s := range []string{
		"",
		"\x00",
		"\x01",
		"\x00\x01",
		"\x00\x02a",
		"\x01\x00" + strings.Repeat("a", 255),
		"\xff\xff",
		"\xff\xff" + strings.Repeat("a", 65_534),
	} {
		if text, rest, e := TakeText(s); text != "" || rest != "" || e != api.ErrForm {
			t.Errorf("TakeText of %d bytes: %q, %q, %d, not ErrForm", len(s), text, rest, e)
		}
	}
}

// P1.2: the bytes of all texts, and of none at all.
func TestTexts(t *testing.T) {
	long := strings.Repeat("a", 65_535)
	for _, c := range []struct {
		l    []string
		want string
	}{
		{nil, ""},
		{[]string{}, ""},
		{[]string{""}, "\x00\x00"},
		{[]string{"", ""}, "\x00\x00\x00\x00"},
		{[]string{"ab"}, "\x00\x02ab"},
		{[]string{"b", "a", "b"}, "\x00\x01b\x00\x01a\x00\x01b"},
		{[]string{"", "abc", "x"}, "\x00\x00\x00\x03abc\x00\x01x"},
		{[]string{long, "z", long}, "\xff\xff" + long + "\x00\x01z\xff\xff" + long},
	} {
		if s, e := Texts(c.l...); s != c.want || e != api.OK {
			t.Errorf("Texts of %d: %d bytes, %d", len(c.l), len(s), e)
		}
	}
}

// P1.2: Text's error, wherever the text stands that has it.
func TestTextsTooLong(t *testing.T) {
	long := strings.Repeat("a", 65_536)
	for i, l := range [][]string{{long}, {long, "a"}, {"a", long}, {"a", long, "b"}, {"", long, long}} {
		if s, e := Texts(l...); s != "" || e != api.ErrArg {
			t.Errorf("Texts %d: %d bytes, %d, not ErrArg", i, len(s), e)
		}
	}
}

// P1.2: the texts of which s is Texts.
func TestParts(t *testing.T) {
	long := strings.Repeat("a", 65_535)
	for _, c := range []struct {
		s    string
		want []string
	}{
		{"", nil},
		{"\x00\x00", []string{""}},
		{"\x00\x00\x00\x00", []string{"", ""}},
		{"\x00\x02ab", []string{"ab"}},
		{"\x00\x02\x00\x01\x00\x01z", []string{"\x00\x01", "z"}},
		{"\xff\xff" + long + "\x00\x00", []string{long, ""}},
	} {
		if l, e := Parts(c.s); !slices.Equal(l, c.want) || e != api.OK {
			t.Errorf("Parts of %d bytes: %d texts, %d", len(c.s), len(l), e)
		}
	}
}

// P1.2: what is Texts of nothing; no text ahead of the fault is told.
func TestPartsOfNone(t *testing.T) {
	for _, s := range []string{
		"\x00",
		"a",
		"\x00\x01",
		"\x00\x02ab\x00",
		"\x00\x02ab\x00\x01",
		"\x00\x00\x00\x00\x00\x03ab",
		"\xff\xff" + strings.Repeat("a", 65_534),
	} {
		if l, e := Parts(s); len(l) != 0 || e != api.ErrForm {
			t.Errorf("Parts of %d bytes: %q, %d, not ErrForm", len(s), l, e)
		}
	}
}

// P1.3: a number that is packed is taken, whatever stands behind.
func TestNumIsTaken(t *testing.T) {
	for size := 1; size <= 8; size++ {
		most := greatest(size)
		for _, n := range []uint64{0, 1, 127, 128, 255, most / 3, most/2 + 1, most - 1, most} {
			s, e := Num(n, size)
			if len(s) != size || e != api.OK {
				t.Fatalf("Num(%d, %d) = %q, %d", n, size, s, e)
			}
			for _, tail := range tails() {
				if got, rest, e := Take(s+tail, size); got != n || rest != tail || e != api.OK {
					t.Errorf("Take(%q, %d) = %d, %q, %d, not %d", s+tail, size, got, rest, e, n)
				}
			}
		}
	}
}

// P1.3: a text that is packed is taken, whatever stands behind.
func TestTextIsTaken(t *testing.T) {
	for _, size := range []int{0, 1, 2, 3, 254, 255, 256, 257, 4096, 65_534, 65_535} {
		text := strings.Repeat("\x00\x01\xff", size/3+1)[:size]
		s, e := Text(text)
		if len(s) != size+2 || e != api.OK {
			t.Fatalf("Text of %d bytes: %d bytes, %d", size, len(s), e)
		}
		for _, tail := range tails() {
			if got, rest, e := TakeText(s + tail); got != text || rest != tail || e != api.OK {
				t.Errorf("TakeText of %d bytes, and %q: %d bytes, %q, %d", size, tail, len(got), rest, e)
			}
		}
	}
}

// P1.3: texts that are packed are taken, and others behind them.
func TestTextsAreTaken(t *testing.T) {
	lists := [][]string{
		nil,
		{""},
		{"", ""},
		{"a"},
		{"\x00", "\x00\x00", "\x00\x01"},
		{strings.Repeat("b", 65_535), "", "c"},
		slices.Repeat([]string{"", "x", "yz"}, 400),
	}
	for i, first := range lists {
		for k, second := range lists {
			a, _ := Texts(first...)
			b, _ := Texts(second...)
			l, e := Parts(a + b)
			if !slices.Equal(l, slices.Concat(first, second)) || e != api.OK {
				t.Errorf("Parts of %d and %d: %d texts, %d", i, k, len(l), e)
			}
		}
	}
}

// P1.3, the other way: of any bytes that are taken, what is packed is those.
func TestPartsArePacked(t *testing.T) {
	alphabet := []string{"\x00", "\x01", "\x02", "a"}
	all := []string{""}
	for from := 0; len(all[from]) < 6; from++ {
		for _, b := range alphabet {
			all = append(all, all[from]+b)
		}
	}
	taken := 0
	for _, s := range all {
		l, e := Parts(s)
		if e == api.ErrForm && len(l) == 0 {
			continue
		}
		taken++
		if back, again := Texts(l...); back != s || e != api.OK || again != api.OK {
			t.Errorf("Texts of Parts(%q): %q, %d, %d", s, back, e, again)
		}
	}
	if taken < 2 {
		t.Errorf("only %d of %d are taken", taken, len(all))
	}
}

// R1: what is handed in stays as it was, and each answer is new.
func TestNothingIsKept(t *testing.T) {
	l := []string{"a", "", "bc"}
	s, _ := Texts(l...)
	if !slices.Equal(l, []string{"a", "", "bc"}) {
		t.Errorf("Texts changed its texts: %q", l)
	}
	first, _ := Parts(s)
	clear(first)
	if second, e := Parts(s); !slices.Equal(second, l) || e != api.OK {
		t.Errorf("Parts, once more: %q, %d", second, e)
	}
}
