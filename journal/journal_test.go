package journal

import (
	"math"
	"math/rand"
	"slices"
	"strings"
	"testing"

	"weirkeeper/api"
	"weirkeeper/disk"
)

const most = 1<<31 - 1

// zeros are the bytes 0 of a whole sector.
var zeros = strings.Repeat("\x00", 32)

// fresh is a new disk that the test can't do without.
func fresh(t *testing.T, n int) disk.Disk {
	t.Helper()
	d, e := disk.New(n)
	if e != api.OK {
		t.Fatalf("New(%d): %d", n, e)
	}
	return d
}

// added is an Append that the test can't do without.
func added(t *testing.T, d disk.Disk, gen, at int, texts ...string) (disk.Disk, int) {
	t.Helper()
	w, end, e := Append(d, gen, at, texts...)
	if e != api.OK {
		t.Fatalf("Append(%d, %d) of %d texts: %d", gen, at, len(texts), e)
	}
	return w, end
}

// busy is a disk of so many sectors, none of which is of bytes 0, with writes
// of the first and the last one, and of one of the journal, waiting.
func busy(n int) disk.Disk {
	full := func(s string) string { return strings.Repeat(s, 32) }
	return disk.Disk{
		Sectors: slices.Repeat([]string{full("s")}, n),
		Waiting: []disk.Write{{At: n - 1, Text: full("1")}, {At: 0, Text: full("2")}, {At: n / 2, Text: full("3")}},
	}
}

// noDisks are none, each for one reason, though the journal has records.
func noDisks(t *testing.T) []disk.Disk {
	right, _ := added(t, fresh(t, 140), 3, 0, "one", mixed(100))
	short, long, wait, behind := copyOf(right), copyOf(right), copyOf(right), copyOf(right)
	short.Sectors[139] = "s"
	long.Sectors[0] += "s"
	wait.Waiting[2].Text += "w"
	behind.Waiting[1].At = 140
	return []disk.Disk{{}, short, long, wait, behind, {Sectors: slices.Repeat(right.Sectors, 4)}}
}

// copyOf shares no list with d.
func copyOf(d disk.Disk) disk.Disk {
	return disk.Disk{Sectors: slices.Clone(d.Sectors), Waiting: slices.Clone(d.Waiting)}
}

// same answers whether two disks are the same, as values.
func same(a, b disk.Disk) bool {
	return slices.Equal(a.Sectors, b.Sectors) && slices.Equal(a.Waiting, b.Waiting)
}

// bytesOf answers the bytes of n, size of them.
func bytesOf(n, size int) string {
	b := make([]byte, size)
	for i := range b {
		b[i] = byte(n >> (8 * (size - 1 - i)))
	}
	return string(b)
}

// laid answers a piece that tells these numbers, with this behind them.
func laid(gen, at, left int, text string) string {
	s := bytesOf(gen, 4) + bytesOf(at, 2) + bytesOf(left, 2) + text
	return s + zeros[len(s):]
}

// laidAll answers the pieces of records, in the chapter's words, from the
// place at on.
func laidAll(gen, at int, texts ...string) []string {
	var l []string
	for _, text := range texts {
		for len(text) > 24 {
			l = append(l, laid(gen, at+len(l), len(text), text[:24]))
			text = text[24:]
		}
		l = append(l, laid(gen, at+len(l), len(text), text))
	}
	return l
}

// with answers s with another byte at one place.
func with(s string, at int, b byte) string {
	return s[:at] + string([]byte{b}) + s[at+1:]
}

// mixed is a text of so many bytes, of all kinds, that ends with a byte 0.
func mixed(size int) string {
	b := make([]byte, size)
	for i := range b {
		b[i] = byte((size - 1 - i) * 37)
	}
	return string(b)
}

// samples are texts of one piece and of more, at the edges of these too, and
// such that could be taken for what fills a sector.
func samples() []string {
	l := []string{"\x00", "a\x00", strings.Repeat("\x00", 24), strings.Repeat("\x00", 25), strings.Repeat("\x00", 60), mixed(999), mixed(1000), strings.Repeat("\xff", 1000)}
	for size := range 100 {
		l = append(l, mixed(size))
	}
	return l
}

// gens are some that may be, the least and the greatest among them.
func gens() []int {
	return []int{1, 2, 3, 255, 256, 65536, 0x01020304, 0x7ffefdfc, most - 1, most}
}

// wrongGens are some that may not be.
func wrongGens() []int {
	return []int{0, -1, -2, -most, -most - 1, most + 1, most + 2, 1<<32 - 1, 1 << 32, 1<<32 + 1, 1<<32 + 3, math.MinInt, math.MaxInt}
}

// wrongPlaces are some that a record can't begin at, nor end.
func wrongPlaces() []int {
	return []int{-1, -2, -42, 129, 130, 256, 65536, 1 << 31, 1 << 32, math.MinInt, math.MaxInt, math.MaxInt - 1}
}

// told are the records in the chapter's words: the longest list of whole
// pieces, each at its own place, whose lengths fall by 24 within a record.
func told(gen int, l []string) ([]string, int) {
	var texts []string
	end, open, left := 0, "", 0
	if gen < 1 || gen > most || len(l) > 128 {
		return nil, 0
	}
	for i, s := range l {
		if len(s) != 32 || s[:6] != bytesOf(gen, 4)+bytesOf(i, 2) {
			break
		}
		size := int(s[6])<<8 + int(s[7])
		if left > 24 && size != left-24 || left <= 24 && size > 1000 {
			break
		}
		if left = size; size > 24 {
			open += s[8:]
			continue
		}
		if s[8+size:] != zeros[8+size:] {
			break
		}
		texts, open, end = append(texts, open+s[8:8+size]), "", i+1
	}
	return texts, end
}

// P8.1: a text has a piece for each 24 bytes of it, and one if it has none.
func TestNeed(t *testing.T) {
	want, full := 1, 24
	for size := 0; size <= 1000; size++ {
		if size > full {
			want, full = want+1, full+24
		}
		if n := Need(size); n != want {
			t.Fatalf("Need(%d) = %d, not %d", size, n, want)
		}
	}
	if Need(24) != 1 || Need(25) != 2 || Need(1000) != 42 {
		t.Errorf("the example: %d, %d, %d", Need(24), Need(25), Need(1000))
	}
}

// P8.1: what is no record's size needs no piece.
func TestNeedOfWrongSizes(t *testing.T) {
	for _, size := range []int{-1, -2, -23, -24, -25, 1001, 1002, 1008, 65536, 1 << 31, 1 << 32, 1<<32 + 1, math.MinInt, math.MaxInt, math.MaxInt - 23} {
		if n := Need(size); n != 0 {
			t.Errorf("Need(%d) = %d", size, n)
		}
	}
}

// The journal lies in the sectors 2 to 129, and a record has 1,000 bytes.
func TestConstants(t *testing.T) {
	if From != 2 || To != 130 || MaxRecord != 1000 {
		t.Errorf("From, To, MaxRecord = %d, %d, %d", From, To, MaxRecord)
	}
}

// P8.1: a piece has the Gen, the place, how many bytes there are from here on,
// the first 24 of these, and bytes 0.
func TestPiecesLayout(t *testing.T) {
	for _, c := range []struct {
		gen, at int
		text    string
		want    []string
	}{
		{1, 0, "", []string{"\x00\x00\x00\x01\x00\x00\x00\x00" + zeros[8:]}},
		{0x01020304, 127, "weir", []string{"\x01\x02\x03\x04\x00\x7f\x00\x04weir" + zeros[12:]}},
		{most, 5, "abcdefghijklmnopqrstuvwx", []string{"\x7f\xff\xff\xff\x00\x05\x00\x18abcdefghijklmnopqrstuvwx"}},
		{3, 126, "abcdefghijklmnopqrstuvwxy", []string{
			"\x00\x00\x00\x03\x00\x7e\x00\x19abcdefghijklmnopqrstuvwx",
			"\x00\x00\x00\x03\x00\x7f\x00\x01y" + zeros[9:],
		}},
		{256, 9, strings.Repeat("z", 300), []string{
			"\x00\x00\x01\x00\x00\x09\x01\x2c" + strings.Repeat("z", 24), "\x00\x00\x01\x00\x00\x0a\x01\x14" + strings.Repeat("z", 24),
			"\x00\x00\x01\x00\x00\x0b\x00\xfc" + strings.Repeat("z", 24), "\x00\x00\x01\x00\x00\x0c\x00\xe4" + strings.Repeat("z", 24),
			"\x00\x00\x01\x00\x00\x0d\x00\xcc" + strings.Repeat("z", 24), "\x00\x00\x01\x00\x00\x0e\x00\xb4" + strings.Repeat("z", 24),
			"\x00\x00\x01\x00\x00\x0f\x00\x9c" + strings.Repeat("z", 24), "\x00\x00\x01\x00\x00\x10\x00\x84" + strings.Repeat("z", 24),
			"\x00\x00\x01\x00\x00\x11\x00\x6c" + strings.Repeat("z", 24), "\x00\x00\x01\x00\x00\x12\x00\x54" + strings.Repeat("z", 24),
			"\x00\x00\x01\x00\x00\x13\x00\x3c" + strings.Repeat("z", 24), "\x00\x00\x01\x00\x00\x14\x00\x24" + strings.Repeat("z", 24),
			"\x00\x00\x01\x00\x00\x15\x00\x0c" + strings.Repeat("z", 12) + zeros[20:],
		}},
	} {
		if l, e := Pieces(c.gen, c.at, c.text); !slices.Equal(l, c.want) || e != api.OK {
			t.Errorf("Pieces(%d, %d, %q) = %q, %d", c.gen, c.at, c.text, l, e)
		}
	}
}

// P8.1: of each text, at the first place and at the last one that has room for
// it, the pieces are those of the chapter, as many as Need tells; one place
// further they would end behind the last place.
func TestPiecesRoom(t *testing.T) {
	for _, text := range samples() {
		n := Need(len(text))
		for _, gen := range gens() {
			for _, at := range []int{0, 1, 128 - n} {
				l, e := Pieces(gen, at, text)
				if e != api.OK || len(l) != n || !slices.Equal(l, laidAll(gen, at, text)) {
					t.Fatalf("Pieces(%d, %d, %q) = %q, %d", gen, at, text, l, e)
				}
			}
			for _, at := range []int{129 - n, 127, 128} {
				if l, e := Pieces(gen, at, text); at+n > 128 && (l != nil || e != api.ErrLog) {
					t.Fatalf("Pieces(%d, %d) of %d bytes = %q, %d", gen, at, len(text), l, e)
				}
			}
		}
	}
}

// P8.1: a Gen, a text or a place that is none is told ahead of a full journal.
func TestPiecesOfWrongThings(t *testing.T) {
	check := func(gen, at, size int) {
		t.Helper()
		if l, e := Pieces(gen, at, mixed(size)); len(l) != 0 || e != api.ErrArg {
			t.Errorf("Pieces(%d, %d) of %d bytes = %q, %d", gen, at, size, l, e)
		}
	}
	for _, gen := range wrongGens() {
		for _, at := range []int{0, 127, 128, 129, -1} {
			check(gen, at, 0)
			check(gen, at, 25)
			check(gen, at, 1001)
		}
	}
	for _, at := range wrongPlaces() {
		for _, size := range []int{0, 25, 1000, 1001} {
			check(3, at, size)
		}
	}
	for _, size := range []int{1001, 1002, 1008, 1009, 65535, 65536, 1 << 20} {
		check(1, 0, size)
		check(most, 128, size)
	}
}

// P8.1: what pieces stand in l is told, one record behind the other, and how
// many places they have.
func TestParse(t *testing.T) {
	for _, gen := range gens() {
		for _, texts := range [][]string{
			nil, {""}, {"", "", ""}, {"one"}, {mixed(24)}, {mixed(25)}, {mixed(1000)}, {mixed(48), mixed(49)},
			{"one", mixed(100), "", mixed(24), mixed(72), "\x00"}, {mixed(1000), mixed(1000), mixed(1000), mixed(48)},
			slices.Repeat([]string{"x"}, 128), slices.Repeat([]string{mixed(25)}, 64), samples()[8:40],
		} {
			l := laidAll(gen, 0, texts...)
			if len(l) > 128 {
				t.Fatalf("%d pieces", len(l))
			}
			for _, behind := range [][]string{nil, {zeros}, slices.Repeat([]string{zeros}, 128), {"", "x"}, laidAll(gen+1, len(l), "x")} {
				all := slices.Concat(l, behind)
				all = all[:min(len(all), 128)]
				ahead := slices.Clone(all)
				got, n := Parse(gen, all...)
				if !slices.Equal(got, texts) || n != len(l) {
					t.Errorf("Parse(%d) of %q = %q, %d", gen, texts, got, n)
				}
				if !slices.Equal(all, ahead) {
					t.Errorf("Parse(%d) wrote into %q: %q", gen, ahead, all)
				}
			}
		}
	}
}

// P8.1: nothing is told of a Gen that is none, though its bytes would be those
// that stand there, nor of more than 128 places.
func TestParseOfWrongThings(t *testing.T) {
	for _, gen := range wrongGens() {
		if l, n := Parse(gen, laidAll(gen, 0, "one", mixed(50))...); len(l) != 0 || n != 0 {
			t.Errorf("Parse(%d) = %q, %d", gen, l, n)
		}
	}
	full := laidAll(3, 0, slices.Repeat([]string{mixed(7)}, 200)...)
	if l, n := Parse(3, full[:128]...); len(l) != 128 || n != 128 {
		t.Errorf("Parse of 128 = %d texts, %d", len(l), n)
	}
	for _, k := range []int{129, 130, 200} {
		if l, n := Parse(3, full[:k]...); len(l) != 0 || n != 0 {
			t.Errorf("Parse of %d = %d texts, %d", k, len(l), n)
		}
	}
	if l, n := Parse(3, slices.Repeat([]string{zeros}, 129)...); len(l) != 0 || n != 0 {
		t.Errorf("Parse of 129 empty ones = %d texts, %d", len(l), n)
	}
	if l, n := Parse(3); len(l) != 0 || n != 0 {
		t.Errorf("Parse of nothing = %q, %d", l, n)
	}
}

// P8.1: the records stand up to the first piece that is none, for whatever
// reason; one that does not end there is none.
func TestParseOfABrokenPiece(t *testing.T) {
	texts := []string{"one", mixed(100), "", mixed(50), "two"}
	starts := []int{0, 1, 6, 7, 10, 11}
	l := laidAll(3, 0, texts...)
	for i, s := range l {
		whole := 0
		for whole < 5 && starts[whole+1] <= i {
			whole++
		}
		left := int(s[7])
		broken := []string{
			"", s[:31], s + "\x00", s[:8], zeros, strings.Repeat("\xff", 32),
			with(s, 0, 1), with(s, 3, 2), with(s, 3, 4), with(s, 4, 1), with(s, 5, byte(i+1)), with(s, 5, byte(i-1)),
		}
		if slices.Contains(starts, i) {
			broken = append(broken, with(s, 6, 4), laid(3, i, 1001, mixed(24)), laid(3, i, 65535, mixed(24)))
		} else {
			broken = append(broken, with(s, 7, byte(left+1)), with(s, 7, byte(left-1)), with(s, 7, byte(left+24)), with(s, 6, 1))
		}
		if left > 24 {
			broken = append(broken, with(s, 7, byte(left+1)), with(s, 7, byte(left-1)), with(s, 7, byte(left+24)))
		}
		if left < 24 {
			broken = append(broken, with(s, 31, 1), with(s, 8+left, 1), with(s, 31, 0xff))
		}
		for _, b := range broken {
			all := slices.Clone(l)
			all[i] = b
			got, n := Parse(3, all...)
			if !slices.Equal(got, texts[:whole]) || n != starts[whole] {
				t.Errorf("Parse with %q at %d = %q, %d", b, i, got, n)
			}
		}
		if got, n := Parse(3, l[:i]...); !slices.Equal(got, texts[:whole]) || n != starts[whole] {
			t.Errorf("Parse of the first %d = %q, %d", i, got, n)
		}
	}
}

// P8.1: a piece of more than 1,000 bytes begins no record, even if all others
// would follow; one of 1,000 does.
func TestParseOfAGreatRecord(t *testing.T) {
	if l, n := Parse(3, laidAll(3, 0, "one", mixed(1000))...); n != 43 || len(l) != 2 || l[1] != mixed(1000) {
		t.Errorf("Parse of 1000 bytes = %d texts, %d", len(l), n)
	}
	for _, size := range []int{1001, 1008, 1009, 1024, 2000, 3000} {
		if l, n := Parse(3, laidAll(3, 0, "one", mixed(size))...); n != 1 || !slices.Equal(l, []string{"one"}) {
			t.Errorf("Parse of %d bytes = %q, %d", size, l, n)
		}
	}
}

// P8.1: the first one of l is the place 0, not the place that it tells.
func TestParseElsewhere(t *testing.T) {
	l := laidAll(3, 0, "one", "two", "three")
	for _, part := range [][]string{l[1:], l[2:], laidAll(3, 1, "one"), laidAll(3, 256, "one"), {l[1], l[0]}} {
		if got, n := Parse(3, part...); len(got) != 0 || n != 0 {
			t.Errorf("Parse of %q = %q, %d", part, got, n)
		}
	}
	if got, n := Parse(3, l[0], l[2], l[1]); !slices.Equal(got, []string{"one"}) || n != 1 {
		t.Errorf("Parse of another order = %q, %d", got, n)
	}
}

// P8.1: a piece is taken as what it tells: where a record would begin, one
// that went on with another record begins one.
func TestParseOfARest(t *testing.T) {
	long := mixed(100)
	l := laidAll(3, 0, long)
	l[0] = laid(3, 0, 3, "new")
	if got, n := Parse(3, l...); !slices.Equal(got, []string{"new", long[24:]}) || n != 5 {
		t.Errorf("Parse of a rest = %q, %d", got, n)
	}
	l[3] = zeros
	if got, n := Parse(3, l...); !slices.Equal(got, []string{"new"}) || n != 1 {
		t.Errorf("Parse of a rest that does not end = %q, %d", got, n)
	}
}

// P8.1: of pieces of all kinds, right and wrong ones, those records are told
// that the chapter's words find.
func TestParseOfMany(t *testing.T) {
	r := rand.New(rand.NewSource(8))
	for range 20000 {
		gen := 1 + r.Intn(2)
		var l []string
		for size := r.Intn(20); len(l) < size; {
			l = append(l, laidAll(gen, len(l), mixed([]int{0, 1, 23, 24, 25, 48, 49, 72, 100}[r.Intn(9)]))...)
		}
		for range r.Intn(3) {
			if len(l) == 0 {
				break
			}
			i := r.Intn(len(l))
			at := []int{3, 5, 7, 31, r.Intn(32)}[r.Intn(5)]
			switch r.Intn(4) {
			case 0:
				l[i] = with(l[i], at, byte(r.Intn(60)))
			case 1:
				l[i] = laid(gen, i, r.Intn(60), mixed(24))
			case 2:
				l[i] = zeros
			default:
				l[i] = laidAll(gen, i, mixed(r.Intn(50)))[0]
			}
		}
		texts, n := told(gen, l)
		if got, end := Parse(gen, l...); !slices.Equal(got, texts) || end != n {
			t.Fatalf("Parse(%d) of %q = %q, %d, not %q, %d", gen, l, got, end, texts, n)
		}
	}
}

// P8.2: the records are those of the journal's sectors, and of no others: those
// that wait count, as in layer 4.
func TestTexts(t *testing.T) {
	for _, n := range []int{130, 131, 512} {
		for _, texts := range [][]string{nil, {""}, {"one", mixed(100), "two"}, slices.Repeat([]string{"x"}, 128)} {
			l := laidAll(7, 0, texts...)
			lasts, waits, around := fresh(t, n), fresh(t, n), busy(n)
			copy(lasts.Sectors[2:], l)
			copy(around.Sectors[2:], l)
			around.Waiting = nil
			for i, s := range l {
				waits.Waiting = append(waits.Waiting, disk.Write{At: 2 + i, Text: zeros}, disk.Write{At: 2 + i, Text: s})
			}
			for i, d := range []disk.Disk{lasts, waits, around} {
				got, end, e := Texts(d, 7)
				if !slices.Equal(got, texts) || end != len(l) || e != api.OK {
					t.Errorf("%d of %d: Texts = %q, %d, %d", i, n, got, end, e)
				}
				for _, gen := range append(wrongGens(), 1, 6, 8, most, 7<<8) {
					if got, end, e := Texts(d, gen); len(got) != 0 || end != 0 || e != api.OK {
						t.Errorf("%d of %d: Texts of the Gen %d = %q, %d, %d", i, n, gen, got, end, e)
					}
				}
			}
		}
	}
}

// P8.2: what stands behind the journal's last sector belongs to no record.
func TestTextsBehindTheLastPlace(t *testing.T) {
	d := fresh(t, 140)
	copy(d.Sectors[2:], laidAll(3, 0, slices.Repeat([]string{"x"}, 132)...))
	if l, n, e := Texts(d, 3); len(l) != 128 || n != 128 || e != api.OK {
		t.Errorf("Texts = %d texts, %d, %d", len(l), n, e)
	}
	d = fresh(t, 140)
	copy(d.Sectors[2:], laidAll(3, 0, append(slices.Repeat([]string{"x"}, 127), mixed(50))...))
	if l, n, e := Texts(d, 3); len(l) != 127 || n != 127 || e != api.OK {
		t.Errorf("Texts of one that does not end = %d texts, %d, %d", len(l), n, e)
	}
}

// P8.2: of a disk that has not all of the journal's sectors, or is none, no
// record is told, and none is appended: layer 4's error comes first, and Append
// answers the disk as it is, and at.
func TestOfSmallAndNoDisks(t *testing.T) {
	l := noDisks(t)
	for _, n := range []int{1, 2, 3, 128, 129} {
		d := busy(n)
		if n > 2 {
			copy(d.Sectors[2:], laidAll(3, 0, "one"))
		}
		l = append(l, d)
	}
	for i, d := range l {
		ahead := copyOf(d)
		for _, gen := range []int{3, 1, 0, -1, most} {
			if got, n, e := Texts(d, gen); len(got) != 0 || n != 0 || e != api.ErrArg {
				t.Errorf("%d: Texts(%d) = %q, %d, %d", i, gen, got, n, e)
			}
			for _, at := range []int{0, 5, 127, 128, 129, -1} {
				for _, texts := range [][]string{nil, {""}, {"x", "y"}, {mixed(1001)}, {mixed(1000)}} {
					w, end, e := Append(d, gen, at, texts...)
					if !same(w, ahead) || end != at || e != api.ErrArg {
						t.Errorf("%d: Append(%d, %d) of %d texts = %d, %d", i, gen, at, len(texts), end, e)
					}
				}
			}
		}
		if !same(d, ahead) {
			t.Errorf("%d: is another one now", i)
		}
	}
}

// P8.2: what is appended waits behind what waited, piece by piece, in the
// sectors of the journal, and the place behind is told.
func TestAppend(t *testing.T) {
	for _, n := range []int{130, 140, 512} {
		for _, at := range []int{0, 1, 50, 83} {
			for _, texts := range [][]string{{""}, {"one"}, {"", "", ""}, {mixed(24), mixed(25), mixed(48)}, {mixed(1000)}, {"a", mixed(900), "\x00", mixed(24), "b"}} {
				d := busy(n)
				d.Waiting = slices.Grow(d.Waiting, 200)
				want := busy(n)
				for i, s := range laidAll(9, at, texts...) {
					want.Waiting = append(want.Waiting, disk.Write{At: 2 + at + i, Text: s})
				}
				end := at + len(want.Waiting) - 3
				w, got, e := Append(d, 9, at, texts...)
				if !same(w, want) || got != end || e != api.OK {
					t.Fatalf("Append(%d) of %d texts = %#v, %d, %d", at, len(texts), w.Waiting, got, e)
				}
				if _, _, e := Append(d, 9, at, mixed(100)); e != api.OK || !same(w, want) || !same(d, busy(n)) {
					t.Errorf("Append(%d) of %d texts: behind another one %d", at, len(texts), e)
				}
			}
		}
	}
}

// P8.2: no texts may be appended, wherever the journal may end.
func TestAppendOfNothing(t *testing.T) {
	for at := range 129 {
		w, end, e := Append(busy(130), 3, at)
		if !same(w, busy(130)) || end != at || e != api.OK {
			t.Errorf("Append(%d) of nothing = %d, %d", at, end, e)
		}
	}
	for _, gen := range wrongGens() {
		for _, at := range []int{0, 128, 129} {
			if w, end, e := Append(busy(140), gen, at); !same(w, busy(140)) || end != at || e != api.ErrArg {
				t.Errorf("Append(%d, %d) of nothing = %d, %d", gen, at, end, e)
			}
		}
	}
	for _, at := range wrongPlaces() {
		if w, end, e := Append(busy(140), 3, at); !same(w, busy(140)) || end != at || e != api.ErrArg {
			t.Errorf("Append(%d) of nothing = %d, %d", at, end, e)
		}
	}
}

// P8.2: with an error Append answers d, with what waits, and at: of several
// texts the first one that can't be appended tells its error, though the ones
// ahead of it could be.
func TestAppendOfWrongThings(t *testing.T) {
	long, great := mixed(1000), mixed(1001)
	for _, c := range []struct {
		at    int
		texts []string
		e     api.Errno
	}{
		{128, []string{""}, api.ErrLog},
		{127, []string{"x", ""}, api.ErrLog},
		{127, []string{mixed(25)}, api.ErrLog},
		{126, []string{mixed(25), ""}, api.ErrLog},
		{87, []string{long}, api.ErrLog},
		{86, []string{long, ""}, api.ErrLog},
		{0, []string{long, long, long, mixed(49)}, api.ErrLog},
		{0, slices.Repeat([]string{""}, 129), api.ErrLog},
		{0, slices.Repeat([]string{"x"}, 70000), api.ErrLog},
		{127, []string{"x", "y", great}, api.ErrLog},
		{128, []string{"x", great}, api.ErrLog},
		{87, []string{long, great}, api.ErrLog},
		{127, []string{"x", great, "y"}, api.ErrArg},
		{128, []string{great, "x"}, api.ErrArg},
		{0, []string{great}, api.ErrArg},
		{0, []string{"x", "y", great}, api.ErrArg},
		{0, []string{mixed(70000)}, api.ErrArg},
		{129, []string{"x"}, api.ErrArg},
		{-1, []string{"x"}, api.ErrArg},
		{-2, []string{"x", "y", "z"}, api.ErrArg},
		{math.MinInt, []string{"x"}, api.ErrArg},
		{math.MaxInt, []string{"x"}, api.ErrArg},
	} {
		d := busy(140)
		w, end, e := Append(d, 3, c.at, c.texts...)
		if !same(w, busy(140)) || end != c.at || e != c.e {
			t.Errorf("Append(%d) of %d texts = %d, %d, not %d", c.at, len(c.texts), end, e, c.e)
		}
		for _, gen := range wrongGens() {
			if w, end, e := Append(d, gen, c.at, c.texts...); !same(w, busy(140)) || end != c.at || e != api.ErrArg {
				t.Errorf("Append(%d, %d) of %d texts = %d, %d", gen, c.at, len(c.texts), end, e)
			}
		}
		if !same(d, busy(140)) {
			t.Errorf("Append(%d) of %d texts: the disk is another one", c.at, len(c.texts))
		}
	}
}

// P8.2: a journal is filled up to its last place, and no further, by records
// of each size.
func TestAppendUntilFull(t *testing.T) {
	for _, size := range []int{0, 24, 25, 100, 999, 1000} {
		d, at, e, k := fresh(t, 130), 0, api.OK, 0
		for e == api.OK {
			d, at, e = Append(d, most, at, mixed(size))
			if e == api.OK {
				k++
			}
		}
		if e != api.ErrLog || k != 128/Need(size) || at != k*Need(size) {
			t.Errorf("%d records of %d bytes, up to %d: %d", k, size, at, e)
		}
		if l, n, e := Texts(d, most); len(l) != k || n != at || e != api.OK {
			t.Errorf("Texts of %d bytes = %d texts, %d, %d", size, len(l), n, e)
		}
	}
}

// P8.3: what is appended where the records end is told behind them, whether it
// came in one call or in several, while it waits, and when it lasts.
func TestTextsOfWhatWasAppended(t *testing.T) {
	r := rand.New(rand.NewSource(25))
	for range 200 {
		gen := gens()[r.Intn(len(gens()))]
		d, end := fresh(t, 130+r.Intn(9)), 0
		var all []string
		for range 1 + r.Intn(12) {
			texts := make([]string, r.Intn(4))
			for i := range texts {
				texts[i] = mixed([]int{r.Intn(30), r.Intn(100), 24, 48}[r.Intn(4)])
			}
			w, at, e := Append(d, gen, end, texts...)
			if e == api.ErrLog {
				break
			}
			d, end, all = w, at, append(all, texts...)
			if r.Intn(3) == 0 {
				d = disk.Flush(d)
			}
			for i, x := range []disk.Disk{d, disk.Flush(d)} {
				if l, n, e := Texts(x, gen); !slices.Equal(l, all) || n != end || e != api.OK {
					t.Fatalf("%d: Texts = %q, %d, %d, not %q, %d", i, l, n, e, all, end)
				}
			}
		}
	}
}

// P8.3: behind each crash there is some of the first records, and all that were
// flushed, and the place where they end is where the next one goes.
func TestTextsBehindEachCrash(t *testing.T) {
	old, _ := added(t, fresh(t, 130), 2, 0, slices.Repeat([]string{mixed(100)}, 20)...)
	d, end := added(t, disk.Flush(old), 3, 0, "one", mixed(60))
	d = disk.Flush(d)
	texts := []string{"one", mixed(60), "", mixed(70), mixed(25), "two", mixed(40)}
	ends := []int{0, 1, 4, 5, 8, 10, 11, 13}
	w, last := added(t, d, 3, end, texts[2:4]...)
	w, last = added(t, w, 3, last, texts[4:]...)
	if last != 13 || len(w.Waiting) != 9 {
		t.Fatalf("%d waiting, %d", len(w.Waiting), last)
	}
	for k := range 1 << 9 {
		kept, lost := make([]bool, 9), 9
		for i := 8; i >= 0; i-- {
			if kept[i] = k>>i&1 == 1; !kept[i] {
				lost = i
			}
		}
		whole := 2
		for whole < 7 && ends[whole+1] <= 4+lost {
			whole++
		}
		c := disk.Crash(w, kept...)
		if l, n, e := Texts(c, 3); !slices.Equal(l, texts[:whole]) || n != ends[whole] || e != api.OK {
			t.Fatalf("Texts behind a crash that kept %t = %q, %d, %d", kept, l, n, e)
		}
		// In the next generation nothing is left of this one.
		next, at := added(t, c, 4, 0, "new", mixed(30))
		if l, n, e := Texts(next, 4); !slices.Equal(l, []string{"new", mixed(30)}) || n != at || e != api.OK {
			t.Fatalf("Texts of the next Gen = %q, %d, %d", l, n, e)
		}
	}
}

// P8.3: a record that is lost may be appended again, where the records end.
func TestAppendBehindACrash(t *testing.T) {
	d, end := added(t, fresh(t, 130), 3, 0, "one")
	w, _ := added(t, disk.Flush(d), 3, end, mixed(70), "two")
	for _, kept := range [][]bool{nil, {true}, {true, true, false, true}, {false, true, true, true}} {
		c := disk.Crash(w, kept...)
		_, at, e := Texts(c, 3)
		if at != end || e != api.OK {
			t.Fatalf("Texts behind a crash that kept %t: %d, %d", kept, at, e)
		}
		again, at := added(t, c, 3, at, mixed(70), "two", "three")
		if l, n, e := Texts(again, 3); !slices.Equal(l, []string{"one", mixed(70), "two", "three"}) || n != at || e != api.OK {
			t.Errorf("Texts = %q, %d, %d", l, n, e)
		}
	}
}

// R1, R4: what is handed in stays as it was, what is written into it later is
// not seen in what was answered, and the same is answered again.
func TestNothingIsKept(t *testing.T) {
	texts := []string{"one", mixed(60)}
	d, end := added(t, busy(140), 3, 0, texts...)
	ahead, l := copyOf(d), laidAll(3, 0, texts...)
	w, _ := added(t, d, 3, end, texts...)
	got, _ := Parse(3, l...)
	read, _, e := Texts(d, 3)
	if e != api.OK || !same(d, ahead) || !slices.Equal(texts, []string{"one", mixed(60)}) {
		t.Errorf("what was handed in is another one: %q, %d", texts, e)
	}
	want := copyOf(w)
	clear(d.Sectors)
	clear(d.Waiting)
	clear(l)
	clear(texts)
	if !same(w, want) || !slices.Equal(got, []string{"one", mixed(60)}) || !slices.Equal(read, got) {
		t.Errorf("what was handed in is kept: %q, %q", got, read)
	}
	a, _ := Pieces(3, 0, mixed(60))
	b, _ := Pieces(3, 0, mixed(60))
	clear(a)
	if !slices.Equal(b, laidAll(3, 0, mixed(60))) {
		t.Errorf("two answers share a list: %q", b)
	}
}
