package root

import (
	"math"
	"slices"
	"strings"
	"testing"

	"weirkeeper/api"
	"weirkeeper/block"
	"weirkeeper/disk"
)

const most = 1<<31 - 1

// fresh is a new disk that the test can't do without.
func fresh(t *testing.T, n int) disk.Disk {
	t.Helper()
	d, e := disk.New(n)
	if e != api.OK {
		t.Fatalf("New(%d): %d", n, e)
	}
	return d
}

// busy is a disk of four sectors, none of which is of bytes 0, with a write of
// each one of the first three waiting: no root stands there.
func busy() disk.Disk {
	full := func(s string) string { return strings.Repeat(s, 32) }
	return disk.Disk{
		Sectors: []string{full("a"), full("b"), full("c"), full("d")},
		Waiting: []disk.Write{{At: 2, Text: full("1")}, {At: 0, Text: full("2")}, {At: 1, Text: full("3")}},
	}
}

// copyOf shares no list with d.
func copyOf(d disk.Disk) disk.Disk {
	return disk.Disk{Sectors: slices.Clone(d.Sectors), Waiting: slices.Clone(d.Waiting)}
}

// same answers whether two disks are the same, as values.
func same(a, b disk.Disk) bool {
	return slices.Equal(a.Sectors, b.Sectors) && slices.Equal(a.Waiting, b.Waiting)
}

// sumOf is the sum in the words of layer 2's chapter.
func sumOf(s string) int {
	sum := 0xb704ce
	for i := range len(s) {
		sum ^= int(s[i]) << 16
		for range 8 {
			sum <<= 1
			if sum >= 1<<24 {
				sum ^= 1<<24 | 0x864cfb
			}
		}
	}
	return sum
}

// bytesOf answers the bytes of n, size of them.
func bytesOf(n, size int) string {
	b := make([]byte, size)
	for i := range b {
		b[i] = byte(n >> (8 * (size - 1 - i)))
	}
	return string(b)
}

// sectorOf answers that of a text, in the words of layer 6's chapter.
func sectorOf(text string) string {
	size := bytesOf(len(text), 4)
	s := size + bytesOf(sumOf(size+text), 3) + text
	return s + strings.Repeat("\x00", 32-len(s))
}

// laid answers the sector of numbers, four bytes each: of a root's three, if
// they may be.
func laid(l ...int) string {
	text := ""
	for _, n := range l {
		text += bytesOf(n, 4)
	}
	return sectorOf(text)
}

// laidRoot answers the sector of r.
func laidRoot(r Root) string {
	return laid(r.Gen, r.At, r.Len)
}

// with answers s with another byte at one place.
func with(s string, at int, b byte) string {
	return s[:at] + string([]byte{b}) + s[at+1:]
}

// samples are roots that may be, of both sectors, with the least and the
// greatest numbers in each field, and with all bytes told apart.
func samples() []Root {
	l := []Root{{7, 0, 0}, {4, 130, 2}, {0x01020304, 0x05060708, 0x090a0b0c}, {0x7ffefdfd, 0x7c7b7a79, 0x78777675}}
	for _, gen := range []int{0, 1, 2, 255, 256, 1 << 30, most - 1, most} {
		for _, at := range []int{0, 1, 65536, most} {
			for _, n := range []int{0, 1, 65537, most} {
				l = append(l, Root{gen, at, n})
			}
		}
	}
	return l
}

// wrongRoots are those that may not be: each has numbers that are none.
func wrongRoots() []Root {
	var l []Root
	for _, n := range []int{-1, -2, -most, -most - 1, most + 1, most + 2, 1<<32 - 1, 1 << 32, 1<<32 + 1, math.MinInt, math.MaxInt} {
		l = append(l, Root{Gen: n}, Root{At: n}, Root{Len: n}, Root{n, 5, 6}, Root{3, n, 6}, Root{3, 5, n}, Root{n, n, n})
	}
	return l
}

// P7.1: a root may be, if each number is from 0 to MaxNum.
func TestRight(t *testing.T) {
	for _, r := range samples() {
		if !Right(r) {
			t.Errorf("%v may not be", r)
		}
	}
	for _, r := range wrongRoots() {
		if Right(r) {
			t.Errorf("%v may be", r)
		}
	}
}

// P7.1: what is written is the text's length, its sum, the three numbers, and
// bytes 0, to the sector that the Gen tells. The sums were worked out
// elsewhere; the Gen 7 is the chapter's example.
func TestWriteLayout(t *testing.T) {
	for _, c := range []struct {
		r    Root
		at   int
		text string
	}{
		{Root{0, 0, 0}, 0, "\x00\x00\x00\x0c\xae\x65\x79\x00\x00\x00\x00\x00\x00\x00\x00\x00\x00\x00\x00"},
		{Root{7, 0, 0}, 1, "\x00\x00\x00\x0c\xd6\xca\x50\x00\x00\x00\x07\x00\x00\x00\x00\x00\x00\x00\x00"},
		{Root{1, 2, 3}, 1, "\x00\x00\x00\x0c\x6a\x33\x60\x00\x00\x00\x01\x00\x00\x00\x02\x00\x00\x00\x03"},
		{Root{4, 130, 2}, 0, "\x00\x00\x00\x0c\x30\x33\xb2\x00\x00\x00\x04\x00\x00\x00\x82\x00\x00\x00\x02"},
		{Root{most, most, most}, 1, "\x00\x00\x00\x0c\x13\x16\xcb\x7f\xff\xff\xff\x7f\xff\xff\xff\x7f\xff\xff\xff"},
		{Root{most - 1, 0x01020304, 0x7f00ff80}, 0, "\x00\x00\x00\x0c\xbc\xe3\x68\x7f\xff\xff\xfe\x01\x02\x03\x04\x7f\x00\xff\x80"},
	} {
		w, e := Write(fresh(t, 3), c.r)
		want := disk.Write{At: c.at, Text: c.text + strings.Repeat("\x00", 13)}
		if e != api.OK || len(w.Waiting) != 1 || w.Waiting[0] != want {
			t.Errorf("Write(%v) = %#v, %d", c.r, w.Waiting, e)
		}
	}
}

// P7.1: what is written waits behind what waited; the disk that was handed in
// stays, and may be written to twice.
func TestWriteWaits(t *testing.T) {
	for _, r := range samples() {
		d := busy()
		d.Waiting = slices.Grow(d.Waiting, 10)
		want := busy()
		want.Waiting = append(want.Waiting, disk.Write{At: r.Gen % 2, Text: laidRoot(r)})
		w, e := Write(d, r)
		if e != api.OK || !same(w, want) || !disk.Right(w) {
			t.Errorf("Write(%v) = %#v, %d", r, w, e)
		}
		if _, e := Write(d, Root{Gen: 3}); e != api.OK || !same(w, want) || !same(d, busy()) {
			t.Errorf("Write(%v): behind another one %#v of %#v, %d", r, w, d, e)
		}
	}
}

// P7.1: what may not be is not written, and d is answered, with what waits.
func TestWriteOfWrongRoots(t *testing.T) {
	for _, r := range wrongRoots() {
		d := busy()
		if w, e := Write(d, r); e != api.ErrArg || !same(w, busy()) || !same(d, busy()) {
			t.Errorf("Write(%v) = %#v, %d", r, w, e)
		}
	}
}

// P7.1, P7.2: a disk of one sector has no room for roots of an odd Gen; those
// of an even one are written, and read.
func TestOfOneSector(t *testing.T) {
	d := fresh(t, 1)
	for _, r := range samples() {
		w, e := Write(d, r)
		if r.Gen%2 == 1 {
			if e != api.ErrArg || !same(w, d) {
				t.Errorf("Write(%v) = %#v, %d", r, w, e)
			}
			continue
		}
		if e != api.OK || len(w.Waiting) != 1 {
			t.Errorf("Write(%v): %d waiting, %d", r, len(w.Waiting), e)
		}
		if got, e := Best(w); got != r || e != api.OK {
			t.Errorf("Best = %v, %d, not %v", got, e, r)
		}
		if got, ok := Read(w, 1); ok || got != (Root{}) {
			t.Errorf("Read of no sector = %v, %t", got, ok)
		}
	}
}

// P7.1, P7.2: what is no disk has no root; Write tells layer 6's error, and
// answers it as it is.
func TestOfNoDisk(t *testing.T) {
	right := disk.Disk{Sectors: []string{laid(4, 5, 6), laid(7, 8, 9), laid(0, 0, 0)}}
	if r, e := Best(right); r != (Root{7, 8, 9}) || e != api.OK {
		t.Fatalf("Best of a disk = %v, %d", r, e)
	}
	short, long, wait := copyOf(right), copyOf(right), copyOf(right)
	short.Sectors[2] = "s"
	long.Waiting = []disk.Write{{At: 2, Text: strings.Repeat("w", 33)}}
	wait.Waiting = []disk.Write{{At: 3, Text: laid(4, 5, 6)}}
	many := disk.Disk{Sectors: slices.Repeat(right.Sectors, 171)}
	for i, d := range []disk.Disk{{}, short, long, wait, many} {
		ahead := copyOf(d)
		for _, r := range []Root{{}, {3, 5, 6}, {Gen: -1}} {
			if w, e := Write(d, r); e != api.ErrArg || !same(w, ahead) {
				t.Errorf("%d: Write(%v) = %#v, %d", i, r, w, e)
			}
		}
		for _, at := range []int{-1, 0, 1, 2} {
			if r, ok := Read(d, at); ok || r != (Root{}) {
				t.Errorf("%d: Read(%d) = %v, %t", i, at, r, ok)
			}
		}
		if r, e := Best(d); r != (Root{}) || e != api.ErrNone {
			t.Errorf("%d: Best = %v, %d", i, r, e)
		}
		if !same(d, ahead) {
			t.Errorf("%d: is another one now: %#v", i, d)
		}
	}
}

// P7.2: what was written is read from its sector, and from no other one, while
// it waits, and when it lasts.
func TestReadOfWhatWasWritten(t *testing.T) {
	for _, r := range samples() {
		w, e := Write(busy(), r)
		if e != api.OK {
			t.Fatalf("Write(%v): %d", r, e)
		}
		byHand := busy()
		byHand.Waiting[1+r.Gen%2].Text = laidRoot(r)
		for i, d := range []disk.Disk{w, disk.Flush(w), byHand} {
			if got, ok := Read(d, r.Gen%2); got != r || !ok {
				t.Errorf("%d: Read of %v = %v, %t", i, r, got, ok)
			}
			if got, ok := Read(d, 1-r.Gen%2); ok || got != (Root{}) {
				t.Errorf("%d: Read beside %v = %v, %t", i, r, got, ok)
			}
			if got, e := Best(d); got != r || e != api.OK {
				t.Errorf("%d: Best of %v alone = %v, %d", i, r, got, e)
			}
		}
		if got, ok := Read(disk.Crash(w), r.Gen%2); ok || got != (Root{}) {
			t.Errorf("Read of %v that was lost = %v, %t", r, got, ok)
		}
	}
}

// P7.2: a root is read from the sectors 0 and 1 alone, even if one's sector
// stands elsewhere too.
func TestReadOfWrongPlaces(t *testing.T) {
	even, odd := laid(4, 5, 6), laid(5, 6, 7)
	d := disk.Disk{Sectors: []string{even, odd, even, odd, even, odd}}
	for _, at := range []int{-1, -2, 2, 3, 4, 5, 6, 7, 512, math.MinInt, math.MaxInt, math.MaxInt - 1} {
		if r, ok := Read(d, at); ok || r != (Root{}) {
			t.Errorf("Read(%d) = %v, %t", at, r, ok)
		}
	}
	far := disk.Disk{Sectors: []string{odd, even, even, odd}}
	if r, e := Best(far); r != (Root{}) || e != api.ErrNone {
		t.Errorf("Best of roots that stand elsewhere = %v, %d", r, e)
	}
}

// P7.2: a root whose sector is the other one is none.
func TestReadOfTheOtherSector(t *testing.T) {
	for _, r := range samples() {
		d := busy()
		d.Waiting[2-r.Gen%2].Text = laidRoot(r)
		for at := range 2 {
			if got, ok := Read(d, at); ok || got != (Root{}) {
				t.Errorf("Read(%d) of %v = %v, %t", at, r, got, ok)
			}
		}
		if got, e := Best(d); got != (Root{}) || e != api.ErrNone {
			t.Errorf("Best of %v = %v, %d", r, got, e)
		}
	}
}

// noRoots are sectors in which no root stands: texts that are not of three
// numbers, numbers that are none, and what is no text's.
func noRoots() []string {
	var l []string
	for size := range 26 {
		if size != 12 {
			l = append(l, sectorOf(strings.Repeat("\x00", size)), sectorOf(strings.Repeat("\x01", size)))
		}
	}
	for _, n := range []int{most + 1, most + 2, 1<<32 - 1, 1<<32 - 2} {
		l = append(l, laid(n, 5, 6), laid(3, n, 6), laid(4, n, 6), laid(3, 5, n), laid(4, 5, n), laid(n, n, n))
	}
	l = append(l, laid(), laid(4), laid(4, 5), laid(4, 5, 6, 0), laid(5, 6, 7, 8), sectorOf("\x04\x05\x06"))
	l = append(l, strings.Repeat("\x00", 32), strings.Repeat("\xff", 32), strings.Repeat("w", 32))
	return l
}

// P7.2: what stands there may be no root at all; one in the other sector is
// the best one then, however small its Gen.
func TestReadOfNoRoot(t *testing.T) {
	for i, s := range noRoots() {
		both := disk.Disk{Sectors: []string{s, s, s}}
		for at := range 2 {
			if r, ok := Read(both, at); ok || r != (Root{}) {
				t.Errorf("%d: Read(%d) of %q = %v, %t", i, at, s, r, ok)
			}
			one := copyOf(both)
			one.Sectors[at] = laid(at, 8, 9)
			if r, e := Best(one); r != (Root{at, 8, 9}) || e != api.OK {
				t.Errorf("%d: Best beside %q = %v, %d", i, s, r, e)
			}
		}
		if r, e := Best(both); r != (Root{}) || e != api.ErrNone {
			t.Errorf("%d: Best of %q = %v, %d", i, s, r, e)
		}
	}
}

// P7.2: a text that has a second sector is no root, though its first twelve
// bytes are one's.
func TestReadOfAGreaterText(t *testing.T) {
	text := bytesOf(4, 4) + bytesOf(5, 4) + bytesOf(6, 4) + strings.Repeat("\x00", 20)
	d, e := block.Write(fresh(t, 4), 0, text)
	if e != api.OK || len(d.Waiting) != 2 {
		t.Fatalf("Write: %d waiting, %d", len(d.Waiting), e)
	}
	if r, ok := Read(d, 0); ok || r != (Root{}) {
		t.Errorf("Read = %v, %t", r, ok)
	}
}

// P7.2: with one bit that is another one, wherever, no root stands there: the
// one in the other sector is the best one.
func TestReadOfAnotherBit(t *testing.T) {
	for _, r := range []Root{{0, 0, 0}, {5, 130, 2}, {4, 3, 2}, {most, most, most}} {
		s, other := laidRoot(r), Root{1 - r.Gen%2, 8, 9}
		for bit := range 8 * len(s) {
			x := with(s, bit/8, s[bit/8]^1<<(bit%8))
			d := busy()
			d.Waiting[1+r.Gen%2].Text = x
			if got, ok := Read(d, r.Gen%2); ok || got != (Root{}) {
				t.Errorf("Read of %v with another bit %d = %v, %t", r, bit, got, ok)
			}
			if got, e := Best(d); got != (Root{}) || e != api.ErrNone {
				t.Errorf("Best of %v with another bit %d = %v, %d", r, bit, got, e)
			}
			d.Waiting[1+other.Gen%2].Text = laidRoot(other)
			if got, e := Best(d); got != other || e != api.OK {
				t.Errorf("Best beside %v with another bit %d = %v, %d", r, bit, got, e)
			}
		}
	}
}

// P7.2: of two roots the one with the greater Gen is the best, whichever
// sector it is of, and whatever else it has.
func TestBest(t *testing.T) {
	for _, even := range []int{0, 2, 254, 256, 65536, 1 << 24, 1 << 30, most - 1} {
		for _, odd := range []int{1, 3, 255, 257, 65535, 1<<24 - 1, 1<<30 + 1, most} {
			for _, at := range [][2]int{{5, 5}, {0, most}, {most, 0}} {
				a, b := Root{even, at[0], at[0]}, Root{odd, at[1], at[1]}
				want := a
				if odd > even {
					want = b
				}
				d := disk.Disk{Sectors: []string{laidRoot(a), laidRoot(b)}}
				if r, e := Best(d); r != want || e != api.OK {
					t.Errorf("Best of %v and %v = %v, %d", a, b, r, e)
				}
			}
		}
	}
}

// P7.2: a root of the Gen 0 that has nothing is one, and there is none on a
// new disk.
func TestBestOfTheFirst(t *testing.T) {
	d := fresh(t, 2)
	if r, e := Best(d); r != (Root{}) || e != api.ErrNone {
		t.Errorf("Best of a new disk = %v, %d", r, e)
	}
	w, e := Write(d, Root{})
	if e != api.OK {
		t.Fatal(e)
	}
	if r, e := Best(w); r != (Root{}) || e != api.OK {
		t.Errorf("Best of the Gen 0 = %v, %d", r, e)
	}
	if r, ok := Read(w, 0); r != (Root{}) || !ok {
		t.Errorf("Read of the Gen 0 = %v, %t", r, ok)
	}
}

// P7.2: what waits counts: of several writes of one sector the last one, even
// if its Gen is not the greatest of them.
func TestBestOfWhatWaits(t *testing.T) {
	d := fresh(t, 4)
	for _, c := range []struct{ r, best Root }{
		{Root{4, 1, 1}, Root{4, 1, 1}},
		{Root{3, 2, 2}, Root{4, 1, 1}},
		{Root{9, 3, 3}, Root{9, 3, 3}},
		{Root{6, 4, 4}, Root{9, 3, 3}},
		{Root{5, 5, 5}, Root{6, 4, 4}},
		{Root{6, 6, 6}, Root{6, 6, 6}},
		{Root{2, 7, 7}, Root{5, 5, 5}},
	} {
		w, e := Write(d, c.r)
		if e != api.OK {
			t.Fatal(e)
		}
		if r, e := Best(w); r != c.best || e != api.OK {
			t.Errorf("Best behind %v = %v, %d", c.r, r, e)
		}
		d = w
	}
}

// P7.3: while a root is written, and flushed, there is always the one ahead, or
// it: whether a crash keeps it, or not, or spoils its sector.
func TestBestBehindCrash(t *testing.T) {
	d, ahead := fresh(t, 5), Root{}
	for i := range 40 {
		// Some generations are left out: a root may then be of the same sector.
		r := Root{Gen: ahead.Gen + 1 + i/13, At: i * 7, Len: i % 3}
		w, e := Write(d, r)
		if e != api.OK {
			t.Fatalf("Write(%v): %d", r, e)
		}
		for _, c := range []struct {
			d    disk.Disk
			want Root
		}{{w, r}, {disk.Flush(w), r}, {disk.Crash(w, true), r}, {disk.Crash(w, false), ahead}, {disk.Crash(w), ahead}} {
			got, e := Best(c.d)
			if i == 0 && c.want == ahead {
				if got != (Root{}) || e != api.ErrNone {
					t.Errorf("Best ahead of all = %v, %d", got, e)
				}
				continue
			}
			if got != c.want || e != api.OK {
				t.Errorf("Best = %v, %d, not %v", got, e, c.want)
			}
		}
		if i > 0 && r.Gen == ahead.Gen+1 {
			bad := disk.Flush(w)
			bad.Sectors[r.Gen%2] = with(bad.Sectors[r.Gen%2], i%32, bad.Sectors[r.Gen%2][i%32]^1)
			if got, e := Best(bad); got != ahead || e != api.OK {
				t.Errorf("Best beside a spoiled %v = %v, %d", r, got, e)
			}
		}
		d, ahead = disk.Flush(w), r
	}
}

// P7.3: of roots that were written, one behind the other, without a flush, a
// crash leaves the newest that it kept, or, of none, the one that lasted.
func TestBestBehindCrashOfSeveral(t *testing.T) {
	last := Root{4, 9, 9}
	d, e := Write(fresh(t, 3), last)
	if e != api.OK {
		t.Fatal(e)
	}
	d = disk.Flush(d)
	for i := range 4 {
		if d, e = Write(d, Root{5 + i, i, i}); e != api.OK {
			t.Fatal(e)
		}
	}
	for k := range 16 {
		want := last
		kept := make([]bool, 4)
		for i := range kept {
			if k>>i&1 == 1 {
				kept[i], want = true, Root{5 + i, i, i}
			}
		}
		if r, e := Best(disk.Crash(d, kept...)); r != want || e != api.OK {
			t.Errorf("Best behind a crash that kept %t = %v, %d", kept, r, e)
		}
	}
}

// R1, R4: what is handed in stays as it was, what is written into it later is
// not seen in what was answered, and the same is answered again.
func TestNothingIsKept(t *testing.T) {
	d, e := Write(busy(), Root{6, 7, 8})
	if e != api.OK {
		t.Fatal(e)
	}
	ahead := copyOf(d)
	w, e := Write(d, Root{7, 8, 9})
	if e != api.OK {
		t.Fatal(e)
	}
	for range 2 {
		if r, ok := Read(d, 0); r != (Root{6, 7, 8}) || !ok {
			t.Errorf("Read = %v, %t", r, ok)
		}
		if r, e := Best(d); r != (Root{6, 7, 8}) || e != api.OK {
			t.Errorf("Best = %v, %d", r, e)
		}
	}
	if !same(d, ahead) {
		t.Errorf("what was handed in is another one: %#v", d)
	}
	want := copyOf(w)
	clear(d.Sectors)
	clear(d.Waiting)
	if !same(w, want) {
		t.Errorf("what was handed in is kept: %#v", w)
	}
}
