package block

import (
	"math"
	"slices"
	"strings"
	"testing"

	"weirkeeper/api"
	"weirkeeper/disk"
)

// fresh is a new disk that the test can't do without.
func fresh(t *testing.T, n int) disk.Disk {
	t.Helper()
	d, e := disk.New(n)
	if e != api.OK {
		t.Fatalf("New(%d): %d", n, e)
	}
	return d
}

// busy is a disk of six sectors, none of which is of bytes 0, with a write of
// each one of the first three waiting.
func busy() disk.Disk {
	full := func(s string) string { return strings.Repeat(s, 32) }
	return disk.Disk{
		Sectors: []string{full("a"), full("b"), full("c"), full("d"), full("e"), full("f")},
		Waiting: []disk.Write{{At: 2, Text: full("1")}, {At: 0, Text: full("2")}, {At: 1, Text: full("3")}},
	}
}

// noDisks are none, each for one reason.
func noDisks() []disk.Disk {
	short, long, wait := busy(), busy(), busy()
	short.Sectors[5] = "f"
	long.Waiting[1].Text += "2"
	wait.Waiting[2].At = 6
	return []disk.Disk{{}, short, long, wait, {Sectors: slices.Repeat(busy().Sectors, 86)}}
}

// copyOf shares no list with d.
func copyOf(d disk.Disk) disk.Disk {
	return disk.Disk{Sectors: slices.Clone(d.Sectors), Waiting: slices.Clone(d.Waiting)}
}

// same answers whether two disks are the same, as values.
func same(a, b disk.Disk) bool {
	return slices.Equal(a.Sectors, b.Sectors) && slices.Equal(a.Waiting, b.Waiting)
}

// sumOf is the sum in the words of layer 2's chapter.
func sumOf(s string) int {
	sum := 0xb704ce
	for i := range len(s) {
		sum ^= int(s[i]) << 16
		for range 8 {
			sum <<= 1
			if sum >= 1<<24 {
				sum ^= 1<<24 | 0x864cfb
			}
		}
	}
	return sum
}

// bytesOf answers the bytes of n, size of them.
func bytesOf(n, size int) string {
	b := make([]byte, size)
	for i := range b {
		b[i] = byte(n >> (8 * (size - 1 - i)))
	}
	return string(b)
}

// laid answers the sectors of a text in the chapter's words, one behind the
// other.
func laid(text string) string {
	size := bytesOf(len(text), 4)
	s := size + bytesOf(sumOf(size+text), 3) + text
	for len(s)%32 != 0 {
		s += "\x00"
	}
	return s
}

// diskOf answers a disk that has s, of whole sectors, and nothing else.
func diskOf(s string) disk.Disk {
	var d disk.Disk
	for i := 0; i < len(s); i += 32 {
		d.Sectors = append(d.Sectors, s[i:i+32])
	}
	return d
}

// with answers s with another byte at one place.
func with(s string, at int, b byte) string {
	return s[:at] + string([]byte{b}) + s[at+1:]
}

// mixed is a text of so many bytes, of all kinds, that ends with a byte 0.
func mixed(size int) string {
	b := make([]byte, size)
	for i := range b {
		b[i] = byte((size - 1 - i) * 37)
	}
	return string(b)
}

// samples are texts of one and of several sectors, at the edges of these too,
// and such that could be taken for what fills a sector.
func samples() []string {
	l := []string{"\x00", "a\x00", "a\x00\x00", strings.Repeat("\x00", 25), strings.Repeat("\x00", 57), strings.Repeat("é", 13)}
	for size := range 100 {
		l = append(l, mixed(size), strings.Repeat("\xff", size))
	}
	return l
}

// P6.1: a text has as many sectors as its bytes, and seven more, take up.
func TestNeed(t *testing.T) {
	want, room := 1, 32-7
	for size := 0; size <= 65535; size++ {
		if size > room {
			want, room = want+1, room+32
		}
		if n := Need(size); n != want {
			t.Fatalf("Need(%d) = %d, not %d", size, n, want)
		}
	}
	if Need(25) != 1 || Need(26) != 2 {
		t.Errorf("the example: %d, %d", Need(25), Need(26))
	}
}

// P6.1: what is no size needs none.
func TestNeedOfWrongSizes(t *testing.T) {
	for _, size := range []int{-1, -7, -8, -32, -39, 65536, 65537, 1 << 31, 1<<32 + 1, math.MinInt, math.MaxInt, math.MaxInt - 7} {
		if n := Need(size); n != 0 {
			t.Errorf("Need(%d) = %d", size, n)
		}
	}
}

// P6.1: what is cut is s, and as many bytes 0 as fill its last sector.
func TestCut(t *testing.T) {
	l := samples()
	for _, size := range []int{127, 128, 129, 16384, 65535, 65536, 70001} {
		l = append(l, mixed(size))
	}
	for _, s := range l {
		parts := Cut(s)
		if len(parts) != (len(s)+31)/32 {
			t.Fatalf("Cut of %d bytes: %d sectors", len(s), len(parts))
		}
		for i, p := range parts {
			if len(p) != 32 {
				t.Errorf("Cut of %d bytes: the sector %d has %d", len(s), i, len(p))
			}
		}
		all := strings.Join(parts, "")
		if all != s+strings.Repeat("\x00", len(all)-len(s)) {
			t.Errorf("Cut(%q) = %q", s, parts)
		}
	}
	if parts := Cut(""); len(parts) != 0 {
		t.Errorf("Cut of nothing: %q", parts)
	}
}

// P6.2: what is written are the length, the sum of it and the text, the text,
// and bytes 0. The sums were worked out elsewhere.
func TestWriteLayout(t *testing.T) {
	for _, c := range []struct{ text, head string }{
		{"", "\x00\x00\x00\x00\xf6\x59\xf3"},
		{"weir", "\x00\x00\x00\x04\x55\xd6\x99"},
		{strings.Repeat("x", 25), "\x00\x00\x00\x19\x68\x8d\xac"},
		{strings.Repeat("x", 26), "\x00\x00\x00\x1a\x7a\xea\x57"},
		{strings.Repeat("weir", 20), "\x00\x00\x00\x50\x76\x70\x6a"},
	} {
		w, e := Write(fresh(t, 9), 4, c.text)
		if e != api.OK || len(w.Waiting) != (7+len(c.text)+31)/32 {
			t.Fatalf("Write(%q): %d waiting, %d", c.text, len(w.Waiting), e)
		}
		all := ""
		for i, x := range w.Waiting {
			if x.At != 4+i {
				t.Errorf("Write(%q): the sector %d goes to %d", c.text, i, x.At)
			}
			all += x.Text
		}
		ahead := c.head + c.text
		if all != ahead+strings.Repeat("\x00", len(all)-len(ahead)) {
			t.Errorf("Write(%q) = %q", c.text, all)
		}
	}
}

// P6.2: what is written waits behind what waited, just as layer 4 puts it; the
// disk that was handed in stays, and may be written to twice.
func TestWriteWaits(t *testing.T) {
	for _, text := range samples() {
		d := busy()
		var texts []string
		for s := laid(text); s != ""; s = s[32:] {
			texts = append(texts, s[:32])
		}
		want, e := disk.Put(d, 1, texts...)
		if e != api.OK {
			t.Fatal(e)
		}
		w, e := Write(d, 1, text)
		if e != api.OK || !same(w, want) || !disk.Right(w) {
			t.Errorf("Write(%q) = %#v, %d", text, w, e)
		}
		if _, e := Write(d, 1, "another one"); e != api.OK || !same(w, want) || !same(d, busy()) {
			t.Errorf("Write(%q): behind another one %#v of %#v, %d", text, w, d, e)
		}
	}
}

// P6.2: the greatest text that a disk has room for, from a place on, is written
// and read; one with a byte more is refused. Behind the last sector there is no
// room for any, as an empty one has a sector too.
func TestWriteRoom(t *testing.T) {
	for _, n := range []int{1, 2, 3, 100, 512} {
		d := fresh(t, n)
		for _, at := range []int{0, n / 2, n - 1} {
			text := mixed(32*(n-at) - 7)
			w, e := Write(d, at, text)
			if e != api.OK || len(w.Waiting) != n-at {
				t.Errorf("Write(%d) of %d bytes to %d sectors: %d waiting, %d", at, len(text), n, len(w.Waiting), e)
			}
			if s, e := Read(w, at, n-at); s != text || e != api.OK {
				t.Errorf("Read(%d) from %d sectors: %d bytes, %d", at, n, len(s), e)
			}
			if w, e := Write(d, at, text+"x"); e != api.ErrArg || !same(w, d) {
				t.Errorf("Write(%d) of one too many to %d sectors: %d waiting, %d", at, n, len(w.Waiting), e)
			}
		}
		if w, e := Write(d, n, ""); e != api.ErrArg || !same(w, d) {
			t.Errorf("Write behind %d sectors: %d waiting, %d", n, len(w.Waiting), e)
		}
	}
}

// P6.2: with an error Write answers d: wherever it was to write to, and
// whatever text, with what waits.
func TestWriteOfWrongThings(t *testing.T) {
	for _, c := range []struct {
		at   int
		size int
	}{
		{0, 65535}, {0, 65536}, {0, 65537}, {0, 1 << 20}, {-1, 65536}, {6, 65536},
		{-1, 0}, {-1, 26}, {6, 0}, {7, 0}, {5, 26}, {0, 186}, {512, 0},
		{math.MinInt, 0}, {math.MaxInt, 0}, {math.MaxInt, 26}, {math.MinInt, 65535},
	} {
		d := busy()
		if w, e := Write(d, c.at, mixed(c.size)); e != api.ErrArg || !same(w, busy()) || !same(d, busy()) {
			t.Errorf("Write(%d) of %d bytes = %#v, %d", c.at, c.size, w, e)
		}
	}
}

// P6.2: what is no disk is refused, by Write and by Read, and Write answers it
// as it is.
func TestOfNoDisk(t *testing.T) {
	for i, d := range noDisks() {
		ahead := copyOf(d)
		for _, text := range []string{"", "weir", mixed(40), mixed(65536)} {
			if w, e := Write(d, 0, text); e != api.ErrArg || !same(w, ahead) {
				t.Errorf("%d: Write of %d bytes = %#v, %d", i, len(text), w, e)
			}
		}
		for _, n := range []int{-1, 0, 1, 2, 600} {
			if s, e := Read(d, 0, n); s != "" || e != api.ErrArg {
				t.Errorf("%d: Read(0, %d) = %q, %d", i, n, s, e)
			}
		}
		if !same(d, ahead) {
			t.Errorf("%d: is another one now: %#v", i, d)
		}
	}
}

// P6.3: what was written is read, while it waits, and when it lasts; from
// sectors that were laid by hand too.
func TestReadOfWhatWasWritten(t *testing.T) {
	for _, text := range samples() {
		w, e := Write(busy(), 2, text)
		if e != api.OK {
			t.Fatalf("Write(%q): %d", text, e)
		}
		n := Need(len(text))
		if s, e := Read(w, 2, n); s != text || e != api.OK {
			t.Errorf("Read of %q = %q, %d", text, s, e)
		}
		if s, e := Read(disk.Flush(w), 2, n); s != text || e != api.OK {
			t.Errorf("Read behind a flush of %q = %q, %d", text, s, e)
		}
		if s, e := Read(diskOf(laid(text)), 0, n); s != text || e != api.OK {
			t.Errorf("Read of %q by hand = %q, %d", text, s, e)
		}
	}
}

// P6.3: of several texts each is read; of two at one place the last one.
func TestReadOfSeveral(t *testing.T) {
	d := fresh(t, 8)
	for i, text := range []string{mixed(90), "first", mixed(50), "last"} {
		w, e := Write(d, []int{0, 4, 6, 4}[i], text)
		if e != api.OK {
			t.Fatal(e)
		}
		d = w
	}
	for _, c := range []struct {
		at, n int
		text  string
	}{{0, 4, mixed(90)}, {4, 1, "last"}, {6, 2, mixed(50)}} {
		if s, e := Read(d, c.at, c.n); s != c.text || e != api.OK {
			t.Errorf("Read(%d, %d) = %q, %d", c.at, c.n, s, e)
		}
	}
}

// P6.2: layer 4's errors come first, whatever stands there.
func TestReadOfWrongPlaces(t *testing.T) {
	d := diskOf(laid("weir") + laid(mixed(40)))
	for _, c := range []struct{ at, n int }{
		{0, -1}, {3, -1}, {-1, 0}, {-1, 1}, {4, 0}, {0, 4}, {3, 1}, {2, 2}, {1, 3}, {0, 2049},
		{0, math.MinInt}, {0, math.MaxInt}, {math.MinInt, 1}, {math.MaxInt, 1}, {math.MaxInt, math.MaxInt}, {1, math.MaxInt},
	} {
		if s, e := Read(d, c.at, c.n); s != "" || e != api.ErrArg {
			t.Errorf("Read(%d, %d) = %q, %d", c.at, c.n, s, e)
		}
	}
}

// P6.2: a text is read from just its own sectors; none is read from none.
func TestReadOfOtherSectors(t *testing.T) {
	for _, text := range samples() {
		d := diskOf(laid(text) + laid("behind"))
		for n := range len(d.Sectors) + 1 {
			if n == Need(len(text)) {
				continue
			}
			if s, e := Read(d, 0, n); s != "" || e != api.ErrForm {
				t.Errorf("Read of %d sectors of %q = %q, %d", n, text, s, e)
			}
		}
		if s, e := Read(d, len(d.Sectors), 0); s != "" || e != api.ErrForm {
			t.Errorf("Read of no sectors at the end = %q, %d", s, e)
		}
	}
}

// P6.2: a length that needs other sectors is told ahead of a wrong sum; one
// that needs these sectors is told by the sum. Lengths that no text has are
// none of any sectors.
func TestReadOfWrongLengths(t *testing.T) {
	rest := strings.Repeat("r", 512*32-4)
	for _, n := range []int{1, 2, 3, 512} {
		for _, size := range []int{0, 25, 26, 57, 58, 89, 90, 16345, 16346, 16377, 16378, 65535, 65536, 65537, 1 << 24, 1<<24 + 16377, 1<<31 - 1, 1 << 31, 1<<32 - 1, 1<<32 - 7, 1<<32 - 8} {
			want := api.ErrForm
			if (7+size+31)/32 == n {
				want = api.ErrSum
			}
			if s, e := Read(diskOf((bytesOf(size, 4) + rest)[:32*n]), 0, n); s != "" || e != want {
				t.Errorf("Read of %d sectors that tell %d bytes = %q, %d", n, size, s, e)
			}
		}
	}
	if s, e := Read(fresh(t, 1), 0, 1); s != "" || e != api.ErrSum {
		t.Errorf("Read of a new disk = %q, %d", s, e)
	}
}

// P6.2: the sum is that of the length and the text, in this order, and of
// nothing else.
func TestReadOfWrongSums(t *testing.T) {
	for _, text := range []string{"weir", mixed(25), mixed(40)} {
		size, s := bytesOf(len(text), 4), laid(text)
		for _, of := range []string{text, text + size, size, "", size + s[7:], size + text + "\x00\x00\x00\x00"} {
			if of == size+text {
				continue
			}
			x := s[:4] + bytesOf(sumOf(of), 3) + s[7:]
			if got, e := Read(diskOf(x), 0, len(x)/32); got != "" || e != api.ErrSum {
				t.Errorf("Read of %q with the sum of %q = %q, %d", text, of, got, e)
			}
		}
	}
}

// P6.2: no byte behind the text may be another one than 0.
func TestReadOfWrongFilling(t *testing.T) {
	for _, text := range []string{"", "weir", mixed(24), mixed(26), mixed(40)} {
		s := laid(text)
		for at := 7 + len(text); at < len(s); at++ {
			for _, b := range []byte{1, ' ', 0x80, 0xff} {
				if got, e := Read(diskOf(with(s, at, b)), 0, len(s)/32); got != "" || e != api.ErrSum {
					t.Errorf("Read of %q with a byte %d at %d = %q, %d", text, b, at, got, e)
				}
			}
		}
	}
}

// P6.3: with one bit that is another one, behind the first four bytes, what
// was written is refused, while it waits, and when it lasts.
func TestReadOfAnotherBit(t *testing.T) {
	for _, text := range samples() {
		s := laid(text)
		n := len(s) / 32
		for bit := 4 * 8; bit < 8*len(s); bit++ {
			x := with(s, bit/8, s[bit/8]^1<<(bit%8))
			if got, e := Read(diskOf(x), 0, n); got != "" || e != api.ErrSum {
				t.Errorf("Read of %q with another bit %d = %q, %d", text, bit, got, e)
			}
		}
	}
	text := mixed(70)
	w, e := Write(fresh(t, 5), 1, text)
	if e != api.OK {
		t.Fatal(e)
	}
	w.Waiting[2].Text = with(w.Waiting[2].Text, 9, w.Waiting[2].Text[9]^4)
	if s, e := Read(w, 1, 3); s != "" || e != api.ErrSum {
		t.Errorf("Read of a wrong write = %q, %d", s, e)
	}
}

// P6.3: a text of which a crash kept some sectors, but not all, is refused.
func TestReadBehindCrash(t *testing.T) {
	text := strings.Repeat("weir", 20)
	w, e := Write(fresh(t, 3), 0, text)
	if e != api.OK {
		t.Fatal(e)
	}
	for k := range 8 {
		c := disk.Crash(w, k&1 != 0, k&2 != 0, k&4 != 0)
		s, e := Read(c, 0, 3)
		switch {
		case k == 7 && (s != text || e != api.OK):
			t.Errorf("Read of all = %q, %d", s, e)
		case k != 7 && (s != "" || e == api.OK):
			t.Errorf("Read of %d = %q, %d", k, s, e)
		}
	}
}

// R1: what is read stays as it was.
func TestReadLeavesTheDisk(t *testing.T) {
	d, e := Write(busy(), 3, mixed(40))
	if e != api.OK {
		t.Fatal(e)
	}
	ahead := copyOf(d)
	for n := range 4 {
		Read(d, 3, n)
		if !same(d, ahead) {
			t.Errorf("Read(3, %d) left %#v", n, d)
		}
	}
}
