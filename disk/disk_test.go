package disk

import (
	"math"
	"slices"
	"strings"
	"testing"

	"weirkeeper/api"
)

// full is a sector of one byte, over and over.
func full(b byte) string {
	return strings.Repeat(string([]byte{b}), 32)
}

// fresh is a new disk that the test can't do without.
func fresh(t *testing.T, n int) Disk {
	t.Helper()
	d, e := New(n)
	if e != api.OK {
		t.Fatalf("New(%d): %d", n, e)
	}
	return d
}

// put is a Put that has to go well.
func put(t *testing.T, d Disk, at int, texts ...string) Disk {
	t.Helper()
	p, e := Put(d, at, texts...)
	if e != api.OK {
		t.Fatalf("Put(%d, %d texts): %d", at, len(texts), e)
	}
	return p
}

// busy is a disk of four sectors: those of a to d last, and six writes wait,
// several of the sectors 1 and 3, none of the sector 0.
func busy() Disk {
	return Disk{
		Sectors: []string{full('a'), full('b'), full('c'), full('d')},
		Waiting: []Write{{1, full('1')}, {3, full('2')}, {1, full('3')}, {2, full('4')}, {3, full('5')}, {1, full('6')}},
	}
}

// copyOf shares no list with d.
func copyOf(d Disk) Disk {
	return Disk{Sectors: slices.Clone(d.Sectors), Waiting: slices.Clone(d.Waiting)}
}

// same answers whether two disks are the same, as values.
func same(a, b Disk) bool {
	return slices.Equal(a.Sectors, b.Sectors) && slices.Equal(a.Waiting, b.Waiting)
}

// reads answers what a sector reads as, in the chapter's words.
func reads(d Disk, at int) string {
	for i := len(d.Waiting) - 1; i >= 0; i-- {
		if d.Waiting[i].At == at {
			return d.Waiting[i].Text
		}
	}
	return d.Sectors[at]
}

// allKept answers each list of n bools.
func allKept(n int) [][]bool {
	l := [][]bool{nil}
	for range n {
		var more [][]bool
		for _, k := range l {
			more = append(more, append(slices.Clone(k), false), append(slices.Clone(k), true))
		}
		l = more
	}
	return l
}

// noDisks are those that Right refuses, each for one reason.
func noDisks() []Disk {
	with := func(w ...Write) Disk {
		d := busy()
		d.Waiting = append(d.Waiting, w...)
		return d
	}
	sectors := func(l ...string) Disk {
		return Disk{Sectors: append(busy().Sectors, l...)}
	}
	return []Disk{
		{},
		{Sectors: []string{}},
		{Waiting: []Write{{0, full('x')}}},
		{Sectors: slices.Repeat([]string{full('a')}, 513)},
		{Sectors: slices.Repeat([]string{full('a')}, 2000)},
		{Sectors: []string{""}},
		{Sectors: []string{"", full('a')}},
		sectors(""),
		sectors(full('e')[1:]),
		sectors(full('e') + "e"),
		sectors(strings.Repeat("é", 32)),
		with(Write{-1, full('x')}),
		with(Write{4, full('x')}),
		with(Write{512, full('x')}),
		with(Write{math.MinInt, full('x')}),
		with(Write{math.MaxInt, full('x')}),
		with(Write{0, ""}),
		with(Write{0, full('x')[1:]}),
		with(Write{0, full('x') + "x"}),
		with(Write{At: 4, Text: full('x')}, Write{0, full('x')}),
		with(Write{0, "x"}, Write{0, full('x')}),
	}
}

// P4.1: the sizes of sectors and disks are those that the chapter names.
func TestSizes(t *testing.T) {
	if SectorSize != 32 || MaxSectors != 512 {
		t.Errorf("%d bytes, %d sectors", SectorSize, MaxSectors)
	}
}

// P4.1: a new disk has n sectors of bytes 0, and nothing waits.
func TestNew(t *testing.T) {
	for _, n := range []int{1, 2, 31, 134, 300, 511, 512} {
		d, e := New(n)
		if e != api.OK || len(d.Sectors) != n || len(d.Waiting) != 0 || !Right(d) {
			t.Fatalf("New(%d): %d sectors, %d waiting, %d", n, len(d.Sectors), len(d.Waiting), e)
		}
		for i, s := range d.Sectors {
			if s != full(0) {
				t.Errorf("New(%d): the sector %d is %q", n, i, s)
			}
		}
		if s, e := Read(d, 0, n); e != api.OK || s != strings.Repeat("\x00", 32*n) {
			t.Errorf("New(%d) reads as %d bytes, %d", n, len(s), e)
		}
	}
}

// P4.1, R2: no disk has fewer sectors than one, or more than 512.
func TestNewOfWrongSizes(t *testing.T) {
	for _, n := range []int{0, -1, 513, 1024, -512, 1 << 31, math.MinInt, math.MaxInt} {
		if d, e := New(n); e != api.ErrArg || len(d.Sectors) != 0 || len(d.Waiting) != 0 {
			t.Errorf("New(%d): %d sectors, %d waiting, %d", n, len(d.Sectors), len(d.Waiting), e)
		}
	}
}

// P4.1: disks of the least and the most sectors, with writes of the first and
// of the last one.
func TestRight(t *testing.T) {
	for _, n := range []int{1, 2, 512} {
		d := Disk{Sectors: slices.Repeat([]string{full(0xff)}, n)}
		if !Right(d) {
			t.Errorf("%d sectors are no disk", n)
		}
		d.Waiting = []Write{{n - 1, full('x')}, {0, full('y')}, {n - 1, full('x')}}
		if !Right(d) {
			t.Errorf("%d sectors with what waits are no disk", n)
		}
		d.Waiting = []Write{}
		if !Right(d) {
			t.Errorf("%d sectors with an empty list are no disk", n)
		}
		d.Waiting = append(d.Waiting, Write{n, full('x')})
		if Right(d) {
			t.Errorf("the sector %d of %d is one", n, n)
		}
	}
	if !Right(busy()) {
		t.Errorf("%#v is no disk", busy())
	}
	// More may wait than there are sectors; bytes count, not letters.
	many := Disk{Sectors: []string{strings.Repeat("é", 16)}, Waiting: slices.Repeat([]Write{{0, full('x')}}, 1000)}
	if !Right(many) {
		t.Error("a disk with 1000 writes waiting is none")
	}
}

// P4.1: what is no disk is told so, and stays as it is.
func TestOfNoDisk(t *testing.T) {
	for i, d := range noDisks() {
		ahead := copyOf(d)
		if Right(d) {
			t.Errorf("%d: Right", i)
		}
		for _, n := range []int{0, 1, -1, 600} {
			if s, e := Read(d, 0, n); s != "" || e != api.ErrArg {
				t.Errorf("%d: Read(0, %d) = %q, %d", i, n, s, e)
			}
		}
		for _, texts := range [][]string{nil, {full('p')}, {"p"}, {full('p'), full('q')}} {
			if p, e := Put(d, 0, texts...); e != api.ErrArg || !same(p, Disk{}) {
				t.Errorf("%d: Put(%#v) = %#v, %d", i, texts, p, e)
			}
		}
		if f := Flush(d); !same(f, ahead) {
			t.Errorf("%d: Flush = %#v", i, f)
		}
		for _, kept := range [][]bool{nil, {true, true, true, true, true, true, true, true}, {false}} {
			if c := Crash(d, kept...); !same(c, ahead) {
				t.Errorf("%d: Crash(%t) = %#v", i, kept, c)
			}
		}
		if !same(d, ahead) {
			t.Errorf("%d: is another one now: %#v", i, d)
		}
	}
}

// P4.2: sectors read as the last write that waits for them, or else as what
// lasts, one behind the other, wherever they begin.
func TestRead(t *testing.T) {
	d := busy()
	whole := full('a') + full('6') + full('4') + full('5')
	for at := range 5 {
		for n := range 5 - at {
			s, e := Read(d, at, n)
			if want := whole[32*at : 32*(at+n)]; e != api.OK || s != want {
				t.Errorf("Read(%d, %d) = %q, %d", at, n, s, e)
			}
		}
	}
}

// P4.2: the edges of what can be read, and what is beyond them, up to where
// at and n together wrap round.
func TestReadOfWrongPlaces(t *testing.T) {
	d := busy()
	for _, c := range []struct{ at, n int }{
		{0, -1}, {4, -1}, {2, -2}, {0, math.MinInt}, {4, math.MinInt},
		{-1, 0}, {-1, 1}, {-1, 2}, {5, 0}, {5, -1}, {5, 1}, {512, 0},
		{0, 5}, {1, 4}, {3, 2}, {4, 1}, {0, 513},
		{math.MinInt, 0}, {math.MaxInt, 0}, {math.MaxInt, 1}, {math.MinInt, math.MinInt},
		{1, math.MaxInt}, {4, math.MaxInt}, {0, math.MaxInt}, {math.MaxInt, math.MaxInt},
		{-1, math.MaxInt}, {math.MinInt, math.MaxInt}, {math.MaxInt, math.MinInt},
	} {
		if s, e := Read(d, c.at, c.n); s != "" || e != api.ErrArg {
			t.Errorf("Read(%d, %d) = %q, %d", c.at, c.n, s, e)
		}
	}
	for at := range 5 {
		if s, e := Read(d, at, 0); s != "" || e != api.OK {
			t.Errorf("Read(%d, 0) = %q, %d", at, s, e)
		}
	}
}

// P4.2: what is put waits, in order, behind what waited; what lasts stays.
func TestPut(t *testing.T) {
	d := busy()
	p := put(t, d, 1, full('p'), full('q'), full('r'))
	want := Disk{Sectors: d.Sectors, Waiting: append(busy().Waiting, Write{1, full('p')}, Write{2, full('q')}, Write{3, full('r')})}
	if !same(p, want) || !Right(p) {
		t.Errorf("Put = %#v", p)
	}
	if s, e := Read(p, 0, 4); e != api.OK || s != full('a')+full('p')+full('q')+full('r') {
		t.Errorf("Read behind Put = %q, %d", s, e)
	}
	p = put(t, p, 3, full('s'))
	want.Waiting = append(want.Waiting, Write{3, full('s')})
	if !same(p, want) {
		t.Errorf("Put of one more = %#v", p)
	}
}

// P4.2: at each place as many texts can be put as there are sectors, but no
// more; none can be put up to the end.
func TestPutPlaces(t *testing.T) {
	for _, sectors := range []int{1, 2, 5, 512} {
		d := fresh(t, sectors)
		for _, at := range []int{0, sectors / 2, sectors - 1, sectors} {
			texts := slices.Repeat([]string{full('p')}, sectors-at)
			if p := put(t, d, at, texts...); len(p.Waiting) != len(texts) || !Right(p) {
				t.Errorf("Put(%d) to %d sectors: %d waiting", at, sectors, len(p.Waiting))
			}
			if p := put(t, d, at); !same(p, d) {
				t.Errorf("Put(%d) of nothing to %d sectors: %d waiting", at, sectors, len(p.Waiting))
			}
			if p, e := Put(d, at, append(texts, full('q'))...); e != api.ErrArg || !same(p, d) {
				t.Errorf("Put(%d) of one too many to %d sectors: %d waiting, %d", at, sectors, len(p.Waiting), e)
			}
		}
	}
}

// P4.2: with an error a Put answers d, and nothing of what was to be put.
func TestPutOfWrongThings(t *testing.T) {
	for _, c := range []struct {
		at    int
		texts []string
	}{
		{0, []string{""}},
		{0, []string{full('p')[1:]}},
		{0, []string{full('p') + "p"}},
		{0, []string{full('p') + full('q')}},
		{0, []string{strings.Repeat("é", 32)}},
		{0, []string{full('p'), full('q'), "r"}},
		{0, []string{full('p'), "", full('r')}},
		{0, []string{"p", full('q'), full('r')}},
		{-1, nil},
		{-1, []string{full('p')}},
		{-1, []string{full('p'), full('q')}},
		{5, nil},
		{5, []string{full('p')}},
		{4, []string{full('p')}},
		{3, []string{full('p'), full('q')}},
		{4, []string{""}},
		{math.MinInt, nil},
		{math.MinInt, []string{full('p')}},
		{math.MaxInt, nil},
		{math.MaxInt, []string{full('p')}},
		{math.MaxInt, []string{full('p'), full('q')}},
	} {
		for _, d := range []Disk{busy(), fresh(t, 4)} {
			if p, e := Put(d, c.at, c.texts...); e != api.ErrArg || !same(p, d) {
				t.Errorf("Put(%d, %#v) = %#v, %d", c.at, c.texts, p, e)
			}
		}
	}
}

// P4.3: what waits lasts, the last one of each sector, and nothing waits.
func TestFlush(t *testing.T) {
	f := Flush(busy())
	want := Disk{Sectors: []string{full('a'), full('6'), full('4'), full('5')}}
	if !same(f, want) {
		t.Errorf("Flush = %#v", f)
	}
	if !same(Flush(f), want) || !same(Crash(f, true, true), want) {
		t.Errorf("what lasts does not: %#v, %#v", Flush(f), Crash(f, true, true))
	}
}

// P4.3: the chapter's example, and writes that are kept in part: by their
// place, in their order, and none that has no place.
func TestCrash(t *testing.T) {
	a, b, c, d := full('a'), full('b'), full('c'), full('d')
	for _, k := range []struct {
		kept []bool
		want []string
	}{
		{nil, []string{a, b, c, d}},
		{[]bool{}, []string{a, b, c, d}},
		{[]bool{false, false, false, false, false, false}, []string{a, b, c, d}},
		{[]bool{true}, []string{a, full('1'), c, d}},
		{[]bool{false, true}, []string{a, b, c, full('2')}},
		{[]bool{true, false, true}, []string{a, full('3'), c, d}},
		{[]bool{false, false, false, true}, []string{a, b, full('4'), d}},
		{[]bool{true, true, false, false, true}, []string{a, full('1'), c, full('5')}},
		{[]bool{true, true, true, true, true, false}, []string{a, full('3'), full('4'), full('5')}},
		{[]bool{true, true, true, true, true, true}, []string{a, full('6'), full('4'), full('5')}},
		{[]bool{false, false, false, false, false, true}, []string{a, full('6'), c, d}},
		{[]bool{false, false, false, false, false, false, true, true}, []string{a, b, c, d}},
	} {
		got := Crash(busy(), k.kept...)
		if !same(got, Disk{Sectors: k.want}) {
			t.Errorf("Crash(%t) = %#v", k.kept, got)
		}
	}
	p := put(t, fresh(t, 3), 1, full('p'))
	if !same(Crash(p), fresh(t, 3)) {
		t.Errorf("Put, Crash: %#v", Crash(p))
	}
}

// P4.3: a crash that keeps all is a flush, however many places kept has; one
// of what nothing waits for changes nothing.
func TestCrashThatKeepsAll(t *testing.T) {
	d := busy()
	for n := len(d.Waiting); n < 20; n++ {
		if c := Crash(d, slices.Repeat([]bool{true}, n)...); !same(c, Flush(d)) {
			t.Errorf("Crash that keeps all of %d: %#v", n, c)
		}
	}
	e := fresh(t, 2)
	if !same(Crash(e), e) || !same(Crash(e, true, false, true), e) || !same(Flush(e), e) {
		t.Error("a disk that nothing waits for is another one")
	}
}

// P4.4: behind a flush each sector reads as it did, whatever waited.
func TestReadsBehindFlush(t *testing.T) {
	d := fresh(t, 7)
	for i := range 60 {
		texts := slices.Repeat([]string{full(byte(i + 1))}, i%3)
		d = put(t, d, i*i%6, texts...)
		f := Flush(d)
		if len(f.Waiting) != 0 || !Right(f) {
			t.Fatalf("%d: %d wait behind a flush", i, len(f.Waiting))
		}
		for at := range d.Sectors {
			ahead, e := Read(d, at, 1)
			behind, o := Read(f, at, 1)
			if e != api.OK || o != api.OK || ahead != behind || ahead != reads(d, at) || f.Sectors[at] != ahead {
				t.Errorf("%d: the sector %d: %q, then %q", i, at, ahead, behind)
			}
		}
		if i%11 == 10 {
			d = f
		}
	}
}

// P4.3, P4.4: behind each crash there can be, a sector is the last of its
// writes that were kept, or, of none, what lasted.
func TestSectorsBehindCrash(t *testing.T) {
	d := busy()
	for n := range len(d.Waiting) + 2 {
		for _, kept := range allKept(n) {
			c := Crash(d, kept...)
			if !Right(c) || len(c.Waiting) != 0 || len(c.Sectors) != len(d.Sectors) {
				t.Fatalf("Crash(%t) = %#v", kept, c)
			}
			for at, got := range c.Sectors {
				want := d.Sectors[at]
				for i, w := range d.Waiting {
					if w.At == at && i < n && kept[i] {
						want = w.Text
					}
				}
				if got != want {
					t.Errorf("Crash(%t): the sector %d is %q", kept, at, got)
				}
			}
		}
	}
}

// R1, R3: what is handed in stays as it was, and what is written into it
// later is not seen in what was answered.
func TestNothingIsKept(t *testing.T) {
	d, kept, texts := busy(), []bool{true, false, true}, []string{full('p'), full('q')}
	p := put(t, d, 2, texts...)
	f, c := Flush(d), Crash(d, kept...)
	if _, e := Put(d, 3, texts...); e != api.ErrArg {
		t.Errorf("Put of one too many: %d", e)
	}
	if !same(d, busy()) || !slices.Equal(kept, []bool{true, false, true}) || !slices.Equal(texts, []string{full('p'), full('q')}) {
		t.Errorf("what was handed in is another one: %#v, %t, %#v", d, kept, texts)
	}
	wantP, wantF, wantC := copyOf(p), copyOf(f), copyOf(c)
	clear(d.Sectors)
	clear(d.Waiting)
	clear(texts)
	if !same(p, wantP) || !same(f, wantF) || !same(c, wantC) {
		t.Errorf("what was handed in is kept: %#v, %#v, %#v", p, f, c)
	}
}

// R1: two disks that come of one are apart, even if its list has room behind
// what waits.
func TestPutTwice(t *testing.T) {
	d := busy()
	d.Waiting = slices.Grow(d.Waiting, 100)
	for range 3 {
		d = put(t, d, 0, full('0'))
		a, b := put(t, d, 0, full('p')), put(t, d, 1, full('q'))
		n := len(d.Waiting)
		if len(a.Waiting) != n+1 || len(b.Waiting) != n+1 {
			t.Fatalf("%d and %d wait behind %d", len(a.Waiting), len(b.Waiting), n)
		}
		if a.Waiting[n] != (Write{0, full('p')}) || b.Waiting[n] != (Write{1, full('q')}) {
			t.Errorf("one Put is seen in the other: %#v, %#v", a.Waiting[n], b.Waiting[n])
		}
	}
}

// R4: what is answered hangs on what is given alone, and not on what other
// disks went through.
func TestTheSameAgain(t *testing.T) {
	first := Crash(put(t, busy(), 0, full('p'), full('q')), false, false, true, false, false, false, true)
	Flush(put(t, busy(), 2, full('r')))
	again := Crash(put(t, busy(), 0, full('p'), full('q')), false, false, true, false, false, false, true)
	if !same(first, again) {
		t.Errorf("%#v, then %#v", first, again)
	}
}
