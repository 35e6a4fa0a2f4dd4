package flat

import (
	"math"
	"slices"
	"strings"
	"testing"

	"weirkeeper/api"
)

// size answers a text of n bytes.
func size(n int) string {
	return strings.Repeat("k", n)
}

// be answers n in so many bytes, the highest first, so that the tests have
// another way to them than the program's.
func be(n uint64, size int) string {
	b := make([]byte, size)
	for i := range b {
		b[i] = byte(n >> (8 * (size - 1 - i)))
	}
	return string(b)
}

// text answers how many bytes s has, in two, and then it.
func text(s string) string {
	return be(uint64(len(s)), 2) + s
}

// bit answers 1 or 0, in one byte.
func bit(yes bool) string {
	if yes {
		return "\x01"
	}
	return "\x00"
}

// noteBytesOf, pairBytesOf, changeBytesOf and rangeBytesOf are the chapter's
// words.
func noteBytesOf(n api.Note) string {
	return be(uint64(n.Kind), 1) + text(n.Key) + text(n.Value) + be(n.N, 8)
}

func pairBytesOf(p api.Pair) string {
	return text(p.Key) + text(p.Value)
}

func changeBytesOf(c api.Change) string {
	return be(uint64(c.Seq), 4) + text(c.Key) + bit(c.Had) + text(c.Before) + bit(c.Has) + text(c.After)
}

func rangeBytesOf(r api.Range) string {
	return text(r.Lo) + text(r.Hi) + bit(r.Open)
}

// listOf answers a list's bytes, of those of each.
func listOf(l ...string) string {
	return be(uint64(len(l)), 2) + strings.Join(l, "")
}

// kind is one of the things that come in lists: its calls; its bytes, how they
// are read, and what may be, in the chapter's words; what is one of it, and what
// is none.
type kind[T comparable] struct {
	write func(l ...T) (string, api.Errno)
	take  func(s string) ([]T, string, api.Errno)
	bytes func(x T) string
	read  func(l *letters) T
	may   func(x T) bool
	right []T
	wrong []T
}

func notes() kind[api.Note] {
	return kind[api.Note]{Notes, TakeNotes, noteBytesOf, readNote, noteMay, rightNotes(), wrongNotes()}
}

func pairs() kind[api.Pair] {
	return kind[api.Pair]{Pairs, TakePairs, pairBytesOf, readPair, pairMay, rightPairs(), wrongPairs()}
}

func changes() kind[api.Change] {
	return kind[api.Change]{Changes, TakeChanges, changeBytesOf, readChange, mayOf, rightChanges(), wrongChanges()}
}

// letters are bytes that are read one by one. What is read behind their end
// does not count: it has other bytes than they.
type letters struct {
	s  string
	at int
}

func (l *letters) one() int {
	l.at++
	if l.at > len(l.s) {
		return 0
	}
	return int(l.s[l.at-1])
}

func (l *letters) num(size int) uint64 {
	n := uint64(0)
	for range size {
		n = n*256 + uint64(l.one())
	}
	return n
}

func (l *letters) text() string {
	var b []byte
	for n := l.num(2); n > 0 && l.at <= len(l.s); n-- {
		b = append(b, byte(l.one()))
	}
	return string(b)
}

func readNote(l *letters) api.Note {
	var n api.Note
	n.Kind = l.one()
	n.Key = l.text()
	n.Value = l.text()
	n.N = l.num(8)
	return n
}

func readPair(l *letters) api.Pair {
	var p api.Pair
	p.Key = l.text()
	p.Value = l.text()
	return p
}

func readChange(l *letters) api.Change {
	var c api.Change
	c.Seq = int(l.num(4))
	c.Key = l.text()
	c.Had = l.one() == 1
	c.Before = l.text()
	c.Has = l.one() == 1
	c.After = l.text()
	return c
}

func readRange(l *letters) api.Range {
	var r api.Range
	r.Lo = l.text()
	r.Hi = l.text()
	r.Open = l.one() == 1
	return r
}

// noteMay, pairMay, mayOf and rangeMay answer what may be, in the chapters'
// words.
func noteMay(n api.Note) bool {
	key := len(n.Key) <= 16
	switch n.Kind {
	case 1:
		return key && len(n.Value) <= 32 && n.N == 0
	case 2:
		return key && len(n.Value) == 0 && n.N == 0
	case 3:
		return key && len(n.Value) == 0
	}
	return false
}

func pairMay(p api.Pair) bool {
	return len(p.Key) <= 16 && len(p.Value) <= 32
}

func mayOf(c api.Change) bool {
	seq := c.Seq >= 1 && c.Seq <= 2147483647
	key := len(c.Key) <= 16
	before := len(c.Before) <= 32 && (c.Had || len(c.Before) == 0)
	after := len(c.After) <= 32 && (c.Has || len(c.After) == 0)
	return seq && key && before && after && (c.Had || c.Has)
}

func rangeMay(r api.Range) bool {
	return len(r.Lo) <= 16 && len(r.Hi) <= 17 && (!r.Open || len(r.Hi) == 0)
}

// begins answers the list of which s begins with the bytes, in the chapter's
// words, and the rest, and whether there is one.
func (k kind[T]) begins(s string) ([]T, string, bool) {
	from := &letters{s: s}
	var l []T
	for range from.num(2) {
		if from.at > len(s) {
			return nil, "", false
		}
		x := k.read(from)
		if !k.may(x) {
			return nil, "", false
		}
		l = append(l, x)
	}
	// What was read in another way than it is written is none.
	rest, ok := strings.CutPrefix(s, k.listBytes(l))
	if !ok {
		return nil, "", false
	}
	return l, rest, true
}

// listBytes answers the bytes of l, in the chapter's words.
func (k kind[T]) listBytes(l []T) string {
	var all []string
	for _, x := range l {
		all = append(all, k.bytes(x))
	}
	return listOf(all...)
}

// rightNotes are ordinary ones, and those at the edges.
func rightNotes() []api.Note {
	return []api.Note{
		{Kind: api.Put, Key: "k", Value: "v"},
		{Kind: api.Put},
		{Kind: api.Put, Key: size(16), Value: size(32)},
		{Kind: api.Put, Key: "\x00\x01", Value: "\xff\x00"},
		{Kind: api.Put, Key: "é", Value: strings.Repeat("é", 16)},
		{Kind: api.Del, Key: "d"},
		{Kind: api.Del},
		{Kind: api.Del, Key: size(16)},
		{Kind: api.Add, Key: "n", N: 5},
		{Kind: api.Add},
		{Kind: api.Add, Key: "n", N: 0x0102030405060708},
		{Kind: api.Add, Key: size(16), N: math.MaxUint64},
		{Kind: api.Add, N: 1 << 63},
	}
}

// wrongNotes have parts that can be written, so that their bytes can be handed
// in, too. TestUnwritable has the others.
func wrongNotes() []api.Note {
	l := []api.Note{
		{Kind: api.Put, Key: size(17), Value: "v"},
		{Kind: api.Put, Key: "k", Value: size(33)},
		{Kind: api.Put, Key: "k", Value: "v", N: 1},
		{Kind: api.Put, N: math.MaxUint64},
		{Kind: api.Del, Key: size(17)},
		{Kind: api.Del, Key: "k", Value: "v"},
		{Kind: api.Del, Key: "k", N: 1},
		{Kind: api.Add, Key: size(17), N: 1},
		{Kind: api.Add, Key: "k", Value: "v", N: 1},
		{Kind: api.Add, Key: "k", Value: "\x00"},
		{Kind: api.Put, Key: size(65535), Value: "v"},
		{Kind: api.Put, Key: "k", Value: size(65535)},
	}
	for k := range 256 {
		if k < 1 || k > 3 {
			l = append(l, api.Note{Kind: k}, api.Note{Kind: k, Key: "k", Value: "v", N: 1})
		}
	}
	return l
}

func rightPairs() []api.Pair {
	return []api.Pair{
		{Key: "k", Value: "v"},
		{},
		{Key: "k"},
		{Value: "v"},
		{Key: size(16), Value: size(32)},
		{Key: strings.Repeat("\xff", 16), Value: strings.Repeat("\x00", 32)},
		{Key: strings.Repeat("é", 8), Value: "\x00\x01a"},
	}
}

func wrongPairs() []api.Pair {
	return []api.Pair{
		{Key: size(17), Value: "v"},
		{Key: "k", Value: size(33)},
		{Key: size(17), Value: size(33)},
		{Key: strings.Repeat("é", 9)},
		{Value: strings.Repeat("é", 17)},
		{Key: size(256)},
		{Value: size(256)},
		{Key: size(65535), Value: "v"},
		{Key: "k", Value: size(65535)},
	}
}

// seqs, keys and values are parts of changes that may be: ordinary ones, and
// those at the edges.
func seqs() []int      { return []int{1, 2, 258, 1 << 24, math.MaxInt32 - 1, math.MaxInt32} }
func keys() []string   { return []string{"", "k", "\x00", "é", size(15), size(16)} }
func values() []string { return []string{"", "v", "\x00", "\x00\x01a", size(31), size(32)} }

// badSeqs are no Seqs, but need no more than four bytes.
func badSeqs() []int { return []int{0, 1 << 31, 1<<31 + 1, math.MaxUint32 - 1, math.MaxUint32} }

// allChanges are those of all these parts.
func allChanges(seqs []int, keys, values []string) []api.Change {
	var l []api.Change
	for _, seq := range seqs {
		for _, key := range keys {
			for _, before := range values {
				for _, after := range values {
					for bits := range 4 {
						l = append(l, api.Change{Seq: seq, Key: key, Had: bits&1 != 0, Before: before, Has: bits&2 != 0, After: after})
					}
				}
			}
		}
	}
	return l
}

func rightChanges() []api.Change {
	all := allChanges([]int{1, math.MaxInt32}, []string{"", "k", size(16)}, []string{"", "v", size(32)})
	return slices.DeleteFunc(all, func(c api.Change) bool { return !mayOf(c) })
}

func wrongChanges() []api.Change {
	seqs, keys, values := append(badSeqs(), 1), []string{"", "k", size(17)}, []string{"", "v", size(33)}
	all := allChanges(seqs, keys, values)
	return append(slices.DeleteFunc(all, mayOf),
		api.Change{Seq: 1, Key: size(65535), Has: true},
		api.Change{Seq: 1, Had: true, Before: size(65535)},
		api.Change{Seq: 1, Has: true, After: size(65535)},
	)
}

func rightRanges() []api.Range {
	return []api.Range{
		{Lo: "a", Hi: "b"},
		{},
		{Open: true},
		{Lo: "a", Open: true},
		{Lo: "b", Hi: "a"},
		{Lo: "a", Hi: "a"},
		{Hi: "\x00"},
		{Lo: "\x00\x01", Hi: "\xff"},
		{Lo: size(16), Hi: size(17)},
		{Lo: size(16), Open: true},
		{Lo: size(15), Hi: size(16) + "\x00"},
	}
}

func wrongRanges() []api.Range {
	return []api.Range{
		{Lo: size(17), Hi: "b"},
		{Lo: size(17), Open: true},
		{Lo: "a", Hi: size(18)},
		{Lo: "a", Hi: "b", Open: true},
		{Lo: "a", Hi: "\x00", Open: true},
		{Hi: size(17), Open: true},
		{Lo: size(256), Hi: size(256)},
		{Lo: size(65535)},
		{Hi: size(65535)},
	}
}

// tails are what may stand behind.
func tails() []string {
	return []string{"", "\x00", "\x00\x00", "!", "\x00\x01a\x00\x01b\x00", "\x01\x00\x01k\x00\x00", strings.Repeat("\xff", 300)}
}

// P13.1: a change may be, as its parts say, up to their edges.
func TestMay(t *testing.T) {
	seqs := append(seqs(), badSeqs()...)
	seqs = append(seqs, -1, math.MinInt32, math.MinInt, 1<<32, 1<<32+1, 1<<40, math.MaxInt)
	keys := append(keys(), size(17), size(32), strings.Repeat("é", 9), size(70_000))
	values := append(values(), size(33), strings.Repeat("é", 17), size(64), size(70_000))
	for _, c := range allChanges(seqs, keys, values) {
		if May(c) != mayOf(c) {
			t.Fatalf("May of Seq %d, Key of %d bytes, %t %d, %t %d: %t", c.Seq, len(c.Key), c.Had, len(c.Before), c.Has, len(c.After), !mayOf(c))
		}
	}
}

// P13.1: likewise, one by one.
func TestMayByHand(t *testing.T) {
	for i, c := range []struct {
		c    api.Change
		want bool
	}{
		{api.Change{Seq: 1, Key: "k", Has: true, After: "a"}, true},
		{api.Change{Seq: 1, Key: "k", Had: true, Before: "b"}, true},
		{api.Change{Seq: 1, Key: "k", Had: true, Before: "b", Has: true, After: "b"}, true},
		{api.Change{Seq: 1, Had: true, Has: true}, true},
		{api.Change{Seq: math.MaxInt32, Key: size(16), Had: true, Before: size(32), Has: true, After: size(32)}, true},
		{api.Change{}, false},
		{api.Change{Seq: 1, Key: "k"}, false},
		{api.Change{Seq: 0, Key: "k", Has: true}, false},
		{api.Change{Seq: -1, Key: "k", Has: true}, false},
		{api.Change{Seq: 1 << 31, Key: "k", Has: true}, false},
		{api.Change{Seq: 1, Key: size(17), Has: true}, false},
		{api.Change{Seq: 1, Key: "k", Has: true, Before: "b"}, false},
		{api.Change{Seq: 1, Key: "k", Had: true, After: "a"}, false},
		{api.Change{Seq: 1, Key: "k", Before: "b", After: "a"}, false},
		{api.Change{Seq: 1, Key: "k", Had: true, Before: size(33)}, false},
		{api.Change{Seq: 1, Key: "k", Has: true, After: size(33)}, false},
	} {
		if May(c.c) != c.want {
			t.Errorf("%d: May(%#v) = %t", i, c.c, !c.want)
		}
	}
}

// P13.1: bytes by hand, the example among them.
func TestBytesByHand(t *testing.T) {
	put := api.Note{Kind: api.Put, Key: "k", Value: "vw"}
	add := api.Note{Kind: api.Add, Key: "n", N: 0x0102030405060708}
	was := api.Change{Seq: 0x01020304, Key: "k", Had: true, Before: "b"}
	is := api.Change{Seq: 5, Key: "é", Has: true, After: "xyz"}
	for i, c := range []struct {
		write func() (string, api.Errno)
		want  string
	}{
		{func() (string, api.Errno) { return Pairs() }, "\x00\x00"},
		{func() (string, api.Errno) { return Notes() }, "\x00\x00"},
		{func() (string, api.Errno) { return Changes() }, "\x00\x00"},
		{func() (string, api.Errno) { return Notes(put) }, "\x00\x01\x01\x00\x01k\x00\x02vw\x00\x00\x00\x00\x00\x00\x00\x00"},
		{func() (string, api.Errno) { return Notes(api.Note{Kind: api.Del}, add) }, "\x00\x02\x02\x00\x00\x00\x00\x00\x00\x00\x00\x00\x00\x00\x00\x03\x00\x01n\x00\x00\x01\x02\x03\x04\x05\x06\x07\x08"},
		{func() (string, api.Errno) { return Pairs(api.Pair{Key: "b", Value: "v"}, api.Pair{Key: "a"}) }, "\x00\x02\x00\x01b\x00\x01v\x00\x01a\x00\x00"},
		{func() (string, api.Errno) { return Changes(was, is) }, "\x00\x02\x01\x02\x03\x04\x00\x01k\x01\x00\x01b\x00\x00\x00\x00\x00\x00\x05\x00\x02\xc3\xa9\x00\x00\x00\x01\x00\x03xyz"},
		{func() (string, api.Errno) { return Range(api.Range{}) }, "\x00\x00\x00\x00\x00"},
		{func() (string, api.Errno) { return Range(api.Range{Lo: "a", Hi: "bc"}) }, "\x00\x01a\x00\x02bc\x00"},
		{func() (string, api.Errno) { return Range(api.Range{Lo: "a", Open: true}) }, "\x00\x01a\x00\x00\x01"},
	} {
		if s, e := c.write(); s != c.want || e != api.OK {
			t.Errorf("%d: %q, %d, not %q", i, s, e, c.want)
		}
	}
}

// lists are those of no, one, two and all of l, upside down too, and of one
// thing twice.
func lists[T any](l []T) [][]T {
	all := [][]T{nil, {}, l}
	down := slices.Clone(l)
	slices.Reverse(down)
	all = append(all, down)
	for i, x := range l {
		all = append(all, []T{x}, []T{x, l[(i+1)%len(l)]}, []T{x, x})
	}
	return all
}

// testList: of what is right there are the bytes, and these are taken, whatever
// stands behind.
func testList[T comparable](t *testing.T, k kind[T]) {
	for i, l := range lists(k.right) {
		was := slices.Clone(l)
		s, e := k.write(l...)
		if want := k.listBytes(l); s != want || e != api.OK {
			t.Fatalf("list %d: %q, %d, not %q", i, s, e, want)
		}
		for _, tail := range tails() {
			if got, rest, e := k.take(s + tail); !slices.Equal(got, l) || rest != tail || e != api.OK {
				t.Fatalf("list %d, taken: %v, %q, %d", i, got, rest, e)
			}
		}
		if !slices.Equal(l, was) {
			t.Fatalf("list %d was changed", i)
		}
	}
}

// P13.1 to P13.3: lists, in whatever order.
func TestLists(t *testing.T) {
	t.Run("notes", func(t *testing.T) { testList(t, notes()) })
	t.Run("pairs", func(t *testing.T) { testList(t, pairs()) })
	t.Run("changes", func(t *testing.T) { testList(t, changes()) })
}

// refuseTake: nothing is told of s but ErrForm.
func refuseTake[T comparable](t *testing.T, k kind[T], s string) {
	t.Helper()
	if l, rest, e := k.take(s); len(l) != 0 || rest != "" || e != api.ErrForm {
		t.Fatalf("taken of %q: %v, %q, %d", s, l, rest, e)
	}
}

// refuseWrite: nothing is told of l but ErrArg.
func refuseWrite[T comparable](t *testing.T, k kind[T], l []T) {
	t.Helper()
	if s, e := k.write(l...); s != "" || e != api.ErrArg {
		t.Fatalf("written of %v: %q, %d", l, s, e)
	}
}

// among answers the lists that have x at one place, and right ones elsewhere.
func among[T any](x T, right []T) [][]T {
	a, b := right[0], right[1]
	return [][]T{{x}, {x, a, b}, {a, x, b}, {a, b, x}}
}

// testWrong: what is none is neither written nor taken, wherever it stands.
func testWrong[T comparable](t *testing.T, k kind[T]) {
	for _, x := range k.wrong {
		for _, l := range among(x, k.right) {
			refuseWrite(t, k, l)
			for _, tail := range tails() {
				refuseTake(t, k, k.listBytes(l)+tail)
			}
		}
	}
}

// P13.1, P13.2: what is none has no bytes, and those that it would have are
// none.
func TestWrong(t *testing.T) {
	t.Run("notes", func(t *testing.T) { testWrong(t, notes()) })
	t.Run("pairs", func(t *testing.T) { testWrong(t, pairs()) })
	t.Run("changes", func(t *testing.T) { testWrong(t, changes()) })
}

// P13.1: what is none, and has parts that no bytes could hold.
func TestUnwritable(t *testing.T) {
	long := size(65536)
	for _, x := range []api.Note{
		{Kind: -1, Key: "k"},
		{Kind: 256 + api.Put, Key: "k"},
		{Kind: 1<<32 + api.Del},
		{Kind: math.MinInt},
		{Kind: math.MaxInt},
		{Kind: api.Put, Key: long},
		{Kind: api.Put, Value: long},
	} {
		for _, l := range among(x, rightNotes()) {
			refuseWrite(t, notes(), l)
		}
	}
	for _, x := range []api.Pair{{Key: long}, {Value: long}, {Key: long, Value: long}} {
		for _, l := range among(x, rightPairs()) {
			refuseWrite(t, pairs(), l)
		}
	}
	for _, x := range []api.Change{
		{Seq: -1, Has: true},
		{Seq: math.MinInt, Has: true},
		{Seq: 1 << 32, Has: true},
		{Seq: 1<<32 + 1, Has: true},
		{Seq: math.MaxInt, Has: true},
		{Seq: 1, Key: long, Has: true},
		{Seq: 1, Had: true, Before: long},
		{Seq: 1, Has: true, After: long},
	} {
		for _, l := range among(x, rightChanges()) {
			refuseWrite(t, changes(), l)
		}
	}
}

// testMany: there are at most 65,535.
func testMany[T comparable](t *testing.T, k kind[T]) {
	for _, n := range []int{255, 256, 257, 65534, 65535} {
		l := make([]T, n)
		for i := range l {
			l[i] = k.right[i%len(k.right)]
		}
		s, e := k.write(l...)
		if s != k.listBytes(l) || e != api.OK {
			t.Fatalf("%d: %d bytes, %d", n, len(s), e)
		}
		if got, rest, e := k.take(s + "!"); !slices.Equal(got, l) || rest != "!" || e != api.OK {
			t.Fatalf("%d: %d are taken, %q, %d", n, len(got), rest, e)
		}
		refuseTake(t, k, s[:len(s)-1])
	}
	for _, n := range []int{65536, 65537, 131072} {
		refuseWrite(t, k, slices.Repeat(k.right[:1], n))
		refuseWrite(t, k, slices.Repeat(k.wrong[:1], n))
	}
}

// P13.1: up to 65,535, and not one more.
func TestMany(t *testing.T) {
	t.Run("notes", func(t *testing.T) { testMany(t, notes()) })
	t.Run("pairs", func(t *testing.T) { testMany(t, pairs()) })
	t.Run("changes", func(t *testing.T) { testMany(t, changes()) })
}

// testCut: what is cut off, or tells of more than there is, is none.
func testCut[T comparable](t *testing.T, k kind[T]) {
	for _, l := range lists(k.right[:min(len(k.right), 9)]) {
		s := k.listBytes(l)
		for i := range len(s) {
			refuseTake(t, k, s[:i])
		}
		for _, n := range []int{len(l) + 1, len(l) + 256, 65535} {
			refuseTake(t, k, be(uint64(n), 2)+s[2:])
		}
		for n := range len(l) {
			rest := strings.TrimPrefix(s[2:], k.listBytes(l[:n])[2:])
			if got, left, e := k.take(be(uint64(n), 2) + s[2:]); !slices.Equal(got, l[:n]) || left != rest || e != api.OK {
				t.Fatalf("the first %d of %d: %v, %q, %d", n, len(l), got, left, e)
			}
		}
	}
}

// P13.2: what is cut off at any byte, and counts that are others.
func TestCut(t *testing.T) {
	t.Run("notes", func(t *testing.T) { testCut(t, notes()) })
	t.Run("pairs", func(t *testing.T) { testCut(t, pairs()) })
	t.Run("changes", func(t *testing.T) { testCut(t, changes()) })
}

// P13.1 to P13.3: ranges.
func TestRange(t *testing.T) {
	for _, r := range rightRanges() {
		s, e := Range(r)
		if s != rangeBytesOf(r) || e != api.OK {
			t.Errorf("Range(%v) = %q, %d", r, s, e)
		}
		for _, tail := range tails() {
			if got, rest, e := TakeRange(s + tail); got != r || rest != tail || e != api.OK {
				t.Errorf("TakeRange(%q) = %v, %q, %d", s+tail, got, rest, e)
			}
		}
		for i := range len(s) {
			refuseRange(t, s[:i])
		}
	}
}

// refuseRange: nothing is told of s but ErrForm.
func refuseRange(t *testing.T, s string) {
	t.Helper()
	if r, rest, e := TakeRange(s); r != (api.Range{}) || rest != "" || e != api.ErrForm {
		t.Errorf("TakeRange(%q) = %v, %q, %d", s, r, rest, e)
	}
}

// P13.1, P13.2: ranges that may not be have no bytes, and those that they would
// have are none.
func TestWrongRange(t *testing.T) {
	l := wrongRanges()
	for _, r := range l {
		for _, tail := range tails() {
			refuseRange(t, rangeBytesOf(r)+tail)
		}
	}
	for _, r := range append(l, api.Range{Lo: size(65536)}, api.Range{Hi: size(70_000)}) {
		if s, e := Range(r); s != "" || e != api.ErrArg {
			t.Errorf("Range(%v) = %q, %d", r, s, e)
		}
	}
}

// P13.2, P13.3: a yes or no is 1 or 0, and no other byte.
func TestFlags(t *testing.T) {
	changes := changes()
	for n := range 256 {
		b := be(uint64(n), 1)
		r, c := "\x00\x01a\x00\x00"+b+"!", "\x00\x01\x00\x00\x00\x01\x00\x01k"
		had, has := c+b+"\x00\x00\x01\x00\x01v!", c+"\x01\x00\x01v"+b+"\x00\x00!"
		if n > 1 {
			refuseRange(t, r)
			refuseTake(t, changes, had)
			refuseTake(t, changes, has)
			continue
		}
		if got, rest, e := TakeRange(r); got != (api.Range{Lo: "a", Open: n == 1}) || rest != "!" || e != api.OK {
			t.Errorf("Open %d: %v, %q, %d", n, got, rest, e)
		}
		if l, rest, e := TakeChanges(had); len(l) != 1 || l[0] != (api.Change{Seq: 1, Key: "k", Had: n == 1, Has: true, After: "v"}) || rest != "!" || e != api.OK {
			t.Errorf("Had %d: %v, %q, %d", n, l, rest, e)
		}
		if l, rest, e := TakeChanges(has); len(l) != 1 || l[0] != (api.Change{Seq: 1, Key: "k", Had: true, Before: "v", Has: n == 1}) || rest != "!" || e != api.OK {
			t.Errorf("Has %d: %v, %q, %d", n, l, rest, e)
		}
	}
}

// others answers each text that has one byte of s changed, and those that have
// one left out, or one more.
func others(s string) []string {
	var l []string
	for i := range len(s) {
		for b := range 256 {
			l = append(l, s[:i]+be(uint64(b), 1)+s[i+1:])
		}
		l = append(l, s[:i]+s[i+1:], s[:i]+"\x00"+s[i:], s[:i]+"\x01"+s[i:])
	}
	return l
}

// testOneWay: what s begins with is taken, and if it is, what is written of it,
// and the rest, are s.
func testOneWay[T comparable](t *testing.T, k kind[T], s string) {
	t.Helper()
	want, left, ok := k.begins(s)
	if !ok {
		refuseTake(t, k, s)
		return
	}
	l, rest, e := k.take(s)
	if !slices.Equal(l, want) || rest != left || e != api.OK {
		t.Fatalf("taken of %q: %v, %q, %d, not %v, %q", s, l, rest, e, want, left)
	}
	if w, e := k.write(l...); w+rest != s || e != api.OK {
		t.Fatalf("%q is written as %q, %d", s, w, e)
	}
}

// testRangeOneWay is that of ranges.
func testRangeOneWay(t *testing.T, s string) {
	t.Helper()
	want := readRange(&letters{s: s})
	left, ok := strings.CutPrefix(s, rangeBytesOf(want))
	if !ok || !rangeMay(want) {
		refuseRange(t, s)
		return
	}
	r, rest, e := TakeRange(s)
	if r != want || rest != left || e != api.OK {
		t.Fatalf("taken of %q: %v, %q, %d, not %v, %q", s, r, rest, e, want, left)
	}
	if w, e := Range(r); w+rest != s || e != api.OK {
		t.Fatalf("%q is written as %q, %d", s, w, e)
	}
}

// P13.2, P13.3: what is another text by one byte is taken just if it begins
// with what may be, and each list and range has one way to be written.
func TestOneWay(t *testing.T) {
	n, p, c := notes(), pairs(), changes()
	for _, s := range others(n.listBytes(n.right)) {
		testOneWay(t, n, s)
	}
	for _, s := range others(p.listBytes(p.right)) {
		testOneWay(t, p, s)
	}
	for _, s := range others(c.listBytes([]api.Change{
		{Seq: 1, Key: "k", Had: true, Before: "b", Has: true, After: "a"},
		{Seq: math.MaxInt32, Key: size(16), Had: true, Before: size(32)},
		{Seq: 3, Has: true, After: size(32)},
	})) {
		testOneWay(t, c, s)
	}
	for _, r := range rightRanges() {
		for _, s := range others(rangeBytesOf(r) + "!") {
			testRangeOneWay(t, s)
		}
	}
}

// P13.2: lengths and parts of all kinds, of one that stands alone.
func TestTakeEachPart(t *testing.T) {
	n, p, c := notes(), pairs(), changes()
	for kind := range 256 {
		for _, add := range []uint64{0, 1, math.MaxUint64} {
			testOneWay(t, n, listOf(noteBytesOf(api.Note{Kind: kind, Key: "k", N: add})))
		}
	}
	for key := range 40 {
		for value := range 70 {
			testOneWay(t, p, listOf(pairBytesOf(api.Pair{Key: size(key), Value: size(value)})))
			testOneWay(t, n, listOf(noteBytesOf(api.Note{Kind: api.Put, Key: size(key), Value: size(value)})))
			testRangeOneWay(t, rangeBytesOf(api.Range{Lo: size(key), Hi: size(value)}))
			testRangeOneWay(t, rangeBytesOf(api.Range{Lo: size(key), Hi: size(value), Open: true}))
		}
	}
	for _, x := range allChanges(append(seqs(), badSeqs()...), append(keys(), size(17)), append(values(), size(33))) {
		testOneWay(t, c, listOf(changeBytesOf(x)))
	}
}

// P1: of all texts of up to two bytes, and of long ones of one byte, each call
// answers what there is.
func TestTakeShort(t *testing.T) {
	n, p, c := notes(), pairs(), changes()
	l := []string{""}
	for a := range 256 {
		l = append(l, be(uint64(a), 1), strings.Repeat(be(uint64(a), 1), 70_000))
	}
	for a := range 65536 {
		l = append(l, be(uint64(a), 2))
	}
	for _, s := range l {
		testOneWay(t, n, s)
		testOneWay(t, p, s)
		testOneWay(t, c, s)
		testRangeOneWay(t, s)
	}
}
