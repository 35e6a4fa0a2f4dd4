package batch

import (
	"math"
	"slices"
	"strings"
	"testing"

	"weirkeeper/api"
	"weirkeeper/change"
	"weirkeeper/leaf"
)

// eight answers the eight bytes of n.
func eight(n uint64) string {
	var b [8]byte
	for i := range b {
		b[i] = byte(n >> (56 - 8*i))
	}
	return string(b[:])
}

// size answers a text of n bytes.
func size(n int) string {
	return strings.Repeat("k", n)
}

// put, del and add are notes of a key.
func put(key, value string) api.Note       { return api.Note{Kind: api.Put, Key: key, Value: value} }
func del(key string) api.Note              { return api.Note{Kind: api.Del, Key: key} }
func add(key string, n uint64) api.Note    { return api.Note{Kind: api.Add, Key: key, N: n} }
func notes(l ...api.Note) []api.Note       { return l }
func times(n int, x api.Note) []api.Note   { return slices.Repeat(notes(x), n) }
func many(l ...[]api.Note) [][]api.Note    { return l }
func changes(l ...api.Change) []api.Change { return l }

// born, gone and set are changes of a key that comes, goes, and has another
// value than it had.
func born(seq int, key, after string) api.Change {
	return api.Change{Seq: seq, Key: key, Has: true, After: after}
}
func gone(seq int, key, before string) api.Change {
	return api.Change{Seq: seq, Key: key, Had: true, Before: before}
}
func set(seq int, key, before, after string) api.Change {
	return api.Change{Seq: seq, Key: key, Had: true, Before: before, Has: true, After: after}
}

// of answers the pairs of keys and values that are given by turns.
func of(l ...string) []api.Pair {
	var pairs []api.Pair
	for i := 0; i+1 < len(l); i += 2 {
		pairs = append(pairs, api.Pair{Key: l[i], Value: l[i+1]})
	}
	return pairs
}

// unwell are pairs that do not stand well, each in another way.
func unwell() [][]api.Pair {
	return [][]api.Pair{
		of("a", "x", "a", "x"),
		of("b", "1", "a", "2"),
		of("a", "1", "c", "2", "b", "3"),
		of("a", "1", "", "2"),
		of(size(17), ""),
		of("a", "", size(17), "", "z", ""),
		of("a", size(33)),
		of("a", "", "b", "", "c", size(33)),
	}
}

// wrongNotes are none, each in another way.
func wrongNotes() []api.Note {
	return []api.Note{
		{},
		{Key: "a", Value: "x"},
		{Kind: -1, Key: "a"},
		{Kind: 4, Key: "a"},
		{Kind: math.MinInt},
		put(size(17), ""),
		put("a", size(33)),
		{Kind: api.Put, Key: "a", N: 1},
		del(size(17)),
		{Kind: api.Del, Key: "a", Value: "x"},
		{Kind: api.Del, Key: "a", N: 1},
		add(size(17), 1),
		{Kind: api.Add, Key: "a", Value: eight(1), N: 1},
	}
}

// wrongBatches are none: of what is no note, at each place, or of too many.
func wrongBatches() [][]api.Note {
	var l [][]api.Note
	for _, n := range wrongNotes() {
		l = append(l, notes(n), notes(n, put("a", "1")), notes(put("a", "1"), n), notes(del("a"), n, put("a", "1")), append(times(7, put("a", "1")), n))
	}
	for _, n := range []api.Note{put("a", "1"), del("a"), del("none"), add("n", 1)} {
		l = append(l, times(9, n), times(10, n), times(300, n))
	}
	return l
}

// wrongSeqs are below 0, or above MaxNum.
func wrongSeqs() []int {
	return []int{-1, -2, math.MinInt, math.MinInt + 1, -2147483648, 2147483648, math.MaxInt - 1, math.MaxInt}
}

// numbers answers numbers from 0 up to below the one it is asked for, the same
// ones in every run.
func numbers(seed uint64) func(int) int {
	s := seed*2 + 1
	return func(below int) int {
		s = s*6364136223846793005 + 1442695040888963407
		return int(s >> 33 % uint64(below))
	}
}

// P17.1: what is a batch: at most eight notes.
func TestRight(t *testing.T) {
	for _, l := range [][]api.Note{
		nil,
		{},
		{put("", "")},
		{put(size(16), size(32))},
		{del("a"), add("a", math.MaxUint64), put("a", "x"), del("a")},
		times(7, del("a")),
		times(8, put("a", "x")),
		times(8, del("none")),
	} {
		was := slices.Clone(l)
		if !Right(l...) {
			t.Errorf("%v is a batch", l)
		}
		if !slices.Equal(l, was) {
			t.Errorf("%v was changed to %v", was, l)
		}
	}
	for _, l := range wrongBatches() {
		if Right(l...) {
			t.Errorf("%v is no batch", l)
		}
	}
}

// ran asks what Run answers, and that nothing that was handed in is changed.
func ran(t *testing.T, l []api.Pair, seq int, n []api.Note, c []api.Change, behind []api.Pair, e api.Errno) {
	t.Helper()
	was, given := slices.Clone(l), slices.Clone(n)
	gotC, got, f := Run(l, seq, n...)
	if !slices.Equal(gotC, c) || !slices.Equal(got, behind) || f != e {
		t.Errorf("Run(%q, %d, %v) = %v, %q, %d; want %v, %q, %d", l, seq, n, gotC, got, f, c, behind, e)
	}
	if !slices.Equal(l, was) || !slices.Equal(n, given) {
		t.Errorf("Run changed what was handed in: %q, %v", l, n)
	}
}

// refused asks that Run is refused: no changes, and the pairs as they were.
func refused(t *testing.T, l []api.Pair, seq int, n []api.Note, e api.Errno) {
	t.Helper()
	ran(t, l, seq, n, nil, l, e)
}

// P17.1: the changes of a batch, from the Seq behind seq on, and the pairs
// behind them.
func TestRun(t *testing.T) {
	l := of("b", "x", "d", eight(7))
	for _, x := range []struct {
		l      []api.Pair
		seq    int
		n      []api.Note
		c      []api.Change
		behind []api.Pair
	}{
		{nil, 0, nil, nil, nil},
		{nil, 0, notes(put("a", "1"), del("b")), changes(born(1, "a", "1")), of("a", "1")},
		{nil, 0, notes(put("", "")), changes(born(1, "", "")), of("", "")},
		{nil, 5, notes(del("a")), nil, nil},
		{l, 0, nil, nil, l},
		{l, 4, notes(del("a"), del("c"), del("e")), nil, l},
		{l, 4, notes(put("b", "x")), changes(set(5, "b", "x", "x")), l},
		{l, 4, notes(put("b", "y")), changes(set(5, "b", "x", "y")), of("b", "y", "d", eight(7))},
		{l, 4, notes(del("b")), changes(gone(5, "b", "x")), of("d", eight(7))},
		{l, 4, notes(del("d")), changes(gone(5, "d", eight(7))), of("b", "x")},
		{l, 4, notes(del("d"), del("b")), changes(gone(5, "d", eight(7)), gone(6, "b", "x")), nil},
		{l, 4, notes(add("d", 3), add("b", 2), add("c", 1)),
			changes(set(5, "d", eight(7), eight(10)), set(6, "b", "x", eight(2)), born(7, "c", eight(1))),
			of("b", eight(2), "c", eight(1), "d", eight(10))},
		// Notes of one key, of the pairs that the ones ahead made.
		{l, 10, notes(put("b", "1"), put("b", "2"), del("b"), del("b"), put("b", "3"), add("b", 4)),
			changes(set(11, "b", "x", "1"), set(12, "b", "1", "2"), gone(13, "b", "2"), born(14, "b", "3"), set(15, "b", "3", eight(4))),
			of("b", eight(4), "d", eight(7))},
		{l, 10, notes(del("b"), del("b"), del("b")), changes(gone(11, "b", "x")), of("d", eight(7))},
		{nil, 0, notes(put("a", "x"), del("a"), add("a", 1), del("a"), del("a")),
			changes(born(1, "a", "x"), gone(2, "a", "x"), born(3, "a", eight(1)), gone(4, "a", eight(1))), nil},
		// What makes nothing takes no Seq, wherever it stands.
		{l, 100, notes(del("a"), put("a", "1"), del("c"), put("e", "2"), del("c"), del("a"), del("a")),
			changes(born(101, "a", "1"), born(102, "e", "2"), gone(103, "a", "1")),
			of("b", "x", "d", eight(7), "e", "2")},
		// Changes of different keys stand as the notes did.
		{nil, 0, notes(put("c", "1"), put("a", "2"), put("b", "3"), put("d", "4"), put("", "5"), put(size(16), size(32)), put("A", "7"), put("\xff", "8")),
			changes(born(1, "c", "1"), born(2, "a", "2"), born(3, "b", "3"), born(4, "d", "4"), born(5, "", "5"), born(6, size(16), size(32)), born(7, "A", "7"), born(8, "\xff", "8")),
			of("", "5", "A", "7", "a", "2", "b", "3", "c", "1", "d", "4", size(16), size(32), "\xff", "8")},
		{nil, 0, times(8, add("n", math.MaxUint64)),
			changes(born(1, "n", eight(math.MaxUint64)), set(2, "n", eight(math.MaxUint64), eight(math.MaxUint64-1)), set(3, "n", eight(math.MaxUint64-1), eight(math.MaxUint64-2)),
				set(4, "n", eight(math.MaxUint64-2), eight(math.MaxUint64-3)), set(5, "n", eight(math.MaxUint64-3), eight(math.MaxUint64-4)), set(6, "n", eight(math.MaxUint64-4), eight(math.MaxUint64-5)),
				set(7, "n", eight(math.MaxUint64-5), eight(math.MaxUint64-6)), set(8, "n", eight(math.MaxUint64-6), eight(math.MaxUint64-7))),
			of("n", eight(math.MaxUint64-7))},
	} {
		ran(t, x.l, x.seq, x.n, x.c, x.behind, api.OK)
	}
}

// P17.1: ErrArg, though there would be no change, or ErrFull beside.
func TestRunWrong(t *testing.T) {
	l := of("a", "x", "c", "y")
	for _, n := range wrongBatches() {
		for _, seq := range []int{0, 9, api.MaxNum} {
			refused(t, l, seq, n, api.ErrArg)
			refused(t, nil, seq, n, api.ErrArg)
		}
	}
	for _, n := range [][]api.Note{nil, notes(put("a", "1")), notes(del("none")), times(8, put("zz", "1"))} {
		for _, u := range unwell() {
			refused(t, u, 0, n, api.ErrArg)
			refused(t, u, api.MaxNum, n, api.ErrArg)
			refused(t, u, -1, n, api.ErrArg)
		}
		for _, seq := range wrongSeqs() {
			refused(t, l, seq, n, api.ErrArg)
			refused(t, nil, seq, n, api.ErrArg)
		}
	}
}

// P17.1: ErrFull hangs on how many notes there are, not on what they make.
func TestRunFull(t *testing.T) {
	l := of("a", "x")
	for n := range 9 {
		for _, x := range []api.Note{put("a", "1"), del("none"), add("n", 1)} {
			b := times(n, x)
			for over := 1; over <= n; over++ {
				refused(t, l, 2147483647-n+over, b, api.ErrFull)
				refused(t, nil, 2147483647-n+over, b, api.ErrFull)
			}
			if _, _, e := Run(l, 2147483647-n, b...); e != api.OK {
				t.Errorf("there are Seqs for all %d: %d", n, e)
			}
		}
	}
	ran(t, l, api.MaxNum, nil, nil, l, api.OK)
	ran(t, l, 2147483646, notes(put("a", "y")), changes(set(2147483647, "a", "x", "y")), of("a", "y"), api.OK)
	ran(t, nil, 2147483645, notes(put("a", "y"), del("a")), changes(born(2147483646, "a", "y"), gone(2147483647, "a", "y")), nil, api.OK)
	ran(t, l, 2147483646, notes(del("none")), nil, l, api.OK)
}

// alled asks what All answers, and that nothing that was handed in is changed.
func alled(t *testing.T, l []api.Pair, seq int, b [][]api.Note, c []api.Change, behind []api.Pair, ends []int, e api.Errno) {
	t.Helper()
	was := slices.Clone(l)
	var given [][]api.Note
	for _, n := range b {
		given = append(given, slices.Clone(n))
	}
	gotC, got, gotEnds, f := All(l, seq, b...)
	if !slices.Equal(gotC, c) || !slices.Equal(got, behind) || !slices.Equal(gotEnds, ends) || f != e {
		t.Errorf("All(%q, %d, %v) = %v, %q, %v, %d; want %v, %q, %v, %d", l, seq, b, gotC, got, gotEnds, f, c, behind, ends, e)
	}
	if !slices.Equal(l, was) || !slices.EqualFunc(b, given, slices.Equal) {
		t.Errorf("All changed what was handed in: %q, %v", l, b)
	}
}

// P17.2: batches, one behind the other, on the pairs behind the one ahead.
func TestAll(t *testing.T) {
	l := of("b", "x", "d", "y")
	for _, x := range []struct {
		l      []api.Pair
		seq    int
		b      [][]api.Note
		c      []api.Change
		behind []api.Pair
		ends   []int
	}{
		{nil, 0, nil, nil, nil, nil},
		{l, 7, nil, nil, l, nil},
		{l, 7, many(nil), nil, l, []int{7}},
		{nil, 0, many(nil, notes(), nil), nil, nil, []int{0, 0, 0}},
		{l, 7, many(notes(put("a", "1"))), changes(born(8, "a", "1")), of("a", "1", "b", "x", "d", "y"), []int{8}},
		{l, 7, many(notes(del("none")), notes(del("b"), del("none")), nil, notes(del("b")), notes(put("b", "z"), add("e", 2))),
			changes(gone(8, "b", "x"), born(9, "b", "z"), born(10, "e", eight(2))),
			of("b", "z", "d", "y", "e", eight(2)), []int{7, 8, 8, 8, 10}},
		{nil, 0, many(notes(put("a", "1"), put("b", "2")), notes(put("a", "3"), del("b")), notes(del("a"), put("b", "4"))),
			changes(born(1, "a", "1"), born(2, "b", "2"), set(3, "a", "1", "3"), gone(4, "b", "2"), gone(5, "a", "3"), born(6, "b", "4")),
			of("b", "4"), []int{2, 4, 6}},
		{of("n", eight(1)), 0, many(notes(add("n", 1)), notes(add("n", 1)), notes(add("n", 1))),
			changes(set(1, "n", eight(1), eight(2)), set(2, "n", eight(2), eight(3)), set(3, "n", eight(3), eight(4))),
			of("n", eight(4)), []int{1, 2, 3}},
		// Each alone is a batch; both together are none.
		{nil, 0, many(times(8, del("none")), times(8, del("none")), notes(put("a", ""))),
			changes(born(1, "a", "")), of("a", ""), []int{0, 0, 1}},
		// Up to the last Seq, and none behind it.
		{nil, 2147483645, many(notes(put("a", "1")), notes(put("b", "2")), nil),
			changes(born(2147483646, "a", "1"), born(2147483647, "b", "2")), of("a", "1", "b", "2"), []int{2147483646, 2147483647, 2147483647}},
		// A Seq that was not taken is there for the next one.
		{nil, 2147483645, many(notes(del("a"), put("a", "1")), notes(put("b", "2"))),
			changes(born(2147483646, "a", "1"), born(2147483647, "b", "2")), of("a", "1", "b", "2"), []int{2147483646, 2147483647}},
		{l, 2147483647, many(nil, nil), nil, l, []int{2147483647, 2147483647}},
	} {
		alled(t, x.l, x.seq, x.b, x.c, x.behind, x.ends, api.OK)
	}
}

// P17.2: the error of the first batch that has one; nothing of the others.
func TestAllWrong(t *testing.T) {
	l := of("a", "x", "c", "y")
	bad := func(l []api.Pair, seq int, e api.Errno, b ...[]api.Note) {
		t.Helper()
		alled(t, l, seq, b, nil, l, nil, e)
	}
	good := notes(put("a", "1"), del("c"))
	for _, n := range wrongBatches() {
		bad(l, 0, api.ErrArg, n)
		bad(l, 0, api.ErrArg, n, good)
		bad(l, 0, api.ErrArg, good, n)
		bad(l, 0, api.ErrArg, good, nil, n, good)
		bad(nil, 0, api.ErrArg, nil, n)
		bad(l, api.MaxNum, api.ErrFull, good, n)
		bad(l, api.MaxNum, api.ErrArg, n, good)
		bad(l, api.MaxNum-1, api.ErrArg, notes(put("a", "2")), n, good)
	}
	for _, b := range [][][]api.Note{many(nil), many(good), many(nil, good), many(notes(del("none")))} {
		for _, u := range unwell() {
			bad(u, 0, api.ErrArg, b...)
			bad(u, api.MaxNum, api.ErrArg, b...)
		}
		for _, seq := range wrongSeqs() {
			bad(l, seq, api.ErrArg, b...)
			bad(nil, seq, api.ErrArg, b...)
		}
	}
	bad(l, api.MaxNum, api.ErrFull, notes(put("a", "1")))
	bad(l, api.MaxNum, api.ErrFull, nil, notes(del("none")))
	bad(l, api.MaxNum-1, api.ErrFull, good)
	bad(l, api.MaxNum-1, api.ErrFull, notes(put("a", "1")), notes(put("a", "2")))
	bad(l, api.MaxNum-3, api.ErrFull, good, good)
	bad(l, api.MaxNum-2, api.ErrFull, good, notes(del("none")), good)
}

// P17.2: without a batch nothing is run: so nothing is refused.
func TestAllOfNone(t *testing.T) {
	for _, u := range unwell() {
		alled(t, u, 0, nil, nil, u, nil, api.OK)
	}
	l := of("a", "x")
	for _, seq := range wrongSeqs() {
		alled(t, l, seq, nil, nil, l, nil, api.OK)
	}
}

// P17.1, P17.2: what is answered is new memory, beside an error too.
func TestNewMemory(t *testing.T) {
	write := func(got []api.Pair) {
		for i := range got {
			got[i].Value = "!"
		}
		if len(got) > 0 {
			_ = append(got[:1], api.Pair{Key: "!"})
		}
	}
	for _, n := range [][]api.Note{nil, notes(del("none")), notes(put("b", "x")), notes(put("c", "1")), notes(api.Note{})} {
		for _, seq := range []int{0, -1, api.MaxNum} {
			l := of("a", "1", "b", "x")
			_, got, _ := Run(l, seq, n...)
			write(got)
			_, got, _, _ = All(l, seq, n, n)
			write(got)
			_, got, _, _ = All(l, seq)
			write(got)
			if !slices.Equal(l, of("a", "1", "b", "x")) {
				t.Errorf("who writes into the answer writes into what was handed in: %q", l)
			}
		}
	}
	l := of("b", "1", "a", "x")
	_, got, _ := Run(l, 0)
	write(got)
	_, got, _, _ = All(l, 0)
	write(got)
	if !slices.Equal(l, of("b", "1", "a", "x")) {
		t.Errorf("who writes into the answer writes into what does not stand well: %q", l)
	}
}

// state is what a key has, and whether it has anything.
type state struct {
	value string
	has   bool
}

// made answers what one note makes of a state, in layer 9's words.
func made(s state, n api.Note) state {
	switch n.Kind {
	case 1:
		return state{n.Value, true}
	case 2:
		return state{}
	}
	old := uint64(0)
	if s.has && len(s.value) == 8 {
		for i := range 8 {
			old = old<<8 | uint64(s.value[i])
		}
	}
	return state{eight(old + n.N), true}
}

// sorted answers the pairs that are there.
func sorted(m map[string]state) []api.Pair {
	var all []api.Pair
	for key, s := range m {
		if s.has {
			all = append(all, api.Pair{Key: key, Value: s.value})
		}
	}
	slices.SortFunc(all, func(a, b api.Pair) int { return strings.Compare(a.Key, b.Key) })
	return all
}

// told does a note to m, and answers its change, if there is one.
func told(m map[string]state, seq int, n api.Note) []api.Change {
	from := m[n.Key]
	to := made(from, n)
	m[n.Key] = to
	if !from.has && !to.has {
		return nil
	}
	return changes(api.Change{Seq: seq, Key: n.Key, Had: from.has, Before: from.value, Has: to.has, After: to.value})
}

// anyBatch answers a batch of few keys.
func anyBatch(next func(int) int) []api.Note {
	keys := []string{"", "a", "ab", "b", "c", size(16)}
	values := []string{"", "x", eight(3), size(32)}
	var l []api.Note
	for range next(9) {
		key := keys[next(6)]
		l = append(l, []api.Note{put(key, values[next(4)]), del(key), add(key, uint64(next(5)))}[next(3)])
	}
	return l
}

// P17.1, P17.2, P17.3: many batches, against a reading of the chapter with a
// store of single keys; each is run alone, too.
func TestSecondReading(t *testing.T) {
	next := numbers(17)
	for range 1500 {
		m := map[string]state{}
		for range next(6) {
			m[[]string{"", "a", "b", "d"}[next(4)]] = state{[]string{"x", eight(9)}[next(2)], true}
		}
		l, seq := sorted(m), next(20)
		now, last := l, seq
		var b [][]api.Note
		var c []api.Change
		var ends []int
		for range next(5) {
			n := anyBatch(next)
			var its []api.Change
			for _, x := range n {
				its = append(its, told(m, last+len(its)+1, x)...)
			}
			ran(t, now, last, n, its, sorted(m), api.OK)
			b, c = append(b, n), append(c, its...)
			now, last = sorted(m), last+len(its)
			ends = append(ends, last)
		}
		alled(t, l, seq, b, c, now, ends, api.OK)
		if t.Failed() {
			return
		}
	}
}

// P17.3: the pairs are those that the notes make; the changes lead there, and
// back.
func TestThereAndBack(t *testing.T) {
	next := numbers(18)
	for range 500 {
		_, l, _ := Run(nil, 0, anyBatch(next)...)
		var b [][]api.Note
		var all []api.Note
		for range next(6) {
			n := anyBatch(next)
			b, all = append(b, n), append(all, n...)
		}
		c, behind, _, e := All(l, 0, b...)
		want, f := leaf.Apply(l, all...)
		if e != api.OK || f != api.OK || !slices.Equal(behind, want) {
			t.Fatalf("All(%q, 0, %v): %q, %d; the notes make %q, %d", l, b, behind, e, want, f)
		}
		if got, e := change.Do(l, c...); e != api.OK || !slices.Equal(got, behind) {
			t.Fatalf("%v lead to %q, %d; want %q", c, got, e, behind)
		}
		if got, e := change.Undo(behind, c...); e != api.OK || !slices.Equal(got, l) {
			t.Fatalf("%v lead back to %q, %d; want %q", c, got, e, l)
		}
	}
}

// P17.2: many batches on many pairs take no more than a moment.
func TestMany(t *testing.T) {
	const much = 40_000
	var l []api.Pair
	var b [][]api.Note
	for i := range much {
		l = append(l, api.Pair{Key: eight(uint64(i)), Value: "old"})
		key := eight(uint64(i * 7919 % much))
		b = append(b, notes(put(key, "new"), add(key, 5), del("none")))
	}
	c, behind, ends, e := All(l, 0, b...)
	if e != api.OK || len(c) != 2*much || len(behind) != much || len(ends) != much {
		t.Fatalf("All of many: %d, %d, %d, %d", len(c), len(behind), len(ends), e)
	}
	for i, p := range behind {
		if p.Key != eight(uint64(i)) || p.Value != eight(5) || ends[i] != 2*i+2 || c[2*i+1].Seq != 2*i+2 {
			t.Fatalf("the pair %q, the number %d, the change %v at %d", p, ends[i], c[2*i+1], i)
		}
	}
}
