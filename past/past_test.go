package past

import (
	"math"
	"slices"
	"strings"
	"testing"

	"weirkeeper/api"
	"weirkeeper/batch"
	"weirkeeper/trail"
)

// size answers a text of n bytes.
func size(n int) string {
	return strings.Repeat("k", n)
}

// born, gone and set are changes of a key that comes, goes, and has another
// value than it had.
func born(seq int, key, after string) api.Change {
	return api.Change{Seq: seq, Key: key, Has: true, After: after}
}
func gone(seq int, key, before string) api.Change {
	return api.Change{Seq: seq, Key: key, Had: true, Before: before}
}
func set(seq int, key, before, after string) api.Change {
	return api.Change{Seq: seq, Key: key, Had: true, Before: before, Has: true, After: after}
}

// changes is a list of them.
func changes(l ...api.Change) []api.Change { return l }

// of answers the pairs of keys and values that are given by turns.
func of(l ...string) []api.Pair {
	var pairs []api.Pair
	for i := 0; i+1 < len(l); i += 2 {
		pairs = append(pairs, api.Pair{Key: l[i], Value: l[i+1]})
	}
	return pairs
}

// from, upTo and is are ranges: from a key on, up to one, and between two.
func from(lo string) api.Range   { return api.Range{Lo: lo, Open: true} }
func upTo(hi string) api.Range   { return api.Range{Hi: hi} }
func is(lo, hi string) api.Range { return api.Range{Lo: lo, Hi: hi} }

// unwell are pairs that do not stand well, each in another way.
func unwell() [][]api.Pair {
	return [][]api.Pair{
		of("a", "x", "a", "x"),
		of("b", "1", "a", "2"),
		of("a", "1", "c", "2", "b", "3"),
		of("a", "1", "", "2"),
		of(size(17), ""),
		of("a", "", size(17), "", "z", ""),
		of("a", size(33)),
		of("a", "", "b", "", "c", size(33)),
	}
}

// noTrails are none, each in another way. Their last change fits behind the
// pairs of a and x.
func noTrails() [][]api.Change {
	last := born(9, "a", "x")
	return [][]api.Change{
		changes(born(9, "b", ""), last),
		changes(born(10, "b", ""), last),
		changes(born(1, "b", ""), born(5, "c", ""), born(4, "d", ""), last),
		changes(last, last),
		changes(born(0, "b", ""), last),
		changes(born(-1, "b", ""), last),
		changes(born(math.MinInt, "b", ""), last),
		changes(last, born(api.MaxNum+1, "b", "")),
		changes(born(1, size(17), ""), last),
		changes(born(1, "b", size(33)), last),
		changes(gone(1, "b", size(33)), last),
		changes(api.Change{Seq: 1, Key: "b", Before: "x", Has: true}, last),
		changes(api.Change{Seq: 1, Key: "b", Had: true, After: "x"}, last),
		changes(api.Change{Seq: 1, Key: "b"}, last),
		changes(api.Change{}, last),
		changes(last, api.Change{Seq: 10}),
	}
}

// numbers answers numbers from 0 up to below the one it is asked for, the same
// ones in every run.
func numbers(seed uint64) func(int) int {
	s := seed*2 + 1
	return func(below int) int {
		s = s*6364136223846793005 + 1442695040888963407
		return int(s >> 33 % uint64(below))
	}
}

// told asks what all three calls answer of the pairs as of seq, and that nothing
// that was handed in is changed.
func told(t *testing.T, l []api.Pair, c []api.Change, floor, seq int, want []api.Pair) {
	t.Helper()
	was, given := slices.Clone(l), slices.Clone(c)
	if got, e := At(l, c, floor, seq); !slices.Equal(got, want) || e != api.OK {
		t.Errorf("At(%q, %v, %d, %d) = %q, %d; want %q", l, c, floor, seq, got, e, want)
	}
	for _, key := range []string{"", "a", "b", "c", "d", "e", size(16), size(17), "\xff"} {
		value, has := "", false
		for _, p := range want {
			if p.Key == key {
				value, has = p.Value, true
			}
		}
		if v, ok, e := Get(l, c, floor, seq, key); v != value || ok != has || e != api.OK {
			t.Errorf("Get(%q, %v, %d, %d, %q) = %q, %v, %d; want %q, %v", l, c, floor, seq, key, v, ok, e, value, has)
		}
	}
	for most := -1; most <= len(want)+1; most++ {
		n := min(len(want), max(most, 0))
		got, more, e := Pages(l, c, floor, seq, most, from(""))
		if !slices.Equal(got, want[:n]) || more != (n < len(want)) || e != api.OK {
			t.Errorf("Pages(%q, %v, %d, %d, %d) = %q, %v, %d; want %q", l, c, floor, seq, most, got, more, e, want[:n])
		}
	}
	if !slices.Equal(l, was) || !slices.Equal(c, given) {
		t.Errorf("what was handed in was changed: %q, %v", l, c)
	}
}

// refused asks that all three calls answer e, and nothing beside it.
func refused(t *testing.T, l []api.Pair, c []api.Change, floor, seq int, e api.Errno) {
	t.Helper()
	was, given := slices.Clone(l), slices.Clone(c)
	if got, f := At(l, c, floor, seq); len(got) > 0 || f != e {
		t.Errorf("At(%q, %v, %d, %d) = %q, %d; want %d", l, c, floor, seq, got, f, e)
	}
	for _, key := range []string{"", "a", "b", "c"} {
		if v, ok, f := Get(l, c, floor, seq, key); v != "" || ok || f != e {
			t.Errorf("Get(%q, %v, %d, %d, %q) = %q, %v, %d; want %d", l, c, floor, seq, key, v, ok, f, e)
		}
	}
	for _, most := range []int{-1, 0, 1, 99} {
		for _, r := range []api.Range{from(""), is("b", "a"), upTo("b"), from("c")} {
			if got, more, f := Pages(l, c, floor, seq, most, r); len(got) > 0 || more || f != e {
				t.Errorf("Pages(%q, %v, %d, %d, %d, %v) = %q, %v, %d; want %d", l, c, floor, seq, most, r, got, more, f, e)
			}
		}
	}
	if !slices.Equal(l, was) || !slices.Equal(c, given) {
		t.Errorf("what was handed in was changed: %q, %v", l, c)
	}
}

// history answers pairs, the changes that led there, and what was as of each of
// the Seqs that are told.
func history() ([]api.Pair, []api.Change, map[int][]api.Pair) {
	long := size(32)
	l := of("", long, "b", "5", "d", "", size(16), "1")
	c := changes(
		born(10, "a", "1"),
		set(20, "b", "1", "2"),
		set(21, "b", "2", "2"),
		born(30, size(16), "1"),
		gone(40, "b", "2"),
		set(41, "", "x", long),
		gone(50, "a", "1"),
		born(60, "b", "5"),
		set(api.MaxNum, "d", "3", ""),
	)
	return l, c, map[int][]api.Pair{
		0:          of("", "x", "b", "1", "d", "3"),
		10:         of("", "x", "a", "1", "b", "1", "d", "3"),
		20:         of("", "x", "a", "1", "b", "2", "d", "3"),
		21:         of("", "x", "a", "1", "b", "2", "d", "3"),
		30:         of("", "x", "a", "1", "b", "2", "d", "3", size(16), "1"),
		40:         of("", "x", "a", "1", "d", "3", size(16), "1"),
		41:         of("", long, "a", "1", "d", "3", size(16), "1"),
		50:         of("", long, "d", "3", size(16), "1"),
		60:         of("", long, "b", "5", "d", "3", size(16), "1"),
		api.MaxNum: l,
	}
}

// P18.1, P18.2: the pairs as of each Seq: those above it are undone, it is not.
func TestAsOf(t *testing.T) {
	l, c, states := history()
	for i, x := range c {
		at, ahead := states[x.Seq], states[0]
		if i > 0 {
			ahead = states[c[i-1].Seq]
		}
		for _, floor := range []int{math.MinInt, -1, 0, 5} {
			told(t, l, c, floor, x.Seq, at)
			told(t, l, c, floor, x.Seq-1, ahead)
		}
		// As of the floor there is still an answer.
		told(t, l, c, x.Seq, x.Seq, at)
	}
	told(t, l, c, 0, 0, states[0])
	told(t, l, c, 0, 9, states[0])
	told(t, l, c, 9, 9, states[0])
	told(t, l, c, -5, -5, states[0])
	told(t, l, c, math.MinInt, math.MinInt, states[0])
	told(t, l, c, 0, api.MaxNum-1, states[60])
	told(t, l, c, math.MaxInt, math.MaxInt, l)
}

// P18.1, P18.2: without pairs, and without changes.
func TestOfNone(t *testing.T) {
	for _, seq := range []int{math.MinInt, -1, 0, 1, api.MaxNum, math.MaxInt} {
		told(t, nil, nil, math.MinInt, seq, nil)
		told(t, []api.Pair{}, []api.Change{}, seq, seq, nil)
		told(t, of("a", "x", "c", ""), nil, seq, seq, of("a", "x", "c", ""))
	}
	told(t, nil, changes(gone(3, "a", "x")), 0, 2, of("a", "x"))
	told(t, nil, changes(gone(3, "a", "x")), 0, 3, nil)
	told(t, of("a", "x"), changes(born(3, "a", "x")), 0, 2, nil)
	told(t, nil, changes(born(1, "a", "x"), gone(2, "a", "x"), born(3, "a", ""), gone(4, "a", "")), 0, 0, nil)
}

// P18.1: ErrArg, whether what is wrong would be undone or not, and though seq is
// below the floor.
func TestWrong(t *testing.T) {
	l, c := of("a", "x", "b", "y"), changes(born(9, "a", "x"))
	told(t, l, c, 0, 8, of("b", "y"))
	for _, seq := range []int{math.MinInt, -1, 0, 5, 8, 9, 10, api.MaxNum, math.MaxInt} {
		for _, floor := range []int{math.MinInt, 0, 9, math.MaxInt} {
			for _, u := range unwell() {
				refused(t, u, nil, floor, seq, api.ErrArg)
				refused(t, u, c, floor, seq, api.ErrArg)
			}
			for _, n := range noTrails() {
				refused(t, l, n, floor, seq, api.ErrArg)
				refused(t, nil, n, floor, seq, api.ErrArg)
			}
		}
	}
}

// P18.1: ErrOld, below the floor, whether there are changes or not.
func TestOld(t *testing.T) {
	l, c, _ := history()
	for _, x := range []struct{ floor, seq int }{
		{1, 0}, {0, -1}, {0, math.MinInt}, {10, 9}, {41, 40}, {50, 0}, {99, 98},
		{api.MaxNum, api.MaxNum - 1}, {math.MaxInt, api.MaxNum}, {math.MaxInt, math.MinInt}, {math.MinInt + 1, math.MinInt},
	} {
		refused(t, l, c, x.floor, x.seq, api.ErrOld)
		refused(t, l, nil, x.floor, x.seq, api.ErrOld)
		refused(t, nil, nil, x.floor, x.seq, api.ErrOld)
		// ErrOld is named ahead of what does not fit.
		refused(t, nil, c, x.floor, x.seq, api.ErrOld)
	}
}

// P18.1: ErrArg, if a change that is undone does not fit; those that are not
// undone need not.
func TestUnfit(t *testing.T) {
	l := of("a", "x", "b", "y")
	for _, c := range []api.Change{
		born(5, "c", "x"),
		born(5, "a", "y"),
		born(5, "a", ""),
		set(5, "c", "1", "2"),
		set(5, "a", "x", "y"),
		gone(5, "a", "x"),
		gone(5, "b", ""),
	} {
		refused(t, l, changes(c), 0, 4, api.ErrArg)
		refused(t, l, changes(c), 4, 4, api.ErrArg)
		told(t, l, changes(c), 0, 5, l)
		told(t, l, changes(c), 5, 5, l)
		// With others that fit, on each side of it.
		more := changes(gone(4, "z", "1"), c, set(6, "b", "w", "y"))
		refused(t, l, more, 0, 3, api.ErrArg)
		refused(t, l, more, 0, 4, api.ErrArg)
		told(t, l, more, 0, 5, of("a", "x", "b", "w"))
		told(t, l, more, 0, 6, l)
	}
	// What fits behind the changes above is not what fits the pairs of now.
	twice := changes(born(1, "a", "1"), set(2, "a", "1", "x"))
	told(t, l, twice, 0, 0, of("b", "y"))
	told(t, l, twice, 0, 1, of("a", "1", "b", "y"))
	swapped := changes(set(1, "a", "1", "x"), born(2, "a", "1"))
	refused(t, l, swapped, 0, 0, api.ErrArg)
	refused(t, l, swapped, 0, 1, api.ErrArg)
	told(t, l, swapped, 0, 2, l)
	// The first one does not fit ahead of the second one.
	torn := changes(born(1, "a", "1"), set(2, "a", "2", "x"))
	refused(t, l, torn, 0, 0, api.ErrArg)
	told(t, l, torn, 0, 1, of("a", "2", "b", "y"))
}

// P18.1: a key may have any bytes, and be as long as it likes: it is not there.
func TestGet(t *testing.T) {
	l, c := of("", "0", "a", "", size(16), "2"), changes(set(3, "", "9", "0"), born(4, "a", ""))
	for _, x := range []struct {
		seq   int
		key   string
		value string
		has   bool
	}{
		{4, "", "0", true}, {3, "", "0", true}, {2, "", "9", true},
		{4, "a", "", true}, {3, "a", "", false},
		{0, size(16), "2", true}, {0, size(15), "", false}, {0, size(17), "", false}, {0, size(70000), "", false},
		{4, "a\x00", "", false}, {4, "A", "", false}, {4, "\xff", "", false},
	} {
		if v, ok, e := Get(l, c, 0, x.seq, x.key); v != x.value || ok != x.has || e != api.OK {
			t.Errorf("Get of %q as of %d: %q, %v, %d", x.key, x.seq, v, ok, e)
		}
	}
}

// P18.2: the first ones of a range, and whether there are more of it.
func TestPages(t *testing.T) {
	l := of("", "0", "a", "1", "b", "7", "d", "4", "e", "5")
	c := changes(set(5, "b", "2", "7"), gone(6, "c", "3"), born(7, "d", "4"))
	for _, x := range []struct {
		seq, most int
		r         api.Range
		want      []api.Pair
		more      bool
	}{
		{4, 9, from(""), of("", "0", "a", "1", "b", "2", "c", "3", "e", "5"), false},
		{4, 5, from(""), of("", "0", "a", "1", "b", "2", "c", "3", "e", "5"), false},
		{4, 4, from(""), of("", "0", "a", "1", "b", "2", "c", "3"), true},
		{4, 1, from(""), of("", "0"), true},
		{4, 0, from(""), nil, true},
		{4, -1, from(""), nil, true},
		{4, math.MinInt, from(""), nil, true},
		{4, math.MaxInt, from("c"), of("c", "3", "e", "5"), false},
		{6, math.MaxInt, from("c"), of("e", "5"), false},
		{7, math.MaxInt, from("c"), of("d", "4", "e", "5"), false},
		{7, 1, from("c"), of("d", "4"), true},
		// What is outside of the range is no more of it.
		{5, 2, is("b", "d"), of("b", "7", "c", "3"), false},
		{5, 1, is("b", "d"), of("b", "7"), true},
		{6, 1, is("b", "d"), of("b", "7"), false},
		{6, 0, is("b", "d"), nil, true},
		{6, 0, is("c", "d"), nil, false},
		{6, -7, is("c", "d"), nil, false},
		{5, 0, is("c", "d"), nil, true},
		{4, 3, upTo("b"), of("", "0", "a", "1"), false},
		{4, 2, upTo("b\x00"), of("", "0", "a", "1"), true},
		{4, 9, from("f"), nil, false},
		{4, 9, api.Range{}, nil, false},
		{4, 0, api.Range{}, nil, false},
		{4, 9, is("b", "b"), nil, false},
		{4, 9, is("d", "a"), nil, false},
		// Ranges that may not be have keys nevertheless.
		{4, 9, api.Range{Lo: "c", Hi: "d", Open: true}, of("c", "3", "e", "5"), false},
		{4, 9, is("b"+size(30), "e"+size(30)), of("c", "3", "e", "5"), false},
	} {
		got, more, e := Pages(l, c, 4, x.seq, x.most, x.r)
		if !slices.Equal(got, x.want) || more != x.more || e != api.OK {
			t.Errorf("Pages(%d, %d, %v) = %q, %v, %d; want %q, %v", x.seq, x.most, x.r, got, more, e, x.want, x.more)
		}
	}
}

// R1: what is answered is new memory.
func TestNewMemory(t *testing.T) {
	now := of("a", "1", "b", "2", "c", "3")
	for name, call := range map[string]func([]api.Pair, []api.Change) []api.Pair{
		"At":       func(l []api.Pair, c []api.Change) []api.Pair { p, _ := At(l, c, 0, 9); return p },
		"At 0":     func(l []api.Pair, c []api.Change) []api.Pair { p, _ := At(l, c, 0, 0); return p },
		"At none":  func(l []api.Pair, _ []api.Change) []api.Pair { p, _ := At(l, nil, 0, 0); return p },
		"At wrong": func(l []api.Pair, c []api.Change) []api.Pair { p, _ := At(l, append(c, c...), 0, 0); return p },
		"Pages":    func(l []api.Pair, c []api.Change) []api.Pair { p, _, _ := Pages(l, c, 0, 9, 9, from("")); return p },
		"Pages 2":  func(l []api.Pair, c []api.Change) []api.Pair { p, _, _ := Pages(l, c, 0, 9, 2, from("")); return p },
	} {
		l, c := slices.Clone(now), changes(set(1, "b", "1", "2"))
		got := call(l, c)
		for i := range got {
			got[i].Value = "!"
		}
		_ = append(got, api.Pair{Key: "!"})
		if len(got) > 0 {
			_ = append(got[:1], api.Pair{Key: "!"})
		}
		if !slices.Equal(l, now) || !slices.Equal(c, changes(set(1, "b", "1", "2"))) {
			t.Errorf("%s: who writes into the answer writes into what was handed in: %q, %v", name, l, c)
		}
	}
}

// asOf is At of pairs that stand well and of a trail, in the chapter's words.
func asOf(l []api.Pair, c []api.Change, floor, seq int) ([]api.Pair, api.Errno) {
	if seq < floor {
		return nil, api.ErrOld
	}
	now := map[string]string{}
	for _, p := range l {
		now[p.Key] = p.Value
	}
	for i := len(c) - 1; i >= 0 && c[i].Seq > seq; i-- {
		value, has := now[c[i].Key]
		if has != c[i].Has || value != c[i].After {
			return nil, api.ErrArg
		}
		delete(now, c[i].Key)
		if c[i].Had {
			now[c[i].Key] = c[i].Before
		}
	}
	var was []api.Pair
	for key, value := range now {
		was = append(was, api.Pair{Key: key, Value: value})
	}
	slices.SortFunc(was, func(a, b api.Pair) int { return strings.Compare(a.Key, b.Key) })
	return was, api.OK
}

// trailOf answers a trail of few keys and values, and pairs, that it often fits.
func trailOf(next func(int) int) ([]api.Pair, []api.Change) {
	keys, values := []string{"", "a", "ab", "b"}, []string{"", "x"}
	var c []api.Change
	now := map[string]string{}
	for seq := range next(12) {
		key, after := keys[next(4)], values[next(2)]
		before, had := now[key]
		x := api.Change{Seq: 2*seq + 1 + next(2), Key: key, Had: had, Before: before, Has: true, After: after}
		if had && next(3) == 0 {
			x.Has, x.After = false, ""
		}
		delete(now, key)
		if x.Has {
			now[key] = x.After
		}
		if next(12) > 0 {
			c = append(c, x)
		}
	}
	var l []api.Pair
	for _, key := range keys {
		if value, has := now[key]; has && next(12) > 0 {
			l = append(l, api.Pair{Key: key, Value: value})
		}
	}
	return l, c
}

// P18.1, P18.2: many pairs, trails, numbers and ranges.
func TestSecondReading(t *testing.T) {
	next := numbers(1)
	ends := []string{"", "a", "aa", "ab", "b", "c"}
	answers := map[api.Errno]int{}
	for range 20000 {
		l, c := trailOf(next)
		floor, seq := next(12)-1, next(27)-2
		want, e := asOf(l, c, floor, seq)
		answers[e]++
		if e != api.OK {
			refused(t, l, c, floor, seq, e)
			continue
		}
		told(t, l, c, floor, seq, want)
		r, most := api.Range{Lo: ends[next(4)], Hi: ends[next(6)], Open: next(2) == 0}, next(7)-1
		var in []api.Pair
		for _, p := range want {
			if p.Key >= r.Lo && (r.Open || p.Key < r.Hi) {
				in = append(in, p)
			}
		}
		first := in[:min(len(in), max(most, 0))]
		got, more, e := Pages(l, c, floor, seq, most, r)
		if !slices.Equal(got, first) || more != (len(first) < len(in)) || e != api.OK {
			t.Fatalf("Pages(%q, %v, %d, %d, %d, %v) = %q, %v, %d; want %q", l, c, floor, seq, most, r, got, more, e, first)
		}
	}
	for _, e := range []api.Errno{api.OK, api.ErrArg, api.ErrOld} {
		if answers[e] < 500 {
			t.Errorf("the answer %d came %d times alone", e, answers[e])
		}
	}
}

// P18.3: what batches made is told as it was, behind each of them, as long as
// its changes are there, and as of the last Seq pairs are those of now.
func TestAsItWas(t *testing.T) {
	next := numbers(2)
	keys := []string{"", "a", "b", "n", size(16)}
	for range 300 {
		var l []api.Pair
		var c []api.Change
		states := map[int][]api.Pair{0: nil}
		seq := 0
		for range 1 + next(8) {
			var notes []api.Note
			for range next(9) {
				n := api.Note{Kind: 1 + next(3), Key: keys[next(5)]}
				if n.Kind == api.Put {
					n.Value = size(next(33))
				}
				notes = append(notes, n)
			}
			made, behind, e := batch.Run(l, seq, notes...)
			if e != api.OK {
				t.Fatalf("no batch: %v", notes)
			}
			c, l = append(c, made...), behind
			seq += len(made)
			states[seq] = l
		}
		if got, e := At(l, c, 0, trail.Last(c)); !slices.Equal(got, l) || e != api.OK {
			t.Fatalf("as of the last Seq %q, %d; now %q", got, e, l)
		}
		for floor := range seq + 1 {
			kept := trail.Drop(c, floor)
			for s, was := range states {
				got, e := At(l, kept, floor, s)
				if s < floor && (len(got) > 0 || e != api.ErrOld) {
					t.Fatalf("as of %d, below %d: %q, %d", s, floor, got, e)
				}
				if s >= floor && (!slices.Equal(got, was) || e != api.OK) {
					t.Fatalf("as of %d: %q, %d; it was %q", s, got, e, was)
				}
			}
		}
	}
}

// P18.3: pages, each behind the one ahead, are what is told at once.
func TestPageByPage(t *testing.T) {
	l, c, states := history()
	for seq, want := range states {
		for most := 1; most < 4; most++ {
			var all []api.Pair
			r := from("")
			for more := true; more; {
				var page []api.Pair
				var e api.Errno
				page, more, e = Pages(l, c, 0, seq, most, r)
				all = append(all, page...)
				if e != api.OK || len(page) == 0 && more || len(all) > len(want) {
					t.Fatalf("as of %d: %q, %v, %d", seq, page, more, e)
				}
				if len(page) > 0 {
					r.Lo = page[len(page)-1].Key + "\x00"
				}
			}
			if !slices.Equal(all, want) {
				t.Errorf("as of %d, by %d: %q; want %q", seq, most, all, want)
			}
		}
	}
}

// P18.1, P18.2: many changes of many pairs take no more than a moment.
func TestMany(t *testing.T) {
	const many = 200_000
	var l []api.Pair
	var c []api.Change
	for i := range many {
		key := string([]byte{byte(i >> 16), byte(i >> 8), byte(i)})
		l = append(l, api.Pair{Key: key, Value: "x"})
		c = append(c, born(i+1, key, "x"))
	}
	if got, e := At(l, c, 0, many/4); !slices.Equal(got, l[:many/4]) || e != api.OK {
		t.Errorf("At of many: %d, %d", len(got), e)
	}
	if v, ok, e := Get(l, c, 0, many/4, l[5].Key); v != "x" || !ok || e != api.OK {
		t.Errorf("Get of many: %q, %v, %d", v, ok, e)
	}
	if got, more, e := Pages(l, c, 0, many/2, many/4, from("")); !slices.Equal(got, l[:many/4]) || !more || e != api.OK {
		t.Errorf("Pages of many: %d, %v, %d", len(got), more, e)
	}
}
