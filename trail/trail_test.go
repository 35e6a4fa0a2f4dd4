package trail

import (
	"math"
	"slices"
	"strings"
	"testing"

	"weirkeeper/api"
)

// size answers a text of n bytes.
func size(n int) string {
	return strings.Repeat("k", n)
}

// born is a change of a key that comes.
func born(seq int, key string) api.Change {
	return api.Change{Seq: seq, Key: key, Has: true, After: "v"}
}

// of answers changes of the keys, numbered 10, 20, 30 and so on.
func of(keys ...string) []api.Change {
	var l []api.Change
	for i, k := range keys {
		l = append(l, born(10*(i+1), k))
	}
	return l
}

// from and to are ranges of the keys from one on, and up to one.
func from(lo string) api.Range   { return api.Range{Lo: lo, Open: true} }
func upTo(hi string) api.Range   { return api.Range{Hi: hi} }
func is(lo, hi string) api.Range { return api.Range{Lo: lo, Hi: hi} }

// numbers answers numbers from 0 up to below the one it is asked for, the same
// ones in every run.
func numbers(seed uint64) func(int) int {
	s := seed*2 + 1
	return func(below int) int {
		s = s*6364136223846793005 + 1442695040888963407
		return int(s >> 33 % uint64(below))
	}
}

// rights are trails, with the last one's Seq.
func rights() map[int][]api.Change {
	return map[int][]api.Change{
		0:          nil,
		1:          {born(1, "")},
		2:          {born(1, ""), born(2, "")},
		9:          {born(9, size(16))},
		50:         {born(3, "b"), born(40, "a"), born(50, "b")},
		60:         of("a", "b", "a", "c", "b", "a"),
		77:         {{Seq: 77, Key: "k", Had: true, Before: size(32)}},
		78:         {{Seq: 77, Key: "k", Had: true}, {Seq: 78, Key: "k", Had: true, Has: true, After: size(32)}},
		2147483646: {born(2147483645, "a"), born(2147483646, "a")},
		2147483647: {born(1, "a"), born(2147483647, "a")},
	}
}

// wrongs are none, each in another way: by how the Seqs stand, at each place,
// or by a change that may not be.
func wrongs() [][]api.Change {
	l := [][]api.Change{
		{born(1, "a"), born(1, "b")},
		{born(2, "a"), born(1, "b")},
		{born(1, "a"), born(1, "a")},
		{born(1, "a"), born(3, "a"), born(2, "a")},
		{born(1, "a"), born(3, "a"), born(3, "b")},
		{born(2, "a"), born(1, "a"), born(3, "a")},
		{born(2, "a"), born(2, "b"), born(3, "a")},
		{born(api.MaxNum, "a"), born(1, "a")},
		{born(5, "a"), born(6, "b"), born(7, "a"), born(6, "c"), born(8, "d")},
	}
	for _, c := range []api.Change{
		{},
		{Seq: 2, Key: "b"},
		{Seq: 2, Key: "b", Before: "x", After: "x"},
		{Seq: 2, Key: "b", Before: "x", Has: true},
		{Seq: 2, Key: "b", Had: true, After: "x"},
		{Seq: 2, Key: "b", Has: true, After: size(33)},
		{Seq: 2, Key: "b", Had: true, Before: size(33)},
		born(2, size(17)),
		born(0, "b"),
		born(-1, "b"),
		born(math.MinInt, "b"),
		born(api.MaxNum+1, "b"),
		born(math.MaxInt, "b"),
	} {
		l = append(l,
			[]api.Change{c},
			[]api.Change{c, born(3, "a")},
			[]api.Change{born(1, "a"), c},
			[]api.Change{born(1, "a"), c, born(3, "c")})
	}
	return l
}

// P16.1: what is a trail, and the last one's Seq.
func TestRight(t *testing.T) {
	for last, l := range rights() {
		was := slices.Clone(l)
		if !Right(l) {
			t.Errorf("%v is a trail", l)
		}
		if got := Last(l); got != last {
			t.Errorf("Last(%v) = %d; want %d", l, got, last)
		}
		if !slices.Equal(l, was) {
			t.Errorf("%v was changed to %v", was, l)
		}
	}
	if !Right([]api.Change{}) || Last([]api.Change{}) != 0 {
		t.Error("an empty list is a trail without a last one")
	}
}

// P16.1: of what is no trail, Last is 0, and the others tell nothing.
func TestWrong(t *testing.T) {
	for _, l := range wrongs() {
		was := slices.Clone(l)
		if Right(l) {
			t.Errorf("%v is no trail", l)
		}
		if got := Last(l); got != 0 {
			t.Errorf("Last(%v) = %d; want 0", l, got)
		}
		for _, seq := range []int{math.MinInt, -1, 0, 1, 2, 9, api.MaxNum, math.MaxInt} {
			if got := Since(l, seq, math.MaxInt); len(got) != 0 {
				t.Errorf("Since(%v, %d) = %v; want none", l, seq, got)
			}
			if got := Since(l, seq, 1, from("")); len(got) != 0 {
				t.Errorf("Since(%v, %d, 1) = %v; want none", l, seq, got)
			}
			if got := Drop(l, seq); len(got) != 0 {
				t.Errorf("Drop(%v, %d) = %v; want none", l, seq, got)
			}
			if got := Newest(l, seq); len(got) != 0 {
				t.Errorf("Newest(%v, %d) = %v; want none", l, seq, got)
			}
		}
		if !slices.Equal(l, was) {
			t.Errorf("%v was changed to %v", was, l)
		}
	}
}

// told asks that the Seqs, in tens, are those that are wanted.
func told(t *testing.T, name string, got []api.Change, l []api.Change, want ...int) {
	t.Helper()
	var all []api.Change
	for _, i := range want {
		all = append(all, l[i-1])
	}
	if !slices.Equal(got, all) {
		t.Errorf("%s = %v; want %v", name, got, all)
	}
}

// P16.2: the first changes above a number, of the keys of all ranges.
func TestSince(t *testing.T) {
	l := of("a", "b", "a", "c", "b", "a")
	was := slices.Clone(l)
	told(t, "all", Since(l, 0, 6), l, 1, 2, 3, 4, 5, 6)
	told(t, "all", Since(l, 0, math.MaxInt), l, 1, 2, 3, 4, 5, 6)
	told(t, "all", Since(l, math.MinInt, 99), l, 1, 2, 3, 4, 5, 6)
	told(t, "all", Since(l, 9, 7), l, 1, 2, 3, 4, 5, 6)
	told(t, "above 10", Since(l, 10, 99), l, 2, 3, 4, 5, 6)
	told(t, "above 11", Since(l, 11, 99), l, 2, 3, 4, 5, 6)
	told(t, "above 49", Since(l, 49, 99), l, 5, 6)
	told(t, "above 50", Since(l, 50, 99), l, 6)
	told(t, "above 59", Since(l, 59, 99), l, 6)
	told(t, "above 60", Since(l, 60, 99), l)
	told(t, "above 61", Since(l, 61, 99), l)
	told(t, "above all", Since(l, math.MaxInt, 99), l)
	told(t, "none", Since(l, 0, 0), l)
	told(t, "none", Since(l, 0, -1), l)
	told(t, "none", Since(l, 0, math.MinInt), l)
	told(t, "one", Since(l, 0, 1), l, 1)
	told(t, "five", Since(l, 0, 5), l, 1, 2, 3, 4, 5)
	told(t, "two above 20", Since(l, 20, 2), l, 3, 4)
	told(t, "two above 29", Since(l, 29, 2), l, 3, 4)
	// As many as are told are counted, not those that are passed by.
	told(t, "b", Since(l, 0, 2, is("b", "c")), l, 2, 5)
	told(t, "the first b", Since(l, 0, 1, is("b", "c")), l, 2)
	told(t, "b above 20", Since(l, 20, 1, is("b", "c")), l, 5)
	told(t, "c", Since(l, 0, 1, from("c")), l, 4)
	told(t, "not c", Since(l, 0, 99, upTo("c")), l, 1, 2, 3, 5, 6)
	told(t, "all", Since(l, 0, 99, from("")), l, 1, 2, 3, 4, 5, 6)
	// All ranges count.
	told(t, "b of both", Since(l, 0, 99, from("b"), upTo("c")), l, 2, 5)
	told(t, "b of both", Since(l, 0, 99, upTo("c"), from("b")), l, 2, 5)
	told(t, "b of three", Since(l, 0, 99, from(""), from("b"), upTo("c")), l, 2, 5)
	told(t, "b of three", Since(l, 0, 99, is("a", "c"), is("b", "d"), is("b", "z")), l, 2, 5)
	told(t, "of neither", Since(l, 0, 99, upTo("b"), from("c")), l)
	told(t, "of no keys", Since(l, 0, 99, is("b", "b")), l)
	told(t, "of no keys", Since(l, 0, 99, api.Range{}), l)
	told(t, "of no keys", Since(l, 0, 99, from(""), is("c", "a")), l)
	// Ranges that may not be have keys nevertheless.
	told(t, "Open, with a Hi", Since(l, 0, 99, api.Range{Lo: "b", Hi: "c", Open: true}), l, 2, 4, 5)
	told(t, "a Hi too long", Since(l, 0, 99, is("b", "b"+size(30))), l, 2, 5)
	told(t, "of none", Since(nil, 0, 99), l)
	if !slices.Equal(l, was) {
		t.Errorf("%v was changed to %v", was, l)
	}
}

// P16.2: the changes above a number.
func TestDrop(t *testing.T) {
	l := of("a", "b", "a", "c", "b", "a")
	was := slices.Clone(l)
	told(t, "above the least", Drop(l, math.MinInt), l, 1, 2, 3, 4, 5, 6)
	told(t, "above 0", Drop(l, 0), l, 1, 2, 3, 4, 5, 6)
	told(t, "above 9", Drop(l, 9), l, 1, 2, 3, 4, 5, 6)
	told(t, "above 10", Drop(l, 10), l, 2, 3, 4, 5, 6)
	told(t, "above 35", Drop(l, 35), l, 4, 5, 6)
	told(t, "above 59", Drop(l, 59), l, 6)
	told(t, "above 60", Drop(l, 60), l)
	told(t, "above the greatest", Drop(l, math.MaxInt), l)
	told(t, "of none", Drop(nil, 0), l)
	if !slices.Equal(l, was) {
		t.Errorf("%v was changed to %v", was, l)
	}
}

// P16.2: what has a newer one of its key, up to a number, is left out.
func TestNewest(t *testing.T) {
	l := of("a", "b", "a", "c", "b", "a")
	was := slices.Clone(l)
	told(t, "up to the least", Newest(l, math.MinInt), l, 1, 2, 3, 4, 5, 6)
	told(t, "up to 0", Newest(l, 0), l, 1, 2, 3, 4, 5, 6)
	told(t, "up to 10", Newest(l, 10), l, 1, 2, 3, 4, 5, 6)
	told(t, "up to 20", Newest(l, 20), l, 1, 2, 3, 4, 5, 6)
	told(t, "up to 29", Newest(l, 29), l, 1, 2, 3, 4, 5, 6)
	told(t, "up to 30", Newest(l, 30), l, 2, 3, 4, 5, 6)
	told(t, "up to 49", Newest(l, 49), l, 2, 3, 4, 5, 6)
	told(t, "up to 50", Newest(l, 50), l, 3, 4, 5, 6)
	told(t, "up to 59", Newest(l, 59), l, 3, 4, 5, 6)
	told(t, "up to 60", Newest(l, 60), l, 4, 5, 6)
	told(t, "up to the greatest", Newest(l, math.MaxInt), l, 4, 5, 6)
	told(t, "of none", Newest(nil, 9), l)
	// The chapter's example.
	l = of("a", "b", "a")
	told(t, "a, b, a", Newest(l, 30), l, 2, 3)
	// The empty key is a key, and what a change says does not matter.
	l = []api.Change{born(1, ""), {Seq: 2, Had: true, Before: "v"}, born(3, "")}
	told(t, "of the empty key", Newest(l, 2), l, 2, 3)
	told(t, "of the empty key", Newest(l, 3), l, 3)
	if len(was) != 6 || !slices.Equal(was, of("a", "b", "a", "c", "b", "a")) {
		t.Errorf("what was handed in was changed to %v", was)
	}
}

// R1: what is answered is new memory, also where all of it is answered.
func TestNewMemory(t *testing.T) {
	for name, call := range map[string]func([]api.Change) []api.Change{
		"Since":     func(l []api.Change) []api.Change { return Since(l, 0, 9) },
		"Since two": func(l []api.Change) []api.Change { return Since(l, 0, 2) },
		"Drop":      func(l []api.Change) []api.Change { return Drop(l, 0) },
		"Drop one":  func(l []api.Change) []api.Change { return Drop(l, 10) },
		"Newest":    func(l []api.Change) []api.Change { return Newest(l, 0) },
		"Newest up": func(l []api.Change) []api.Change { return Newest(l, 30) },
	} {
		l := of("a", "b", "a", "c")
		got := call(l)
		for i := range got {
			got[i].Key = "!"
		}
		_ = append(got, born(99, "!"))
		_ = append(got[:1], born(99, "!"))
		if !slices.Equal(l, of("a", "b", "a", "c")) {
			t.Errorf("%s: who writes into the answer writes into what was handed in: %v", name, l)
		}
	}
}

// since is Since of a trail, in the chapter's words.
func since(l []api.Change, seq, most int, ranges []api.Range) []api.Change {
	var all []api.Change
	for _, c := range l {
		in := c.Seq > seq
		for _, r := range ranges {
			in = in && c.Key >= r.Lo && (r.Open || c.Key < r.Hi)
		}
		if in {
			all = append(all, c)
		}
	}
	return all[:min(len(all), max(most, 0))]
}

// newest is Newest of a trail, in the chapter's words.
func newest(l []api.Change, seq int) []api.Change {
	var kept []api.Change
	for _, c := range l {
		old := false
		for _, d := range l {
			old = old || d.Key == c.Key && d.Seq > c.Seq && d.Seq <= seq
		}
		if !old {
			kept = append(kept, c)
		}
	}
	return kept
}

// trailOf answers a trail of few keys.
func trailOf(next func(int) int) []api.Change {
	keys := []string{"", "a", "ab", "b", "c"}
	var l []api.Change
	seq := 0
	for range next(12) {
		seq += 1 + next(3)
		c := api.Change{Seq: seq, Key: keys[next(5)], Had: next(2) == 0, Has: true}
		if c.Had && next(2) == 0 {
			c.Has = false
		}
		l = append(l, c)
	}
	return l
}

// P16.2: many trails, numbers and ranges.
func TestSecondReading(t *testing.T) {
	next := numbers(1)
	ends := []string{"", "a", "aa", "ab", "b", "c", "d"}
	for range 5000 {
		l := trailOf(next)
		seq, most := next(30)-2, next(14)-1
		var ranges []api.Range
		for range next(4) {
			ranges = append(ranges, api.Range{Lo: ends[next(3)], Hi: ends[next(7)], Open: next(2) == 0})
		}
		was := slices.Clone(ranges)
		want := since(l, seq, most, ranges)
		if got := Since(l, seq, most, ranges...); !slices.Equal(got, want) {
			t.Fatalf("Since(%v, %d, %d, %v) = %v; want %v", l, seq, most, ranges, got, want)
		}
		if !slices.Equal(ranges, was) {
			t.Fatalf("%v were changed to %v", was, ranges)
		}
		want = since(l, seq, len(l), nil)
		if got := Drop(l, seq); !slices.Equal(got, want) {
			t.Fatalf("Drop(%v, %d) = %v; want %v", l, seq, got, want)
		}
		want = newest(l, seq)
		if got := Newest(l, seq); !slices.Equal(got, want) {
			t.Fatalf("Newest(%v, %d) = %v; want %v", l, seq, got, want)
		}
	}
}

// P16.3: what is told in parts is what is told at once, whether what was told is
// dropped meanwhile or not.
func TestParts(t *testing.T) {
	next := numbers(2)
	for range 1000 {
		l := trailOf(next)
		keys := []api.Range{from(""), from("ab"), upTo("b"), is("a", "b")}[next(4)]
		seq := next(9)
		once := Since(l, seq, math.MaxInt, keys)
		var all []api.Change
		for {
			part := Since(l, seq, 1+next(4), keys)
			if len(part) == 0 {
				break
			}
			all = append(all, part...)
			seq = Last(part)
			if next(2) == 0 {
				l = Drop(l, seq-next(2))
			}
		}
		if !slices.Equal(all, once) {
			t.Fatalf("in parts %v; at once %v", all, once)
		}
	}
}

// P16.3: of each key the last change up to a number is in Newest of it, and what
// is above, all of it; and who is told of Newest has what who is told of all has.
func TestNewestHasTheLast(t *testing.T) {
	next := numbers(3)
	for range 1000 {
		l := trailOf(next)
		seq := next(30)
		n := Newest(l, seq)
		if !Right(n) || Last(n) != Last(l) {
			t.Fatalf("Newest(%v, %d) = %v: no trail, or it has another last one", l, seq, n)
		}
		last := map[string]api.Change{}
		for _, c := range l {
			if c.Seq <= seq {
				last[c.Key] = c
			} else if !slices.Contains(n, c) {
				t.Fatalf("Newest(%v, %d) = %v: without %v", l, seq, n, c)
			}
		}
		for _, c := range last {
			if !slices.Contains(n, c) {
				t.Fatalf("Newest(%v, %d) = %v: without %v", l, seq, n, c)
			}
		}
		if len(n) != len(last)+len(Drop(l, seq)) {
			t.Fatalf("Newest(%v, %d) = %v: too many", l, seq, n)
		}
		if again := Newest(n, seq); !slices.Equal(again, n) {
			t.Fatalf("Newest of %v = %v", n, again)
		}
	}
}

// P16.2: many changes of many keys take no more than a moment.
func TestMany(t *testing.T) {
	const many = 200_000
	var l []api.Change
	for i := range many {
		l = append(l, born(i+1, string([]byte{byte(i >> 16), byte(i >> 8), byte(i) & 0xfe})))
	}
	if got := Newest(l, many); len(got) != many/2 {
		t.Errorf("Newest of many: %d", len(got))
	}
	if got := Since(l, many/2, many/4); len(got) != many/4 || got[0].Seq != many/2+1 {
		t.Errorf("Since of many: %d", len(got))
	}
	if got := Drop(l, many-1); len(got) != 1 || Last(got) != many {
		t.Errorf("Drop of many: %d", len(got))
	}
}
