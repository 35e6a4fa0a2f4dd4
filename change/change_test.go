package change

import (
	"math"
	"slices"
	"strings"
	"testing"

	"weirkeeper/api"
)

// eight answers the eight bytes of n, so that the tests have another way to
// them than the program's.
func eight(n uint64) string {
	var b [8]byte
	for i := range b {
		b[i] = byte(n >> (56 - 8*i))
	}
	return string(b[:])
}

// size answers a text of n bytes.
func size(n int) string {
	return strings.Repeat("k", n)
}

// put, del and add are notes of a key.
func put(key, value string) api.Note { return api.Note{Kind: api.Put, Key: key, Value: value} }
func del(key string) api.Note        { return api.Note{Kind: api.Del, Key: key} }
func add(key string, n uint64) api.Note {
	return api.Note{Kind: api.Add, Key: key, N: n}
}

// born, gone and set are changes of a key that comes, goes, and has another
// value than it had.
func born(seq int, key, after string) api.Change {
	return api.Change{Seq: seq, Key: key, Has: true, After: after}
}
func gone(seq int, key, before string) api.Change {
	return api.Change{Seq: seq, Key: key, Had: true, Before: before}
}
func set(seq int, key, before, after string) api.Change {
	return api.Change{Seq: seq, Key: key, Had: true, Before: before, Has: true, After: after}
}

// of answers the pairs of keys and values that are given by turns.
func of(l ...string) []api.Pair {
	var pairs []api.Pair
	for i := 0; i+1 < len(l); i += 2 {
		pairs = append(pairs, api.Pair{Key: l[i], Value: l[i+1]})
	}
	return pairs
}

// unwell are pairs that do not stand well: by their order, by a Key or a Value
// that is too long.
func unwell() [][]api.Pair {
	return [][]api.Pair{
		of("a", "x", "a", "x"),
		of("a", "x", "a", "y"),
		of("b", "1", "a", "2"),
		of("a", "1", "c", "2", "b", "3"),
		of("a", "1", "", "2"),
		of(size(17), ""),
		of("a", "", size(17), "", "z", ""),
		of("a", size(33)),
		of("a", "", "b", "", "c", size(33)),
	}
}

// wrongNotes are none, each in another way.
func wrongNotes() []api.Note {
	return []api.Note{
		{},
		{Key: "a", Value: "x"},
		{Kind: -1, Key: "a"},
		{Kind: 4, Key: "a"},
		{Kind: math.MinInt},
		put(size(17), ""),
		put("a", size(33)),
		{Kind: api.Put, Key: "a", N: 1},
		del(size(17)),
		{Kind: api.Del, Key: "a", Value: "x"},
		{Kind: api.Del, Key: "a", N: 1},
		add(size(17), 1),
		{Kind: api.Add, Key: "a", Value: eight(1), N: 1},
	}
}

// wrongChanges may not be, each in another way. They would fit ahead of or
// behind the pair of a and x, or behind a change of b, but for that.
func wrongChanges() []api.Change {
	return []api.Change{
		{},
		{Seq: 1, Key: "b"},
		{Seq: math.MaxInt, Key: "b"},
		set(0, "a", "x", "x"),
		set(-1, "a", "x", "x"),
		set(math.MinInt, "a", "x", "x"),
		set(api.MaxNum+1, "a", "x", "x"),
		set(math.MaxInt, "a", "x", "x"),
		born(1, size(17), "y"),
		gone(1, size(17), "y"),
		born(1, "b", size(33)),
		gone(1, "b", size(33)),
		set(1, "a", "x", size(33)),
		set(1, "a", size(33), "x"),
		{Seq: 1, Key: "b", Before: "x", Has: true, After: "x"},
		{Seq: 1, Key: "b", Had: true, Before: "x", After: "x"},
		{Seq: 1, Key: "b", Before: "x", After: "x"},
		{Seq: 1, Key: "a", Had: true, Before: "x", After: "x"},
		{Seq: 1, Key: "a", Before: "x", Has: true, After: "x"},
	}
}

// state is what a key has, and whether it has anything.
type state struct {
	value string
	has   bool
}

// made answers what one note makes of a state, in layer 9's words.
func made(s state, n api.Note) state {
	switch n.Kind {
	case 1:
		return state{n.Value, true}
	case 2:
		return state{}
	}
	old := uint64(0)
	if s.has && len(s.value) == 8 {
		for i := range 8 {
			old = old<<8 | uint64(s.value[i])
		}
	}
	return state{eight(old + n.N), true}
}

// may answers whether a change may be, in layer 13's words.
func may(c api.Change) bool {
	switch {
	case c.Seq < 1, c.Seq > 2147483647, len(c.Key) > 16:
		return false
	case len(c.Before) > 32, len(c.After) > 32:
		return false
	case c.Before != "" && !c.Had, c.After != "" && !c.Has:
		return false
	}
	return c.Had || c.Has
}

// stored answers the pairs by their keys; it panics at those that do not stand
// well, as no test asks it of these.
func stored(l []api.Pair) map[string]state {
	m := map[string]state{}
	for _, p := range l {
		if _, has := m[p.Key]; has {
			panic("a key twice")
		}
		m[p.Key] = state{p.Value, true}
	}
	return m
}

// sorted answers the pairs that are there.
func sorted(m map[string]state) []api.Pair {
	var all []api.Pair
	for key, s := range m {
		if s.has {
			all = append(all, api.Pair{Key: key, Value: s.value})
		}
	}
	slices.SortFunc(all, func(a, b api.Pair) int { return strings.Compare(a.Key, b.Key) })
	return all
}

// did is Do of pairs that stand well, in the chapter's words, change by change.
func did(l []api.Pair, c ...api.Change) ([]api.Pair, api.Errno) {
	m := stored(l)
	for _, x := range c {
		s := m[x.Key]
		if !may(x) || s.has != x.Had || s.has && s.value != x.Before {
			return l, api.ErrArg
		}
		m[x.Key] = state{x.After, x.Has}
	}
	return sorted(m), api.OK
}

// undid is Undo of pairs that stand well, in the chapter's words.
func undid(l []api.Pair, c ...api.Change) ([]api.Pair, api.Errno) {
	m := stored(l)
	for i := len(c) - 1; i >= 0; i-- {
		x := c[i]
		s := m[x.Key]
		if !may(x) || s.has != x.Has || s.has && s.value != x.After {
			return l, api.ErrArg
		}
		m[x.Key] = state{x.Before, x.Had}
	}
	return sorted(m), api.OK
}

// numbers answers numbers from 0 up to below the one it is asked for, the same
// ones in every run.
func numbers(seed uint64) func(int) int {
	s := seed*2 + 1
	return func(below int) int {
		s = s*6364136223846793005 + 1442695040888963407
		return int(s >> 33 % uint64(below))
	}
}

// P15.1: the change that a note makes of pairs that stand well, or ErrNone.
func TestOf(t *testing.T) {
	l := of("", "e", "b", "x", "d", eight(7), "f", "")
	for _, x := range []struct {
		l    []api.Pair
		seq  int
		n    api.Note
		want api.Change
		e    api.Errno
	}{
		{nil, 1, del("a"), api.Change{}, api.ErrNone},
		{nil, 1, del(""), api.Change{}, api.ErrNone},
		{l, 1, del("a"), api.Change{}, api.ErrNone},
		{l, 1, del("bb"), api.Change{}, api.ErrNone},
		{l, 1, del("z"), api.Change{}, api.ErrNone},
		{l, api.MaxNum, del(size(16)), api.Change{}, api.ErrNone},
		{nil, 1, put("a", "x"), born(1, "a", "x"), api.OK},
		{nil, 1, put("", ""), born(1, "", ""), api.OK},
		{nil, 7, add("n", 5), born(7, "n", "\x00\x00\x00\x00\x00\x00\x00\x05"), api.OK},
		{nil, 7, add("n", 0), born(7, "n", eight(0)), api.OK},
		{l, 2, put("a", "x"), born(2, "a", "x"), api.OK},
		{l, 2, put("z", size(32)), born(2, "z", size(32)), api.OK},
		{l, 2, put(size(16), "x"), born(2, size(16), "x"), api.OK},
		{l, 2, put("b", "y"), set(2, "b", "x", "y"), api.OK},
		{l, 2, put("b", "x"), set(2, "b", "x", "x"), api.OK},
		{l, 2, put("b", ""), set(2, "b", "x", ""), api.OK},
		{l, 2, put("", "!"), set(2, "", "e", "!"), api.OK},
		{l, 2, put("f", ""), set(2, "f", "", ""), api.OK},
		{l, 3, del("b"), gone(3, "b", "x"), api.OK},
		{l, 3, del(""), gone(3, "", "e"), api.OK},
		{l, 3, del("f"), gone(3, "f", ""), api.OK},
		{l, 4, add("d", 3), set(4, "d", eight(7), eight(10)), api.OK},
		{l, 4, add("d", math.MaxUint64), set(4, "d", eight(7), eight(6)), api.OK},
		{l, 4, add("d", 0), set(4, "d", eight(7), eight(7)), api.OK},
		{l, 4, add("b", 2), set(4, "b", "x", eight(2)), api.OK},
		{l, 4, add("f", 2), set(4, "f", "", eight(2)), api.OK},
		{l, 4, add("c", 2), born(4, "c", eight(2)), api.OK},
		{l, api.MaxNum, put("b", "y"), set(2147483647, "b", "x", "y"), api.OK},
		{of("a", size(32)), 1, del("a"), gone(1, "a", size(32)), api.OK},
		{of(size(16), "x"), 1, add(size(16), 1), set(1, size(16), "x", eight(1)), api.OK},
	} {
		was := slices.Clone(x.l)
		if got, e := Of(x.l, x.seq, x.n); got != x.want || e != x.e {
			t.Errorf("Of(%q, %d, %v) = %v, %d; want %v, %d", x.l, x.seq, x.n, got, e, x.want, x.e)
		}
		if !slices.Equal(x.l, was) {
			t.Errorf("Of changed %q to %q", was, x.l)
		}
	}
}

// P15.1: ErrArg of pairs that do not stand well, of what is no note, and of
// numbers that no change has, also where there would be no change.
func TestOfWrong(t *testing.T) {
	l := of("a", "x", "c", "y")
	wrong := func(l []api.Pair, seq int, n api.Note) {
		t.Helper()
		if got, e := Of(l, seq, n); got != (api.Change{}) || e != api.ErrArg {
			t.Errorf("Of(%q, %d, %v) = %v, %d; want ErrArg", l, seq, n, got, e)
		}
	}
	for _, n := range []api.Note{put("a", "z"), del("a"), add("a", 1), del("b"), put("b", "z")} {
		for _, u := range unwell() {
			wrong(u, 1, n)
		}
		for _, seq := range []int{0, -1, math.MinInt, api.MaxNum + 1, math.MaxInt} {
			wrong(l, seq, n)
			wrong(nil, seq, n)
		}
	}
	for _, n := range wrongNotes() {
		wrong(l, 1, n)
		wrong(nil, 1, n)
	}
}

// P15.1: what Of answers is what the note makes, of many pairs.
func TestOfSecondReading(t *testing.T) {
	next := numbers(1)
	keys := []string{"", "a", "ab", "b", "c", "d"}
	values := []string{"", "x", "y", eight(3), eight(math.MaxUint64), size(32)}
	for range 3000 {
		m := map[string]state{}
		for range next(6) {
			m[keys[next(6)]] = state{values[next(6)], true}
		}
		n := []api.Note{put("", values[next(6)]), del(""), add("", uint64(next(5)))}[next(3)]
		n.Key = keys[next(6)]
		seq := 1 + next(9)
		from := m[n.Key]
		to := made(from, n)
		want, e := api.Change{Seq: seq, Key: n.Key, Had: from.has, Before: from.value, Has: to.has, After: to.value}, api.OK
		if !from.has && !to.has {
			want, e = api.Change{}, api.ErrNone
		}
		if got, f := Of(sorted(m), seq, n); got != want || f != e {
			t.Fatalf("Of(%q, %d, %v) = %v, %d; want %v, %d", sorted(m), seq, n, got, f, want, e)
		}
	}
}

// steps are pairs, the changes that are done to them, and what they are then.
type steps struct {
	before []api.Pair
	c      []api.Change
	after  []api.Pair
}

// walks are some that go both ways.
func walks() []steps {
	l := of("b", "x", "d", "y")
	return []steps{
		{nil, nil, nil},
		{l, nil, l},
		{nil, []api.Change{born(1, "", "")}, of("", "")},
		{l, []api.Change{born(1, "a", "1")}, of("a", "1", "b", "x", "d", "y")},
		{l, []api.Change{born(1, "c", "")}, of("b", "x", "c", "", "d", "y")},
		{l, []api.Change{born(api.MaxNum, "e", size(32))}, of("b", "x", "d", "y", "e", size(32))},
		{l, []api.Change{born(1, size(16), "1")}, of("b", "x", "d", "y", size(16), "1")},
		{l, []api.Change{gone(1, "b", "x")}, of("d", "y")},
		{l, []api.Change{gone(1, "d", "y")}, of("b", "x")},
		{l, []api.Change{gone(2, "d", "y"), gone(1, "b", "x")}, nil},
		{l, []api.Change{set(1, "b", "x", "z")}, of("b", "z", "d", "y")},
		{l, []api.Change{set(1, "b", "x", "")}, of("b", "", "d", "y")},
		{l, []api.Change{set(1, "b", "x", "x")}, l},
		{of("b", ""), []api.Change{gone(1, "b", "")}, nil},
		{of("b", ""), []api.Change{set(1, "b", "", "")}, of("b", "")},
		// Some of one key, one behind the other; their numbers do not matter.
		{l, []api.Change{set(1, "b", "x", "1"), set(1, "b", "1", "2"), set(1, "b", "2", "x")}, l},
		{l, []api.Change{gone(9, "b", "x"), born(8, "b", "n"), set(7, "b", "n", "m")}, of("b", "m", "d", "y")},
		{l, []api.Change{born(1, "c", "1"), gone(1, "c", "1"), born(1, "c", "1"), gone(1, "c", "1")}, l},
		{l, []api.Change{born(1, "a", "1"), gone(2, "b", "x"), set(3, "a", "1", "2"), set(3, "d", "y", "b"), gone(5, "a", "2"), born(6, "b", "3")}, of("b", "3", "d", "b")},
		// The same text as a key and as values of other keys.
		{of("a", "b", "b", "a"), []api.Change{set(1, "a", "b", "a"), set(2, "b", "a", "b")}, of("a", "a", "b", "b")},
	}
}

// P15.2, P15.4: changes are done in order, and undone with the last one first.
func TestWalks(t *testing.T) {
	for i, x := range walks() {
		before, c, after := slices.Clone(x.before), slices.Clone(x.c), slices.Clone(x.after)
		if got, e := Do(x.before, x.c...); e != api.OK || !slices.Equal(got, x.after) {
			t.Errorf("%d: Do(%q, %v) = %q, %d; want %q", i, x.before, x.c, got, e, x.after)
		}
		if got, e := Undo(x.after, x.c...); e != api.OK || !slices.Equal(got, x.before) {
			t.Errorf("%d: Undo(%q, %v) = %q, %d; want %q", i, x.after, x.c, got, e, x.before)
		}
		if !slices.Equal(x.before, before) || !slices.Equal(x.c, c) || !slices.Equal(x.after, after) {
			t.Errorf("%d: what was handed in is changed: %q, %v, %q", i, x.before, x.c, x.after)
		}
	}
}

// keeps asks that a call is refused, with what it was given.
func keeps(t *testing.T, name string, call func([]api.Pair, ...api.Change) ([]api.Pair, api.Errno), l []api.Pair, c ...api.Change) {
	t.Helper()
	was, given := slices.Clone(l), slices.Clone(c)
	if got, e := call(l, c...); e != api.ErrArg || !slices.Equal(got, was) {
		t.Errorf("%s(%q, %v) = %q, %d; want what it was given, ErrArg", name, l, c, got, e)
	}
	if !slices.Equal(l, was) || !slices.Equal(c, given) {
		t.Errorf("%s changed what was handed in to %q, %v", name, l, c)
	}
}

// P15.2: ErrArg, and the pairs as they were, of changes that do not fit.
func TestUnfit(t *testing.T) {
	l := of("b", "x", "d", "")
	for _, c := range []api.Change{
		born(1, "b", "x"), // it is there
		born(1, "b", "y"),
		born(1, "d", ""),
		set(1, "b", "y", "x"), // with another value
		set(1, "b", "", "x"),
		set(1, "b", "xx", "x"),
		set(1, "d", "x", ""),
		set(1, "a", "", ""), // it is not there
		set(1, "a", "x", "x"),
		set(1, "c", "x", "x"),
		set(1, "e", "x", "x"),
		gone(1, "b", "X"),
		gone(1, "b", ""),
		gone(1, "a", "x"),
		gone(1, "a", ""),
	} {
		keeps(t, "Do", Do, l, c)
		keeps(t, "Do", Do, l, set(1, "b", "x", "x"), c)
		keeps(t, "Do", Do, l, c, set(1, "b", "x", "x"))
		// Turned round it does not fit behind.
		u := api.Change{Seq: 1, Key: c.Key, Had: c.Has, Before: c.After, Has: c.Had, After: c.Before}
		keeps(t, "Undo", Undo, l, u)
		keeps(t, "Undo", Undo, l, u, set(1, "b", "x", "x"))
		keeps(t, "Undo", Undo, l, set(1, "b", "x", "x"), u)
	}
	// Each fits alone, but not behind or ahead of the other one.
	keeps(t, "Do", Do, l, born(1, "a", ""), born(2, "a", ""))
	keeps(t, "Do", Do, l, gone(1, "b", "x"), gone(2, "b", "x"))
	keeps(t, "Do", Do, l, gone(1, "b", "x"), set(2, "b", "x", "y"))
	keeps(t, "Do", Do, l, set(1, "b", "x", "y"), set(2, "b", "x", "y"))
	keeps(t, "Do", Do, l, set(2, "b", "y", "x"), set(1, "b", "x", "y"))
	keeps(t, "Undo", Undo, l, set(1, "b", "y", "x"), set(2, "b", "y", "x"))
	keeps(t, "Undo", Undo, l, born(1, "b", "x"), born(2, "b", "x"))
	keeps(t, "Undo", Undo, l, gone(1, "a", ""), gone(2, "a", ""))
	keeps(t, "Undo", Undo, l, set(1, "b", "x", "y"), set(2, "b", "z", "x"))
}

// P15.2: ErrArg of changes that may not be, wherever they stand, though the
// pairs fit ahead of them and behind.
func TestWrongChanges(t *testing.T) {
	for _, l := range [][]api.Pair{nil, of("a", "x"), of("a", "x", "b", "x"), of("a", ""), of("a", "x", "b", "")} {
		for _, c := range wrongChanges() {
			for _, call := range []struct {
				name string
				call func([]api.Pair, ...api.Change) ([]api.Pair, api.Errno)
			}{{"Do", Do}, {"Undo", Undo}} {
				keeps(t, call.name, call.call, l, c)
				keeps(t, call.name, call.call, l, born(1, "c", ""), c)
				keeps(t, call.name, call.call, l, c, gone(1, "c", ""))
			}
		}
	}
	// A value that is too long is nowhere, and a key is nowhere either: so the
	// pairs have to be such as can't stand well.
	keeps(t, "Do", Do, of("a", size(33)), set(1, "a", size(33), "x"))
	keeps(t, "Undo", Undo, of(size(17), "x"), born(1, size(17), "x"))
}

// P15.2: ErrArg of pairs that do not stand well, with and without changes.
func TestUnwell(t *testing.T) {
	for _, l := range unwell() {
		keeps(t, "Do", Do, l)
		keeps(t, "Undo", Undo, l)
		keeps(t, "Do", Do, l, born(1, "zz", "x"))
		keeps(t, "Undo", Undo, l, gone(1, "zz", "x"))
		p := l[0]
		keeps(t, "Do", Do, l, set(1, p.Key, p.Value, "x"))
		keeps(t, "Undo", Undo, l, set(1, p.Key, "x", p.Value))
		keeps(t, "Do", Do, l, gone(1, p.Key, p.Value))
		keeps(t, "Undo", Undo, l, born(1, p.Key, p.Value))
	}
}

// P15.2: what is answered is new memory.
func TestNewMemory(t *testing.T) {
	calls := []func([]api.Pair, ...api.Change) ([]api.Pair, api.Errno){Do, Undo}
	for _, call := range calls {
		for _, c := range [][]api.Change{nil, {set(1, "b", "x", "x")}, {born(1, "a", "b")}, {{}}} {
			l := of("a", "1", "b", "x")
			got, _ := call(l, c...)
			for i := range got {
				got[i].Value = "!"
			}
			_ = append(got[:1], api.Pair{Key: "!"})
			if !slices.Equal(l, of("a", "1", "b", "x")) {
				t.Errorf("who writes into the answer writes into what was handed in: %q", l)
			}
		}
		l := of("b", "1", "a", "x")
		got, _ := call(l)
		got[0].Value = "!"
		if !slices.Equal(l, of("b", "1", "a", "x")) {
			t.Errorf("who writes into the answer writes into what does not stand well: %q", l)
		}
	}
}

// P15.2: many changes of few keys, of which each may or may not fit.
func TestSecondReading(t *testing.T) {
	next := numbers(2)
	keys := []string{"", "a", "b"}
	values := []string{"", "x"}
	refused := 0
	for range 20000 {
		m := map[string]state{}
		for range next(4) {
			m[keys[next(3)]] = state{values[next(2)], true}
		}
		l := sorted(m)
		var c []api.Change
		for range next(4) {
			x := api.Change{Seq: next(8), Key: keys[next(3)], Had: next(2) == 0, Has: next(2) == 0}
			if x.Had || next(10) == 0 {
				x.Before = values[next(2)]
			}
			if x.Has || next(10) == 0 {
				x.After = values[next(2)]
			}
			c = append(c, x)
		}
		want, e := did(l, c...)
		if got, f := Do(l, c...); f != e || !slices.Equal(got, want) {
			t.Fatalf("Do(%q, %v) = %q, %d; want %q, %d", l, c, got, f, want, e)
		}
		if e != api.OK {
			refused++
		}
		want, e = undid(l, c...)
		if got, f := Undo(l, c...); f != e || !slices.Equal(got, want) {
			t.Fatalf("Undo(%q, %v) = %q, %d; want %q, %d", l, c, got, f, want, e)
		}
	}
	if refused < 2000 || refused > 18000 {
		t.Errorf("%d of 20000 are refused: too few, or too many", refused)
	}
}

// P15.2: many changes of many pairs take no more than a moment.
func TestMany(t *testing.T) {
	const many = 60_000
	var before, after []api.Pair
	var c []api.Change
	for i := range many {
		key := eight(uint64(i))
		switch i % 3 {
		case 0:
			after = append(after, api.Pair{Key: key, Value: "new"})
			c = append(c, born(i+1, key, "new"))
		case 1:
			before = append(before, api.Pair{Key: key, Value: "old"})
			c = append(c, gone(i+1, key, "old"))
		case 2:
			before = append(before, api.Pair{Key: key, Value: "old"})
			after = append(after, api.Pair{Key: key, Value: "new"})
			c = append(c, set(i+1, key, "old", "new"))
		}
	}
	// As they are of unlike keys, they go in any order.
	slices.SortFunc(c, func(a, b api.Change) int { return a.Seq*31%many - b.Seq*31%many })
	if got, e := Do(before, c...); e != api.OK || !slices.Equal(got, after) {
		t.Errorf("Do of many: %d pairs, %d", len(got), e)
	}
	if got, e := Undo(after, c...); e != api.OK || !slices.Equal(got, before) {
		t.Errorf("Undo of many: %d pairs, %d", len(got), e)
	}
}

// P15.3: two changes of one key as one.
func TestJoin(t *testing.T) {
	for _, x := range []struct {
		a, b, want api.Change
		e          api.Errno
	}{
		{born(1, "k", "x"), set(2, "k", "x", "y"), born(2, "k", "y"), api.OK},
		{set(1, "k", "w", "x"), set(2, "k", "x", "y"), set(2, "k", "w", "y"), api.OK},
		{set(1, "k", "w", "x"), set(9, "k", "x", "w"), set(9, "k", "w", "w"), api.OK},
		{set(1, "k", "w", "x"), gone(api.MaxNum, "k", "x"), gone(api.MaxNum, "k", "w"), api.OK},
		{gone(1, "k", "x"), born(2, "k", "y"), set(2, "k", "x", "y"), api.OK},
		{gone(api.MaxNum-1, "k", ""), born(api.MaxNum, "k", ""), set(api.MaxNum, "k", "", ""), api.OK},
		{born(1, "", ""), set(2, "", "", ""), born(2, "", ""), api.OK},
		{born(1, size(16), size(32)), set(2, size(16), size(32), ""), born(2, size(16), ""), api.OK},
		{born(1, "k", "x"), gone(2, "k", "x"), api.Change{}, api.ErrNone},
		{born(1, "", ""), gone(2, "", ""), api.Change{}, api.ErrNone},
		// The Keys are unlike.
		{born(1, "k", "x"), set(2, "l", "x", "y"), api.Change{}, api.ErrArg},
		{born(1, "k", "x"), gone(2, "l", "x"), api.Change{}, api.ErrArg},
		{born(1, "", "x"), set(2, "\x00", "x", "y"), api.Change{}, api.ErrArg},
		// b's Seq is not above a's.
		{born(2, "k", "x"), set(2, "k", "x", "y"), api.Change{}, api.ErrArg},
		{born(3, "k", "x"), set(2, "k", "x", "y"), api.Change{}, api.ErrArg},
		{born(2, "k", "x"), gone(2, "k", "x"), api.Change{}, api.ErrArg},
		{born(3, "k", "x"), gone(2, "k", "x"), api.Change{}, api.ErrArg},
		// What is ahead of b is not what is behind a.
		{born(1, "k", "x"), set(2, "k", "y", "z"), api.Change{}, api.ErrArg},
		{born(1, "k", "x"), set(2, "k", "", "z"), api.Change{}, api.ErrArg},
		{born(1, "k", "x"), gone(2, "k", "y"), api.Change{}, api.ErrArg},
		{born(1, "k", ""), born(2, "k", ""), api.Change{}, api.ErrArg},
		{born(1, "k", "x"), born(2, "k", "x"), api.Change{}, api.ErrArg},
		{gone(1, "k", ""), set(2, "k", "", ""), api.Change{}, api.ErrArg},
		{gone(1, "k", ""), gone(2, "k", ""), api.Change{}, api.ErrArg},
		{gone(1, "k", "x"), gone(2, "k", "x"), api.Change{}, api.ErrArg},
		{gone(1, "k", "x"), set(2, "k", "x", "x"), api.Change{}, api.ErrArg},
	} {
		if got, e := Join(x.a, x.b); got != x.want || e != x.e {
			t.Errorf("Join(%v, %v) = %v, %d; want %v, %d", x.a, x.b, got, e, x.want, x.e)
		}
	}
}

// P15.3: ErrArg, if either may not be, though the one is behind the other.
func TestJoinWrong(t *testing.T) {
	wrong := func(a, b api.Change) {
		t.Helper()
		if got, e := Join(a, b); got != (api.Change{}) || e != api.ErrArg {
			t.Errorf("Join(%v, %v) = %v, %d; want ErrArg", a, b, got, e)
		}
	}
	for _, c := range wrongChanges() {
		// Ones that would stand behind and ahead of c, but for c's Seq or Key.
		seq := min(max(c.Seq, 1), api.MaxNum-1)
		wrong(c, api.Change{Seq: seq + 1, Key: c.Key, Had: c.Has, Before: c.After, Has: true, After: "y"})
		wrong(c, api.Change{Seq: seq + 1, Key: c.Key, Had: c.Has, Before: c.After, Has: c.Has, After: c.After})
		wrong(api.Change{Seq: max(c.Seq, 2) - 1, Key: c.Key, Had: true, Before: "y", Has: c.Had, After: c.Before}, c)
		wrong(api.Change{Seq: max(c.Seq, 2) - 1, Key: c.Key, Had: c.Had, Before: c.Before, Has: c.Had, After: c.Before}, c)
		wrong(c, c)
	}
	wrong(set(0, "k", "x", "y"), set(1, "k", "y", "z"))
	wrong(born(0, "k", "x"), gone(1, "k", "x"))
	wrong(set(-5, "k", "x", "y"), set(1, "k", "y", "z"))
	wrong(set(api.MaxNum, "k", "x", "y"), set(api.MaxNum+1, "k", "y", "z"))
	wrong(born(api.MaxNum, "k", "x"), gone(math.MaxInt, "k", "x"))
	wrong(api.Change{Seq: 1, Key: "k"}, born(2, "k", "x"))
	wrong(gone(1, "k", "x"), api.Change{Seq: 2, Key: "k"})
	wrong(api.Change{Seq: 1, Key: "k"}, api.Change{Seq: 2, Key: "k"})
}

// P15.3: a change of two does to pairs what both do, for all changes of one key
// and few values.
func TestJoinDoesBoth(t *testing.T) {
	sides := []state{{}, {"", true}, {"x", true}, {"y", true}}
	for _, a := range sides {
		for _, b := range sides {
			for _, c := range sides {
				for _, d := range sides {
					x := api.Change{Seq: 3, Key: "k", Had: a.has, Before: a.value, Has: b.has, After: b.value}
					y := api.Change{Seq: 5, Key: "k", Had: c.has, Before: c.value, Has: d.has, After: d.value}
					want, e := api.Change{Seq: 5, Key: "k", Had: a.has, Before: a.value, Has: d.has, After: d.value}, api.OK
					if !may(x) || !may(y) || b != c {
						want, e = api.Change{}, api.ErrArg
					} else if !a.has && !d.has {
						want, e = api.Change{}, api.ErrNone
					}
					got, f := Join(x, y)
					if got != want || f != e {
						t.Errorf("Join(%v, %v) = %v, %d; want %v, %d", x, y, got, f, want, e)
					}
					if f != api.OK {
						continue
					}
					l := sorted(map[string]state{"k": a, "l": {"z", true}})
					one, _ := Do(l, got)
					two, _ := Do(l, x, y)
					if !slices.Equal(one, two) {
						t.Errorf("%v does %q, both do %q", got, one, two)
					}
				}
			}
		}
	}
}

// P15.4: what notes do is done by their changes, and undone.
func TestThereAndBack(t *testing.T) {
	next := numbers(3)
	keys := []string{"", "a", "ab", "b", "c", "d", "e", size(16)}
	values := []string{"", "x", eight(3), size(32)}
	for range 300 {
		m := map[string]state{}
		for range next(8) {
			m[keys[next(8)]] = state{values[next(4)], true}
		}
		l := sorted(m)
		now := slices.Clone(l)
		var c []api.Change
		for range 12 {
			n := []api.Note{put("", values[next(4)]), del(""), add("", uint64(next(5)))}[next(3)]
			n.Key = keys[next(8)]
			m[n.Key] = made(m[n.Key], n)
			x, e := Of(now, len(c)+1, n)
			if e == api.ErrNone {
				continue
			}
			var f api.Errno
			now, f = Do(now, x)
			if e != api.OK || f != api.OK || !slices.Equal(now, sorted(m)) {
				t.Fatalf("%v, %v: %q, %d, %d; want %q", n, x, now, e, f, sorted(m))
			}
			c = append(c, x)
		}
		all, e := Do(l, c...)
		if e != api.OK || !slices.Equal(all, now) {
			t.Fatalf("Do(%q, %v) = %q, %d; want %q", l, c, all, e, now)
		}
		first, e := Undo(all, c...)
		if e != api.OK || !slices.Equal(first, l) {
			t.Fatalf("Undo(%q, %v) = %q, %d; want %q", all, c, first, e, l)
		}
		some := next(len(c) + 1)
		part, e := Undo(all, c[some:]...)
		want, f := Do(l, c[:some]...)
		if e != api.OK || f != api.OK || !slices.Equal(part, want) {
			t.Fatalf("the last ones of %v undone: %q, %d; want %q, %d", c, part, e, want, f)
		}
	}
}
