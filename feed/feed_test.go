package feed

import (
	"math"
	"slices"
	"strings"
	"testing"

	"weirkeeper/api"
	"weirkeeper/batch"
	"weirkeeper/past"
	"weirkeeper/trail"
)

// size answers a text of n bytes.
func size(n int) string {
	return strings.Repeat("k", n)
}

// born, gone and set are changes of a key that comes, goes, and has another
// value than it had.
func born(seq int, key, after string) api.Change {
	return api.Change{Seq: seq, Key: key, Has: true, After: after}
}
func gone(seq int, key, before string) api.Change {
	return api.Change{Seq: seq, Key: key, Had: true, Before: before}
}
func set(seq int, key, before, after string) api.Change {
	return api.Change{Seq: seq, Key: key, Had: true, Before: before, Has: true, After: after}
}

// changes is a list of them.
func changes(l ...api.Change) []api.Change { return l }

// of answers the pairs of keys and values that are given by turns.
func of(l ...string) []api.Pair {
	var pairs []api.Pair
	for i := 0; i+1 < len(l); i += 2 {
		pairs = append(pairs, api.Pair{Key: l[i], Value: l[i+1]})
	}
	return pairs
}

// from, upTo and is are ranges: from a key on, up to one, and between two.
func from(lo string) api.Range   { return api.Range{Lo: lo, Open: true} }
func upTo(hi string) api.Range   { return api.Range{Hi: hi} }
func is(lo, hi string) api.Range { return api.Range{Lo: lo, Hi: hi} }

// taking is one who takes pairs, those below next being taken; live is one who
// is told changes.
func taking(r api.Range, cursor int, next string) Sub {
	return Sub{Id: 7, Range: r, Cursor: cursor, Next: next}
}
func live(r api.Range, cursor int) Sub {
	return Sub{Id: 7, Range: r, Live: true, Cursor: cursor}
}

// noSubs are none, each in another way.
func noSubs() []Sub {
	all := from("")
	return []Sub{
		live(api.Range{Open: true, Hi: "a"}, 0),
		taking(api.Range{Lo: "a", Open: true, Hi: "\x00"}, 0, ""),
		live(from(size(17)), 0),
		taking(from(size(17)), 0, ""),
		taking(is("a", size(18)), 0, ""),
		live(upTo(size(18)), 0),
		live(all, -1),
		live(all, math.MinInt),
		taking(all, -1, ""),
		taking(all, math.MinInt, "a"),
		live(all, api.MaxNum+1),
		live(all, math.MaxInt),
		taking(all, api.MaxNum+1, ""),
		taking(all, 0, size(18)),
		taking(all, 0, size(70000)),
		{Range: all, Live: true, Next: "a"},
		{Range: all, Live: true, Next: "\x00"},
		{Range: all, Live: true, Next: size(17)},
	}
}

// unwell are pairs that do not stand well, each in another way.
func unwell() [][]api.Pair {
	return [][]api.Pair{
		of("a", "x", "a", "x"),
		of("b", "1", "a", "2"),
		of("a", "1", "c", "2", "b", "3"),
		of(size(17), ""),
		of("a", "", size(17), "", "z", ""),
		of("a", size(33)),
	}
}

// noTrails are none, each in another way. Their last change fits behind the
// pairs of a and x.
func noTrails() [][]api.Change {
	last := born(9, "a", "x")
	return [][]api.Change{
		changes(born(9, "b", ""), last),
		changes(born(10, "b", ""), last),
		changes(last, last),
		changes(born(0, "b", ""), last),
		changes(born(-1, "b", ""), last),
		changes(last, born(api.MaxNum+1, "b", "")),
		changes(born(1, size(17), ""), last),
		changes(born(1, "b", size(33)), last),
		changes(api.Change{Seq: 1, Key: "b", Before: "x", Has: true}, last),
		changes(api.Change{Seq: 1, Key: "b"}, last),
	}
}

// numbers answers numbers from 0 up to below the one it is asked for, the same
// ones in every run.
func numbers(seed uint64) func(int) int {
	s := seed*2 + 1
	return func(below int) int {
		s = s*6364136223846793005 + 1442695040888963407
		return int(s >> 33 % uint64(below))
	}
}

// same answers whether two chunks are alike.
func same(a, b Chunk) bool {
	return slices.Equal(a.Pairs, b.Pairs) && slices.Equal(a.Changes, b.Changes) && a.More == b.More
}

// store is what calls are handed: pairs, the changes that led there, and from
// which Seq on they are there.
type store struct {
	l     []api.Pair
	t     []api.Change
	floor int
}

func (o store) clone() store {
	return store{slices.Clone(o.l), slices.Clone(o.t), o.floor}
}

// kept asks that a store is as it was.
func (o store) kept(t *testing.T, was store) {
	t.Helper()
	if !slices.Equal(o.l, was.l) || !slices.Equal(o.t, was.t) {
		t.Errorf("what was handed in was changed: %q, %v", o.l, o.t)
	}
}

// polled asks what Poll answers.
func polled(t *testing.T, s Sub, o store, most int, want Chunk, e api.Errno) {
	t.Helper()
	was := o.clone()
	got, f := Poll(s, o.l, o.t, o.floor, most)
	if !same(got, want) || f != e {
		t.Errorf("Poll(%v, %v, %d) = %v, %d; want %v, %d", s, o, most, got, f, want, e)
	}
	o.kept(t, was)
}

// took asks what Took answers.
func took(t *testing.T, s Sub, o store, n int, want Sub, e api.Errno) {
	t.Helper()
	was := o.clone()
	got, f := Took(s, o.l, o.t, o.floor, n)
	if got != want || f != e {
		t.Errorf("Took(%v, %v, %d) = %v, %d; want %v, %d", s, o, n, got, f, want, e)
	}
	o.kept(t, was)
}

// refused asks that Poll and Took of those who take pairs, and Poll of those who
// are Live, answer e.
func refused(t *testing.T, o store, cursor int, e api.Errno) {
	t.Helper()
	for _, r := range []api.Range{from(""), from("z"), is("b", "a"), upTo("b")} {
		for _, n := range []int{1, 2, math.MaxInt} {
			polled(t, live(r, cursor), o, n, Chunk{}, e)
			for _, next := range []string{"", "a\x00", "zz"} {
				s := taking(r, cursor, next)
				polled(t, s, o, n, Chunk{}, e)
				took(t, s, o, n, s, e)
				took(t, s, o, 0, s, e)
			}
		}
	}
}

// history answers a store whose pairs as of 4 are those of a, b, c, d and e, 1
// each, with changes from 5 up to 10 since then, and some ahead.
func history() store {
	return store{
		l: of("", "new", "a", "3", "c", "1", "d", "1", "e", "1", "f", "1"),
		t: changes(
			gone(1, "", "old"),
			born(2, "b", "1"),
			born(4, "e", "1"),
			set(5, "a", "1", "2"),
			born(6, "f", "0"),
			gone(7, "b", "1"),
			set(8, "f", "0", "1"),
			born(9, "", "new"),
			set(10, "a", "2", "3"),
		),
	}
}

// P19.1: of each number and text, its edges.
func TestRight(t *testing.T) {
	for _, s := range []Sub{
		{},
		{Live: true},
		live(from(""), 0),
		live(from(size(16)), api.MaxNum),
		live(upTo(size(17)), 1),
		taking(is(size(16), size(17)), api.MaxNum, size(17)),
		taking(from(""), 0, ""),
		taking(from("b"), 5, "a"),
		taking(upTo("b"), 5, "c"),
		taking(is("b", "a"), 5, "\x00"),
		{Id: -1},
		{Id: math.MinInt, Live: true},
		{Id: math.MaxInt, Range: from("")},
	} {
		if !Right(s) {
			t.Errorf("%v is a subscriber", s)
		}
	}
	for _, s := range noSubs() {
		if Right(s) {
			t.Errorf("%v is no subscriber", s)
		}
	}
}

// P19.1: who takes pairs is told those as of the Cursor, from Next on, and no
// changes.
func TestPollPairs(t *testing.T) {
	o := history()
	for _, x := range []struct {
		r      api.Range
		cursor int
		next   string
		most   int
		want   []api.Pair
		more   bool
	}{
		{from(""), 4, "", 9, of("a", "1", "b", "1", "c", "1", "d", "1", "e", "1"), false},
		{from(""), 4, "", 5, of("a", "1", "b", "1", "c", "1", "d", "1", "e", "1"), false},
		{from(""), 4, "", 4, of("a", "1", "b", "1", "c", "1", "d", "1"), true},
		{from(""), 4, "", 1, of("a", "1"), true},
		{from(""), 4, "", math.MaxInt, of("a", "1", "b", "1", "c", "1", "d", "1", "e", "1"), false},
		// As of earlier and of later ones.
		{from(""), 0, "", 2, of("", "old", "a", "1"), true},
		{from(""), 3, "", 9, of("a", "1", "b", "1", "c", "1", "d", "1"), false},
		{from(""), 9, "", 9, of("", "new", "a", "2", "c", "1", "d", "1", "e", "1", "f", "1"), false},
		{from(""), 10, "", 9, o.l, false},
		{from(""), api.MaxNum, "", 9, o.l, false},
		// Next itself is left, what is below is not.
		{from(""), 4, "b", 9, of("b", "1", "c", "1", "d", "1", "e", "1"), false},
		{from(""), 4, "b\x00", 9, of("c", "1", "d", "1", "e", "1"), false},
		{from(""), 4, "b\x00", 2, of("c", "1", "d", "1"), true},
		{from(""), 4, "e", 1, of("e", "1"), false},
		{from(""), 4, "e\x00", 1, nil, false},
		{from(""), 0, "\x00", 1, of("a", "1"), true},
		// The range counts, and what is outside of it is not more of it.
		{is("b", "d"), 4, "", 2, of("b", "1", "c", "1"), false},
		{is("b", "d"), 4, "", 1, of("b", "1"), true},
		{is("b", "d"), 4, "a", 9, of("b", "1", "c", "1"), false},
		{is("b", "d"), 4, "b\x00", 9, of("c", "1"), false},
		{is("b", "d"), 4, "d", 9, nil, false},
		{is("b", "d"), 4, "z", 9, nil, false},
		{is("b", "d\x00"), 4, "c\x00", 9, of("d", "1"), false},
		{upTo("b"), 4, "", 9, of("a", "1"), false},
		{from("d"), 4, "b", 1, of("d", "1"), true},
		{from("d"), 4, "e", 1, of("e", "1"), false},
		{is("d", "b"), 4, "", 9, nil, false},
		{api.Range{}, 4, "", 9, nil, false},
		{from("g"), 4, "", 9, nil, false},
	} {
		polled(t, taking(x.r, x.cursor, x.next), o, x.most, Chunk{Pairs: x.want, More: x.more}, api.OK)
	}
}

// P19.1: who is Live is told the changes of the range above the Cursor, and no
// pairs.
func TestPollChanges(t *testing.T) {
	o := history()
	c := o.t
	for _, x := range []struct {
		r      api.Range
		cursor int
		most   int
		want   []api.Change
		more   bool
	}{
		{from(""), 0, 99, c, false},
		{from(""), 0, 9, c, false},
		{from(""), 0, 8, c[:8], true},
		{from(""), 0, 1, c[:1], true},
		{from(""), 0, math.MaxInt, c, false},
		{from(""), 2, 9, c[2:], false},
		{from(""), 3, 9, c[2:], false},
		{from(""), 4, 9, c[3:], false},
		{from(""), 4, 5, c[3:8], true},
		{from(""), 9, 1, c[8:], false},
		{from(""), 10, 1, nil, false},
		{from(""), api.MaxNum, 1, nil, false},
		{is("a", "c"), 4, 3, changes(c[3], c[5], c[8]), false},
		{is("a", "c"), 4, 2, changes(c[3], c[5]), true},
		{is("a", "c"), 5, 2, changes(c[5], c[8]), false},
		{is("a", "c"), 5, 1, changes(c[5]), true},
		// What is of other ranges is not more.
		{is("a\x00", "c"), 4, 1, changes(c[5]), false},
		{upTo("a"), 4, 1, changes(c[7]), false},
		{from("f"), 4, 1, changes(c[4]), true},
		{from("f"), 4, 2, changes(c[4], c[6]), false},
		{is("c", "e"), 0, 9, nil, false},
		{is("f", "a"), 0, 9, nil, false},
		{api.Range{}, 0, 9, nil, false},
	} {
		polled(t, live(x.r, x.cursor), o, x.most, Chunk{Changes: x.want, More: x.more}, api.OK)
	}
}

// P19.1, P19.2: a new one of no pairs.
func TestNoPairs(t *testing.T) {
	for _, r := range []api.Range{{}, from(""), is("b", "d"), is("d", "b")} {
		for _, cursor := range []int{0, 1, api.MaxNum} {
			s := taking(r, cursor, "")
			polled(t, s, store{}, 1, Chunk{}, api.OK)
			took(t, s, store{}, 0, live(r, cursor), api.OK)
			took(t, s, store{}, 1, s, api.ErrAhead)
			took(t, taking(r, cursor, "z"), store{}, 0, live(r, cursor), api.OK)
			polled(t, live(r, cursor), store{}, 1, Chunk{}, api.OK)
		}
	}
	// Changes above the Cursor are told once it is Live.
	o := store{l: of("a", "x"), t: changes(born(5, "a", "x"))}
	s := taking(from(""), 4, "")
	polled(t, s, o, 9, Chunk{}, api.OK)
	took(t, s, o, 1, s, api.ErrAhead)
	took(t, s, o, 0, live(from(""), 4), api.OK)
	polled(t, live(from(""), 4), o, 9, Chunk{Changes: o.t}, api.OK)
}

// P19.1, P19.2: ErrArg of what is no subscriber, and of wrong numbers, whatever
// else is wrong.
func TestWrongSubs(t *testing.T) {
	wrong := []store{history(), {}, {l: of("b", "", "a", "")}, {t: changes(born(0, "a", ""))}, {floor: math.MaxInt}}
	for _, o := range wrong {
		for _, s := range noSubs() {
			for _, n := range []int{-1, 0, 1, 9, math.MaxInt} {
				polled(t, s, o, n, Chunk{}, api.ErrArg)
				took(t, s, o, n, s, api.ErrArg)
			}
		}
		for _, s := range []Sub{taking(from(""), 4, ""), taking(from(""), 4, "b"), taking(from("z"), 4, ""), live(from(""), 4)} {
			for _, n := range []int{math.MinInt, -2, -1} {
				polled(t, s, o, n, Chunk{}, api.ErrArg)
				took(t, s, o, n, s, api.ErrArg)
			}
			polled(t, s, o, 0, Chunk{}, api.ErrArg)
		}
		for _, n := range []int{0, 1, 9} {
			s := live(from(""), 4)
			took(t, s, o, n, s, api.ErrArg)
		}
	}
}

// P19.1, P19.2: At's errors, as of the Cursor, whether the range has any of what
// is wrong or not.
func TestWrongStores(t *testing.T) {
	l, c := of("a", "x"), changes(born(9, "a", "x"))
	for _, cursor := range []int{0, 5, 8, 9, 10, api.MaxNum} {
		for _, floor := range []int{math.MinInt, 0, 9, math.MaxInt} {
			for _, u := range unwell() {
				refused(t, store{u, nil, floor}, cursor, api.ErrArg)
			}
			for _, n := range noTrails() {
				refused(t, store{l, n, floor}, cursor, api.ErrArg)
			}
		}
	}
	for _, x := range []struct{ floor, cursor int }{
		{1, 0}, {9, 8}, {10, 9}, {99, 0}, {api.MaxNum, api.MaxNum - 1}, {math.MaxInt, api.MaxNum},
	} {
		refused(t, store{l, c, x.floor}, x.cursor, api.ErrOld)
		refused(t, store{nil, nil, x.floor}, x.cursor, api.ErrOld)
		// ErrOld is named ahead of what does not fit.
		refused(t, store{nil, c, x.floor}, x.cursor, api.ErrOld)
	}
	for _, o := range []store{{nil, c, 0}, {of("a", "y"), c, 5}, {l, changes(gone(9, "a", "")), 0}, {l, changes(set(9, "b", "", "x")), 8}} {
		refused(t, o, 8, api.ErrArg)
		// As of 9 it is not undone.
		polled(t, live(from(""), 9), o, 9, Chunk{}, api.OK)
		polled(t, taking(from(""), 9, ""), o, 9, Chunk{Pairs: o.l}, api.OK)
	}
	// At the floor there is still an answer.
	for _, floor := range []int{math.MinInt, 0, 7, 8} {
		o := store{l, c, floor}
		polled(t, live(from(""), 8), o, 1, Chunk{Changes: c}, api.OK)
		polled(t, taking(from(""), 8, ""), o, 1, Chunk{}, api.OK)
		took(t, taking(from(""), 8, ""), o, 0, live(from(""), 8), api.OK)
	}
}

// P19.2: how far one is that took so many.
func TestTook(t *testing.T) {
	o := history()
	for _, x := range []struct {
		r       api.Range
		next    string
		n       int
		becomes string
	}{
		{from(""), "", 0, ""},
		{from(""), "", 1, "a\x00"},
		{from(""), "", 2, "b\x00"},
		{from(""), "", 4, "d\x00"},
		{from(""), "a\x00", 0, "a\x00"},
		{from(""), "a\x00", 1, "b\x00"},
		{from(""), "a\x00", 3, "d\x00"},
		{from(""), "c", 1, "c\x00"},
		{from(""), "aaa", 0, "aaa"},
		{from("d"), "a", 0, "a"},
		{from("d"), "a", 1, "d\x00"},
		{is("b", "e"), "", 2, "c\x00"},
		{is("b", "e"), "c", 1, "c\x00"},
	} {
		took(t, taking(x.r, 4, x.next), o, x.n, taking(x.r, 4, x.becomes), api.OK)
	}
	for _, x := range []struct {
		r    api.Range
		next string
		left int
	}{
		{from(""), "", 5}, {from(""), "a\x00", 4}, {from(""), "e", 1}, {from(""), "e\x00", 0}, {from(""), "zz", 0},
		{upTo("c"), "", 2}, {upTo("c"), "c", 0}, {is("b", "e"), "c\x00", 1}, {is("e", "b"), "", 0}, {from("f"), "", 0}, {api.Range{}, "", 0},
	} {
		s := taking(x.r, 4, x.next)
		took(t, s, o, x.left, live(x.r, 4), api.OK)
		for _, n := range []int{x.left + 1, x.left + 2, math.MaxInt} {
			took(t, s, o, n, s, api.ErrAhead)
		}
	}
}

// P19.2: behind the longest key Next is as long as it may be, and all else of a
// subscriber stays.
func TestTookLongest(t *testing.T) {
	o := store{l: of("a", "1", size(16), "2", "z", "3")}
	s := Sub{Id: -3, Range: from("a"), Cursor: api.MaxNum}
	want := s
	want.Next = size(16) + "\x00"
	took(t, s, o, 2, want, api.OK)
	if !Right(want) {
		t.Errorf("%v is a subscriber", want)
	}
	polled(t, want, o, 9, Chunk{Pairs: of("z", "3")}, api.OK)
	end := s
	end.Live = true
	took(t, want, o, 1, end, api.OK)
	took(t, s, o, 3, end, api.OK)
	// The empty key, and those that come just behind one another.
	o.l = of("", "", "\x00", "", "\x00\x00", "")
	s = taking(from(""), 0, "")
	took(t, s, o, 1, taking(from(""), 0, "\x00"), api.OK)
	took(t, taking(from(""), 0, "\x00"), o, 1, taking(from(""), 0, "\x00\x00"), api.OK)
	took(t, taking(from(""), 0, "\x00\x00"), o, 1, live(from(""), 0), api.OK)
}

// P19.2: up to which Seq one may acknowledge.
func TestAck(t *testing.T) {
	for _, x := range []struct {
		s         Sub
		head, seq int
		e         api.Errno
	}{
		{live(from(""), 4), 9, 4, api.OK},
		{live(from(""), 4), 9, 5, api.OK},
		{live(from(""), 4), 9, 9, api.OK},
		{live(is("b", "a"), 4), 4, 4, api.OK},
		{live(from(""), 0), 0, 0, api.OK},
		{live(from(""), 0), api.MaxNum, api.MaxNum, api.OK},
		{live(from(""), api.MaxNum), api.MaxNum, api.MaxNum, api.OK},
		{live(from(""), 4), math.MaxInt, 7, api.OK},
		{Sub{Id: -9, Live: true, Cursor: 1}, 3, 2, api.OK},
		{live(from(""), 4), 9, 3, api.ErrArg},
		{live(from(""), 4), 9, -1, api.ErrArg},
		{live(from(""), 4), 9, math.MinInt, api.ErrArg},
		{live(from(""), 0), 9, -1, api.ErrArg},
		{live(from(""), 4), 9, 10, api.ErrAhead},
		{live(from(""), 4), 9, math.MaxInt, api.ErrAhead},
		{live(from(""), 4), 3, 4, api.ErrAhead},
		{live(from(""), 4), -1, 4, api.ErrAhead},
		{live(from(""), 0), math.MinInt, 0, api.ErrAhead},
		{live(from(""), 4), 2, 3, api.ErrArg},
		{taking(from(""), 4, ""), 9, 4, api.ErrArg},
		{taking(from(""), 4, ""), 9, 5, api.ErrArg},
		{taking(from(""), 4, "b"), 9, 10, api.ErrArg},
		{taking(from(""), 4, "b"), 9, 3, api.ErrArg},
	} {
		want := x.s
		if x.e == api.OK {
			want.Cursor = x.seq
		}
		if got, e := Ack(x.s, x.head, x.seq); got != want || e != x.e {
			t.Errorf("Ack(%v, %d, %d) = %v, %d; want %v, %d", x.s, x.head, x.seq, got, e, want, x.e)
		}
	}
	for _, s := range noSubs() {
		for _, seq := range []int{math.MinInt, -1, 0, s.Cursor, api.MaxNum, math.MaxInt} {
			for _, head := range []int{-1, 0, 9, math.MaxInt} {
				if got, e := Ack(s, head, seq); got != s || e != api.ErrArg {
					t.Errorf("Ack(%v, %d, %d) = %v, %d", s, head, seq, got, e)
				}
			}
		}
	}
}

// pairs and did are chunks of pairs, and of changes.
func pairs(l ...string) Chunk   { return Chunk{Pairs: of(l...)} }
func did(l ...api.Change) Chunk { return Chunk{Changes: l} }
func chunks(l ...Chunk) []Chunk { return l }

// both is a chunk of the pairs of one, and the changes of the other one.
func both(a, b Chunk) Chunk {
	return Chunk{Pairs: a.Pairs, Changes: b.Changes}
}

// withMore is a chunk that more stands behind.
func withMore(c Chunk) Chunk {
	c.More = true
	return c
}

// copies answers chunks that are alike, with lists of their own.
func copies(l []Chunk) []Chunk {
	var all []Chunk
	for _, c := range l {
		all = append(all, Chunk{slices.Clone(c.Pairs), slices.Clone(c.Changes), c.More})
	}
	return all
}

// replay asks what Replay answers.
func replay(t *testing.T, l []api.Pair, c []Chunk, want []api.Pair, e api.Errno) {
	t.Helper()
	was, given := slices.Clone(l), copies(c)
	if got, f := Replay(l, c...); !slices.Equal(got, want) || f != e {
		t.Errorf("Replay(%q, %v) = %q, %d; want %q, %d", l, c, got, f, want, e)
	}
	if !slices.Equal(l, was) || !slices.EqualFunc(c, given, same) {
		t.Errorf("what was handed in was changed: %q, %v", l, c)
	}
}

// P19.3: of each chunk its pairs put, and then its changes done.
func TestReplay(t *testing.T) {
	l := of("a", "1", "c", "3")
	for _, x := range []struct {
		c    []Chunk
		want []api.Pair
	}{
		{nil, l},
		{chunks(Chunk{}), l},
		{chunks(Chunk{}, Chunk{More: true}, Chunk{}), l},
		{chunks(pairs("b", "2")), of("a", "1", "b", "2", "c", "3")},
		{chunks(pairs("", "", "z", size(32))), of("", "", "a", "1", "c", "3", "z", size(32))},
		{chunks(pairs("a", "9"), pairs("c", "")), of("a", "9", "c", "")},
		// Pairs are put as notes are, in any order, the last one of a key standing.
		{chunks(pairs("d", "1", "b", "1", "d", "2")), of("a", "1", "b", "1", "c", "3", "d", "2")},
		{chunks(pairs("d", "1"), pairs("b", "1"), pairs("d", "2")), of("a", "1", "b", "1", "c", "3", "d", "2")},
		{chunks(did(set(1, "a", "1", "2"))), of("a", "2", "c", "3")},
		{chunks(did(gone(1, "a", "1"), gone(2, "c", "3"))), nil},
		{chunks(did(gone(1, "a", "1")), did(gone(2, "c", "3"))), nil},
		{chunks(did(gone(1, "a", "1")), did(born(2, "a", "7"), set(3, "a", "7", ""))), of("a", "", "c", "3")},
		// Layer 15's Do asks nothing of how Seqs stand to one another.
		{chunks(did(set(9, "a", "1", "2")), did(set(9, "a", "2", "3")), did(set(1, "a", "3", "4"))), of("a", "4", "c", "3")},
		// Pairs stand ahead of the changes of their chunk, and behind those ahead.
		{chunks(both(pairs("b", "2"), did(gone(1, "b", "2")))), l},
		{chunks(both(pairs("a", "2"), did(set(1, "a", "2", "4")))), of("a", "4", "c", "3")},
		{chunks(did(born(1, "b", "2")), pairs("b", "5"), did(set(2, "b", "5", "6"))), of("a", "1", "b", "6", "c", "3")},
		{chunks(did(gone(1, "a", "1")), pairs("a", "1"), did(gone(2, "a", "1"))), of("c", "3")},
		{chunks(both(pairs("b", "1"), did(set(1, "b", "1", "2"))), both(pairs("b", "1"), did(gone(2, "b", "1")))), l},
		{chunks(both(pairs("b", "1"), did(set(1, "b", "1", "2"))), both(pairs("d", "4"), did(gone(2, "b", "2")))), of("a", "1", "c", "3", "d", "4")},
		{chunks(pairs("b", "1"), both(pairs("b", "2"), did(set(1, "b", "2", "3"))), did(set(2, "b", "3", "4")), pairs("b", "5")), of("a", "1", "b", "5", "c", "3")},
	} {
		replay(t, l, x.c, x.want, api.OK)
		var more []Chunk
		for _, c := range x.c {
			more = append(more, withMore(c), Chunk{})
		}
		replay(t, l, more, x.want, api.OK)
	}
	replay(t, nil, nil, nil, api.OK)
	replay(t, nil, chunks(Chunk{}), nil, api.OK)
	replay(t, nil, chunks(pairs("b", "2", "a", "1")), of("a", "1", "b", "2"), api.OK)
}

// P19.3: ErrArg, and what was there, if a pair cannot be put, or a change cannot
// be done, wherever it stands.
func TestReplayWrong(t *testing.T) {
	l := of("a", "1", "c", "3")
	for _, wrong := range []Chunk{
		pairs(size(17), ""),
		pairs("a", size(33)),
		pairs("b", "2", size(70000), ""),
		did(born(5, "a", "1")),
		did(born(5, "c", "")),
		did(set(5, "b", "", "1")),
		did(set(5, "a", "2", "1")),
		did(gone(5, "c", "")),
		did(gone(5, "z", "")),
		did(born(0, "z", "")),
		did(born(-1, "z", "")),
		did(born(api.MaxNum+1, "z", "")),
		did(born(5, size(17), "")),
		did(born(5, "z", size(33))),
		did(api.Change{Seq: 5, Key: "z"}),
		did(api.Change{}),
		did(born(5, "y", ""), gone(6, "y", "1")),
		did(gone(5, "a", "1"), gone(6, "a", "1")),
		both(pairs("z", "1"), did(born(5, "z", "1"))),
		both(pairs("a", "2"), did(gone(5, "a", "1"))),
	} {
		replay(t, l, chunks(wrong), l, api.ErrArg)
		replay(t, l, chunks(withMore(wrong)), l, api.ErrArg)
		for _, other := range []Chunk{pairs("b", "2"), did(born(1, "d", "4")), both(pairs("b", "2"), did(set(2, "b", "2", "3"))), {}} {
			replay(t, l, chunks(other, wrong), l, api.ErrArg)
			replay(t, l, chunks(wrong, other), l, api.ErrArg)
			replay(t, l, chunks(other, wrong, pairs("f", "")), l, api.ErrArg)
			replay(t, l, chunks(Chunk{}, other, pairs("f", ""), wrong), l, api.ErrArg)
		}
	}
	for _, u := range unwell() {
		replay(t, u, chunks(pairs("b", "2")), u, api.ErrArg)
		replay(t, u, chunks(did(born(1, "f", "2"))), u, api.ErrArg)
		replay(t, u, chunks(Chunk{}), u, api.ErrArg)
		// Without a chunk there is none that cannot be.
		replay(t, u, nil, u, api.OK)
	}
	// What comes too late does not mend it.
	replay(t, nil, chunks(did(gone(1, "a", "1")), pairs("a", "1")), nil, api.ErrArg)
	replay(t, nil, chunks(both(pairs("a", "1"), did(gone(1, "b", "1"))), pairs("b", "1")), nil, api.ErrArg)
}

// R1: what is answered is new memory.
func TestNewMemory(t *testing.T) {
	now := of("a", "1", "b", "2", "c", "3")
	made := changes(set(1, "b", "1", "2"), set(2, "c", "2", "3"))
	for name, call := range map[string]func(l []api.Pair, c []api.Change) Chunk{
		"Poll taking": func(l []api.Pair, c []api.Change) Chunk {
			got, _ := Poll(taking(from(""), 9, ""), l, c, 0, 2)
			return got
		},
		"Poll live": func(l []api.Pair, c []api.Change) Chunk { got, _ := Poll(live(from(""), 0), l, c, 0, 9); return got },
		"Poll one":  func(l []api.Pair, c []api.Change) Chunk { got, _ := Poll(live(from(""), 0), l, c, 0, 1); return got },
		"Replay of none": func(l []api.Pair, _ []api.Change) Chunk {
			got, _ := Replay(l)
			return Chunk{Pairs: got}
		},
		"Replay of nothing": func(l []api.Pair, _ []api.Change) Chunk {
			got, _ := Replay(l, Chunk{})
			return Chunk{Pairs: got}
		},
		"Replay of pairs": func(l []api.Pair, _ []api.Change) Chunk {
			got, _ := Replay(nil, Chunk{Pairs: l})
			return Chunk{Pairs: got}
		},
		"Replay of wrong ones": func(l []api.Pair, c []api.Change) Chunk {
			got, _ := Replay(l, Chunk{Changes: c})
			return Chunk{Pairs: got}
		},
	} {
		l, c := slices.Clone(now), slices.Clone(made)
		got := call(l, c)
		if len(got.Pairs)+len(got.Changes) == 0 {
			t.Errorf("%s: nothing is answered", name)
		}
		for i := range got.Pairs {
			got.Pairs[i].Value = "!"
		}
		for i := range got.Changes {
			got.Changes[i].Seq = 99
		}
		_ = append(got.Pairs, api.Pair{Key: "!"})
		_ = append(got.Changes, api.Change{Key: "!"})
		if !slices.Equal(l, now) || !slices.Equal(c, made) {
			t.Errorf("%s: who writes into the answer writes into what was handed in: %q, %v", name, l, c)
		}
	}
}

// R1: chunks that are pieces of longer lists leave what stands behind them.
func TestReplayPieces(t *testing.T) {
	l := of("a", "1", "b", "2", "c", "3")
	c := changes(set(1, "a", "1", "2"), set(2, "b", "2", "3"))
	was, given := slices.Clone(l), slices.Clone(c)
	got, e := Replay(nil, Chunk{Pairs: l[:1]}, Chunk{Pairs: of("b", "2")}, Chunk{Changes: c[:1]}, Chunk{Changes: changes(gone(5, "a", "2"))})
	if !slices.Equal(got, of("b", "2")) || e != api.OK {
		t.Errorf("Replay of pieces: %q, %d", got, e)
	}
	if !slices.Equal(l, was) || !slices.Equal(c, given) {
		t.Errorf("what was handed in was changed: %q, %v", l, c)
	}
}

// leftOver is what is left for s, in the words of the chapter: pairs, or changes.
func leftOver(s Sub, o store) (Chunk, api.Errno) {
	was, e := past.At(o.l, o.t, o.floor, s.Cursor)
	if e != api.OK {
		return Chunk{}, e
	}
	within := func(key string) bool {
		return key >= s.Range.Lo && (s.Range.Open || key < s.Range.Hi)
	}
	var left Chunk
	for _, p := range was {
		if !s.Live && within(p.Key) && p.Key >= s.Next {
			left.Pairs = append(left.Pairs, p)
		}
	}
	for _, c := range o.t {
		if s.Live && within(c.Key) && c.Seq > s.Cursor {
			left.Changes = append(left.Changes, c)
		}
	}
	return left, api.OK
}

// world is a store that goes on: it is written to, and its trail is dropped.
type world struct {
	store
	seq  int
	next func(int) int
}

// keys are those that a world is written with.
func keys() []string {
	return []string{"", "\x00", "a", "a\x00", "ab", "b", "c", size(16), "\xff"}
}

// write does one batch.
func (w *world) write(t *testing.T) {
	t.Helper()
	all := keys()
	var notes []api.Note
	for range w.next(5) {
		n := api.Note{Kind: 1 + w.next(3), Key: all[w.next(len(all))]}
		if n.Kind == api.Put {
			n.Value = size(w.next(4))
		}
		notes = append(notes, n)
	}
	made, behind, e := batch.Run(w.l, w.seq, notes...)
	if e != api.OK {
		t.Fatalf("no batch: %v", notes)
	}
	w.l, w.t, w.seq = behind, append(slices.Clone(w.t), made...), w.seq+len(made)
}

// ranges are those that a world is followed by.
func ranges() []api.Range {
	return []api.Range{from(""), from("a\x00"), upTo("b"), is("a", "c"), is("\x00", size(17)), is("c", "a"), {}, from(size(16))}
}

// P19.1, P19.2: many stores, subscribers and numbers.
func TestSecondReading(t *testing.T) {
	next := numbers(3)
	nexts := []string{"", "\x00", "a", "a\x00", "aa", "b\x00", size(16) + "\x00", "\xff\xff"}
	answers := map[api.Errno]int{}
	for range 3000 {
		w := world{next: next}
		for range next(6) {
			w.write(t)
		}
		if next(3) == 0 {
			w.floor = next(w.seq + 1)
			w.t = trail.Drop(w.t, w.floor)
		}
		if len(w.l) > 0 && next(8) == 0 {
			w.l = w.l[1:]
		}
		s := Sub{Id: next(5), Range: ranges()[next(8)], Cursor: next(w.seq + 2), Live: next(2) == 0}
		if !s.Live {
			s.Next = nexts[next(8)]
		}
		left, e := leftOver(s, w.store)
		n := len(left.Pairs) + len(left.Changes)
		for most := 1; most <= n+2; most++ {
			want := left
			if most < n {
				want.More = true
			}
			want.Pairs = want.Pairs[:min(most, len(want.Pairs))]
			want.Changes = want.Changes[:min(most, len(want.Changes))]
			polled(t, s, w.store, most, want, e)
			answers[e]++
		}
		if s.Live {
			continue
		}
		for most := range n + 3 {
			want, f := s, e
			switch {
			case e != api.OK:
			case most > n:
				f = api.ErrAhead
			case most == n:
				want.Live, want.Next = true, ""
			case most > 0:
				want.Next = left.Pairs[most-1].Key + "\x00"
			}
			took(t, s, w.store, most, want, f)
			answers[f]++
		}
	}
	for _, e := range []api.Errno{api.OK, api.ErrArg, api.ErrOld, api.ErrAhead} {
		if answers[e] < 300 {
			t.Errorf("the answer %d came %d times alone", e, answers[e])
		}
	}
}

// follower is one who follows a world: what was told of it, and what is had.
type follower struct {
	sub  Sub
	told []Chunk
	has  []api.Pair
}

// follow takes one part of what is left, at most most: it answers whether there
// was any.
func (f *follower) follow(t *testing.T, w *world, most int) bool {
	t.Helper()
	c, e := Poll(f.sub, w.l, w.t, w.floor, most)
	if e != api.OK {
		t.Fatalf("%v is told %d", f.sub, e)
	}
	if len(c.Pairs)+len(c.Changes) > most || c.More && len(c.Pairs)+len(c.Changes) < most {
		t.Fatalf("%v is told %v, at most %d", f.sub, c, most)
	}
	f.told = append(f.told, c)
	f.has, e = Replay(f.has, c)
	if e != api.OK {
		t.Fatalf("%v has %q, and is told %v", f.sub, f.has, c)
	}
	wasLive := f.sub.Live
	switch {
	case !f.sub.Live:
		f.sub, e = Took(f.sub, w.l, w.t, w.floor, len(c.Pairs))
	case len(c.Changes) > 0:
		f.sub, e = Ack(f.sub, w.seq, trail.Last(c.Changes))
	}
	if e != api.OK || !Right(f.sub) {
		t.Fatalf("%v: %d", f.sub, e)
	}
	return !wasLive || len(c.Changes) > 0
}

// P19.4: who takes all pairs, and then all changes, has the pairs of the range,
// whatever is written meanwhile, and though what nobody follows is dropped.
func TestWhoFollows(t *testing.T) {
	next := numbers(4)
	for range 2000 {
		w := world{next: next}
		for range next(6) {
			w.write(t)
		}
		f := follower{sub: Sub{Id: 1, Range: ranges()[next(8)], Cursor: w.seq}}
		for range next(12) {
			if next(2) == 0 {
				w.write(t)
			}
			if next(3) == 0 {
				w.floor = f.sub.Cursor
				w.t = trail.Drop(w.t, w.floor)
			}
			f.follow(t, &w, 1+next(4))
		}
		for steps := 0; f.follow(t, &w, 1+next(4)); steps++ {
			if steps > 1000 {
				t.Fatalf("%v has no end", f.sub)
			}
		}
		var want []api.Pair
		for _, p := range w.l {
			if p.Key >= f.sub.Range.Lo && (f.sub.Range.Open || p.Key < f.sub.Range.Hi) {
				want = append(want, p)
			}
		}
		if !slices.Equal(f.has, want) {
			t.Fatalf("%v has %q, there is %q", f.sub, f.has, want)
		}
		// What is told at once is what was told in parts.
		replay(t, nil, f.told, want, api.OK)
	}
}

// P19.3: many chunks of one pair, or one change, take no more than a moment.
func TestMany(t *testing.T) {
	const many = 50_000
	var l []api.Pair
	var told []Chunk
	for i := range many {
		key := string([]byte{byte(i >> 16), byte(i >> 8), byte(i)})
		l = append(l, api.Pair{Key: key, Value: "x"})
		told = append(told, pairs(key, "x"))
	}
	replay(t, nil, told, l, api.OK)
	for i, p := range l {
		told = append(told, did(gone(i+1, p.Key, "x")))
	}
	replay(t, nil, told, nil, api.OK)
	o := store{l: l}
	s := taking(from(""), 0, "")
	polled(t, s, o, many/2, Chunk{Pairs: l[:many/2], More: true}, api.OK)
	took(t, s, o, many, live(from(""), 0), api.OK)
}
