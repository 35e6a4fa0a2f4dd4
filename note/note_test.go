package note

import (
	"math"
	"slices"
	"strings"
	"testing"

	"weirkeeper/api"
)

const greatest = math.MaxUint64

// eight answers the eight bytes of n, so that the tests have another way to
// them than the program's.
func eight(n uint64) string {
	var b [8]byte
	for i := range b {
		b[i] = byte(n >> (56 - 8*i))
	}
	return string(b[:])
}

// numberOf answers the number of a value, in the chapter's words.
func numberOf(value string) uint64 {
	if len(value) != 8 {
		return 0
	}
	n := uint64(0)
	for i := range len(value) {
		n = 256*n + uint64(value[i])
	}
	return n
}

// size answers a text of n bytes.
func size(n int) string {
	return strings.Repeat("k", n)
}

// noKinds are numbers that no note has as its Kind.
func noKinds() []int {
	return []int{0, -1, 4, 5, 9, 255, 256 + api.Put, 256 + api.Add, 1<<32 + api.Put, -api.Del, math.MinInt, math.MaxInt}
}

// numbers are ordinary ones, and those at the edges of so many bytes or bits.
func numbers() []uint64 {
	l := []uint64{0, 1, 5, 127, 128, 1 << 63, 0x0102030405060708, greatest, greatest - 4}
	for shift := 8; shift < 64; shift += 8 {
		l = append(l, 1<<shift-1, 1<<shift)
	}
	return l
}

// noNumbers are values that have another length than eight bytes.
func noNumbers() []string {
	return []string{"", "x", "\x05", "1234567", "123456789", "\x00" + eight(5), eight(5) + "\x00", eight(5)[1:], eight(1) + eight(2), size(32), size(33), "ééé"}
}

// values are what may be there ahead of a note: numbers, and none.
func values() []string {
	l := noNumbers()
	for _, n := range numbers() {
		l = append(l, eight(n))
	}
	return l
}

// wrong are what is no note, of each Kind, in each way; and notes of no Kind.
func wrong() []api.Note {
	l := []api.Note{
		{Kind: api.Put, Key: size(17), Value: "v"},
		{Kind: api.Put, Key: "k", Value: size(33)},
		{Kind: api.Put, Key: "k", Value: "v", N: 1},
		{Kind: api.Put, Key: "k", N: greatest},
		{Kind: api.Put, Key: "k", Value: eight(3), N: 1 << 63},
		{Kind: api.Del, Key: size(17)},
		{Kind: api.Del, Key: "k", Value: "v"},
		{Kind: api.Del, Key: "k", Value: "\x00"},
		{Kind: api.Del, Key: "k", N: 1},
		{Kind: api.Del, Key: "k", N: greatest},
		{Kind: api.Add, Key: size(17), N: 1},
		{Kind: api.Add, Key: "k", Value: "v", N: 1},
		{Kind: api.Add, Key: "k", Value: eight(7), N: 3},
		{Kind: api.Add, Key: "k", Value: "\x00"},
	}
	for _, kind := range noKinds() {
		l = append(l, api.Note{Kind: kind}, api.Note{Kind: kind, Key: "k", Value: eight(9), N: 2})
	}
	return l
}

// right are notes of each Kind, ordinary ones and at the edges.
func right() []api.Note {
	l := []api.Note{
		{Kind: api.Put},
		{Kind: api.Put, Key: "k", Value: "v"},
		{Kind: api.Put, Key: size(16), Value: size(32)},
		{Kind: api.Put, Key: "p", Value: eight(1000)},
		{Kind: api.Put, Key: "p", Value: eight(greatest)},
		{Kind: api.Del},
		{Kind: api.Del, Key: "d"},
		{Kind: api.Del, Key: size(16)},
		{Kind: api.Add},
		{Kind: api.Add, Key: size(16), N: greatest},
	}
	for _, n := range []uint64{0, 1, 5, 1 << 63, greatest} {
		l = append(l, api.Note{Kind: api.Add, Key: "a", N: n})
	}
	return l
}

// all are right notes, and wrong ones.
func all() []api.Note {
	return append(right(), wrong()...)
}

// state is a value, or none.
type state struct {
	value string
	has   bool
}

// states are all values; and none, with each value that is not there.
func states() []state {
	var l []state
	for _, v := range values() {
		l = append(l, state{v, true}, state{v, false})
	}
	return l
}

// after answers what one note makes of a state, in the chapter's words.
func after(s state, n api.Note) state {
	old := uint64(0)
	if s.has {
		old = numberOf(s.value)
	} else {
		s.value = ""
	}
	switch n.Kind {
	case 1:
		return state{n.Value, true}
	case 2:
		return state{}
	case 3:
		return state{eight(old + n.N), true}
	}
	return s
}

// done is Done, as a state.
func done(s state, l ...api.Note) state {
	value, has := Done(s.value, s.has, l...)
	return state{value, has}
}

// P9.1: what is a note, of each Kind, up to its edges.
func TestRight(t *testing.T) {
	for i, n := range right() {
		if !Right(n) {
			t.Errorf("%d, %#v, is no note", i, n)
		}
	}
	for i, n := range wrong() {
		if Right(n) {
			t.Errorf("%d, %#v, is a note", i, n)
		}
	}
}

// P9.1: bytes count, in Key and Value, whatever they are.
func TestRightCountsBytes(t *testing.T) {
	for _, c := range []struct {
		key, value string
		want       bool
	}{
		{strings.Repeat("é", 8), strings.Repeat("é", 16), true},
		{strings.Repeat("é", 9), "", false},
		{"", strings.Repeat("é", 17), false},
		{strings.Repeat("\x00", 16), strings.Repeat("\xff", 32), true},
		{strings.Repeat("\x00", 17), "", false},
		{"", strings.Repeat("\x00", 33), false},
		{size(70_000), "", false},
		{"", size(70_000), false},
	} {
		if n := (api.Note{Kind: api.Put, Key: c.key, Value: c.value}); Right(n) != c.want {
			t.Errorf("a Put of %d and %d bytes: %t", len(c.key), len(c.value), !c.want)
		}
	}
}

// P9.1: the length of a Key counts for each Kind, up to 16.
func TestRightKey(t *testing.T) {
	for n := range 40 {
		for _, kind := range []int{api.Put, api.Del, api.Add} {
			if Right(api.Note{Kind: kind, Key: size(n)}) != (n <= 16) {
				t.Errorf("Kind %d, a Key of %d bytes: %t", kind, n, n > 16)
			}
		}
	}
}

// P9.1: a Put alone has a Value, of up to 32 bytes; an Add alone has an N.
func TestRightValueAndN(t *testing.T) {
	for n := range 60 {
		for _, kind := range []int{api.Put, api.Del, api.Add} {
			most := 0
			if kind == api.Put {
				most = 32
			}
			if Right(api.Note{Kind: kind, Value: size(n)}) != (n <= most) {
				t.Errorf("Kind %d, a Value of %d bytes: %t", kind, n, n > most)
			}
		}
	}
	for _, n := range numbers() {
		for _, kind := range []int{api.Put, api.Del, api.Add} {
			if Right(api.Note{Kind: kind, N: n}) != (n == 0 || kind == api.Add) {
				t.Errorf("Kind %d, N %d", kind, n)
			}
		}
	}
}

// P9.1: the number of eight bytes, the highest first.
func TestNumber(t *testing.T) {
	for _, c := range []struct {
		value string
		want  uint64
	}{
		{"\x00\x00\x00\x00\x00\x00\x00\x00", 0},
		{"\x00\x00\x00\x00\x00\x00\x00\x05", 5},
		{"\x00\x00\x00\x00\x00\x00\x01\x00", 256},
		{"\x01\x02\x03\x04\x05\x06\x07\x08", 0x0102030405060708},
		{"\x80\x00\x00\x00\x00\x00\x00\x00", 1 << 63},
		{"\xff\xff\xff\xff\xff\xff\xff\xff", greatest},
		{"12345678", 0x3132333435363738},
	} {
		if n := Number(c.value); n != c.want {
			t.Errorf("Number(%q) = %d, not %d", c.value, n, c.want)
		}
	}
	for _, n := range numbers() {
		if got := Number(eight(n)); got != n {
			t.Errorf("Number of the bytes of %d: %d", n, got)
		}
	}
}

// P9.1: any other value has the number 0, and so has none.
func TestNumberOfOthers(t *testing.T) {
	for _, v := range noNumbers() {
		if n := Number(v); n != 0 {
			t.Errorf("Number(%q) = %d", v, n)
		}
	}
	for n := range 70 {
		if got := Number(strings.Repeat("\xff", n)); got != 0 && n != 8 {
			t.Errorf("Number of %d bytes: %d", n, got)
		}
	}
}

// P9.1: what each Kind does, to a value and to none.
func TestDone(t *testing.T) {
	put := api.Note{Kind: api.Put, Key: "k", Value: "y"}
	empty := api.Note{Kind: api.Put, Key: "k"}
	del := api.Note{Kind: api.Del, Key: "k"}
	five := api.Note{Kind: api.Add, Key: "k", N: 5}
	nought := api.Note{Kind: api.Add, Key: "k"}
	for i, c := range []struct {
		s    state
		l    []api.Note
		want state
	}{
		{state{"x", true}, nil, state{"x", true}},
		{state{"", true}, nil, state{"", true}},
		{state{"x", false}, nil, state{}},
		{state{}, []api.Note{}, state{}},
		{state{"x", true}, []api.Note{put}, state{"y", true}},
		{state{"x", false}, []api.Note{put}, state{"y", true}},
		{state{"x", true}, []api.Note{empty}, state{"", true}},
		{state{}, []api.Note{empty}, state{"", true}},
		{state{"x", true}, []api.Note{del}, state{}},
		{state{"x", false}, []api.Note{del}, state{}},
		{state{}, []api.Note{five}, state{eight(5), true}},
		{state{eight(7), false}, []api.Note{five}, state{eight(5), true}},
		{state{eight(7), true}, []api.Note{five}, state{eight(12), true}},
		{state{eight(greatest - 4), true}, []api.Note{five}, state{eight(0), true}},
		{state{eight(greatest), true}, []api.Note{five}, state{eight(4), true}},
		{state{eight(255), true}, []api.Note{five}, state{eight(260), true}},
		{state{"x", true}, []api.Note{five}, state{eight(5), true}},
		{state{size(32), true}, []api.Note{five}, state{eight(5), true}},
		{state{"x", true}, []api.Note{nought}, state{eight(0), true}},
		{state{}, []api.Note{nought}, state{eight(0), true}},
		{state{"x", true}, []api.Note{five, put}, state{"y", true}},
		{state{"x", true}, []api.Note{put, five}, state{eight(5), true}},
		{state{eight(1), true}, []api.Note{del, five, five}, state{eight(10), true}},
		{state{"x", true}, []api.Note{five, put, del}, state{}},
		{state{"x", true}, []api.Note{del, del, empty}, state{"", true}},
	} {
		if got := done(c.s, c.l...); got != c.want {
			t.Errorf("%d: %#v, not %#v", i, got, c.want)
		}
	}
}

// P9.1: Keys do not matter, neither unlike ones nor ones that are too long.
func TestDoneWhateverKeys(t *testing.T) {
	want := state{eight(12), true}
	for _, keys := range [][3]string{{"", "", ""}, {"a", "b", "c"}, {"c", "a", "b"}, {size(16), size(17), size(900)}} {
		got := done(state{"x", true},
			api.Note{Kind: api.Put, Key: keys[0], Value: eight(4)},
			api.Note{Kind: api.Add, Key: keys[1], N: 7},
			api.Note{Kind: api.Add, Key: keys[2], N: 1})
		if got != want {
			t.Errorf("Keys %q: %#v", keys, got)
		}
	}
}

// P9.1: a note whose Kind is none does nothing, wherever it stands.
func TestDoneOfNoKind(t *testing.T) {
	for _, kind := range noKinds() {
		none := api.Note{Kind: kind, Key: "k", Value: "z", N: 9}
		for _, s := range states() {
			if got, want := done(s, none), done(s); got != want {
				t.Errorf("Kind %d on %#v: %#v", kind, s, got)
			}
		}
		put := api.Note{Kind: api.Put, Value: eight(3)}
		add := api.Note{Kind: api.Add, N: 1}
		if got := done(state{}, none, put, none, none, add, none); got != (state{eight(4), true}) {
			t.Errorf("Kind %d between others: %#v", kind, got)
		}
	}
}

// P9.1: all notes, right and wrong ones, on each value, alone and by twos: what
// the chapter's words make of it. With no value it is empty.
func TestDoneOfAll(t *testing.T) {
	for _, s := range states() {
		if got := done(s); got.has != s.has || !s.has && got.value != "" {
			t.Errorf("nothing done to %#v: %#v", s, got)
		}
		for _, a := range all() {
			one := after(s, a)
			if got := done(s, a); got != one || !got.has && got.value != "" {
				t.Errorf("%#v done to %#v: %#v, not %#v", a, s, got, one)
			}
			for _, b := range all() {
				if got, two := done(s, a, b), after(one, b); got != two || !got.has && got.value != "" {
					t.Errorf("%#v and %#v done to %#v: %#v, not %#v", a, b, s, got, two)
				}
			}
		}
	}
}

// P9.1: many notes in one call.
func TestDoneOfMany(t *testing.T) {
	l := slices.Repeat([]api.Note{{Kind: api.Add, N: 3}}, 100_000)
	if got := done(state{eight(1), true}, l...); got != (state{eight(300_001), true}) {
		t.Errorf("an Add, 100,000 times: %#v", got)
	}
}

// P9.2: what each Kind makes with each other one, of one Key.
func TestBoth(t *testing.T) {
	put := func(v string) api.Note { return api.Note{Kind: api.Put, Key: "k", Value: v} }
	add := func(n uint64) api.Note { return api.Note{Kind: api.Add, Key: "k", N: n} }
	none := func(kind int) api.Note { return api.Note{Kind: kind, Key: "k", Value: "z", N: 8} }
	del := api.Note{Kind: api.Del, Key: "k"}
	for i, c := range []struct{ a, b, want api.Note }{
		{put("x"), put("y"), put("y")},
		{del, put("y"), put("y")},
		{add(4), put("y"), put("y")},
		{none(0), put("y"), put("y")},
		{put("x"), put(""), put("")},
		{put("x"), del, del},
		{del, del, del},
		{add(4), del, del},
		{none(7), del, del},
		{put("x"), none(0), put("x")},
		{del, none(4), del},
		{add(4), none(-1), add(4)},
		{none(4), none(0), none(4)},
		{put("x"), add(5), put(eight(5))},
		{put(""), add(5), put(eight(5))},
		{put(eight(7)), add(5), put(eight(12))},
		{put(eight(greatest)), add(5), put(eight(4))},
		{put(eight(7)), add(0), put(eight(7))},
		{put("x"), add(0), put(eight(0))},
		{del, add(5), put(eight(5))},
		{del, add(0), put(eight(0))},
		{del, add(greatest), put(eight(greatest))},
		{add(4), add(1), add(5)},
		{add(0), add(0), add(0)},
		{add(greatest), add(1), add(0)},
		{add(1 << 63), add(1<<63 + 3), add(3)},
		{none(0), add(5), add(5)},
		{none(4), add(0), add(0)},
	} {
		if got := Both(c.a, c.b); got != c.want {
			t.Errorf("%d: Both(%#v, %#v) = %#v, not %#v", i, c.a, c.b, got, c.want)
		}
	}
}

// P9.2: it is of b's Key, whatever both are, and whichever of them it tells.
func TestBothIsOfTheSecondKey(t *testing.T) {
	keys := []string{"", "a", "b", "\x00", size(16), size(17)}
	for _, a := range all() {
		for _, b := range all() {
			want := Both(a, b)
			for _, ak := range keys {
				for _, bk := range keys {
					a.Key, b.Key, want.Key = ak, bk, bk
					if got := Both(a, b); got != want {
						t.Fatalf("Both(%#v, %#v) = %#v, not %#v", a, b, got, want)
					}
				}
			}
		}
	}
}

// P9.2: of what is no note, too, that is told which is named, with nothing of
// the other one, and a Put that is made has no N.
func TestBothOfWrongNotes(t *testing.T) {
	add := api.Note{Kind: api.Add, Key: "k", N: 1}
	odd := api.Note{Kind: api.Add, Key: "k", Value: "v", N: 2}
	for i, c := range []struct{ a, b, want api.Note }{
		{api.Note{Kind: api.Put, Key: "k", Value: eight(4), N: 9}, add, api.Note{Kind: api.Put, Key: "k", Value: eight(5)}},
		{api.Note{Kind: api.Put, Key: "k", Value: size(33), N: 9}, odd, api.Note{Kind: api.Put, Key: "k", Value: eight(2)}},
		{api.Note{Kind: api.Del, Key: "k", Value: eight(4), N: 9}, add, api.Note{Kind: api.Put, Key: "k", Value: eight(1)}},
		{odd, add, api.Note{Kind: api.Add, Key: "k", N: 3}},
		{add, odd, api.Note{Kind: api.Add, Key: "k", Value: "v", N: 3}},
		{api.Note{Key: "k", Value: "z", N: 8}, odd, odd},
		{odd, api.Note{Key: "k", Value: "z", N: 8}, odd},
		{odd, api.Note{Kind: api.Put, Key: "k", Value: size(33), N: 9}, api.Note{Kind: api.Put, Key: "k", Value: size(33), N: 9}},
		{odd, api.Note{Kind: api.Del, Key: "k", Value: "v", N: 9}, api.Note{Kind: api.Del, Key: "k", Value: "v", N: 9}},
	} {
		if got := Both(c.a, c.b); got != c.want {
			t.Errorf("%d: Both(%#v, %#v) = %#v, not %#v", i, c.a, c.b, got, c.want)
		}
	}
}

// P9.3: it does to each value, and to none, what both do, of all notes.
func TestBothDoesWhatBothDo(t *testing.T) {
	for _, a := range all() {
		for _, b := range all() {
			both := Both(a, b)
			for _, s := range states() {
				if got, want := done(s, both), done(s, a, b); got != want {
					t.Errorf("Both(%#v, %#v) done to %#v: %#v, not %#v", a, b, s, got, want)
				}
			}
		}
	}
}

// P9.3: it goes in any grouping, of all notes.
func TestBothInAnyGrouping(t *testing.T) {
	for _, a := range all() {
		for _, b := range all() {
			for _, c := range all() {
				if l, r := Both(Both(a, b), c), Both(a, Both(b, c)); l != r {
					t.Fatalf("%#v, %#v, %#v: %#v, and %#v", a, b, c, l, r)
				}
			}
		}
	}
}

// P9.3: of notes of one Key there comes a note of that Key.
func TestBothOfNotesIsANote(t *testing.T) {
	for _, a := range right() {
		for _, b := range right() {
			a.Key = b.Key
			if n := Both(a, b); !Right(n) || n.Key != b.Key {
				t.Errorf("Both(%#v, %#v) = %#v", a, b, n)
			}
		}
	}
}

// P9.3: a longer list, in two parts that are each one note, does what it does.
func TestBothOfMany(t *testing.T) {
	l := all()
	fold := func(l []api.Note) api.Note {
		var n api.Note
		for _, m := range l {
			n = Both(n, m)
		}
		return n
	}
	for step := 1; step < len(l); step++ {
		var mixed []api.Note
		for i := range l {
			mixed = append(mixed, l[i*step%len(l)])
		}
		for cut := range len(mixed) + 1 {
			for _, s := range []state{{}, {"x", true}, {eight(41), true}} {
				got, want := done(s, fold(mixed[:cut]), fold(mixed[cut:])), done(s, mixed...)
				if got != want {
					t.Errorf("step %d, cut at %d, on %#v: %#v, not %#v", step, cut, s, got, want)
				}
			}
		}
	}
}

// R1: the notes that are handed in stay as they were.
func TestDoneChangesNoNote(t *testing.T) {
	l := all()
	was := slices.Clone(l)
	Done("x", true, l...)
	Done("", false, l...)
	if !slices.Equal(l, was) {
		t.Error("Done changed its notes")
	}
}
