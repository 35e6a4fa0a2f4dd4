package pend

import (
	"math"
	"slices"
	"strings"
	"testing"

	"weirkeeper/api"
	"weirkeeper/leaf"
	"weirkeeper/note"
)

// eight answers the eight bytes of n.
func eight(n uint64) string {
	var b [8]byte
	for i := range b {
		b[i] = byte(n >> (56 - 8*i))
	}
	return string(b[:])
}

// size answers a text of n bytes.
func size(n int) string {
	return strings.Repeat("k", n)
}

// put, del and add are notes of a key.
func put(key, value string) api.Note { return api.Note{Kind: api.Put, Key: key, Value: value} }
func del(key string) api.Note        { return api.Note{Kind: api.Del, Key: key} }
func add(key string, n uint64) api.Note {
	return api.Note{Kind: api.Add, Key: key, N: n}
}

// of answers a list of notes.
func of(l ...api.Note) []api.Note { return l }

// dels answers a Del of each key.
func dels(keys ...string) []api.Note {
	var l []api.Note
	for _, key := range keys {
		l = append(l, del(key))
	}
	return l
}

// long answers n notes that wait well.
func long(n int) []api.Note {
	var l []api.Note
	for i := range uint64(n) {
		l = append(l, add(eight(2*i+1), i))
	}
	return l
}

// well are notes that wait well: ordinary ones, and those at the edges.
func well() [][]api.Note {
	return [][]api.Note{
		nil,
		{},
		of(put("", "")),
		of(del("")),
		of(add("", 0)),
		of(put("a", "x")),
		of(put("a", "x"), del("b"), add("c", 3)),
		of(add("a", 1), put("b", eight(4)), del("c"), put("d", "")),
		dels("", "\x00", "\x00\x00", "a", "a\x00", "aa", "b"),
		dels("A", "Z", "a", "z", "é", "\xff"),
		dels("10", "9"),
		of(put("a", "same"), put("b", "same")),
		of(add(size(15), math.MaxUint64), put(size(16), size(32))),
		of(put(strings.Repeat("\x00", 16), strings.Repeat("\xff", 32)), put(strings.Repeat("é", 8), strings.Repeat("é", 16))),
		of(put(size(15)+"a", eight(3)), add(size(15)+"b", 1<<63)),
		long(300),
	}
}

// wrong are no notes, each in another way.
func wrong() []api.Note {
	return []api.Note{
		{},
		{Key: "m"},
		{Key: "m", Value: "x"},
		{Kind: -1, Key: "m"},
		{Kind: 4, Key: "m"},
		{Kind: 256 + api.Put, Key: "m"},
		{Kind: math.MinInt},
		{Kind: math.MaxInt, Key: "zz"},
		put(size(17), ""),
		put("m", size(33)),
		{Kind: api.Put, Key: "m", N: 1},
		del(size(17)),
		{Kind: api.Del, Key: "m", Value: "x"},
		{Kind: api.Del, Key: "m", N: math.MaxUint64},
		add(size(17), 1),
		add("m"+size(70_000), 1),
		{Kind: api.Add, Key: "m", Value: eight(1), N: 1},
	}
}

// outOfOrder are notes whose Keys do not rise.
func outOfOrder() [][]api.Note {
	return [][]api.Note{
		dels("", ""),
		dels("a", "a"),
		of(put("a", "x"), del("a")),
		of(add("a", 1), add("a", 2)),
		dels("b", "a"),
		dels("a", ""),
		dels("a", "c", "b"),
		dels("a", "c", "a"),
		dels("b", "a", "c"),
		dels("a", "b", "c", "c"),
		dels("aa", "a"),
		dels("a\x00", "a"),
		dels("9", "10"),
		dels("é", "z"),
		dels("\xff", "\x7f"),
		append(long(300), del("\x00")),
		append(long(300), long(300)[299]),
	}
}

// unwell are notes that do not wait well: by their order, or as one is none,
// wherever it stands.
func unwell() [][]api.Note {
	l := outOfOrder()
	for _, n := range wrong() {
		less := dels("", "a")
		more := dels("zzz", "~")
		l = append(l, of(n), append(less, n), append(of(n), more...), slices.Concat(less[1:], of(n), more))
	}
	return l
}

// keys are asked for: those of the notes, and some beside each of them.
func keys(l []api.Note) []string {
	all := []string{"", "\x00", "a", "ab", "b\x00", "m", "zz", "\xff\xff", size(16), size(17), size(100)}
	for _, n := range l {
		all = append(all, n.Key, n.Key+"\x00", n.Key+"a")
		if n.Key != "" {
			all = append(all, n.Key[:len(n.Key)-1])
		}
	}
	return all
}

// pushed puts one note behind the other to its place, in the chapter's words:
// another way to Push's answer than the program's.
func pushed(l []api.Note, more ...api.Note) []api.Note {
	all := slices.Clone(l)
	for _, n := range more {
		at := 0
		for at < len(all) && all[at].Key < n.Key {
			at++
		}
		if at < len(all) && all[at].Key == n.Key {
			all[at] = note.Both(all[at], n)
		} else {
			all = slices.Insert(all, at, n)
		}
	}
	return all
}

// push is Push of what can be pushed.
func push(t *testing.T, l []api.Note, more ...api.Note) []api.Note {
	t.Helper()
	all, e := Push(l, more...)
	if e != api.OK {
		t.Fatalf("Push(%v, %v): %d", l, more, e)
	}
	return all
}

// P11.1: which notes wait well.
func TestRight(t *testing.T) {
	for i, l := range well() {
		if !Right(l) {
			t.Errorf("%d, %v, does not wait well", i, l)
		}
	}
	for i, l := range unwell() {
		if Right(l) {
			t.Errorf("%d, %v, waits well", i, l)
		}
	}
}

// P11.1: a Key has up to 16 bytes, a Value up to 32, wherever the note stands.
func TestRightLengths(t *testing.T) {
	for key := range 40 {
		for value := range 60 {
			odd := put("m"+size(key), size(value))
			want := key+1 <= 16 && value <= 32
			for _, l := range [][]api.Note{of(odd), of(del("a"), odd), of(odd, del("n")), of(del("a"), odd, del("n"))} {
				if Right(l) != want {
					t.Errorf("a Key of %d bytes, a Value of %d, among %d: %t", key+1, value, len(l), !want)
				}
			}
		}
	}
}

// P11.1: any two Keys wait well just if the first one is less, byte by byte.
func TestRightByBytes(t *testing.T) {
	for i := range 256 {
		for j := range 256 {
			a, b := string([]byte{byte(i)}), string([]byte{byte(j)})
			if Right(dels(a, b)) != (i < j) {
				t.Errorf("%q ahead of %q", a, b)
			}
			if Right(dels("x"+a, "x"+b+"y")) != (i <= j) {
				t.Errorf("x%q ahead of x%qy", a, b)
			}
		}
	}
}

// P11.1: the chapter's example; each Kind behind each other one of its Key, and
// notes that belong at each place.
func TestPush(t *testing.T) {
	l := of(put("b", "x"), add("d", 7), del("f"))
	for i, c := range []struct {
		l, more, want []api.Note
	}{
		{nil, of(add("k", 1), add("k", 2)), of(add("k", 3))},
		{of(add("k", 1)), of(add("k", 2)), of(add("k", 3))},
		{nil, nil, nil},
		{[]api.Note{}, []api.Note{}, nil},
		{l, nil, l},
		{nil, l, l},
		{nil, of(del("f"), put("b", "x"), add("d", 7)), l},
		{nil, of(put("", "")), of(put("", ""))},
		{nil, of(del("k")), of(del("k"))},
		{of(del("k")), of(del("k")), of(del("k"))},
		{of(put("k", "x")), of(del("k")), of(del("k"))},
		{of(add("k", 2)), of(del("k")), of(del("k"))},
		{of(del("k")), of(put("k", "y")), of(put("k", "y"))},
		{of(put("k", "x")), of(put("k", "y")), of(put("k", "y"))},
		{of(put("k", "x")), of(put("k", "")), of(put("k", ""))},
		{of(add("k", 2)), of(put("k", "y")), of(put("k", "y"))},
		{of(del("k")), of(add("k", 5)), of(put("k", eight(5)))},
		{of(put("k", "x")), of(add("k", 5)), of(put("k", eight(5)))},
		{of(put("k", eight(4))), of(add("k", 5)), of(put("k", eight(9)))},
		{of(put("k", eight(math.MaxUint64))), of(add("k", 5)), of(put("k", eight(4)))},
		{of(add("k", math.MaxUint64)), of(add("k", 5)), of(add("k", 4))},
		{of(add("k", 5)), of(add("k", 0)), of(add("k", 5))},
		{of(add("k", 5)), of(add("k", math.MaxUint64-4)), of(add("k", 0))},
		{l, of(del("a")), of(del("a"), l[0], l[1], l[2])},
		{l, of(del("c")), of(l[0], del("c"), l[1], l[2])},
		{l, of(del("e")), of(l[0], l[1], del("e"), l[2])},
		{l, of(del("g")), of(l[0], l[1], l[2], del("g"))},
		{l, of(put("", "v")), of(put("", "v"), l[0], l[1], l[2])},
		{l, of(add("f\x00", 1)), of(l[0], l[1], l[2], add("f\x00", 1))},
		{l, of(add("\xff", 1)), of(l[0], l[1], l[2], add("\xff", 1))},
		{l, of(add("f", 1), add("d", 1), add("b", 1)), of(put("b", eight(1)), add("d", 8), put("f", eight(1)))},
		{l, of(del("g"), add("a", 1), put("g", "v"), add("a", 2)), of(add("a", 3), l[0], l[1], l[2], put("g", "v"))},
		{l, of(put("d", eight(1)), add("d", 2), add("d", 3)), of(l[0], put("d", eight(6)), l[2])},
		{l, of(add("d", 2), del("d"), add("d", 3)), of(l[0], put("d", eight(3)), l[2])},
		{l, of(add("d", 2), add("d", 3), del("d")), of(l[0], del("d"), l[2])},
		{nil, of(put(size(16), size(32)), put(size(15), "")), of(put(size(15), ""), put(size(16), size(32)))},
	} {
		if got := push(t, c.l, c.more...); !slices.Equal(got, c.want) {
			t.Errorf("%d: Push(%v, %v) = %v, not %v", i, c.l, c.more, got, c.want)
		}
	}
}

// fewNotes are notes of three Keys, each Kind of each.
func fewNotes() []api.Note {
	var l []api.Note
	for _, key := range []string{"a", "b", "c"} {
		l = append(l, put(key, "x"), put(key, eight(3)), del(key), add(key, 1))
	}
	return l
}

// threes goes through all lists of three of the few notes.
func threes(each func(l []api.Note)) {
	few := fewNotes()
	for _, a := range few {
		for _, b := range few {
			for _, c := range few {
				each(of(a, b, c))
			}
		}
	}
}

// P11.1: all lists of three notes, behind notes that wait for three Keys, or
// for some of them, make what they make one behind the other.
func TestPushOfAll(t *testing.T) {
	for has := range 64 {
		var l []api.Note
		for i, key := range []string{"a", "b", "c"} {
			switch has >> (2 * i) & 3 {
			case 1:
				l = append(l, put(key, eight(10)))
			case 2:
				l = append(l, del(key))
			case 3:
				l = append(l, add(key, 20))
			}
		}
		threes(func(more []api.Note) {
			got, want := push(t, l, more...), pushed(l, more...)
			if !slices.Equal(got, want) || !Right(got) {
				t.Fatalf("%v, behind %v: %v, not %v", more, l, got, want)
			}
		})
	}
}

// P11.1: what is pushed waits well, whatever waited well ahead of it.
func TestWhatIsPushedWaitsWell(t *testing.T) {
	more := of(put("b", "x"), add("", 4), del("a"), put(size(16), size(32)), add("a\x00", 1), put("\xff", ""), del("c"), add("b", 2), del(""), put("a", "y"), add(size(15)+"b", math.MaxUint64))
	for i, l := range well() {
		for n := range len(more) + 1 {
			got, want := push(t, l, more[:n]...), pushed(l, more[:n]...)
			if !Right(got) || !slices.Equal(got, want) {
				t.Errorf("%d, the first %d notes: %v, not %v", i, n, got, want)
			}
		}
	}
}

// P11.1: ErrArg, and the notes as they are, if these do not wait well, with
// right ones behind, with wrong ones, and with none.
func TestPushToUnwell(t *testing.T) {
	for i, l := range unwell() {
		for _, more := range [][]api.Note{nil, of(put("a", "x")), of(del("zz")), of(api.Note{}), of(put(size(17), ""))} {
			if got, e := Push(l, more...); e != api.ErrArg || !slices.Equal(got, l) {
				t.Errorf("%d, %v: %v, %d", i, more, got, e)
			}
		}
	}
}

// P11.1: ErrArg, and the notes with nothing pushed, if one of more is none,
// wherever it stands.
func TestPushOfWrongNotes(t *testing.T) {
	right := of(put("a", "y"), del("b"), add("c", 1), add("m", 2))
	for i, l := range well() {
		for _, n := range wrong() {
			for at := range len(right) + 1 {
				more := slices.Insert(slices.Clone(right), at, n)
				if got, e := Push(l, more...); e != api.ErrArg || !slices.Equal(got, l) {
					t.Errorf("%d, %v at %d: %v, %d", i, n, at, got, e)
				}
			}
			if got, e := Push(l, n); e != api.ErrArg || !slices.Equal(got, l) {
				t.Errorf("%d, %v alone: %v, %d", i, n, got, e)
			}
		}
	}
}

// P11.1: many notes in one call, of many Keys, behind many; and of one Key.
func TestPushOfMany(t *testing.T) {
	const many = 100_000
	l := long(many)
	var more []api.Note
	have := map[string]api.Note{}
	for _, n := range l {
		have[n.Key] = n
	}
	for i := range uint64(many) {
		more = append(more, add(eight(i*7_919%many), i), put(eight(i*3%many), "x"), add(eight(i*5%many), 1))
	}
	for _, n := range more {
		// A note of no Kind does nothing, so Both of it and n is n.
		have[n.Key] = note.Both(have[n.Key], n)
	}
	got := push(t, l, more...)
	if !Right(got) || len(got) != len(have) {
		t.Errorf("%d notes, that wait well: %t; there are %d", len(got), Right(got), len(have))
	}
	for _, n := range got {
		if n != have[n.Key] {
			t.Fatalf("%v, not %v", n, have[n.Key])
		}
	}
	if got := push(t, nil, slices.Repeat(of(add("k", 3)), many)...); !slices.Equal(got, of(add("k", 3*many))) {
		t.Errorf("an Add of one Key, so often: %v", got)
	}
}

// P11.1: the note of each Key that is there, and no other.
func TestFind(t *testing.T) {
	for i, l := range well() {
		have := map[string]api.Note{}
		for _, n := range l {
			have[n.Key] = n
		}
		for _, key := range keys(l) {
			want, there := have[key]
			if n, has := Find(l, key); n != want || has != there {
				t.Errorf("%d: Find(%q) = %v, %t, not %v", i, key, n, has, want)
			}
		}
	}
}

// P11.1: nothing is found in notes that do not wait well.
func TestFindInUnwell(t *testing.T) {
	for i, l := range unwell() {
		for _, key := range keys(l) {
			if n, has := Find(l, key); n != (api.Note{}) || has {
				t.Errorf("%d: Find(%q) = %v, %t", i, key, n, has)
			}
		}
	}
}

// P11.1: what is pushed is found.
func TestWhatIsPushedIsFound(t *testing.T) {
	l := of(add("b", 1), put("d", "x"), del("f"))
	for _, key := range []string{"", "a", "b", "c", "d", "e", "f", "g", size(16)} {
		for _, n := range of(put(key, "new"), del(key), add(key, 2)) {
			old, _ := Find(l, key)
			if got, has := Find(push(t, l, n), key); got != note.Both(old, n) || !has {
				t.Errorf("%v was pushed behind %v: %v, %t", n, old, got, has)
			}
		}
	}
}

// partOf answers the part of a key, in the chapter's words: that of the last
// low that is not greater, or the first one.
func partOf(key string, lows []string) int {
	part := 0
	for i, low := range lows {
		if low <= key {
			part = i
		}
	}
	return part
}

// split puts each note to its part, as many as there are lows: another way to
// Split's answer than the program's.
func split(l []api.Note, lows []string) [][]api.Note {
	if len(lows) == 0 {
		return nil
	}
	parts := make([][]api.Note, len(lows))
	for _, n := range l {
		at := partOf(n.Key, lows)
		parts[at] = append(parts[at], n)
	}
	return parts
}

// most answers the first of the parts that no other one has more notes than.
func most(parts [][]api.Note) int {
	for i, p := range parts {
		if !slices.ContainsFunc(parts, func(o []api.Note) bool { return len(o) > len(p) }) {
			return i
		}
	}
	return 0
}

// same answers whether parts are those that are wanted, an empty one and a nil
// one being the same.
func same(parts, want [][]api.Note) bool {
	return slices.EqualFunc(parts, want, func(a, b []api.Note) bool { return slices.Equal(a, b) })
}

// lowsOf are lows that rise, for notes: none, one, those between the Keys, at
// them, and of any length.
func lowsOf(l []api.Note) [][]string {
	all := [][]string{nil, {}, {""}, {"a"}, {"\xff\xff"}, {size(17)}, {size(100)}, {"", "a"}, {"a", "b"}, {"a", "a\x00", "aa", "b"}, {"", "\x00", "\x00\x00", "m", "zzz"}, {"A", "a", "z", "é", "\xff"}, {"k", size(16), size(17), size(300), "l"}}
	var at, behind []string
	for _, n := range l {
		at = append(at, n.Key)
		behind = append(behind, n.Key+"\x00\x00\x00\x00")
	}
	if len(at) > 1 {
		all = append(all, at[1:], at[:1], at[len(at)/2:], at[len(at)-1:])
	}
	return append(all, at, behind)
}

// P11.2: the parts of all notes, by all these lows; and the first of the parts
// that have the most.
func TestSplit(t *testing.T) {
	for i, l := range well() {
		for _, lows := range lowsOf(l) {
			want := split(l, lows)
			if got := Split(l, lows...); !same(got, want) {
				t.Errorf("%d: Split by %q = %v, not %v", i, lows, got, want)
			}
			if got := Most(l, lows...); got != most(want) {
				t.Errorf("%d: Most by %q = %d, not %d", i, lows, got, most(want))
			}
		}
	}
}

// P11.2: a note whose Key is a low is in that one's part, one that is less than
// all lows in the first part; a part may have none.
func TestSplitByHand(t *testing.T) {
	l := dels("b", "d", "f", "h")
	for _, c := range []struct {
		lows []string
		want [][]api.Note
		most int
	}{
		{nil, nil, 0},
		{[]string{""}, [][]api.Note{l}, 0},
		{[]string{"a"}, [][]api.Note{l}, 0},
		{[]string{"e"}, [][]api.Note{l}, 0},
		{[]string{"z"}, [][]api.Note{l}, 0},
		{[]string{"", "d"}, [][]api.Note{l[:1], l[1:]}, 1},
		{[]string{"", "c\xff"}, [][]api.Note{l[:1], l[1:]}, 1},
		{[]string{"", "d\x00"}, [][]api.Note{l[:2], l[2:]}, 0},
		{[]string{"c", "d"}, [][]api.Note{l[:1], l[1:]}, 1},
		{[]string{"e", "g"}, [][]api.Note{l[:3], l[3:]}, 0},
		{[]string{"x", "y", "z"}, [][]api.Note{l, nil, nil}, 0},
		{[]string{"", "\x00", "a", "b"}, [][]api.Note{nil, nil, nil, l}, 3},
		{[]string{"", "a", "aa"}, [][]api.Note{nil, nil, l}, 2},
		{[]string{"b", "d", "f", "h"}, [][]api.Note{l[:1], l[1:2], l[2:3], l[3:]}, 0},
		{[]string{"a", "c", "cc", "e", "i"}, [][]api.Note{l[:1], nil, l[1:2], l[2:], nil}, 3},
		{[]string{"a", "d", "h"}, [][]api.Note{l[:1], l[1:3], l[3:]}, 1},
	} {
		if got := Split(l, c.lows...); !same(got, c.want) {
			t.Errorf("by %q: %v, not %v", c.lows, got, c.want)
		}
		if got := Most(l, c.lows...); got != c.most {
			t.Errorf("Most by %q: %d, not %d", c.lows, got, c.most)
		}
	}
}

// P11.2: all lists of some Keys, by all lows of some texts.
func TestSplitOfAll(t *testing.T) {
	texts := []string{"", "a", "a\x00", "ab", "b", "c", "\xff"}
	pick := func(bits int) []string {
		var l []string
		for i, s := range texts {
			if bits>>i&1 == 1 {
				l = append(l, s)
			}
		}
		return l
	}
	for i := range 1 << len(texts) {
		l := dels(pick(i)...)
		for j := range 1 << len(texts) {
			lows := pick(j)
			want := split(l, lows)
			if got := Split(l, lows...); !same(got, want) {
				t.Fatalf("%v by %q: %v, not %v", l, lows, got, want)
			}
			if got := Most(l, lows...); got != most(want) {
				t.Fatalf("Most of %v by %v: %d, not %d", l, lows, got, most(want))
			}
		}
	}
}

// P11.2: of nothing there are as many parts as lows, each of nothing; the first
// one has the most.
func TestSplitOfNothing(t *testing.T) {
	for n := range 40 {
		var lows []string
		for i := range n {
			lows = append(lows, size(i))
		}
		for _, l := range [][]api.Note{nil, {}} {
			got := Split(l, lows...)
			if len(got) != n || len(slices.Concat(got...)) != 0 {
				t.Errorf("by %d lows: %v", n, got)
			}
			if at := Most(l, lows...); at != 0 {
				t.Errorf("Most by %d lows: %d", n, at)
			}
		}
	}
}

// P11.2: there are no parts, if the notes do not wait well.
func TestSplitOfUnwell(t *testing.T) {
	for i, l := range unwell() {
		for _, lows := range [][]string{nil, {""}, {"", "a"}, {"", "a", "b"}, {"b", "a"}, {"a", "a"}} {
			if got := Split(l, lows...); len(got) != 0 {
				t.Errorf("%d by %q: %v", i, lows, got)
			}
			if at := Most(l, lows...); at != 0 {
				t.Errorf("%d: Most by %q: %d", i, lows, at)
			}
		}
	}
}

// P11.2: there are no parts, if the lows do not rise, wherever they do not.
func TestSplitByLowsThatDoNotRise(t *testing.T) {
	for i, l := range well() {
		for _, lows := range [][]string{{"", ""}, {"a", "a"}, {"b", "a"}, {"a", ""}, {"", "a", "a"}, {"", "b", "a"}, {"", "a", ""}, {"a", "a", "b"}, {"b", "a", "c"}, {"", "a", "b", "c", "c"}, {"", "a", "b", "c", "bb"}, {"aa", "a"}, {"9", "10"}, {"é", "z"}, {"\xff", "\x7f"}, {size(100), size(99)}} {
			if got := Split(l, lows...); len(got) != 0 {
				t.Errorf("%d by %q: %v", i, lows, got)
			}
			if at := Most(l, lows...); at != 0 {
				t.Errorf("%d: Most by %q: %d", i, lows, at)
			}
		}
	}
}

// P11.2: many notes, by as many lows, and by one that is far behind.
func TestSplitOfMany(t *testing.T) {
	const many = 100_000
	l := long(many)
	var lows []string
	for i := range uint64(many) {
		lows = append(lows, eight(2*i))
	}
	parts := Split(l, lows...)
	if len(parts) != many {
		t.Fatalf("%d parts", len(parts))
	}
	for i, p := range parts {
		if len(p) != 1 || p[0] != l[i] {
			t.Fatalf("the part %d: %v", i, p)
		}
	}
	if at := Most(l, "", lows[10], lows[many-1]); at != 1 {
		t.Errorf("Most: %d", at)
	}
}

// states are pairs that notes are done to: of three Keys, with values that are
// numbers, and that are none.
func states() [][]api.Pair {
	var all [][]api.Pair
	for has := range 27 {
		var l []api.Pair
		for _, key := range []string{"a", "b", "c"} {
			switch has % 3 {
			case 1:
				l = append(l, api.Pair{Key: key, Value: "text"})
			case 2:
				l = append(l, api.Pair{Key: key, Value: eight(math.MaxUint64)})
			}
			has /= 3
		}
		all = append(all, l)
	}
	return all
}

// apply is layer 10's Apply of what can be done.
func apply(t *testing.T, l []api.Pair, notes ...api.Note) []api.Pair {
	t.Helper()
	all, e := leaf.Apply(l, notes...)
	if e != api.OK {
		t.Fatalf("Apply(%v, %v): %d", l, notes, e)
	}
	return all
}

// P11.3: what is pushed does, to any pairs, what the notes do: all lists of
// three.
func TestWhatIsPushedDoesWhatTheNotesDo(t *testing.T) {
	threes(func(more []api.Note) {
		l := push(t, nil, more...)
		for _, pairs := range states() {
			got, want := apply(t, pairs, l...), apply(t, pairs, more...)
			if !slices.Equal(got, want) {
				t.Fatalf("%v on %q: %q, not %q", more, pairs, got, want)
			}
		}
	})
}

// P11.3: likewise of longer lists, pushed in parts, behind notes that wait.
func TestPushInParts(t *testing.T) {
	few := fewNotes()
	for step := 1; step < len(few); step++ {
		var more []api.Note
		for i := range 3 * len(few) {
			more = append(more, few[i*step%len(few)])
		}
		for _, l := range [][]api.Note{nil, of(add("a", 1)), of(put("a", "x"), del("bb"), add("c", 2))} {
			whole := push(t, l, more...)
			for cut := range len(more) + 1 {
				if got := push(t, push(t, l, more[:cut]...), more[cut:]...); !slices.Equal(got, whole) {
					t.Errorf("step %d, cut at %d: %v, not %v", step, cut, got, whole)
				}
			}
			for _, pairs := range states() {
				got, want := apply(t, pairs, whole...), apply(t, pairs, slices.Concat(l, more)...)
				if !slices.Equal(got, want) {
					t.Errorf("step %d on %q: %q, not %q", step, pairs, got, want)
				}
			}
		}
	}
}

// P11.2 and P11.3: the parts do what the notes do, in any order, as no two of
// them have a Key in common.
func TestPartsDoWhatTheNotesDo(t *testing.T) {
	l := of(put("a", "x"), add("b", 1), del("c"), add("d", 4), put("e", ""))
	for _, lows := range lowsOf(l) {
		if len(lows) == 0 {
			continue
		}
		parts := Split(l, lows...)
		for _, pairs := range states() {
			want, got, back := apply(t, pairs, l...), pairs, pairs
			for i := range parts {
				got = apply(t, got, parts[i]...)
				back = apply(t, back, parts[len(parts)-1-i]...)
			}
			if !slices.Equal(got, want) || !slices.Equal(back, want) {
				t.Errorf("by %q on %q: %q, and %q, not %q", lows, pairs, got, back, want)
			}
		}
	}
}

// R1: what Push is handed stays as it was, and shares nothing with an answer.
func TestPushAnswersNewMemory(t *testing.T) {
	first := dels("a", "b", "c")
	for _, more := range [][]api.Note{nil, of(put("a", "y")), of(put("zz", "y")), of(put("b", "y"), del("a"), add("b", 1)), of(put("b", "y"), api.Note{})} {
		room := append(make([]api.Note, 0, 20), first...)
		given := slices.Clone(more)
		got, _ := Push(room, more...)
		for i := range got {
			got[i] = put("?", "?")
		}
		_ = append(got, put("?", "?"))
		if !slices.Equal(room, first) || room[:4][3] != (api.Note{}) {
			t.Errorf("%v: the notes are %v", given, room[:4])
		}
		if !slices.Equal(more, given) {
			t.Errorf("more are %v, and were %v", more, given)
		}
	}
	for _, l := range unwell() {
		was := slices.Clone(l)
		got, _ := Push(l)
		got[0].Key = "?"
		if !slices.Equal(l, was) {
			t.Errorf("%v are shared", was)
		}
	}
}

// R1: no part shares anything with another one, or with what was handed in.
func TestSplitAnswersNewMemory(t *testing.T) {
	lows := []string{"", "b", "c", "m"}
	l := dels("a", "b", "bb", "c", "d")
	was, given := slices.Clone(l), slices.Clone(lows)
	parts := Split(l, lows...)
	for i, p := range parts {
		_ = append(p, put("?", "?"), put("?", "?"))
		if all := slices.Concat(parts...); !slices.Equal(all, was) {
			t.Errorf("a note behind the part %d got into another one", i)
		}
	}
	for _, p := range parts {
		for i := range p {
			p[i].Key = "?"
		}
	}
	Most(l, lows...)
	if !slices.Equal(l, was) || !slices.Equal(lows, given) {
		t.Errorf("the notes are %v, the lows %q", l, lows)
	}
}
