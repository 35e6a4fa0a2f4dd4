package leaf

import (
	"math"
	"slices"
	"strconv"
	"strings"
	"testing"

	"weirkeeper/api"
)

// eight answers the eight bytes of n, so that the tests have another way to
// them than the program's.
func eight(n uint64) string {
	var b [8]byte
	for i := range b {
		b[i] = byte(n >> (56 - 8*i))
	}
	return string(b[:])
}

// size answers a text of n bytes.
func size(n int) string {
	return strings.Repeat("k", n)
}

// put, del and add are notes of a key.
func put(key, value string) api.Note { return api.Note{Kind: api.Put, Key: key, Value: value} }
func del(key string) api.Note        { return api.Note{Kind: api.Del, Key: key} }
func add(key string, n uint64) api.Note {
	return api.Note{Kind: api.Add, Key: key, N: n}
}

// of answers the pairs of keys and values that are given by turns.
func of(l ...string) []api.Pair {
	var pairs []api.Pair
	for i := 0; i+1 < len(l); i += 2 {
		pairs = append(pairs, api.Pair{Key: l[i], Value: l[i+1]})
	}
	return pairs
}

// long answers n pairs that stand well.
func long(n int) []api.Pair {
	var l []api.Pair
	for i := range n {
		l = append(l, api.Pair{Key: eight(uint64(2*i + 1)), Value: strconv.Itoa(i)})
	}
	return l
}

// well are pairs that stand well: ordinary ones, and those at the edges.
func well() [][]api.Pair {
	return [][]api.Pair{
		nil,
		{},
		of("", ""),
		of("", "x"),
		of("a", "x"),
		of("", "", "\x00", "", "\x00\x00", "", "a", ""),
		of("a", "1", "b", "2", "c", "3"),
		of("a", "1", "a\x00", "2", "aa", "3", "b", "4"),
		of("A", "", "Z", "", "a", "", "z", "", "é", "", "\xff", ""),
		of("10", "", "9", ""),
		of("a", "same", "b", "same"),
		of(size(15), "", size(16), size(32)),
		of(strings.Repeat("\x00", 16), strings.Repeat("\xff", 32), strings.Repeat("é", 8), strings.Repeat("é", 16)),
		of(size(15)+"a", eight(3), size(15)+"b", eight(math.MaxUint64)),
		long(300),
	}
}

// unwell are pairs that do not stand well: by their order, by a Key or a Value
// that is too long, wherever it stands.
func unwell() [][]api.Pair {
	return [][]api.Pair{
		of("", "", "", ""),
		of("a", "x", "a", "x"),
		of("a", "x", "a", "y"),
		of("b", "1", "a", "2"),
		of("a", "1", "", "2"),
		of("a", "1", "c", "2", "b", "3"),
		of("a", "1", "c", "2", "a", "3"),
		of("b", "1", "a", "2", "c", "3"),
		of("a", "1", "b", "2", "c", "3", "c", "4"),
		of("aa", "", "a", ""),
		of("9", "", "10", ""),
		of("é", "", "z", ""),
		of("\xff", "", "\x7f", ""),
		of(size(17), ""),
		of("a", "", size(17), "", "z", ""),
		of("a", "", "b", "", size(17), ""),
		of(size(16)+"\x00", "x", "l", ""),
		of(strings.Repeat("é", 9), ""),
		of(size(70_000), ""),
		of("a", size(33)),
		of("a", size(33), "b", ""),
		of("a", "", "b", size(33), "c", ""),
		of("a", "", "b", strings.Repeat("\x00", 33)),
		of("a", "", "b", strings.Repeat("é", 17)),
		of("a", size(70_000)),
		append(long(300), api.Pair{Key: "\x00"}),
		append(long(300), api.Pair{Key: "z", Value: size(33)}),
	}
}

// keys are asked for: those of the pairs, and some beside each of them.
func keys(l []api.Pair) []string {
	all := []string{"", "\x00", "a", "ab", "b\x00", "m", "zz", "\xff\xff", size(16), size(17), size(100)}
	for _, p := range l {
		all = append(all, p.Key, p.Key+"\x00", p.Key+"a")
		if p.Key != "" {
			all = append(all, p.Key[:len(p.Key)-1])
		}
	}
	return all
}

// wrongNotes are none, each in another way.
func wrongNotes() []api.Note {
	return []api.Note{
		{},
		{Key: "a", Value: "x"},
		{Kind: -1, Key: "a"},
		{Kind: 4, Key: "a"},
		{Kind: math.MinInt},
		{Kind: math.MaxInt, Key: "zz"},
		put(size(17), ""),
		put("a", size(33)),
		{Kind: api.Put, Key: "a", N: 1},
		del(size(17)),
		{Kind: api.Del, Key: "a", Value: "x"},
		{Kind: api.Del, Key: "a", N: math.MaxUint64},
		add(size(17), 1),
		{Kind: api.Add, Key: "a", Value: eight(1), N: 1},
	}
}

// state is a value that a key has, and whether it has one.
type state struct {
	value string
	has   bool
}

// after answers what one note makes of a state, in layer 9's words.
func after(s state, n api.Note) state {
	switch n.Kind {
	case 1:
		return state{n.Value, true}
	case 2:
		return state{}
	}
	old := uint64(0)
	if s.has && len(s.value) == 8 {
		for i := range 8 {
			old = old<<8 | uint64(s.value[i])
		}
	}
	return state{eight(old + n.N), true}
}

// applied does the notes one behind the other to a map, and sorts what it has
// then: another way to Apply's answer than the program's.
func applied(l []api.Pair, notes ...api.Note) []api.Pair {
	m := map[string]state{}
	for _, p := range l {
		m[p.Key] = state{p.Value, true}
	}
	for _, n := range notes {
		m[n.Key] = after(m[n.Key], n)
	}
	var all []api.Pair
	for key, s := range m {
		if s.has {
			all = append(all, api.Pair{Key: key, Value: s.value})
		}
	}
	slices.SortFunc(all, func(a, b api.Pair) int { return strings.Compare(a.Key, b.Key) })
	return all
}

// apply is Apply of what can be done.
func apply(t *testing.T, l []api.Pair, notes ...api.Note) []api.Pair {
	t.Helper()
	all, e := Apply(l, notes...)
	if e != api.OK {
		t.Fatalf("Apply(%q, %v): %d", l, notes, e)
	}
	return all
}

// P10.1: which pairs stand well.
func TestRight(t *testing.T) {
	for i, l := range well() {
		if !Right(l) {
			t.Errorf("%d, %q, does not stand well", i, l)
		}
	}
	for i, l := range unwell() {
		if Right(l) {
			t.Errorf("%d, %q, stands well", i, l)
		}
	}
}

// P10.1: a Key has up to 16 bytes, a Value up to 32, wherever the pair stands.
func TestRightLengths(t *testing.T) {
	for key := range 40 {
		for value := range 60 {
			odd := api.Pair{Key: "m" + size(key), Value: size(value)}
			want := key+1 <= 16 && value <= 32
			for _, l := range [][]api.Pair{{odd}, append(of("a", ""), odd), append([]api.Pair{odd}, of("n", "")...), {{Key: "a"}, odd, {Key: "n"}}} {
				if Right(l) != want {
					t.Errorf("a Key of %d bytes, a Value of %d, among %d: %t", key+1, value, len(l), !want)
				}
			}
		}
	}
}

// P10.1: any two Keys stand well just if the first one is less, byte by byte.
func TestRightByBytes(t *testing.T) {
	var l []string
	for a := range 256 {
		l = append(l, string([]byte{byte(a)}))
	}
	for _, a := range l {
		for _, b := range l {
			if Right(of(a, "", b, "")) != (a[0] < b[0]) {
				t.Errorf("%q ahead of %q", a, b)
			}
			if Right(of("x"+a, "", "x"+b+"y", "")) != (a[0] <= b[0]) {
				t.Errorf("x%q ahead of x%qy", a, b)
			}
		}
	}
}

// P10.1: the Value of each Key that is there, an empty one too, and no other.
func TestGet(t *testing.T) {
	for i, l := range well() {
		have := map[string]state{}
		for _, p := range l {
			have[p.Key] = state{p.Value, true}
		}
		for _, key := range keys(l) {
			if value, has := Get(l, key); (state{value, has}) != have[key] {
				t.Errorf("%d: Get(%q) = %q, %t, not %v", i, key, value, has, have[key])
			}
		}
	}
}

// P10.1: nothing is there in pairs that do not stand well.
func TestGetOfUnwell(t *testing.T) {
	for i, l := range unwell() {
		for _, key := range keys(l) {
			if value, has := Get(l, key); value != "" || has {
				t.Errorf("%d: Get(%q) = %q, %t", i, key, value, has)
			}
		}
	}
}

// P10.1: how many Keys are less, of each key, whatever its length.
func TestNext(t *testing.T) {
	for i, l := range well() {
		for _, key := range keys(l) {
			want := 0
			for _, p := range l {
				if p.Key < key {
					want++
				}
			}
			if n := Next(l, key); n != want {
				t.Errorf("%d: Next(%q) = %d, not %d", i, key, n, want)
			}
		}
	}
	l := of("a", "1", "c", "2", "e", "3")
	for key, want := range map[string]int{"": 0, "a": 0, "a\x00": 1, "b": 1, "c": 1, "d": 2, "e": 2, "f": 3, "\xff": 3, "e" + size(50): 3} {
		if n := Next(l, key); n != want {
			t.Errorf("Next(%q) = %d, not %d", key, n, want)
		}
	}
}

// P10.1: none is less in pairs that do not stand well.
func TestNextOfUnwell(t *testing.T) {
	for i, l := range unwell() {
		for _, key := range keys(l) {
			if n := Next(l, key); n != 0 {
				t.Errorf("%d: Next(%q) = %d", i, key, n)
			}
		}
	}
}

// P10.2: each Kind of note, to a Key that is there, and to one that is not, at
// each place of the list.
func TestApply(t *testing.T) {
	l := of("b", "x", "d", eight(7), "f", "")
	for i, c := range []struct {
		l     []api.Pair
		notes []api.Note
		want  []api.Pair
	}{
		{nil, nil, nil},
		{l, nil, l},
		{nil, []api.Note{put("k", "v")}, of("k", "v")},
		{nil, []api.Note{put("", "")}, of("", "")},
		{nil, []api.Note{del("k")}, nil},
		{nil, []api.Note{add("k", 5)}, of("k", eight(5))},
		{nil, []api.Note{add("k", 0)}, of("k", eight(0))},
		{of("k", "v"), []api.Note{del("k")}, nil},
		{of("", "v"), []api.Note{del("")}, nil},
		{l, []api.Note{put("a", "y")}, of("a", "y", "b", "x", "d", eight(7), "f", "")},
		{l, []api.Note{put("b", "y")}, of("b", "y", "d", eight(7), "f", "")},
		{l, []api.Note{put("b", "x")}, l},
		{l, []api.Note{put("c", "")}, of("b", "x", "c", "", "d", eight(7), "f", "")},
		{l, []api.Note{put("f", "y")}, of("b", "x", "d", eight(7), "f", "y")},
		{l, []api.Note{put("f\x00", "y")}, of("b", "x", "d", eight(7), "f", "", "f\x00", "y")},
		{l, []api.Note{put("", "y")}, of("", "y", "b", "x", "d", eight(7), "f", "")},
		{l, []api.Note{del("a")}, l},
		{l, []api.Note{del("b")}, of("d", eight(7), "f", "")},
		{l, []api.Note{del("d")}, of("b", "x", "f", "")},
		{l, []api.Note{del("f")}, of("b", "x", "d", eight(7))},
		{l, []api.Note{del("g")}, l},
		{l, []api.Note{add("b", 5)}, of("b", eight(5), "d", eight(7), "f", "")},
		{l, []api.Note{add("d", 5)}, of("b", "x", "d", eight(12), "f", "")},
		{l, []api.Note{add("d", 0)}, l},
		{l, []api.Note{add("d", math.MaxUint64)}, of("b", "x", "d", eight(6), "f", "")},
		{l, []api.Note{add("e", 5)}, of("b", "x", "d", eight(7), "e", eight(5), "f", "")},
		{l, []api.Note{add("f", 5)}, of("b", "x", "d", eight(7), "f", eight(5))},
		{l, []api.Note{del("f"), del("b"), del("d")}, nil},
		{l, []api.Note{put("e", "3"), put("a", "1"), put("c", "2")}, of("a", "1", "b", "x", "c", "2", "d", eight(7), "e", "3", "f", "")},
	} {
		if got := apply(t, c.l, c.notes...); !slices.Equal(got, c.want) {
			t.Errorf("%d: %q, not %q", i, got, c.want)
		}
	}
}

// P10.2: notes of one Key are done in their order, with others between them.
func TestApplyInOrder(t *testing.T) {
	l := of("k", eight(40))
	for i, c := range []struct {
		notes []api.Note
		want  []api.Pair
	}{
		{[]api.Note{put("k", "1"), put("k", "2")}, of("k", "2")},
		{[]api.Note{put("k", "1"), del("k")}, nil},
		{[]api.Note{del("k"), put("k", "1")}, of("k", "1")},
		{[]api.Note{del("k"), del("k")}, nil},
		{[]api.Note{add("k", 2), add("k", 3)}, of("k", eight(45))},
		{[]api.Note{del("k"), add("k", 3)}, of("k", eight(3))},
		{[]api.Note{add("k", 3), del("k")}, nil},
		{[]api.Note{put("k", eight(1)), add("k", 3)}, of("k", eight(4))},
		{[]api.Note{add("k", 3), put("k", eight(1))}, of("k", eight(1))},
		{[]api.Note{add("k", 3), put("z", "1"), del("k"), put("a", "2"), add("k", 8), del("z")}, of("a", "2", "k", eight(8))},
		{[]api.Note{put("z", "1"), put("k", "1"), put("z", "2"), put("a", "1"), put("k", "2"), put("a", "2")}, of("a", "2", "k", "2", "z", "2")},
	} {
		if got := apply(t, l, c.notes...); !slices.Equal(got, c.want) {
			t.Errorf("%d: %q, not %q", i, got, c.want)
		}
	}
}

// P10.2: the greatest Keys and Values that there may be.
func TestApplyAtEdges(t *testing.T) {
	k, v := strings.Repeat("\xff", 16), strings.Repeat("\xff", 32)
	l := apply(t, nil, put(k, v), put(size(16), size(32)), put("", ""), add(size(15), math.MaxUint64))
	want := of("", "", size(15), eight(math.MaxUint64), size(16), size(32), k, v)
	if !slices.Equal(l, want) {
		t.Errorf("%q, not %q", l, want)
	}
	if l = apply(t, l, del(k), add(size(16), 1), del(""), add(size(15), 2)); !slices.Equal(l, of(size(15), eight(1), size(16), eight(1))) {
		t.Errorf("%q", l)
	}
}

// fewNotes are notes of three Keys, each Kind of each.
func fewNotes() []api.Note {
	var l []api.Note
	for _, key := range []string{"a", "b", "c"} {
		l = append(l, put(key, "x"), put(key, eight(3)), del(key), add(key, 1))
	}
	return l
}

// P10.2 and P10.4: all lists of three notes, on all pairs of three Keys, make
// what they make one behind the other, and it stands well.
func TestApplyOfAll(t *testing.T) {
	few := fewNotes()
	for has := range 8 {
		var l []api.Pair
		for i, key := range []string{"a", "b", "c"} {
			if has>>i&1 == 1 {
				l = append(l, api.Pair{Key: key, Value: eight(uint64(10 * i))})
			}
		}
		for _, a := range few {
			for _, b := range few {
				for _, c := range few {
					got, want := apply(t, l, a, b, c), applied(l, a, b, c)
					if !slices.Equal(got, want) || !Right(got) {
						t.Fatalf("%v, %v, %v on %q: %q, not %q", a, b, c, l, got, want)
					}
				}
			}
		}
	}
}

// P10.2: ErrArg, and the pairs as they are, if these do not stand well, with
// right notes, with wrong ones, and with none.
func TestApplyToUnwell(t *testing.T) {
	for i, l := range unwell() {
		for _, notes := range [][]api.Note{nil, {put("a", "x")}, {del("a")}, {{}}, {put(size(17), "")}} {
			if got, e := Apply(l, notes...); e != api.ErrArg || !slices.Equal(got, l) {
				t.Errorf("%d, %v: %q, %d", i, notes, got, e)
			}
		}
	}
}

// P10.2: ErrArg, and the pairs with no note done, if one of the notes is none,
// wherever it stands.
func TestApplyOfWrongNotes(t *testing.T) {
	right := []api.Note{put("a", "y"), del("b"), add("c", 1)}
	for i, l := range well() {
		for _, n := range wrongNotes() {
			for at := range len(right) + 1 {
				notes := slices.Insert(slices.Clone(right), at, n)
				if got, e := Apply(l, notes...); e != api.ErrArg || !slices.Equal(got, l) {
					t.Errorf("%d, %v at %d: %q, %d", i, n, at, got, e)
				}
			}
			if got, e := Apply(l, n); e != api.ErrArg || !slices.Equal(got, l) {
				t.Errorf("%d, %v alone: %q, %d", i, n, got, e)
			}
		}
	}
}

// P10.2: many notes in one call, of many Keys, on many pairs.
func TestApplyOfMany(t *testing.T) {
	const many = 100_000
	l := long(many)
	var notes []api.Note
	for i := range uint64(many) {
		key := eight(i * 7_919 % many)
		notes = append(notes, add(key, i), put(eight(i*3%many), "x"), del(eight(i*5%many)))
	}
	if got, want := apply(t, l, notes...), applied(l, notes...); !slices.Equal(got, want) {
		t.Errorf("%d pairs, not the %d that there are", len(got), len(want))
	}
	same := slices.Repeat([]api.Note{add("k", 3)}, many)
	if got := apply(t, nil, same...); !slices.Equal(got, of("k", eight(3*many))) {
		t.Errorf("an Add of one Key, so often: %q", got)
	}
}

// R1: what Apply is handed stays as it was, and shares nothing with an answer.
func TestApplyAnswersNewMemory(t *testing.T) {
	for _, notes := range [][]api.Note{nil, {put("a", "y")}, {put("zz", "y")}, {put("b", "y"), del("a"), add("b", 1)}, {put("b", "y"), {}}} {
		room := append(make([]api.Pair, 0, 20), of("a", "1", "b", "2", "c", "3")...)
		given := slices.Clone(notes)
		got, _ := Apply(room, notes...)
		for i := range got {
			got[i] = api.Pair{Key: "?"}
		}
		_ = append(got, api.Pair{Key: "?"})
		if !slices.Equal(room, of("a", "1", "b", "2", "c", "3")) || room[:4][3] != (api.Pair{}) {
			t.Errorf("%v: the pairs are %q", notes, room[:4])
		}
		if !slices.Equal(notes, given) {
			t.Errorf("the notes are %v, and were %v", notes, given)
		}
	}
	unwell := of("b", "1", "a", "2")
	got, _ := Apply(unwell)
	got[0].Key = "?"
	if unwell[0].Key != "b" {
		t.Error("pairs that do not stand well are shared")
	}
}

// lengths answers how many pairs each part has.
func lengths(l [][]api.Pair) []int {
	var n []int
	for _, p := range l {
		n = append(n, len(p))
	}
	return n
}

// P10.3: the chapter's example, and others like it.
func TestShare(t *testing.T) {
	for _, c := range []struct {
		n, most int
		want    []int
	}{
		{5, 2, []int{2, 2, 1}},
		{0, 2, nil},
		{1, 1, []int{1}},
		{1, 2, []int{1}},
		{4, 2, []int{2, 2}},
		{4, 3, []int{2, 2}},
		{4, 4, []int{4}},
		{5, 1, []int{1, 1, 1, 1, 1}},
		{5, 4, []int{3, 2}},
		{9, 4, []int{3, 3, 3}},
		{10, 4, []int{4, 3, 3}},
		{11, 4, []int{4, 4, 3}},
		{13, 5, []int{5, 4, 4}},
		{101, 100, []int{51, 50}},
		{7, math.MaxInt, []int{7}},
		{7, math.MaxInt - 1, []int{7}},
	} {
		if got := lengths(Share(long(c.n), c.most)); !slices.Equal(got, c.want) {
			t.Errorf("Share of %d by %d: %v, not %v", c.n, c.most, got, c.want)
		}
	}
}

// P10.3: of all numbers of pairs, by each most, all that the promise says.
func TestShareOfAll(t *testing.T) {
	for n := range 70 {
		l := long(n)
		for most := 1; most < 75; most++ {
			parts := Share(l, most)
			if all := slices.Concat(parts...); !slices.Equal(all, l) {
				t.Fatalf("%d by %d: the parts are not the pairs", n, most)
			}
			fewest := 0
			for fewest*most < n {
				fewest++
			}
			if len(parts) != fewest {
				t.Errorf("%d by %d: %d parts, not %d", n, most, len(parts), fewest)
			}
			for i, p := range parts {
				if len(p) < 1 || len(p) > most || len(parts[0])-len(p) > 1 || i > 0 && len(p) > len(parts[i-1]) {
					t.Errorf("%d by %d: %v", n, most, lengths(parts))
				}
			}
		}
	}
}

// P10.3: nothing by less than 1, and nothing of nothing.
func TestShareInNone(t *testing.T) {
	for _, most := range []int{0, -1, -5, math.MinInt} {
		for _, l := range append(well(), unwell()...) {
			if parts := Share(l, most); len(parts) != 0 {
				t.Errorf("%d by %d: %v", len(l), most, lengths(parts))
			}
		}
	}
	for _, most := range []int{1, 2, math.MaxInt} {
		if parts := Share(nil, most); len(parts) != 0 {
			t.Errorf("of nil by %d: %v", most, lengths(parts))
		}
		if parts := Share([]api.Pair{}, most); len(parts) != 0 {
			t.Errorf("of nothing by %d: %v", most, lengths(parts))
		}
	}
}

// P10.3: pairs are shared as they are, whether they stand well or not.
func TestShareOfUnwell(t *testing.T) {
	for i, l := range unwell() {
		for most := 1; most < 6; most++ {
			if all := slices.Concat(Share(l, most)...); !slices.Equal(all, l) {
				t.Errorf("%d by %d: %q", i, most, all)
			}
		}
	}
}

// R1: no part shares anything with another one, or with what was handed in.
func TestShareAnswersNewMemory(t *testing.T) {
	for _, most := range []int{1, 2, 3, 7, 20} {
		l := long(7)
		parts := Share(l, most)
		for i, p := range parts {
			_ = append(p, api.Pair{Key: "?"}, api.Pair{Key: "?"})
			if all := slices.Concat(parts...); !slices.Equal(all, long(7)) {
				t.Errorf("by %d: a pair behind the part %d got into another one", most, i)
			}
		}
		for _, p := range parts {
			p[0].Key = "?"
		}
		if !slices.Equal(l, long(7)) {
			t.Errorf("by %d: the pairs are %q", most, l)
		}
	}
}

// P10.4: pairs stand well by notes, whatever stood well ahead of them.
func TestPairsStandWellByNotes(t *testing.T) {
	notes := []api.Note{put("b", "x"), add("", 4), del("a"), put(size(16), size(32)), add("a\x00", 1), put("\xff", ""), del("c"), add("b", 2), del(""), put("a", "y")}
	for i, l := range well() {
		for n := range len(notes) + 1 {
			got, want := apply(t, l, notes[:n]...), applied(l, notes[:n]...)
			if !Right(got) || !slices.Equal(got, want) {
				t.Errorf("%d, the first %d notes: %q, not %q", i, n, got, want)
			}
		}
	}
}

// orders answers all orders of notes.
func orders(l []api.Note) [][]api.Note {
	if len(l) == 0 {
		return [][]api.Note{nil}
	}
	var all [][]api.Note
	for i := range l {
		rest := slices.Concat(l[:i], l[i+1:])
		for _, o := range orders(rest) {
			all = append(all, append([]api.Note{l[i]}, o...))
		}
	}
	return all
}

// P10.4: notes of unlike Keys go in any order.
func TestNotesOfUnlikeKeysGoInAnyOrder(t *testing.T) {
	notes := []api.Note{put("b", "x"), del("a"), add("c", 3), put("", "y"), add("zz", 1), del("d")}
	for i, l := range well() {
		want := apply(t, l, notes...)
		for _, o := range orders(notes) {
			if got := apply(t, l, o...); !slices.Equal(got, want) {
				t.Fatalf("%d, %v: %q, not %q", i, o, got, want)
			}
		}
	}
}

// P10.4: notes in parts make what they make at once.
func TestApplyInParts(t *testing.T) {
	few := fewNotes()
	for step := 1; step < len(few); step++ {
		var notes []api.Note
		for i := range 3 * len(few) {
			notes = append(notes, few[i*step%len(few)])
		}
		l := of("a", "1", "bb", "2")
		want := apply(t, l, notes...)
		for cut := range len(notes) + 1 {
			if got := apply(t, apply(t, l, notes[:cut]...), notes[cut:]...); !slices.Equal(got, want) {
				t.Errorf("step %d, cut at %d: %q, not %q", step, cut, got, want)
			}
		}
	}
}

// P10.1 and P10.2: what is applied is got, at its place.
func TestWhatIsAppliedIsGot(t *testing.T) {
	l := of("b", "1", "d", "2", "f", "3")
	for _, key := range []string{"", "a", "b", "c", "d", "e", "f", "g", size(16)} {
		with := apply(t, l, put(key, "new"))
		if value, has := Get(with, key); value != "new" || !has {
			t.Errorf("%q was put: %q, %t", key, value, has)
		}
		if at := Next(with, key); at != Next(l, key) || with[at].Key != key {
			t.Errorf("%q was put, and stands elsewhere", key)
		}
		without := apply(t, with, del(key))
		if value, has := Get(without, key); value != "" || has {
			t.Errorf("%q was deleted: %q, %t", key, value, has)
		}
	}
}
