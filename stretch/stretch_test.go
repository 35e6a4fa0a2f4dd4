package stretch

import (
	"slices"
	"strings"
	"testing"

	"weirkeeper/api"
)

// bounds are ordinary keys and ones at the edges: of no bytes, of the least
// and the greatest byte, next to each other, and longer than a stored key.
func bounds() []string {
	return []string{
		"",
		"\x00",
		"\x00\x00",
		"a",
		"a\x00",
		"a\xff",
		"b",
		"é",
		strings.Repeat("b", 16),
		strings.Repeat("b", 17),
		"\xff",
		"\xff\xff",
		strings.Repeat("\xff", 40),
	}
}

// ranges are all of these bounds: upside down and Open ones too, and Open ones
// with a Hi that does not matter.
func ranges() []api.Range {
	var l []api.Range
	for _, lo := range bounds() {
		for _, hi := range bounds() {
			l = append(l, api.Range{Lo: lo, Hi: hi}, api.Range{Lo: lo, Hi: hi, Open: true})
		}
	}
	return l
}

// less answers what byte by byte means, so that the tests have another way to
// it than the program's.
func less(a, b string) bool {
	for i := range min(len(a), len(b)) {
		if a[i] != b[i] {
			return a[i] < b[i]
		}
	}
	return len(a) < len(b)
}

// has answers whether key is in r, in the chapter's words.
func has(r api.Range, key string) bool {
	if less(key, r.Lo) {
		return false
	}
	return r.Open || less(key, r.Hi)
}

// keysOf answers those of the bounds that are in r. They are enough to hold a
// range against another: if a key of r is not in o, then neither is r's Lo, or
// o's Hi is in r.
func keysOf(r api.Range) []string {
	var l []string
	for _, k := range bounds() {
		if has(r, k) {
			l = append(l, k)
		}
	}
	return l
}

// P3.1: Lo has at most 16 bytes, Hi at most 17, and none if it is Open.
func TestRight(t *testing.T) {
	size := func(n int) string { return strings.Repeat("k", n) }
	for _, c := range []struct {
		r    api.Range
		want bool
	}{
		{api.Range{}, true},
		{api.Range{Open: true}, true},
		{api.Range{Lo: "a", Hi: "b"}, true},
		{api.Range{Lo: "a", Hi: "a"}, true},
		{api.Range{Lo: "b", Hi: "a"}, true},
		{api.Range{Lo: "b"}, true},
		{api.Range{Lo: size(16), Hi: size(17)}, true},
		{api.Range{Lo: size(16), Open: true}, true},
		{api.Range{Lo: size(17), Hi: "z"}, false},
		{api.Range{Lo: size(17), Open: true}, false},
		{api.Range{Lo: size(17)}, false},
		{api.Range{Hi: size(18)}, false},
		{api.Range{Lo: size(16), Hi: size(18)}, false},
		{api.Range{Lo: size(17), Hi: size(18)}, false},
		{api.Range{Hi: size(70000)}, false},
		{api.Range{Lo: size(70000), Open: true}, false},
		{api.Range{Hi: "a", Open: true}, false},
		{api.Range{Lo: "a", Hi: "b", Open: true}, false},
		{api.Range{Hi: "\x00", Open: true}, false},
		{api.Range{Hi: size(18), Open: true}, false},
		// Eight letters of two bytes: bytes count, not letters.
		{api.Range{Lo: strings.Repeat("é", 8), Hi: strings.Repeat("é", 8) + "z"}, true},
		{api.Range{Lo: strings.Repeat("é", 9), Open: true}, false},
		{api.Range{Hi: strings.Repeat("é", 9)}, false},
	} {
		if Right(c.r) != c.want {
			t.Errorf("Right(%#v) = %t", c.r, !c.want)
		}
	}
}

// P3.1: Lo is in, Hi is not, and all from Lo on are in what is Open.
func TestInEdges(t *testing.T) {
	far := strings.Repeat("\xff", 100)
	for _, c := range []struct {
		r    api.Range
		key  string
		want bool
	}{
		{api.Range{Lo: "b", Hi: "d"}, "a\xff\xff", false},
		{api.Range{Lo: "b", Hi: "d"}, "b", true},
		{api.Range{Lo: "b", Hi: "d"}, "b\x00", true},
		{api.Range{Lo: "b", Hi: "d"}, "c" + far, true},
		{api.Range{Lo: "b", Hi: "d"}, "d", false},
		{api.Range{Lo: "b", Hi: "d"}, "d\x00", false},
		{api.Range{Lo: "b", Hi: "d"}, "", false},
		{api.Range{Lo: "b", Hi: "d", Open: true}, "z", true},
		{api.Range{Lo: "b", Open: true}, far, true},
		{api.Range{Lo: "b", Open: true}, "a", false},
		{api.Range{Open: true}, "", true},
		{api.Range{Hi: "\x00"}, "", true},
		{api.Range{Hi: "\x00"}, "\x00", false},
		{api.Range{}, "", false},
		{api.Range{Lo: "d", Hi: "b"}, "c", false},
		{api.Range{Lo: "\x7f", Hi: "\xff"}, "\x80", true},
	} {
		if In(c.r, c.key) != c.want {
			t.Errorf("In(%#v, %.9q) = %t", c.r, c.key, !c.want)
		}
	}
}

// P3.1: In is what the chapter's words say, of all ranges and keys.
func TestIn(t *testing.T) {
	for _, r := range ranges() {
		for _, k := range bounds() {
			if got, want := In(r, k), has(r, k); got != want {
				t.Errorf("In(%#v, %q) = %t", r, k, got)
			}
		}
	}
}

// P3.1: what has no key is empty, and nothing else.
func TestEmpty(t *testing.T) {
	for _, r := range ranges() {
		if got, want := Empty(r), len(keysOf(r)) == 0; got != want {
			t.Errorf("Empty(%#v) = %t", r, got)
		}
	}
}

// P3.1: a range of a single key is not empty.
func TestEmptyOfOneKey(t *testing.T) {
	for _, k := range bounds() {
		if Empty(api.Range{Lo: k, Hi: k + "\x00"}) || !Empty(api.Range{Lo: k + "\x00", Hi: k}) {
			t.Errorf("Empty at %q", k)
		}
	}
}

// P3.1: r is within o, if all that r has o has too.
func TestWithin(t *testing.T) {
	all := ranges()
	for _, r := range all {
		keys := keysOf(r)
		for _, o := range all {
			want := !slices.ContainsFunc(keys, func(k string) bool { return !has(o, k) })
			if got := Within(r, o); got != want {
				t.Fatalf("Within(%#v, %#v) = %t", r, o, got)
			}
		}
	}
}

// P3.1: an empty range is within all, a range without end in none that ends,
// and none that has a key within an empty one.
func TestWithinEdges(t *testing.T) {
	far := strings.Repeat("\xff", 1000)
	for _, c := range []struct {
		r, o api.Range
		want bool
	}{
		{api.Range{}, api.Range{}, true},
		{api.Range{Lo: "z", Hi: "a"}, api.Range{Lo: "b", Hi: "d"}, true},
		{api.Range{Lo: "a", Hi: "a"}, api.Range{Lo: "d", Hi: "b"}, true},
		{api.Range{Lo: "c", Hi: "d"}, api.Range{Lo: "d", Hi: "b"}, false},
		{api.Range{Lo: "b", Hi: "d"}, api.Range{Lo: "b", Hi: "d"}, true},
		{api.Range{Lo: "b", Hi: "d\x00"}, api.Range{Lo: "b", Hi: "d"}, false},
		{api.Range{Lo: "b", Hi: "d"}, api.Range{Lo: "b\x00", Hi: "d"}, false},
		{api.Range{Lo: "b", Hi: "d"}, api.Range{Lo: "b", Open: true}, true},
		{api.Range{Lo: "b", Open: true}, api.Range{Lo: "b", Open: true}, true},
		{api.Range{Lo: "b", Hi: "c", Open: true}, api.Range{Lo: "b", Hi: "d"}, false},
		{api.Range{Lo: "b", Hi: "d"}, api.Range{Lo: "b", Hi: "c", Open: true}, true},
		{api.Range{Lo: far, Open: true}, api.Range{Hi: far + "\xff"}, false},
		{api.Range{Lo: "b", Open: true}, api.Range{Lo: "c", Open: true}, false},
	} {
		if Within(c.r, c.o) != c.want {
			t.Errorf("Within(%#v, %#v) = %t", c.r, c.o, !c.want)
		}
	}
}

// P3.2: the bounds of what ranges have in common: the chapter's example, none,
// one, many, Open ones whose Hi does not matter, and ones without a key.
func TestMeetBounds(t *testing.T) {
	for _, c := range []struct {
		l    []api.Range
		want api.Range
	}{
		{[]api.Range{{Lo: "a", Open: true}, {Hi: "c"}}, api.Range{Lo: "a", Hi: "c"}},
		{nil, api.Range{Open: true}},
		{[]api.Range{}, api.Range{Open: true}},
		{[]api.Range{{}}, api.Range{}},
		{[]api.Range{{Lo: "a", Hi: "b"}}, api.Range{Lo: "a", Hi: "b"}},
		{[]api.Range{{Lo: "a", Open: true}}, api.Range{Lo: "a", Open: true}},
		{[]api.Range{{Lo: "a", Hi: "b", Open: true}}, api.Range{Lo: "a", Open: true}},
		{[]api.Range{{Lo: "a", Hi: "b", Open: true}, {Lo: "c", Hi: "d"}}, api.Range{Lo: "c", Hi: "d"}},
		{[]api.Range{{Lo: "c", Hi: "d"}, {Lo: "a", Hi: "b", Open: true}}, api.Range{Lo: "c", Hi: "d"}},
		{[]api.Range{{Lo: "a", Hi: "x", Open: true}, {Lo: "b", Hi: "y", Open: true}}, api.Range{Lo: "b", Open: true}},
		{[]api.Range{{Lo: "b", Hi: "z"}, {Lo: "a", Hi: "y"}, {Lo: "c", Open: true}}, api.Range{Lo: "c", Hi: "y"}},
		{[]api.Range{{Open: true}, {}}, api.Range{}},
		{[]api.Range{{Lo: "a", Hi: "b"}, {Lo: "c", Hi: ""}}, api.Range{Lo: "c"}},
		{[]api.Range{{Lo: "a", Hi: "b"}, {Lo: "c", Hi: "d"}}, api.Range{Lo: "c", Hi: "b"}},
		{[]api.Range{{Lo: "d", Hi: "a"}, {Lo: "b", Open: true}}, api.Range{Lo: "d", Hi: "a"}},
	} {
		if m := Meet(c.l...); m != c.want {
			t.Errorf("Meet(%#v) = %#v", c.l, m)
		}
	}
}

// P3.2, P3.3: what is in two ranges is in both, and what is in both is in what
// they meet in; and so it goes whatever their order.
func TestMeetOfTwo(t *testing.T) {
	all := ranges()
	for _, a := range all {
		for _, b := range all {
			m := Meet(a, b)
			if m != Meet(b, a) {
				t.Fatalf("Meet(%#v, %#v) hangs on the order", a, b)
			}
			if m.Open != (a.Open && b.Open) || m.Open && m.Hi != "" {
				t.Fatalf("Meet(%#v, %#v) = %#v", a, b, m)
			}
			for _, k := range bounds() {
				if In(m, k) != (has(a, k) && has(b, k)) {
					t.Fatalf("%q in what %#v and %#v meet in: %t", k, a, b, In(m, k))
				}
			}
			if !Within(m, a) || !Within(m, b) {
				t.Fatalf("Meet(%#v, %#v) is not within both", a, b)
			}
		}
	}
}

// P3.2, P3.3: of many ranges too, each counts.
func TestMeetOfMany(t *testing.T) {
	all := ranges()
	for i := range all {
		a, b, c := all[i], all[i*7%len(all)], all[i*31%len(all)]
		m := Meet(a, b, c)
		if m != Meet(Meet(a, b), c) || m != Meet(a, Meet(b, c)) || m != Meet(c, a, b, a) {
			t.Errorf("Meet(%#v, %#v, %#v) = %#v", a, b, c, m)
		}
		for _, k := range bounds() {
			if In(m, k) != (has(a, k) && has(b, k) && has(c, k)) {
				t.Errorf("%q in what %#v, %#v and %#v meet in: %t", k, a, b, c, In(m, k))
			}
		}
	}
}

// P3.2: what is behind a key begins with the least greater one, if that is
// greater than Lo; all else stays.
func TestBehindBounds(t *testing.T) {
	r := api.Range{Lo: "b", Hi: "d"}
	long := strings.Repeat("c", 40)
	for _, c := range []struct {
		r    api.Range
		key  string
		want api.Range
	}{
		{r, "", r},
		{r, "a", r},
		{r, "a\xff", r},
		{r, "b", api.Range{Lo: "b\x00", Hi: "d"}},
		{r, "c", api.Range{Lo: "c\x00", Hi: "d"}},
		{r, "c\xff", api.Range{Lo: "c\xff\x00", Hi: "d"}},
		{r, long, api.Range{Lo: long + "\x00", Hi: "d"}},
		{r, "d", api.Range{Lo: "d\x00", Hi: "d"}},
		{r, "x", api.Range{Lo: "x\x00", Hi: "d"}},
		{api.Range{Lo: "b\x00", Hi: "d"}, "b", api.Range{Lo: "b\x00", Hi: "d"}},
		{api.Range{Lo: "b\x00\x00", Hi: "d"}, "b", api.Range{Lo: "b\x00\x00", Hi: "d"}},
		{api.Range{}, "", api.Range{Lo: "\x00"}},
		{api.Range{Open: true}, "", api.Range{Lo: "\x00", Open: true}},
		{api.Range{Open: true}, "\xff", api.Range{Lo: "\xff\x00", Open: true}},
		{api.Range{Lo: "a", Hi: "z", Open: true}, "c", api.Range{Lo: "c\x00", Hi: "z", Open: true}},
		{api.Range{Lo: "d", Hi: "b"}, "c", api.Range{Lo: "d", Hi: "b"}},
	} {
		if b := Behind(c.r, c.key); b != c.want {
			t.Errorf("Behind(%#v, %.9q) = %#v", c.r, c.key, b)
		}
	}
}

// P3.2: what is behind a key are just the keys of r that are greater.
func TestBehind(t *testing.T) {
	for _, r := range ranges() {
		for _, key := range bounds() {
			b := Behind(r, key)
			if b.Hi != r.Hi || b.Open != r.Open {
				t.Errorf("Behind(%#v, %q) = %#v", r, key, b)
			}
			for _, k := range bounds() {
				if In(b, k) != (has(r, k) && less(key, k)) {
					t.Errorf("%q behind %q in %#v: %t", k, key, r, In(b, k))
				}
			}
		}
	}
}

// P3.2: pairs stay in their order, sorted or not, and as often as they are.
func TestPick(t *testing.T) {
	l := []api.Pair{{Key: "c", Value: "1"}, {Key: "a"}, {Key: "b", Value: "c"}, {Key: "d"}, {Key: "c", Value: "1"}, {Key: "c", Value: "0"}, {Value: "b"}}
	for _, c := range []struct {
		r    api.Range
		want []api.Pair
	}{
		{api.Range{Open: true}, l},
		{api.Range{Hi: "\xff"}, l},
		{api.Range{Lo: "b", Hi: "d"}, []api.Pair{{Key: "c", Value: "1"}, {Key: "b", Value: "c"}, {Key: "c", Value: "1"}, {Key: "c", Value: "0"}}},
		{api.Range{Lo: "d", Open: true}, []api.Pair{{Key: "d"}}},
		{api.Range{Lo: "d", Hi: "a", Open: true}, []api.Pair{{Key: "d"}}},
		{api.Range{Hi: "\x00"}, []api.Pair{{Value: "b"}}},
		{api.Range{}, nil},
		{api.Range{Lo: "c", Hi: "b"}, nil},
		{api.Range{Lo: "e", Open: true}, nil},
	} {
		if p := Pick(c.r, l); !slices.Equal(p, c.want) {
			t.Errorf("Pick(%#v) = %q", c.r, p)
		}
	}
}

// P3.2, R5: of no pairs none is picked, whether the list is nil or empty.
func TestPickOfNone(t *testing.T) {
	for _, r := range ranges() {
		if len(Pick(r, nil)) != 0 || len(Pick(r, []api.Pair{})) != 0 {
			t.Errorf("Pick(%#v) of none", r)
		}
	}
}

// P3.2, P3.3: what is picked by two ranges, one behind the other, is what is
// picked by both.
func TestPickOfBoth(t *testing.T) {
	var l []api.Pair
	for _, k := range bounds() {
		l = append(l, api.Pair{Key: k, Value: k}, api.Pair{Key: k})
	}
	all := ranges()
	for i, a := range all {
		b := all[i*11%len(all)]
		if p := Pick(a, Pick(b, l)); !slices.Equal(p, Pick(Meet(a, b), l)) {
			t.Errorf("Pick by %#v and by %#v: %q", a, b, p)
		}
	}
}

// R1, R4: what is handed in stays as it was, and what is answered is new.
func TestNothingIsKept(t *testing.T) {
	pairs := []api.Pair{{Key: "a"}, {Key: "b", Value: "1"}, {Key: "c"}}
	same := slices.Clone(pairs)
	for _, r := range []api.Range{{Open: true}, {Lo: "b", Hi: "c"}, {Lo: "b", Open: true}} {
		p := Pick(r, pairs)
		if !slices.Equal(pairs, same) {
			t.Errorf("Pick(%#v) changed its pairs: %q", r, pairs)
		}
		again := slices.Clone(p)
		clear(p)
		if !slices.Equal(pairs, same) || !slices.Equal(Pick(r, pairs), again) {
			t.Errorf("Pick(%#v) shares memory: %q", r, pairs)
		}
	}
	l := []api.Range{{Lo: "b", Open: true}, {Lo: "a", Hi: "c"}}
	for range 2 {
		if m := Meet(l...); m != (api.Range{Lo: "b", Hi: "c"}) || l[0] != (api.Range{Lo: "b", Open: true}) || l[1] != (api.Range{Lo: "a", Hi: "c"}) {
			t.Errorf("Meet(%#v) = %#v", l, m)
		}
	}
}
