package tree

import (
	"math"
	"reflect"
	"slices"
	"strings"
	"testing"

	"weirkeeper/api"
	"weirkeeper/leaf"
	"weirkeeper/pend"
	"weirkeeper/stretch"
)

// eight answers the eight bytes of n.
func eight(n uint64) string {
	var b [8]byte
	for i := range b {
		b[i] = byte(n >> (56 - 8*i))
	}
	return string(b[:])
}

// size answers a text of n bytes.
func size(n int) string {
	return strings.Repeat("k", n)
}

// put, del and add are notes of a key.
func put(key, value string) api.Note { return api.Note{Kind: api.Put, Key: key, Value: value} }
func del(key string) api.Note        { return api.Note{Kind: api.Del, Key: key} }
func add(key string, n uint64) api.Note {
	return api.Note{Kind: api.Add, Key: key, N: n}
}

// wrong are no notes, each in another way.
func wrong() []api.Note {
	return []api.Note{
		{},
		{Key: "m"},
		{Kind: -1, Key: "m"},
		{Kind: 4, Key: "m"},
		{Kind: 256 + api.Put, Key: "m"},
		{Kind: math.MinInt},
		{Kind: math.MaxInt, Key: "zz"},
		put(size(17), ""),
		put("m", size(33)),
		{Kind: api.Put, Key: "m", N: 1},
		del(size(17)),
		{Kind: api.Del, Key: "m", Value: "x"},
		{Kind: api.Del, Key: "m", N: math.MaxUint64},
		add(size(17), 1),
		{Kind: api.Add, Key: "m", Value: eight(1), N: 1},
	}
}

// everything is the range of all keys.
func everything() api.Range { return api.Range{Open: true} }

// key is the key of a number below 26^3: they rise with their numbers.
func key(i int) string {
	return string([]byte{byte('a' + i/26/26), byte('a' + i/26%26), byte('a' + i%26)})
}

// puts answers a Put of the key of each number.
func puts(numbers ...int) []api.Note {
	var l []api.Note
	for _, i := range numbers {
		l = append(l, put(key(i), "v"+key(i)))
	}
	return l
}

// dels answers a Del of the key of each number.
func dels(numbers ...int) []api.Note {
	var l []api.Note
	for _, i := range numbers {
		l = append(l, del(key(i)))
	}
	return l
}

// orders are the numbers below n, each in another order.
func orders(n int) [][]int {
	var up, down, inward, mixed []int
	for i := range n {
		up = append(up, i)
		down = append(down, n-1-i)
		inward = append(inward, i/2)
		if i%2 == 1 {
			inward[i] = n - 1 - i/2
		}
		mixed = append(mixed, i*7%n) // 7 is no divisor of the numbers asked for
	}
	outward := slices.Clone(inward)
	slices.Reverse(outward)
	return [][]int{up, down, inward, outward, mixed}
}

// life answers n notes of many keys, by a rule that jumps about. Of ten notes
// as many as dying are a Del.
func life(seed uint32, n, many, dying int) []api.Note {
	var l []api.Note
	for range n {
		seed = seed*1664525 + 1013904223
		k, what := key(int(seed>>8)%many), int(seed>>20)%10
		switch {
		case what < dying:
			l = append(l, del(k))
		case what%3 == 0:
			l = append(l, add(k, uint64(seed>>24)))
		default:
			l = append(l, put(k, eight(uint64(seed >> 16))[:seed>>28%8+1]))
		}
	}
	return l
}

// gap answers the notes of as many pairs as there are numbers, of which those
// from a number up to another one go again, so often that hardly a note of
// theirs still waits, and then come again.
func gap(numbers []int, from, to int) []api.Note {
	gone := orders(len(numbers))[0][from:to]
	return slices.Concat(puts(numbers...), slices.Repeat(dels(gone...), 4), puts(gone...))
}

// apply is Apply of notes.
func apply(t *testing.T, x Tree, notes ...api.Note) Tree {
	t.Helper()
	y, e := Apply(x, notes...)
	if e != api.OK {
		t.Fatalf("Apply of %v: %d", notes, e)
	}
	return y
}

// singly is Apply of notes, each in a call of its own.
func singly(t *testing.T, x Tree, notes ...api.Note) Tree {
	t.Helper()
	for _, n := range notes {
		x = apply(t, x, n)
	}
	return x
}

// made answers the pairs that layer 10 makes of notes.
func made(t *testing.T, l []api.Pair, notes ...api.Note) []api.Pair {
	t.Helper()
	l, e := leaf.Apply(l, notes...)
	if e != api.OK {
		t.Fatalf("layer 10's Apply of %v: %d", notes, e)
	}
	return l
}

// part answers the node that stands first in l, and all below it.
func part(l []Info) []Info {
	n := 1
	for n < len(l) && l[n].Depth > l[0].Depth {
		n++
	}
	return l[:n]
}

// kids answers the kids of the node that stands first in l, each with all below.
func kids(l []Info) [][]Info {
	var all [][]Info
	for below := part(l)[1:]; len(below) > 0; below = below[len(all[len(all)-1]):] {
		all = append(all, part(below))
	}
	return all
}

// pairs answers the pairs of the node that stands first in l: those of the
// leaves, with the notes done that wait, those below first.
func pairs(t *testing.T, l []Info) []api.Pair {
	t.Helper()
	all := slices.Clone(l[0].Pairs)
	for _, k := range kids(l) {
		all = append(all, pairs(t, k)...)
	}
	return made(t, all, l[0].Notes...)
}

// keysOf answers all Keys that are told of in l.
func keysOf(l []Info) []string {
	var all []string
	for _, n := range l {
		for _, p := range n.Pairs {
			all = append(all, p.Key)
		}
		for _, w := range n.Notes {
			all = append(all, w.Key)
		}
	}
	return all
}

// fault answers what is wrong with the node that stands first in l, as one of
// so many kids, whose leaves are so deep; nothing, if it stands as it should.
func fault(l []Info, among, deep int) string {
	n, below := l[0], kids(l)
	switch {
	case n.Kids != len(below):
		return "not so many kids as it tells"
	case n.Kids == 0 && n.Depth != deep:
		return "a leaf of another depth"
	case n.Kids == 0 && len(n.Notes) > 0:
		return "a leaf with notes"
	case n.Kids == 0 && len(n.Pairs) > Room:
		return "too many pairs"
	case n.Kids == 0 && len(n.Pairs) == 0 && among > 1:
		return "a leaf without pairs, beside others"
	case n.Kids > Fan:
		return "too many kids"
	case n.Kids > 0 && len(n.Pairs) > 0:
		return "pairs in an inner node"
	case len(n.Notes) > Wait:
		return "too many notes"
	case !pend.Right(n.Notes):
		return "notes that do not wait well"
	case !leaf.Right(n.Pairs):
		return "pairs that do not stand well"
	}
	for i, k := range below {
		if k[0].Depth != n.Depth+1 {
			return "a kid that is too deep"
		}
		if i == 0 && k[0].Low < n.Low || i > 0 && k[0].Low <= below[i-1][0].Low {
			return "kids whose Lows do not rise"
		}
	}
	return ""
}

// misplaced answers whether the node at i has a Key, in it or below, that is
// less than its Low, or not less than that of the next node of its depth; or
// whether its Low does not go on from the one ahead.
func misplaced(l []Info, i int) bool {
	n, end := l[i], api.Range{Lo: l[i].Low, Open: true}
	for _, o := range l[i+1:] {
		if o.Depth == n.Depth {
			end = api.Range{Lo: n.Low, Hi: o.Low}
			break
		}
	}
	for _, k := range keysOf(part(l[i:])) {
		if !stretch.In(end, k) {
			return true
		}
	}
	return i > 0 && (l[i-1].Low > n.Low || l[i-1].Low == n.Low && l[i-1].Depth >= n.Depth)
}

// stands tells a fault, if a tree does not stand as the chapter's words say, or
// tells of other pairs than these.
func stands(t *testing.T, x Tree, want []api.Pair) {
	t.Helper()
	l := Infos(x)
	if len(l) == 0 || l[0].Depth != 0 || l[0].Low != "" || len(part(l)) != len(l) {
		t.Fatalf("no first node, or two: %v", l)
	}
	deep, among := 0, make([]int, len(l))
	for _, n := range l {
		deep = max(deep, n.Depth)
	}
	for i, n := range l {
		if text := fault(l[i:], among[i], deep); text != "" {
			t.Fatalf("%s: the node %d of %v", text, i, l)
		}
		if misplaced(l, i) {
			t.Fatalf("out of place: the node %d of %v", i, l)
		}
		at := i + 1
		for _, k := range kids(l[i:]) {
			among[at] = n.Kids
			at += len(k)
		}
	}
	if got := pairs(t, l); !slices.Equal(got, want) {
		t.Fatalf("the pairs that Infos tells of are %q, not %q", got, want)
	}
	if got := Scan(x, everything()); !slices.Equal(got, want) {
		t.Fatalf("Scan: %q, not %q", got, want)
	}
}

// asked are the keys to ask for: all that are told of, and some beside each.
func asked(x Tree) []string {
	all := []string{"", "\x00", "a", "m", "zz", "\xff\xff", size(16), size(17), size(100)}
	for _, k := range keysOf(Infos(x)) {
		all = append(all, k, k+"\x00", k+"a")
		if k != "" {
			all = append(all, k[:len(k)-1])
		}
	}
	return all
}

// tells tells a fault, if Get, or Scan of just one key, does not answer what
// these pairs have by it.
func tells(t *testing.T, x Tree, key string, want []api.Pair) {
	t.Helper()
	just := api.Range{Lo: key, Hi: key + "\x00"}
	have := stretch.Pick(just, want)
	if got := Scan(x, just); !slices.Equal(got, have) {
		t.Fatalf("Scan of just %q: %q, not %q, of %v", key, got, have, Infos(x))
	}
	v, has := leaf.Get(have, key)
	if value, ok := Get(x, key); value != v || ok != has {
		t.Fatalf("Get(%q) = %q, %t, not %q, %t, of %v", key, value, ok, v, has, Infos(x))
	}
}

// gets tells a fault, if a tree tells anything else than these pairs.
func gets(t *testing.T, x Tree, want []api.Pair) {
	t.Helper()
	for _, k := range asked(x) {
		tells(t, x, k, want)
	}
}

// some are the notes of trees of each kind: of no pairs, of one leaf, of two,
// with notes that wait, deep ones, and such as have lost their pairs.
func some() map[string][]api.Note {
	up := orders(300)[0]
	return map[string][]api.Note{
		"none":    nil,
		"one":     puts(7),
		"leaf":    puts(up[:4]...),
		"two":     puts(up[:5]...),
		"waiting": slices.Concat(puts(up[:8]...), dels(2, 5), puts(20, 30), []api.Note{add("m", 3)}),
		"deep":    puts(up...),
		"mixed":   puts(orders(300)[4]...),
		"lively":  life(3, 900, 200, 4),
		"dying":   slices.Concat(puts(up...), dels(up[:290]...)),
		"dead":    slices.Concat(puts(up...), dels(up...)),
	}
}

// P12.1: each Kind of note, to a key that is there, and to one that is not, in
// a tree that is one leaf.
func TestApply(t *testing.T) {
	three := []api.Note{put("b", "x"), add("d", 7), put("f", "")}
	for i, c := range []struct {
		ahead, notes []api.Note
		want         []api.Pair
	}{
		{nil, nil, nil},
		{nil, []api.Note{put("k", "v")}, []api.Pair{{Key: "k", Value: "v"}}},
		{nil, []api.Note{put("", "")}, []api.Pair{{}}},
		{nil, []api.Note{del("k")}, nil},
		{nil, []api.Note{add("k", 5)}, []api.Pair{{Key: "k", Value: eight(5)}}},
		{three, nil, []api.Pair{{Key: "b", Value: "x"}, {Key: "d", Value: eight(7)}, {Key: "f"}}},
		{three, []api.Note{del("b"), del("f"), del("d")}, nil},
		{three, []api.Note{add("d", math.MaxUint64), add("b", 1), del("f")}, []api.Pair{{Key: "b", Value: eight(1)}, {Key: "d", Value: eight(6)}}},
		{three, []api.Note{put("d", "1"), del("d"), put("d", "2"), add("f", 2), add("f", 3)}, []api.Pair{{Key: "b", Value: "x"}, {Key: "d", Value: "2"}, {Key: "f", Value: eight(5)}}},
	} {
		x := apply(t, apply(t, Tree{}, c.ahead...), c.notes...)
		if got := Scan(x, everything()); !slices.Equal(got, c.want) {
			t.Errorf("%d: %q, not %q", i, got, c.want)
		}
	}
}

// P12.1: what each tree tells is what layer 10 makes of the notes.
func TestSome(t *testing.T) {
	for name, notes := range some() {
		want := made(t, nil, notes...)
		for _, x := range []Tree{apply(t, Tree{}, notes...), singly(t, Tree{}, notes...)} {
			t.Run(name, func(t *testing.T) {
				stands(t, x, want)
				gets(t, x, want)
			})
		}
	}
}

// P12.1: all lists of two notes of few keys, on trees where notes wait for some
// of these keys, in the first node and below.
func TestApplyOfAll(t *testing.T) {
	var few []api.Note
	for _, k := range []string{"", key(2), key(2) + "x", key(20), key(299), "zz"} {
		few = append(few, put(k, "x"), put(k, eight(3)), del(k), add(k, 1))
	}
	for name, notes := range some() {
		for _, a := range few {
			for _, b := range few {
				x := singly(t, apply(t, Tree{}, notes...), a, b)
				want := made(t, nil, append(slices.Clone(notes), a, b)...)
				if got := Scan(x, everything()); !slices.Equal(got, want) {
					t.Fatalf("%s, %v, %v: %q, not %q", name, a, b, got, want)
				}
				tells(t, x, a.Key, want)
				tells(t, x, b.Key, want)
			}
		}
	}
}

// P12.1 and P12.2: trees that grow, and lose all pairs again, in each order.
func TestGrowAndWither(t *testing.T) {
	const many = 150
	for i, growing := range orders(many) {
		for j, withering := range orders(many) {
			x, want := Tree{}, []api.Pair(nil)
			for k, n := range slices.Concat(puts(growing...), dels(withering...)) {
				x, want = apply(t, x, n), made(t, want, n)
				if k%7 == 0 {
					stands(t, x, want)
				}
			}
			stands(t, x, nil)
			gets(t, x, nil)
			// Once more, and again, as the notes of the first time may wait.
			x = singly(t, x, slices.Repeat(dels(withering...), 3)...)
			if l := Infos(x); len(l) != 1 {
				t.Errorf("%d, %d: what stays of the tree is %v", i, j, l)
			}
		}
	}
}

// P12.1 and P12.2: long lives, of few keys and of many, where little dies, or
// much.
func TestLives(t *testing.T) {
	for seed, many := range []int{3, 12, 60, 400, 17_000} {
		for dying := range 9 {
			x, want := Tree{}, []api.Pair(nil)
			for i, n := range life(uint32(seed*9+dying), 400, many, dying) {
				x, want = apply(t, x, n), made(t, want, n)
				tells(t, x, n.Key, want)
				if i%5 == 0 {
					stands(t, x, want)
				}
				if i%40 == 0 {
					gets(t, x, want)
				}
			}
		}
	}
}

// P12.1 and P12.2: pairs that go at the beginning of the tree, within it, and at
// its end, and come again.
func TestGaps(t *testing.T) {
	const many = 150
	for _, numbers := range orders(many) {
		for _, c := range [][2]int{{0, 20}, {0, 90}, {0, many - 1}, {30, 110}, {1, many}, {60, many}} {
			x, want := Tree{}, []api.Pair(nil)
			for i, n := range gap(numbers, c[0], c[1]) {
				x, want = apply(t, x, n), made(t, want, n)
				tells(t, x, n.Key, want)
				back := put(n.Key, "back")
				tells(t, apply(t, x, back), n.Key, made(t, want, back))
				if i > many && i%3 == 0 {
					stands(t, x, want)
				}
				if i > many && i%40 == 0 {
					gets(t, x, want)
				}
			}
		}
	}
}

// P12.2: a tree that has lost all pairs but one gets low again, but for what may
// still wait in its first node.
func TestOneIsLeft(t *testing.T) {
	const many = 150
	for i, numbers := range orders(many) {
		for left := 0; left < many; left += 7 {
			up := orders(many)[0]
			gone := dels(slices.Concat(up[:left], up[left+1:])...)
			x := singly(t, Tree{}, slices.Concat(puts(numbers...), slices.Repeat(gone, 6))...)
			stands(t, x, made(t, nil, puts(left)...))
			for _, n := range Infos(x) {
				if n.Depth > 1 {
					t.Errorf("%d, %d is left: %v", i, left, Infos(x))
				}
			}
		}
	}
}

// P12.1 and P12.2: lives in batches of many notes.
func TestLivesInBatches(t *testing.T) {
	for seed, batch := range []int{2, 7, 8, 30, 100, 333} {
		for _, many := range []int{20, 300, 5_000} {
			for _, dying := range []int{0, 3, 6, 9} {
				x, want := Tree{}, []api.Pair(nil)
				for notes := range slices.Chunk(life(uint32(seed+many), 1_000, many, dying), batch) {
					x, want = apply(t, x, notes...), made(t, want, notes...)
					if batch > 8 || len(want)%3 == 0 {
						stands(t, x, want)
					}
				}
				gets(t, x, want)
			}
		}
	}
}

// P12.1: the greatest keys and values that there may be, and the least, among
// as many others as bring them to each depth.
func TestEdges(t *testing.T) {
	last, least := strings.Repeat("\xff", 16), strings.Repeat("\x00", 16)
	odd := []api.Note{put(last, last+last), put(least, ""), put("", size(32)), put(size(16), size(32)), add(size(15), math.MaxUint64), add("\x00", 1<<63)}
	for _, n := range []int{0, 2, 10, 60, 200} {
		notes := slices.Concat(puts(orders(200)[0][:n]...), odd, odd[4:], puts(orders(200)[1][:n]...), dels(orders(200)[4][:n]...))
		x, want := Tree{}, []api.Pair(nil)
		for _, w := range notes {
			x, want = apply(t, x, w), made(t, want, w)
			stands(t, x, want)
		}
		gets(t, x, want)
		for _, c := range []api.Pair{{Key: last, Value: last + last}, {Key: least}, {Value: size(32)}, {Key: size(15), Value: eight(math.MaxUint64 - 1)}, {Key: "\x00", Value: eight(0)}} {
			if v, ok := Get(x, c.Key); v != c.Value || !ok {
				t.Errorf("%d: Get(%q) = %q, %t", n, c.Key, v, ok)
			}
		}
	}
}

// P12.1: keys are compared byte by byte, wherever they stand in a tree.
func TestByBytes(t *testing.T) {
	x, want := Tree{}, []api.Pair(nil)
	for i := range 256 {
		n := put(string([]byte{byte(i * 77)}), eight(uint64(i)))
		x, want = apply(t, x, n), made(t, want, n)
	}
	stands(t, x, want)
	for i, p := range Scan(x, everything()) {
		if p.Key != string([]byte{byte(i)}) {
			t.Errorf("the pair %d is of %q", i, p.Key)
		}
	}
}

// P12.1: ErrArg, and the tree as it was, if one of the notes is none, wherever
// it stands.
func TestApplyOfWrongNotes(t *testing.T) {
	right := []api.Note{put("a", "y"), del(key(3)), add("c", 1)}
	for name, notes := range some() {
		x := singly(t, Tree{}, notes...)
		was := Infos(x)
		for _, n := range wrong() {
			for at := range len(right) + 1 {
				y, e := Apply(x, slices.Insert(slices.Clone(right), at, n)...)
				if e != api.ErrArg || !reflect.DeepEqual(Infos(y), was) {
					t.Errorf("%s, %v at %d: %d", name, n, at, e)
				}
			}
			if y, e := Apply(x, n); e != api.ErrArg || !reflect.DeepEqual(Infos(y), was) {
				t.Errorf("%s, %v alone: %d", name, n, e)
			}
		}
	}
}

// P12.1: an empty value is there; what is not there, or was deleted, is not.
func TestGet(t *testing.T) {
	x := singly(t, Tree{}, puts(orders(100)[4]...)...)
	for i, n := range []api.Note{put(key(50), ""), del(key(50)), del(key(50)), put("", ""), del("")} {
		x = apply(t, x, n)
		if v, ok := Get(x, n.Key); v != "" || ok != (n.Kind == api.Put) {
			t.Errorf("%d: Get(%q) = %q, %t", i, n.Key, v, ok)
		}
	}
	for _, k := range []string{"", key(50), key(100), "\x00", "\xff", size(17), size(70_000)} {
		if v, ok := Get(x, k); v != "" || ok {
			t.Errorf("Get(%q) = %q, %t", k, v, ok)
		}
		if v, ok := Get(Tree{}, k); v != "" || ok {
			t.Errorf("of no pairs: Get(%q) = %q, %t", k, v, ok)
		}
	}
}

// P12.1: ranges of each kind: Open or not, with a Hi that does not matter, of
// no keys, upside down, with bounds at Keys and Lows and beside them.
func TestScan(t *testing.T) {
	for name, notes := range some() {
		x := singly(t, Tree{}, notes...)
		all := made(t, nil, notes...)
		bounds := asked(x)
		for i, n := range Infos(x) {
			if i%9 == 0 {
				bounds = append(bounds, n.Low, n.Low+"\x00")
			}
		}
		slices.Sort(bounds)
		bounds = slices.Compact(bounds)
		step := len(bounds)/60 + 1
		for i := 0; i < len(bounds); i += step {
			for j := i / step % step; j < len(bounds); j += step {
				for _, open := range []bool{false, true} {
					r := api.Range{Lo: bounds[i], Hi: bounds[j], Open: open}
					if got, want := Scan(x, r), stretch.Pick(r, all); !slices.Equal(got, want) {
						t.Fatalf("%s, %v: %q, not %q", name, r, got, want)
					}
				}
			}
		}
	}
}

// P12.1: each tree that there was stays as it was, whatever came behind it.
func TestTreesStay(t *testing.T) {
	up := orders(150)[0]
	lives := [][]api.Note{gap(up, 0, 90), gap(up, 30, 110), gap(up, 60, 150)}
	for dying := range 9 {
		lives = append(lives, life(uint32(dying), 500, 90, dying))
	}
	for i, notes := range lives {
		var trees []Tree
		var were [][]Info
		x := Tree{}
		for _, n := range notes {
			trees, were = append(trees, x), append(were, Infos(x))
			x = apply(t, x, n)
		}
		for j, x := range trees {
			if !reflect.DeepEqual(Infos(x), were[j]) {
				t.Fatalf("%d, the tree behind %d notes: %v, and was %v", i, j, Infos(x), were[j])
			}
		}
	}
}

// P12.1: two trees that come of one do not get into each other's way.
func TestBranches(t *testing.T) {
	for name, notes := range some() {
		x := singly(t, Tree{}, notes...)
		for n := range 40 {
			one, other := life(1, n, 300, 3), life(2, n, 300, 7)
			a, b := singly(t, x, one...), singly(t, x, other...)
			for i, c := range []struct {
				x    Tree
				more []api.Note
			}{{x, nil}, {a, one}, {b, other}} {
				want := made(t, nil, slices.Concat(notes, c.more)...)
				if got := Scan(c.x, everything()); !slices.Equal(got, want) {
					t.Fatalf("%s, %d, the tree %d: %q, not %q", name, n, i, got, want)
				}
			}
		}
	}
}

// R1: the notes that are handed in stay as they were, and are not kept; nobody
// can write into a tree by what it answers.
func TestNewMemory(t *testing.T) {
	for name, notes := range some() {
		given := slices.Clone(notes)
		x := apply(t, Tree{}, given[:len(given)/2]...)
		for part := range slices.Chunk(given[len(given)/2:], 2) {
			x = apply(t, x, part...)
		}
		if !slices.Equal(given, notes) {
			t.Errorf("%s: the notes are %v, and were %v", name, given, notes)
		}
		// Another list of each node, as what was answered is written into.
		var was []Info
		for _, n := range Infos(x) {
			n.Notes, n.Pairs = slices.Clone(n.Notes), slices.Clone(n.Pairs)
			was = append(was, n)
		}
		for i := range given {
			given[i] = put("?", "?")
		}
		told := Infos(x)
		for i, n := range told {
			for j := range n.Notes {
				n.Notes[j] = put("?", "?")
			}
			for j := range n.Pairs {
				n.Pairs[j] = api.Pair{Key: "?"}
			}
			_, _ = append(n.Notes, put("?", "?")), append(n.Pairs, api.Pair{Key: "?"})
			told[i] = Info{}
		}
		all := Scan(x, everything())
		for i := range all {
			all[i] = api.Pair{Key: "?"}
		}
		if !reflect.DeepEqual(Infos(x), was) {
			t.Errorf("%s: %v, and was %v", name, Infos(x), was)
		}
	}
}

// P12.2: the chapter's example: of no pairs there is one leaf, of none.
func TestInfosOfNone(t *testing.T) {
	for i, x := range []Tree{{}, apply(t, Tree{}), apply(t, Tree{}, del("a")), apply(t, Tree{}, put("a", "x"), del("a")), singly(t, Tree{}, put("a", "x"), del("a"))} {
		l := Infos(x)
		if len(l) != 1 || l[0].Depth != 0 || l[0].Kids != 0 || l[0].Low != "" || len(l[0].Notes) != 0 || len(l[0].Pairs) != 0 {
			t.Errorf("%d: %v", i, l)
		}
	}
}

// P12.2: up to four pairs are one leaf; of five there are two, below a node.
func TestInfosOfFew(t *testing.T) {
	up := orders(5)[0]
	for n := 1; n <= 4; n++ {
		want := []Info{{Pairs: made(t, nil, puts(up[:n]...)...)}}
		if got := Infos(singly(t, Tree{}, puts(up[:n]...)...)); !reflect.DeepEqual(got, want) {
			t.Errorf("of %d: %v, not %v", n, got, want)
		}
	}
	l := made(t, nil, puts(up...)...)
	want := []Info{{Kids: 2}, {Depth: 1, Pairs: l[:3]}, {Depth: 1, Low: key(3), Pairs: l[3:]}}
	got := Infos(singly(t, Tree{}, puts(up...)...))
	got[0].Notes = nil // a list of none may be nil, or empty
	if !reflect.DeepEqual(got, want) {
		t.Errorf("of 5: %v, not %v", got, want)
	}
}

// P12.2: six notes wait in a node, and no pair changes by them; the seventh one
// brings some of them down. Notes of one key wait as one.
func TestInfosOfWaiting(t *testing.T) {
	x := singly(t, Tree{}, puts(orders(5)[0]...)...)
	was := Infos(x)
	waits := []api.Note{del(key(4)), put(key(9), "x"), put(key(0), "y"), add(key(7), 2), del(key(1)), put("", "z")}
	for i, n := range waits {
		x = apply(t, x, n)
		want, _ := pend.Push(nil, waits[:i+1]...)
		if l := Infos(x); !slices.Equal(l[0].Notes, want) || !reflect.DeepEqual(l[1:], was[1:]) {
			t.Fatalf("%d notes: %v", i+1, l)
		}
	}
	x = apply(t, x, add(key(7), 3), del(key(9)))
	l := Infos(x)
	if len(l[0].Notes) != 6 || !slices.Contains(l[0].Notes, add(key(7), 5)) || !slices.Contains(l[0].Notes, del(key(9))) {
		t.Errorf("notes of keys that wait: %v", l)
	}
	x = apply(t, x, put(key(8), "x"))
	if l := Infos(x); len(l[0].Notes) == 0 || len(l[0].Notes) > 6 || reflect.DeepEqual(l[1:], was[1:]) {
		t.Errorf("seven notes: %v", l)
	}
}

// P12.2: trees get to all that a node may have, and to no more; notes wait at
// each depth but that of the leaves.
func TestInfosReachTheEdges(t *testing.T) {
	if Fan != 4 || Room != 4 || Wait != 6 {
		t.Errorf("%d, %d, %d", Fan, Room, Wait)
	}
	var most Info
	waits := map[int]bool{}
	x := Tree{}
	for _, n := range life(5, 3_000, 5_000, 2) {
		x = apply(t, x, n)
		for _, n := range Infos(x) {
			most.Kids, most.Depth = max(most.Kids, n.Kids), max(most.Depth, n.Depth)
			if len(n.Notes) > len(most.Notes) {
				most.Notes = n.Notes
			}
			if len(n.Pairs) > len(most.Pairs) {
				most.Pairs = n.Pairs
			}
			waits[n.Depth] = waits[n.Depth] || len(n.Notes) > 0
		}
	}
	if most.Kids != 4 || len(most.Pairs) != 4 || len(most.Notes) != 6 || most.Depth < 5 {
		t.Errorf("at most: %v", most)
	}
	for depth := range most.Depth {
		if !waits[depth] {
			t.Errorf("nothing waits in the depth %d", depth)
		}
	}
}

// P12.3: notes in two parts, cut anywhere, do what they do at once.
func TestInTwoParts(t *testing.T) {
	for _, notes := range some() {
		for step, n := len(notes)/80+1, 0; n <= len(notes); n += step {
			x := apply(t, apply(t, Tree{}, notes[:n]...), notes[n:]...)
			stands(t, x, made(t, nil, notes...))
		}
	}
}

// P12.3: notes in parts of any length do what they do at once.
func TestInParts(t *testing.T) {
	for name, notes := range some() {
		want := Scan(apply(t, Tree{}, notes...), everything())
		for length := 1; length < 40; length++ {
			x := Tree{}
			for part := range slices.Chunk(notes, length) {
				x = apply(t, x, part...)
			}
			if got := Scan(x, everything()); !slices.Equal(got, want) {
				t.Errorf("%s, by %d: %q, not %q", name, length, got, want)
			}
		}
	}
}

// P12.3: likewise, behind whatever was there.
func TestInPartsBehindOthers(t *testing.T) {
	for _, notes := range some() {
		x := singly(t, Tree{}, notes...)
		for dying := range 9 {
			more := life(uint32(dying), 60, 320, dying)
			at, by := apply(t, x, more...), singly(t, x, more...)
			want := made(t, nil, slices.Concat(notes, more)...)
			stands(t, at, want)
			stands(t, by, want)
		}
	}
}

// P12.1 and P12.3: many notes, at once, in long parts, and in short ones.
func TestMany(t *testing.T) {
	const many = 30_000
	var notes []api.Note
	for i := range uint64(many) {
		notes = append(notes, add(eight(i*7_919%many), i), put(eight(i*3%many), "x"), del(eight(i*5%many+many/2)))
	}
	want, have := made(t, nil, notes...), map[string]api.Pair{}
	for _, p := range want {
		have[p.Key] = p
	}
	for _, length := range []int{len(notes), 10_000, 500, 3} {
		x := Tree{}
		for part := range slices.Chunk(notes, length) {
			x = apply(t, x, part...)
		}
		if got := Scan(x, everything()); !slices.Equal(got, want) {
			t.Errorf("by %d: %d pairs, not the %d that there are", length, len(got), len(want))
		}
		deep := 0
		for _, n := range Infos(x) {
			deep = max(deep, n.Depth)
		}
		if deep > 16 {
			t.Errorf("by %d: %d deep", length, deep)
		}
		for k := range uint64(2 * many) {
			p, has := have[eight(k)]
			if v, ok := Get(x, eight(k)); v != p.Value || ok != has {
				t.Fatalf("by %d: Get(%q) = %q, %t", length, eight(k), v, ok)
			}
		}
	}
}
