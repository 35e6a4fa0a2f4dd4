package cache

import (
	"math"
	"slices"
	"strconv"
	"strings"
	"testing"

	"weirkeeper/api"
)

// clean and dirty are items of a number, with a text.
func clean(at int, text string) Item { return Item{At: at, Text: text} }
func dirty(at int, text string) Item { return Item{At: at, Text: text, Dirty: true} }

// of answers a cache that has been put together by hand.
func of(most int, items ...Item) Cache { return Cache{Most: most, Items: items} }

// row answers clean items of the numbers from low up to high.
func row(low, high int) []Item {
	var l []Item
	for at := low; at <= high; at++ {
		l = append(l, clean(at, strconv.Itoa(at)))
	}
	return l
}

// same answers whether two caches are one and the same; a list that is nil and
// one that is empty are.
func same(a, b Cache) bool {
	return a.Most == b.Most && slices.Equal(a.Items, b.Items)
}

// brief tells a list shortly enough to be read.
func brief(l []Item) string {
	var s strings.Builder
	for _, x := range l {
		s.WriteString(" " + strconv.Itoa(x.At) + ":" + strconv.Quote(x.Text))
		if x.Dirty {
			s.WriteString("!")
		}
	}
	return "[" + strconv.Itoa(len(l)) + s.String() + "]"
}

func told(c Cache) string {
	return "Most " + strconv.Itoa(c.Most) + " " + brief(c.Items)
}

// caches are some that are caches: ordinary ones, and those at the edges.
func caches() []Cache {
	return []Cache{
		of(1),
		{Most: 1, Items: []Item{}},
		of(1, clean(5, "five")),
		of(1, dirty(5, "")),
		of(2, dirty(0, "zero"), clean(-1, "less")),
		of(3, clean(3, "c"), dirty(1, "a"), dirty(2, "b")),
		of(3, dirty(3, "same"), dirty(1, "same")),
		of(4, clean(math.MinInt, ""), dirty(math.MaxInt, "\x00\xff"), clean(api.MaxNum, "m")),
		of(5, clean(1, strings.Repeat("x", api.MaxText+1))),
		of(99, row(1, 99)...),
		of(100, row(1, 99)...),
		of(100, row(-50, 49)...),
		of(100),
	}
}

// wrong are some that are no caches.
func wrong() []Cache {
	last := append(row(1, 99), clean(1, "again"))
	middle := append(row(1, 50), row(50, 98)...)
	return []Cache{
		{},
		of(0),
		of(0, clean(1, "a")),
		of(-1),
		of(-1, dirty(1, "a")),
		of(math.MinInt),
		of(101),
		of(101, dirty(1, "a")),
		of(math.MaxInt, row(1, 3)...),
		of(1, clean(1, "a"), dirty(2, "b")),
		of(2, row(1, 3)...),
		of(99, row(1, 100)...),
		of(100, row(1, 101)...),
		of(101, row(1, 101)...),
		of(3, clean(1, "a"), clean(1, "a")),
		of(3, clean(1, "a"), dirty(1, "b")),
		of(3, dirty(0, "a"), clean(1, "b"), clean(0, "c")),
		of(3, dirty(7, "a"), clean(1, "b"), clean(1, "c")),
		of(100, last...),
		of(100, middle...),
		of(3, Item{}, Item{}),
	}
}

// kept calls f, and tells if that changed c or items, even what is behind the
// end of their lists.
func kept(t *testing.T, c Cache, items []Item, f func(Cache, []Item)) {
	t.Helper()
	roomy := func(l []Item) []Item {
		r := append(slices.Clone(l), dirty(77, "behind"), clean(78, "behind"), dirty(79, "behind"))
		return r[:len(l)]
	}
	d, l := Cache{Most: c.Most, Items: roomy(c.Items)}, roomy(items)
	wasC, wasL := slices.Clone(d.Items[:cap(d.Items)]), slices.Clone(l[:cap(l)])
	f(d, l)
	if !slices.Equal(d.Items[:cap(d.Items)], wasC) || !slices.Equal(l[:cap(l)], wasL) {
		t.Errorf("what was handed in became other: %s, %s", told(c), brief(items))
	}
}

// P14.1: New answers a cache without items, of each Most that there is.
func TestNew(t *testing.T) {
	for most := 1; most <= MaxItems; most++ {
		c, e := New(most)
		if e != api.OK || c.Most != most || len(c.Items) != 0 || !Right(c) {
			t.Errorf("New(%d): %s, %d", most, told(c), e)
		}
	}
	if MaxItems != 100 {
		t.Errorf("MaxItems: %d", MaxItems)
	}
}

// P14.1: of what is no Most New answers ErrArg, and no cache.
func TestNewWrong(t *testing.T) {
	for _, most := range []int{0, -1, -100, math.MinInt, 101, 102, 1000, 1<<32 + 1, math.MaxInt} {
		c, e := New(most)
		if e != api.ErrArg || !same(c, Cache{}) {
			t.Errorf("New(%d): %s, %d", most, told(c), e)
		}
	}
}

// P14.1: Right tells caches from what is none.
func TestRight(t *testing.T) {
	for _, c := range caches() {
		if !Right(c) {
			t.Errorf("Right(%s): false", told(c))
		}
	}
	for _, c := range wrong() {
		if Right(c) {
			t.Errorf("Right(%s): true", told(c))
		}
	}
}

// P14.1: two items of one number, wherever they stand, are no cache.
func TestRightTwice(t *testing.T) {
	for i := range 12 {
		for j := range i {
			l := row(1, 12)
			l[i].At = l[j].At
			if Right(of(12, l...)) || Right(of(100, l...)) {
				t.Errorf("items %d and %d are of one number", j, i)
			}
		}
	}
}

// P14.1: Get brings the item of a number to the front; the others stand as they
// stood.
func TestGet(t *testing.T) {
	c := of(5, clean(4, "d"), dirty(2, "b"), clean(9, "i"), dirty(0, ""))
	for _, x := range []struct {
		at   int
		want Cache
		item Item
	}{
		{4, of(5, clean(4, "d"), dirty(2, "b"), clean(9, "i"), dirty(0, "")), clean(4, "d")},
		{2, of(5, dirty(2, "b"), clean(4, "d"), clean(9, "i"), dirty(0, "")), dirty(2, "b")},
		{9, of(5, clean(9, "i"), clean(4, "d"), dirty(2, "b"), dirty(0, "")), clean(9, "i")},
		{0, of(5, dirty(0, ""), clean(4, "d"), dirty(2, "b"), clean(9, "i")), dirty(0, "")},
	} {
		d, item, ok := Get(c, x.at)
		if !ok || !same(d, x.want) || item != x.item {
			t.Errorf("Get of %d: %s, %v, %v", x.at, told(d), item, ok)
		}
	}
}

// P14.1: each item of a cache at the edge can be had, first and last, and all
// others stand in their order.
func TestGetEach(t *testing.T) {
	for _, c := range caches() {
		for i, x := range c.Items {
			rest := slices.Concat(c.Items[:i], c.Items[i+1:])
			want := of(c.Most, slices.Concat([]Item{x}, rest)...)
			d, item, ok := Get(c, x.At)
			if !ok || item != x || !same(d, want) {
				t.Errorf("Get of %d of %s: %s, %v, %v", x.At, told(c), told(d), item, ok)
			}
		}
	}
}

// P14.1: of what is not there Get answers c, an empty item, and false.
func TestGetNone(t *testing.T) {
	for _, c := range caches() {
		for _, at := range []int{-52, 6, 55, 101, 1 << 32, math.MinInt + 1, math.MaxInt - 1} {
			if slices.ContainsFunc(c.Items, func(x Item) bool { return x.At == at }) {
				continue
			}
			d, item, ok := Get(c, at)
			if ok || item != (Item{}) || !same(d, c) {
				t.Errorf("Get of %d of %s: %s, %v, %v", at, told(c), told(d), item, ok)
			}
		}
	}
}

// P14.1: of what is no cache Get answers it, an empty item, and false, even for
// a number that is there.
func TestGetWrong(t *testing.T) {
	for _, c := range wrong() {
		for _, at := range []int{-1, 0, 1, 2, 3, 7, 50, 100} {
			d, item, ok := Get(c, at)
			if ok || item != (Item{}) || !same(d, c) {
				t.Errorf("Get of %d of %s: %s, %v, %v", at, told(c), told(d), item, ok)
			}
		}
	}
}

// putCase is a Put by hand: what comes of it, and what went for it.
type putCase struct {
	name  string
	c     Cache
	items []Item
	want  Cache
	out   []Item
}

func putCases() []putCase {
	three := of(3, clean(3, "c"), dirty(2, "b"), dirty(1, "a"))
	return []putCase{
		{"the example of Most 1", of(1), []Item{clean(5, ""), clean(6, "")}, of(1, clean(6, "")), nil},
		{"no items", three, nil, three, nil},
		{"into none", of(3), []Item{dirty(7, "g")}, of(3, dirty(7, "g")), nil},
		{"there is a place", of(4, three.Items...), []Item{dirty(0, "z")},
			of(4, dirty(0, "z"), clean(3, "c"), dirty(2, "b"), dirty(1, "a")), nil},
		{"the last is dirty", three, []Item{clean(4, "d")},
			of(3, clean(4, "d"), clean(3, "c"), dirty(2, "b")), []Item{dirty(1, "a")}},
		{"the last is clean", of(2, dirty(2, "b"), clean(1, "a")), []Item{dirty(4, "d")},
			of(2, dirty(4, "d"), dirty(2, "b")), nil},
		{"all go, in their order", three, []Item{clean(4, "d"), clean(5, "e"), clean(6, "f")},
			of(3, clean(6, "f"), clean(5, "e"), clean(4, "d")), []Item{dirty(1, "a"), dirty(2, "b")}},
		{"what was put goes again", three, []Item{dirty(9, "i"), clean(8, "h"), dirty(7, "g"), clean(6, "f")},
			of(3, clean(6, "f"), dirty(7, "g"), clean(8, "h")), []Item{dirty(1, "a"), dirty(2, "b"), dirty(9, "i")}},
		{"the first again", three, []Item{dirty(3, "new")},
			of(3, dirty(3, "new"), dirty(2, "b"), dirty(1, "a")), nil},
		{"the middle again", three, []Item{clean(2, "new")},
			of(3, clean(2, "new"), clean(3, "c"), dirty(1, "a")), nil},
		{"the last again", three, []Item{clean(1, "")},
			of(3, clean(1, ""), clean(3, "c"), dirty(2, "b")), nil},
		{"as it was", three, []Item{dirty(1, "a")},
			of(3, dirty(1, "a"), clean(3, "c"), dirty(2, "b")), nil},
		{"two of one number", of(3), []Item{dirty(1, "a"), dirty(2, "b"), clean(1, "c")},
			of(3, clean(1, "c"), dirty(2, "b")), nil},
		{"gone, and come again", of(1, dirty(1, "a")), []Item{clean(2, "b"), dirty(1, "c"), dirty(2, "d"), clean(1, "e")},
			of(1, clean(1, "e")), []Item{dirty(1, "a"), dirty(1, "c"), dirty(2, "d")}},
		{"an item of nothing", of(1, dirty(1, "a")), []Item{{}}, of(1, Item{}), []Item{dirty(1, "a")}},
		{"numbers at the edges", of(2, clean(math.MinInt, "least")), []Item{dirty(math.MaxInt, "most"), dirty(-1, "less")},
			of(2, dirty(-1, "less"), dirty(math.MaxInt, "most")), nil},
		{"a hundred", of(100, row(1, 100)...), []Item{clean(1, "1"), dirty(0, "")},
			of(100, slices.Concat([]Item{dirty(0, ""), clean(1, "1")}, row(2, 99))...), nil},
		{"the hundredth place", of(100, row(1, 99)...), []Item{clean(0, "0")}, of(100, row(0, 99)...), nil},
	}
}

// P14.2: Put, by hand.
func TestPut(t *testing.T) {
	for _, x := range putCases() {
		c, out, e := Put(x.c, x.items...)
		if e != api.OK || !same(c, x.want) || !slices.Equal(out, x.out) {
			t.Errorf("%s: %s, %s, %d", x.name, told(c), brief(out), e)
		}
	}
}

// P14.2: of what is no cache Put answers ErrArg, it, and none.
func TestPutWrong(t *testing.T) {
	for _, c := range wrong() {
		for _, items := range [][]Item{nil, {{}}, {dirty(1, "x")}, {dirty(500, "x"), clean(501, "y")}} {
			d, out, e := Put(c, items...)
			if e != api.ErrArg || !same(d, c) || len(out) != 0 {
				t.Errorf("Put of %s to %s: %s, %s, %d", brief(items), told(c), told(d), brief(out), e)
			}
		}
	}
}

// P14.2: Clean answers the same cache with no item Dirty, and those that were.
func TestClean(t *testing.T) {
	for _, x := range []struct{ c, want Cache }{
		{of(1), of(1)},
		{of(2, clean(1, "a")), of(2, clean(1, "a"))},
		{of(2, dirty(1, "a")), of(2, clean(1, "a"))},
		{of(4, dirty(3, "c"), clean(1, "a"), dirty(2, "b"), dirty(0, "")),
			of(4, clean(3, "c"), clean(1, "a"), clean(2, "b"), clean(0, ""))},
	} {
		var want []Item
		for _, y := range x.c.Items {
			if y.Dirty {
				want = append(want, y)
			}
		}
		c, out := Clean(x.c)
		if !same(c, x.want) || !slices.Equal(out, want) {
			t.Errorf("Clean(%s): %s, %s", told(x.c), told(c), brief(out))
		}
		if again, none := Clean(c); !same(again, c) || len(none) != 0 {
			t.Errorf("Clean of what is clean: %s, %s", told(again), brief(none))
		}
	}
}

// P14.2: all of a hundred that are dirty are told, in order, as they were.
func TestCleanAll(t *testing.T) {
	l := row(1, MaxItems)
	for i := range l {
		l[i].Dirty = true
	}
	c, out := Clean(of(MaxItems, l...))
	if !same(c, of(MaxItems, row(1, MaxItems)...)) || !slices.Equal(out, l) {
		t.Errorf("Clean of a hundred: %s, %s", told(c), brief(out))
	}
}

// P14.2: of what is no cache Clean answers it, and none.
func TestCleanWrong(t *testing.T) {
	for _, c := range wrong() {
		if d, out := Clean(c); !same(d, c) || len(out) != 0 {
			t.Errorf("Clean(%s): %s, %s", told(c), told(d), brief(out))
		}
	}
}

// R1: what is handed in stays as it was, and answers share no list with it.
func TestStays(t *testing.T) {
	for _, c := range slices.Concat(caches(), wrong()) {
		for _, items := range [][]Item{nil, {clean(1, "n")}, {dirty(1, "n"), clean(200, ""), dirty(201, "o")}, row(300, 500)} {
			kept(t, c, items, func(c Cache, items []Item) {
				d, out, _ := Put(c, items...)
				spoil(d.Items, out)
			})
			kept(t, c, items, func(c Cache, items []Item) {
				for _, x := range items {
					d, _, _ := Get(c, x.At)
					spoil(d.Items)
				}
				for _, x := range c.Items {
					d, _, _ := Get(c, x.At)
					spoil(d.Items)
				}
				d, out := Clean(c)
				spoil(d.Items, out)
			})
		}
	}
}

// spoil writes into lists that were answered, up to the end of what is theirs.
func spoil(lists ...[]Item) {
	for _, l := range lists {
		l = l[:cap(l)]
		for i := range l {
			l[i] = dirty(-99, "spoilt")
		}
	}
}

// uses are all uses of a cache so far, the first one ahead: a second reading of
// the chapter, that keeps no order of its own.
type uses struct {
	most int
	all  []Item
	in   map[int]bool
}

// last answers when the item of at was used last.
func (u *uses) last(at int) int {
	when := -1
	for i, x := range u.all {
		if x.At == at {
			when = i
		}
	}
	return when
}

// items answers what is there, by when it was used last.
func (u *uses) items() []Item {
	var l []Item
	for at := range u.in {
		l = append(l, u.all[u.last(at)])
	}
	slices.SortFunc(l, func(a, b Item) int { return u.last(b.At) - u.last(a.At) })
	return l
}

// put tells what goes for an item, if it is dirty.
func (u *uses) put(x Item) []Item {
	u.all = append(u.all, x)
	u.in[x.At] = true
	if len(u.in) <= u.most {
		return nil
	}
	l := u.items()
	oldest := l[len(l)-1]
	delete(u.in, oldest.At)
	if oldest.Dirty {
		return []Item{oldest}
	}
	return nil
}

// clean tells those that are dirty, and makes clean ones of all that was used.
func (u *uses) clean() []Item {
	var out []Item
	for _, x := range u.items() {
		if x.Dirty {
			out = append(out, x)
		}
	}
	for i := range u.all {
		u.all[i].Dirty = false
	}
	return out
}

// walk uses a cache by numbers that come from seed, and holds it against a
// second reading at each step.
func walk(t *testing.T, most, ats, steps int, seed uint32) {
	c, _ := New(most)
	u := &uses{most: most, in: map[int]bool{}}
	next := func(n int) int {
		seed = seed*1664525 + 1013904223
		return int(seed>>8) % n
	}
	for step := range steps {
		var out, want []Item
		switch at := next(ats); next(8) {
		case 0, 1:
			d, x, ok := Get(c, at)
			if ok != u.in[at] || ok && x != u.all[u.last(at)] {
				t.Fatalf("most %d, step %d: Get of %d: %v, %v", most, step, at, x, ok)
			}
			if ok {
				u.put(x)
			}
			c = d
		case 2:
			want = u.clean()
			c, out = Clean(c)
		default:
			items := make([]Item, next(4))
			for i := range items {
				items[i] = Item{At: next(ats), Text: strconv.Itoa(next(100)), Dirty: next(2) == 0}
				want = append(want, u.put(items[i])...)
			}
			c, out, _ = Put(c, items...)
		}
		if !Right(c) || c.Most != most || !slices.Equal(c.Items, u.items()) || !slices.Equal(out, want) {
			t.Fatalf("most %d, step %d: %s, %s; want %s, %s", most, step, told(c), brief(out), brief(u.items()), brief(want))
		}
	}
}

// P14.1, P14.2, P14.3: whatever is done one behind the other, a cache has the
// items that were used last.
func TestWalks(t *testing.T) {
	for most := 1; most <= 6; most++ {
		for seed := range uint32(20) {
			walk(t, most, most+int(seed)%4, 100, seed)
		}
	}
	walk(t, 99, 120, 400, 7)
	walk(t, 100, 103, 400, 8)
}

// P14.3: what was put dirty is in the cache, or was told, or another item of its
// number came for it.
func TestNothingLost(t *testing.T) {
	c, _ := New(10)
	var told []Item
	for i := range 1000 {
		d, out, e := Put(c, dirty(i, "v"), clean(i-1000, ""))
		if e != api.OK {
			t.Fatalf("Put of %d: %d", i, e)
		}
		c, told = d, append(told, out...)
	}
	_, rest := Clean(c)
	slices.Reverse(rest)
	told = append(told, rest...)
	if len(told) != 1000 {
		t.Fatalf("%d of 1000 are told", len(told))
	}
	for i, x := range told {
		if x != dirty(i, "v") {
			t.Errorf("the item %d that is told: %v", i, x)
		}
	}
}

// P14.2: one Put of many items is as many Puts of one, and ends soon.
func TestPutMany(t *testing.T) {
	var items, all []Item
	c, _ := New(MaxItems)
	d := c
	for i := range 20000 {
		x := Item{At: i * 7919 % 251, Text: strconv.Itoa(i), Dirty: i%3 == 0}
		items = append(items, x)
		one, out, _ := Put(d, x)
		d, all = one, append(all, out...)
	}
	e, out, err := Put(c, items...)
	if err != api.OK || !same(d, e) || !slices.Equal(out, all) || len(out) == 0 {
		t.Errorf("one Put: %s, %d told; many: %s, %d told", told(e), len(out), told(d), len(all))
	}
}
