package space

import (
	"math"
	"slices"
	"testing"

	"weirkeeper/api"
)

// ext is a short way to write an extent.
func ext(at, n int) Extent {
	return Extent{At: at, Len: n}
}

// taken answers, in the chapter's words, whether extents may be used of an
// area of few sectors, and which sectors they have.
func taken(from, to int, used []Extent) (map[int]int, bool) {
	if from < 0 || to < from {
		return nil, false
	}
	has := map[int]int{}
	for _, x := range used {
		if x.Len <= 0 {
			return nil, false
		}
		for s := x.At; s < x.At+x.Len; s++ {
			has[s]++
			if s < from || s >= to || has[s] > 1 {
				return nil, false
			}
		}
	}
	return has, true
}

// freeOf answers the free extents, sector by sector.
func freeOf(from, to int, has map[int]int) []Extent {
	var l []Extent
	for s := from; s < to; s++ {
		switch {
		case has[s] > 0:
		case s > from && has[s-1] == 0:
			l[len(l)-1].Len++
		default:
			l = append(l, ext(s, 1))
		}
	}
	return l
}

// firstOf answers what Fit is to answer, of these free extents.
func firstOf(n int, free []Extent) (Extent, api.Errno) {
	for _, x := range free {
		if x.Len >= n {
			return ext(x.At, n), api.OK
		}
	}
	return Extent{}, api.ErrFull
}

// holdAgainst holds all calls against the chapter's words, for one area.
func holdAgainst(t *testing.T, from, to int, used ...Extent) {
	t.Helper()
	given := slices.Clone(used)
	has, right := taken(from, to, used)
	var free []Extent
	if right {
		free = freeOf(from, to, has)
	}
	left := 0
	for _, x := range free {
		left += x.Len
	}
	if got := Right(from, to, used...); got != right {
		t.Fatalf("Right(%d, %d, %v) = %t", from, to, used, got)
	}
	if got := Free(from, to, used...); !slices.Equal(got, free) {
		t.Fatalf("Free(%d, %d, %v) = %v", from, to, used, got)
	}
	if got := Left(from, to, used...); got != left {
		t.Fatalf("Left(%d, %d, %v) = %d", from, to, used, got)
	}
	for n := -1; n <= 7; n++ {
		want, wantE := Extent{}, api.ErrArg
		if right && n >= 1 {
			want, wantE = firstOf(n, free)
		}
		x, e := Fit(n, from, to, used...)
		if x != want || e != wantE {
			t.Fatalf("Fit(%d, %d, %d, %v) = %v, %d", n, from, to, used, x, e)
		}
		if e == api.OK && !Right(from, to, append(slices.Clone(used), x)...) {
			t.Fatalf("Fit(%d, %d, %d, %v) = %v may not be used", n, from, to, used, x)
		}
	}
	if !slices.Equal(used, given) {
		t.Fatalf("%v has become %v", given, used)
	}
}

// extents answers those of few sectors, wrong ones among them.
func extents(at, n int) []Extent {
	var l []Extent
	for a := -1; a <= at; a++ {
		for b := -1; b <= n; b++ {
			l = append(l, ext(a, b))
		}
	}
	return l
}

// P5.1, P5.2, P5.3: of all small areas, with none, one and two extents in
// either order.
func TestOfAllSmallAreas(t *testing.T) {
	all := extents(6, 6)
	for from := -1; from <= 6; from++ {
		for to := -1; to <= 6; to++ {
			holdAgainst(t, from, to)
			for _, a := range all {
				holdAgainst(t, from, to, a)
				for _, b := range all {
					holdAgainst(t, from, to, a, b)
				}
			}
		}
	}
}

// P5.1, P5.2, P5.3: of one area, with three extents in each order.
func TestOfThree(t *testing.T) {
	all := extents(6, 3)
	for _, a := range all {
		for _, b := range all {
			for _, c := range all {
				holdAgainst(t, 1, 7, a, b, c)
			}
		}
	}
}

// P5.1: the chapter's example.
func TestExample(t *testing.T) {
	used := ext(2, 2)
	if l := Free(0, 10, used); !slices.Equal(l, []Extent{ext(0, 2), ext(4, 6)}) {
		t.Errorf("Free = %v", l)
	}
	if n := Left(0, 10, used); n != 8 {
		t.Errorf("Left = %d", n)
	}
}

// P5.1: areas up to the greatest number, with extents that end with them.
func TestRightAtTheGreatestNumber(t *testing.T) {
	const most = api.MaxNum
	for _, c := range []struct {
		from, to int
		used     []Extent
		want     []Extent
	}{
		{0, most, nil, []Extent{ext(0, most)}},
		{0, most, []Extent{ext(0, most)}, nil},
		{0, most, []Extent{ext(most-1, 1)}, []Extent{ext(0, most-1)}},
		{0, most, []Extent{ext(most-1, 1), ext(0, 1)}, []Extent{ext(1, most-2)}},
		{0, most, []Extent{ext(1<<30, 1)}, []Extent{ext(0, 1<<30), ext(1<<30+1, most-1<<30-1)}},
		{most, most, nil, nil},
		{most - 1, most, nil, []Extent{ext(most-1, 1)}},
		{most - 1, most, []Extent{ext(most-1, 1)}, nil},
	} {
		left := 0
		for _, x := range c.want {
			left += x.Len
		}
		if !Right(c.from, c.to, c.used...) {
			t.Errorf("Right(%d, %d, %v) = false", c.from, c.to, c.used)
		}
		if l := Free(c.from, c.to, c.used...); !slices.Equal(l, c.want) {
			t.Errorf("Free(%d, %d, %v) = %v", c.from, c.to, c.used, l)
		}
		if n := Left(c.from, c.to, c.used...); n != left {
			t.Errorf("Left(%d, %d, %v) = %d", c.from, c.to, c.used, n)
		}
	}
}

// P5.1, P5.2, R2: what may not be used, up to where sums would wrap round: of
// it nothing is free, and nothing fits.
func TestOfWhatMayNotBeUsed(t *testing.T) {
	const most = api.MaxNum
	for _, c := range []struct {
		from, to int
		used     []Extent
	}{
		{-1, 0, nil},
		{-1, -1, nil},
		{1, 0, nil},
		{most, most - 1, nil},
		{0, most + 1, nil},
		{most + 1, most + 1, nil},
		{math.MinInt, 10, nil},
		{0, math.MaxInt, nil},
		{math.MaxInt, math.MaxInt, nil},
		{math.MinInt, math.MaxInt, nil},
		{math.MinInt, math.MinInt, nil},
		{math.MaxInt, math.MinInt, nil},
		{-1, 10, []Extent{ext(2, 2)}},
		{0, most + 1, []Extent{ext(2, 2)}},
		{0, 10, []Extent{ext(10, 1)}},
		{0, 10, []Extent{ext(10, 0)}},
		{0, 10, []Extent{ext(9, 2)}},
		{0, 10, []Extent{ext(11, 1)}},
		{0, 10, []Extent{ext(5, 0)}},
		{0, 10, []Extent{ext(5, -1)}},
		{0, 10, []Extent{ext(5, math.MinInt)}},
		{0, 10, []Extent{ext(5, math.MaxInt)}},
		{0, 10, []Extent{ext(1, math.MaxInt)}},
		{0, 10, []Extent{ext(-1, 1)}},
		{0, 10, []Extent{ext(-1, 2)}},
		{0, 10, []Extent{ext(math.MaxInt, 1)}},
		{0, 10, []Extent{ext(math.MaxInt, math.MaxInt)}},
		{0, 10, []Extent{ext(math.MinInt, math.MaxInt)}},
		{0, 10, []Extent{ext(math.MinInt, math.MinInt)}},
		{0, most, []Extent{ext(most, 1)}},
		{0, most, []Extent{ext(1, most)}},
		{0, 10, []Extent{ext(2, 3), ext(2, 3)}},
		{0, 10, []Extent{ext(2, 3), ext(4, 1)}},
		{0, 10, []Extent{ext(4, 1), ext(2, 3)}},
		{0, 10, []Extent{ext(0, 10), ext(5, 1)}},
		{0, 10, []Extent{ext(5, 1), ext(1, 1), ext(3, 3)}},
		{0, 10, []Extent{ext(1, 1), ext(3, 0), ext(5, 1)}},
		{0, 10, []Extent{ext(5, 0), ext(5, 1)}},
		{4, 4, []Extent{ext(4, 1)}},
		{4, 4, []Extent{ext(4, 0)}},
	} {
		if Right(c.from, c.to, c.used...) {
			t.Errorf("Right(%d, %d, %v) = true", c.from, c.to, c.used)
		}
		if l := Free(c.from, c.to, c.used...); len(l) != 0 {
			t.Errorf("Free(%d, %d, %v) = %v", c.from, c.to, c.used, l)
		}
		if n := Left(c.from, c.to, c.used...); n != 0 {
			t.Errorf("Left(%d, %d, %v) = %d", c.from, c.to, c.used, n)
		}
		for _, n := range []int{1, 0, 20, most, math.MaxInt} {
			if x, e := Fit(n, c.from, c.to, c.used...); x != (Extent{}) || e != api.ErrArg {
				t.Errorf("Fit(%d, %d, %d, %v) = %v, %d", n, c.from, c.to, c.used, x, e)
			}
		}
	}
}

// P5.2: the first free extent that is long enough, not the tightest one; and
// its first sectors.
func TestFit(t *testing.T) {
	used := []Extent{ext(20, 10), ext(0, 3), ext(5, 5)}
	for _, c := range []struct {
		n    int
		want Extent
		e    api.Errno
	}{
		{1, ext(3, 1), api.OK},
		{2, ext(3, 2), api.OK},
		{3, ext(10, 3), api.OK},
		{5, ext(10, 5), api.OK},
		{10, ext(10, 10), api.OK},
		{11, Extent{}, api.ErrFull},
		{17, Extent{}, api.ErrFull},
		{100, Extent{}, api.ErrFull},
		{api.MaxNum, Extent{}, api.ErrFull},
		{0, Extent{}, api.ErrArg},
		{-1, Extent{}, api.ErrArg},
		{api.MaxNum + 1, Extent{}, api.ErrArg},
		{math.MinInt, Extent{}, api.ErrArg},
		{math.MaxInt, Extent{}, api.ErrArg},
	} {
		if x, e := Fit(c.n, 0, 35, used...); x != c.want || e != c.e {
			t.Errorf("Fit(%d) = %v, %d", c.n, x, e)
		}
	}
}

// P5.2: the greatest number fits where it is all free, and nothing in what has
// no sector free.
func TestFitAtTheEdges(t *testing.T) {
	const most = api.MaxNum
	for _, c := range []struct {
		n, from, to int
		used        []Extent
		want        Extent
		e           api.Errno
	}{
		{most, 0, most, nil, ext(0, most), api.OK},
		{most, 1, most, nil, Extent{}, api.ErrFull},
		{most, 0, most, []Extent{ext(most-1, 1)}, Extent{}, api.ErrFull},
		{most - 1, 0, most, []Extent{ext(most-1, 1)}, ext(0, most-1), api.OK},
		{most - 1, 0, most, []Extent{ext(0, 1)}, ext(1, most-1), api.OK},
		{1, most, most, nil, Extent{}, api.ErrFull},
		{1, most - 1, most, nil, ext(most-1, 1), api.OK},
		{1, 0, 0, nil, Extent{}, api.ErrFull},
		{0, 0, 0, nil, Extent{}, api.ErrArg},
		{most + 1, 0, most, nil, Extent{}, api.ErrArg},
		{1, 3, 6, []Extent{ext(3, 3)}, Extent{}, api.ErrFull},
	} {
		if x, e := Fit(c.n, c.from, c.to, c.used...); x != c.want || e != c.e {
			t.Errorf("Fit(%d, %d, %d, %v) = %v, %d", c.n, c.from, c.to, c.used, x, e)
		}
	}
}

// P5.3: an area is filled piece by piece, until just what is left over does
// not fit any more.
func TestFitTillItIsFull(t *testing.T) {
	const from, to = 7, 500
	used := []Extent{ext(100, 3), ext(50, 1), ext(499, 1)}
	for n := 13; n >= 1; n-- {
		for {
			left := Left(from, to, used...)
			x, e := Fit(n, from, to, used...)
			if e == api.ErrFull {
				break
			}
			used = append(used, x)
			if e != api.OK || x.Len != n || !Right(from, to, used...) || Left(from, to, used...) != left-n {
				t.Fatalf("Fit(%d) = %v, %d, with %d left", n, x, e, left)
			}
		}
	}
	if l := Free(from, to, used...); len(l) != 0 || Left(from, to, used...) != 0 {
		t.Errorf("what is free: %v", l)
	}
}

// P5.1: what is free may be used, too, and then nothing is; whatever the order
// in which extents come.
func TestFreeMayBeUsed(t *testing.T) {
	var used []Extent
	for i := range 300 {
		// By steps of 7 round 300 places, so that they come unsorted.
		used = append(used, ext(10*(i*7%300)+i%3, 1+i%8))
	}
	free := Free(0, 3000, used...)
	both := append(slices.Clone(free), used...)
	if !Right(0, 3000, both...) || Left(0, 3000, both...) != 0 || len(free) == 0 {
		t.Errorf("%d free extents do not fill the area", len(free))
	}
	slices.Reverse(used)
	if !slices.Equal(Free(0, 3000, used...), free) {
		t.Error("Free hangs on the order")
	}
}

// R1, R4: what is handed in stays as it was, and what is answered is new.
func TestNothingIsKept(t *testing.T) {
	used := []Extent{ext(8, 1), ext(2, 2), ext(5, 1)}
	given := slices.Clone(used)
	want := []Extent{ext(0, 2), ext(4, 1), ext(6, 2), ext(9, 1)}
	for range 2 {
		l := Free(0, 10, used...)
		if !slices.Equal(l, want) {
			t.Errorf("Free = %v", l)
		}
		clear(l)
		if x, e := Fit(2, 0, 10, used...); x != ext(0, 2) || e != api.OK {
			t.Errorf("Fit = %v, %d", x, e)
		}
		if !Right(0, 10, used...) || Left(0, 10, used...) != 6 || !slices.Equal(used, given) {
			t.Errorf("%v has become %v", given, used)
		}
	}
}
