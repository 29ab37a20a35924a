package spans_test

import (
	"math"
	"math/rand"
	"slices"
	"testing"

	"wainwright/api"
	"wainwright/spans"
)

// far are numbers that no block of a file or of a disk has.
var far = []int{math.MinInt, math.MinInt + 1, -1 << 40, -65536, -1, 65536, 65537, 1 << 32, 1 << 40, math.MaxInt - 1, math.MaxInt}

// list returns the spans whose At, Start and Len are given in turn.
func list(numbers ...int) []api.Span {
	var l []api.Span
	for i := 0; i < len(numbers); i += 3 {
		l = append(l, api.Span{At: numbers[i], Start: numbers[i+1], Len: numbers[i+2]})
	}
	return l
}

// count returns the n numbers from first on.
func count(first, n int) []int {
	l := make([]int, n)
	for i := range l {
		l[i] = first + i
	}
	return l
}

// lists returns all lists of n elements of a choice.
func lists[T any](choice []T, n int) [][]T {
	all := [][]T{{}}
	for range n {
		var longer [][]T
		for _, l := range all {
			for _, x := range choice {
				longer = append(longer, append(slices.Clone(l), x))
			}
		}
		all = longer
	}
	return all
}

// product returns all spans of the given numbers.
func product(ats, starts, lens []int) []api.Span {
	var all []api.Span
	for _, at := range ats {
		for _, start := range starts {
			for _, length := range lens {
				all = append(all, api.Span{At: at, Start: start, Len: length})
			}
		}
	}
	return all
}

// holes returns the map that Of reads in m.
func holes(m []int) []int {
	l := slices.Clone(m[:min(len(m), 65536)])
	for i, b := range l {
		if b < 1 || b > 65535 {
			l[i] = 0
		}
	}
	return l
}

// fewest returns how many runs a map has.
func fewest(m []int) int {
	n := 0
	for i, b := range m {
		if b != 0 && (i == 0 || m[i-1] == 0 || m[i-1]+1 != b) {
			n++
		}
	}
	return n
}

func distinct(numbers []int) bool {
	sorted := slices.Sorted(slices.Values(numbers))
	return len(slices.Compact(sorted)) == len(numbers)
}

func wantOf(t *testing.T, m []int, want []api.Span) {
	t.Helper()
	if got := spans.Of(m); !slices.Equal(got, want) {
		t.Errorf("Of(%v): %v, not %v", m[:min(len(m), 20)], got, want)
	}
}

func wantMap(t *testing.T, l []api.Span, n int, want []int) {
	t.Helper()
	if got := spans.Map(l, n); !slices.Equal(got, want) {
		t.Errorf("Map(%v, %d): %d blocks, %v, not %v", l, n, len(got), got[:min(len(got), 20)], want[:min(len(want), 20)])
	}
}

func wantAt(t *testing.T, l []api.Span, i, want int) {
	t.Helper()
	if got := spans.At(l, i); got != want {
		t.Errorf("At(%v, %d): %d, not %d", l, i, got, want)
	}
}

func wantCut(t *testing.T, l []api.Span, n int, want []api.Span) {
	t.Helper()
	if got := spans.Cut(l, n); !slices.Equal(got, want) {
		t.Errorf("Cut(%v, %d): %v, not %v", l, n, got, want)
	}
}

func wantBlocks(t *testing.T, l []api.Span, want []int) {
	t.Helper()
	if got := spans.Blocks(l); !slices.Equal(got, want) {
		t.Errorf("Blocks(%v): %d of them, %v, not %v", l, len(got), got[:min(len(got), 20)], want[:min(len(want), 20)])
	}
}

func wantApart(t *testing.T, l []api.Span, want bool) {
	t.Helper()
	if got := spans.Apart(l); got != want {
		t.Errorf("Apart(%v): %t", l, got)
	}
}

func TestOf(t *testing.T) {
	for _, x := range []struct {
		m    []int
		want []api.Span
	}{
		{nil, nil},
		{[]int{}, nil},
		{[]int{0}, nil},
		{[]int{0, 0, 0}, nil},
		{[]int{5}, list(0, 5, 1)},
		{[]int{0, 0, 5}, list(2, 5, 1)},
		{[]int{5, 6, 7}, list(0, 5, 3)},
		{[]int{7, 6, 5}, list(0, 7, 1, 1, 6, 1, 2, 5, 1)},
		{[]int{5, 5, 5}, list(0, 5, 1, 1, 5, 1, 2, 5, 1)},
		{[]int{5, 6, 8, 9}, list(0, 5, 2, 2, 8, 2)},
		{[]int{5, 6, 0, 7, 8}, list(0, 5, 2, 3, 7, 2)},
		{[]int{5, 6, 0, 8, 9}, list(0, 5, 2, 3, 8, 2)},
		{[]int{5, 6, 5, 6}, list(0, 5, 2, 2, 5, 2)},
		{[]int{7, 8, 0, 9, 10}, list(0, 7, 2, 3, 9, 2)},
		{[]int{5, 6, 7, 0, 0, 8, 3, 4, 0}, list(0, 5, 3, 5, 8, 1, 6, 3, 2)},
	} {
		wantOf(t, x.m, x.want)
	}
}

func TestOfNumbersThatAreHoles(t *testing.T) {
	for _, number := range append([]int{0}, far...) {
		wantOf(t, []int{number}, nil)
		wantOf(t, []int{7, number, 8}, list(0, 7, 1, 2, 8, 1))
		wantOf(t, []int{number, 7, 8, number}, list(1, 7, 2))
	}
	wantOf(t, []int{-1, 0, 1, 2}, list(2, 1, 2))
	wantOf(t, []int{65534, 65535, 65536, 65537}, list(0, 65534, 2))
	wantOf(t, []int{65535, 1, 65535}, list(0, 65535, 1, 1, 1, 1, 2, 65535, 1))
}

func TestOfMapsThatAreLong(t *testing.T) {
	m := make([]int, 70000)
	wantOf(t, m, nil)
	for i := 65536; i < len(m); i++ {
		m[i] = 100 + i - 65536
	}
	wantOf(t, m, nil)
	m[65535] = 99
	wantOf(t, m, list(65535, 99, 1))
	m[65534] = 98
	wantOf(t, m, list(65534, 98, 2))
	wantOf(t, m[:65535], list(65534, 98, 1))

	wantOf(t, count(1, 65535), list(0, 1, 65535))
	wantOf(t, count(1, 65536), list(0, 1, 65535))
	wantOf(t, count(0, 65536), list(1, 1, 65535))
	wantOf(t, count(0, 70000), list(1, 1, 65535))
	wantOf(t, count(-10, 70000), list(11, 1, 65525))
	wantOf(t, append([]int{9}, count(1, 70000)...), list(0, 9, 1, 1, 1, 65535))
}

func TestMap(t *testing.T) {
	for _, x := range []struct {
		l    []api.Span
		n    int
		want []int
	}{
		{nil, 0, nil},
		{nil, 3, []int{0, 0, 0}},
		{list(0, 7, 2, 3, 9, 2), 5, []int{7, 8, 0, 9, 10}},
		{list(0, 7, 2, 3, 9, 2), 7, []int{7, 8, 0, 9, 10, 0, 0}},
		{list(0, 7, 2, 3, 9, 2), 4, []int{7, 8, 0, 9}},
		{list(0, 7, 2, 3, 9, 2), 1, []int{7}},
		{list(0, 7, 2, 3, 9, 2), 0, nil},
		{list(3, 9, 2, 0, 7, 2), 5, []int{7, 8, 0, 9, 10}},
		{list(5, 7, 2), 5, []int{0, 0, 0, 0, 0}},
		{list(6, 7, 2), 5, []int{0, 0, 0, 0, 0}},
		// The last one of those that contain a block counts.
		{list(0, 10, 4, 1, 50, 2), 5, []int{10, 50, 51, 13, 0}},
		{list(1, 50, 2, 0, 10, 4), 5, []int{10, 11, 12, 13, 0}},
		{list(0, 10, 2, 0, 20, 2, 0, 30, 1), 2, []int{30, 21}},
		{list(0, 10, 2, 0, 0, 1), 2, []int{0, 11}},
		// A span of no blocks contains none.
		{list(0, 7, 0), 2, []int{0, 0}},
		{list(1, 7, -1), 2, []int{0, 0}},
		{list(0, 7, 2, 0, 9, 0, 1, 9, -5), 2, []int{7, 8}},
		// Parts before block 0.
		{list(-1, 7, 2), 2, []int{8, 0}},
		{list(-3, 7, 3), 2, []int{0, 0}},
		{list(-3, 7, 4), 2, []int{10, 0}},
		{list(-3, 7, 9), 2, []int{10, 11}},
		// A map takes the numbers of blocks as they are.
		{list(0, -1, 3, 3, 65535, 2), 5, []int{-1, 0, 1, 65535, 65536}},
	} {
		wantMap(t, x.l, x.n, x.want)
	}
}

func TestMapOfAnyNumberOfBlocks(t *testing.T) {
	l := list(0, 7, 2, 65534, 100, 2)
	whole := make([]int, 65536)
	whole[0], whole[1], whole[65534], whole[65535] = 7, 8, 100, 101
	for _, n := range []int{-1, -2, -65536, math.MinInt} {
		wantMap(t, l, n, nil)
	}
	wantMap(t, l, 65535, whole[:65535])
	for _, n := range []int{65536, 65537, 100000, 1 << 40, math.MaxInt} {
		wantMap(t, l, n, whole)
		wantMap(t, list(0, 1, 65536), n, count(1, 65536))
		wantMap(t, list(0, 1, math.MaxInt), n, count(1, 65536))
		wantMap(t, list(65536, 1, 5), n, make([]int, 65536))
	}
}

func TestMapOfExtremeSpans(t *testing.T) {
	const least, most = math.MinInt, math.MaxInt
	for _, x := range []struct {
		l    []api.Span
		want []int
	}{
		{list(0, 5, most), []int{5, 6, 7}},
		{list(1, 5, most), []int{0, 5, 6}},
		{list(-1, 5, most), []int{6, 7, 8}},
		{list(most, 5, most), []int{0, 0, 0}},
		{list(most, 5, 1), []int{0, 0, 0}},
		{list(least, 5, most), []int{0, 0, 0}}, // it ends before block -1
		{list(-most, 5, most), []int{0, 0, 0}}, // it ends before block 0
		{list(1-most, least, most), []int{-2, 0, 0}},
		{list(2-most, least, most), []int{-3, -2, 0}},
		{list(0, 5, least), []int{0, 0, 0}},
		{list(2, 5, least), []int{0, 0, 0}},
		{list(least, 5, least), []int{0, 0, 0}},
		{list(-1, 5, least), []int{0, 0, 0}},
		{list(0, most-1, 2), []int{most - 1, most, 0}},
		{list(0, least, 2), []int{least, least + 1, 0}},
	} {
		wantMap(t, x.l, 3, x.want)
		for i, want := range x.want {
			wantAt(t, x.l, i, want)
		}
	}
}

func TestRight(t *testing.T) {
	for _, x := range []struct {
		l    []api.Span
		want bool
	}{
		{nil, true},
		{[]api.Span{}, true},
		{list(0, 1, 1), true},
		{list(-1, 1, 1), false},
		{list(0, 0, 1), false},
		{list(0, -1, 3), false},
		{list(0, 1, 0), false},
		{list(0, 1, -1), false},
		{list(65535, 65535, 1), true},
		{list(65536, 1, 1), false},
		{list(65535, 1, 2), false},
		{list(65534, 1, 2), true},
		{list(0, 65536, 1), false},
		{list(0, 65535, 2), false},
		{list(0, 65534, 2), true},
		{list(0, 1, 65535), true},
		{list(1, 1, 65535), true},
		{list(2, 1, 65535), false},
		{list(0, 2, 65535), false},
		{list(0, 2, 65534), true},
		{list(0, 1, 65536), false},
		{list(0, 0, 65536), false},
		{list(0, 0, 65535), false},
		// Order.
		{list(0, 1, 2, 2, 9, 1), true},
		{list(0, 1, 2, 3, 9, 1), true},
		{list(0, 1, 2, 1, 9, 1), false},
		{list(0, 1, 2, 0, 9, 1), false},
		{list(2, 9, 1, 0, 1, 2), false},
		{list(0, 1, 1, 0, 1, 1), false},
		{list(0, 1, 1, 5, 9, 1, 3, 20, 1), false},
		// Two that form one run.
		{list(0, 1, 2, 2, 3, 1), false},
		{list(0, 1, 2, 3, 3, 1), true},
		{list(0, 1, 2, 2, 4, 1), true},
		{list(0, 1, 2, 2, 2, 1), true},
		{list(0, 1, 2, 2, 1, 2), true},
		{list(0, 9, 1, 1, 1, 2, 3, 3, 1), false},
		{list(0, 1, 1, 1, 9, 1, 2, 2, 1), true}, // one run but for the span between
		// The place of the span that is not valid.
		{list(0, 1, 1, 2, 0, 1), false},
		{list(0, 0, 1, 2, 1, 1), false},
		{list(0, 1, 1, 2, 9, 0, 4, 5, 1), false},
	} {
		if got := spans.Right(x.l); got != x.want {
			t.Errorf("Right(%v): %t", x.l, got)
		}
	}
}

func TestRightOfFarNumbers(t *testing.T) {
	for _, number := range far {
		for _, l := range [][]api.Span{list(number, 1, 1), list(0, number, 1), list(0, 1, number), list(number, number, 1), list(number, 1, number), list(0, number, number), list(number, number, number)} {
			if spans.Right(l) || spans.Right(append(list(0, 1, 1), l...)) || spans.Right(append(l, list(65535, 1, 1)...)) {
				t.Errorf("Right(%v) or of a list with it: true", l)
			}
			wantCut(t, l, 65536, nil)
		}
	}
	// The ends of these are too great for an int.
	for _, l := range [][]api.Span{list(math.MaxInt, 1, math.MaxInt), list(1, math.MaxInt, math.MaxInt), list(1, 1, math.MaxInt)} {
		if spans.Right(l) {
			t.Errorf("Right(%v): true", l)
		}
	}
}

func TestAt(t *testing.T) {
	for _, x := range []struct {
		l       []api.Span
		i, want int
	}{
		{nil, 0, 0},
		{list(0, 7, 2, 3, 9, 2), 0, 7},
		{list(0, 7, 2, 3, 9, 2), 1, 8},
		{list(0, 7, 2, 3, 9, 2), 2, 0},
		{list(0, 7, 2, 3, 9, 2), 3, 9},
		{list(0, 7, 2, 3, 9, 2), 4, 10},
		{list(0, 7, 2, 3, 9, 2), 5, 0},
		{list(3, 9, 2, 0, 7, 2), 1, 8},
		// The first one of those that contain a block counts.
		{list(0, 10, 4, 1, 50, 2), 1, 11},
		{list(1, 50, 2, 0, 10, 4), 1, 50},
		{list(1, 50, 2, 0, 10, 4), 3, 13},
		{list(0, 0, 1, 0, 10, 4), 0, 0},
		// A span of no blocks contains none.
		{list(1, 9, 0, 1, 50, 2), 1, 50},
		{list(1, 9, -3, 1, 50, 2), 1, 50},
		// Spans that are not valid say where a block is, too.
		{list(-2, 9, 5), 0, 11},
		{list(-2, 9, 5), 2, 13},
		{list(-2, 9, 5), 3, 0},
		{list(-2, 9, 5), -2, 9},
		{list(-2, 9, 5), -3, 0},
		{list(65536, 9, 5), 65537, 10},
		{list(0, 65535, 5), 3, 65538},
		{list(0, -5, 5), 1, -4},
		{list(math.MaxInt, 9, 5), math.MaxInt, 9},
		{list(math.MaxInt-1, 9, 2), math.MaxInt, 10},
		{list(math.MaxInt-1, 9, 5), math.MinInt, 0},
		{list(math.MinInt, 9, 5), math.MinInt, 9},
		{list(math.MinInt, 9, 5), math.MaxInt, 0},
		{list(math.MinInt, 9, math.MaxInt), math.MaxInt, 0},
	} {
		wantAt(t, x.l, x.i, x.want)
	}
	for _, i := range far {
		wantAt(t, list(0, 7, 2, 3, 9, 2), i, 0)
		wantAt(t, list(0, 1, 65535), i, 0)
	}
}

func TestCut(t *testing.T) {
	l := list(0, 5, 3, 5, 8, 1, 6, 3, 2)
	for _, x := range []struct {
		n    int
		want []api.Span
	}{
		{math.MinInt, nil}, {-1, nil}, {0, nil},
		{1, list(0, 5, 1)},
		{2, list(0, 5, 2)},
		{3, list(0, 5, 3)},
		{4, list(0, 5, 3)},
		{5, list(0, 5, 3)},
		{6, list(0, 5, 3, 5, 8, 1)},
		{7, list(0, 5, 3, 5, 8, 1, 6, 3, 1)},
		{8, l}, {9, l}, {65536, l}, {65537, l}, {1 << 40, l}, {math.MaxInt, l},
	} {
		wantCut(t, l, x.n, x.want)
		wantCut(t, nil, x.n, nil)
	}
	wantCut(t, list(65535, 65535, 1), 65535, nil)
	wantCut(t, list(65535, 65535, 1), 65536, list(65535, 65535, 1))
	wantCut(t, list(1, 1, 65535), 65535, list(1, 1, 65534))
}

func TestCutOfSpansThatAreNotValid(t *testing.T) {
	for _, l := range [][]api.Span{
		list(0, 0, 1),
		list(-1, 5, 3),
		list(0, 1, 2, 1, 9, 1),
		list(0, 1, 2, 2, 3, 1),
		list(0, 1, 1, 2, 9, 0),
		list(0, 1, 1, 9, 0, 1), // not valid after block n
		list(9, 1, 1, 0, 1, 1),
	} {
		for _, n := range []int{math.MinInt, 0, 1, 2, 3, 10, 65536, math.MaxInt} {
			wantCut(t, l, n, nil)
		}
	}
}

func TestBlocks(t *testing.T) {
	for _, x := range []struct {
		l    []api.Span
		want []int
	}{
		{nil, nil},
		{list(0, 5, 3, 5, 8, 1, 6, 3, 2), []int{5, 6, 7, 8, 3, 4}},
		{list(6, 3, 2, 0, 5, 3), []int{3, 4, 5, 6, 7}},
		{list(0, 5, 2, 0, 5, 2), []int{5, 6, 5, 6}},
		{list(0, 5, 0), nil},
		{list(0, 5, -1, 1, 6, 1, 2, 7, math.MinInt), []int{6}},
		{list(-7, -1, 3), []int{-1, 0, 1}},
		{list(math.MaxInt, 65535, 2), []int{65535, 65536}},
		{list(0, 1, 65535), count(1, 65535)},
		{list(0, 1, 65536), count(1, 65536)},
		{list(0, 1, 65537), count(1, 65536)},
		{list(0, -4, math.MaxInt), count(-4, 65536)},
		{list(0, math.MaxInt-1, 2), count(math.MaxInt-1, 2)},
		{list(0, math.MinInt, 2), count(math.MinInt, 2)},
		{list(0, 9, 1<<40, 0, 4, 1<<32, 0, 2, 1), append(append(count(9, 65536), count(4, 65536)...), 2)},
	} {
		wantBlocks(t, x.l, x.want)
	}
}

func TestApart(t *testing.T) {
	for _, x := range []struct {
		l    []api.Span
		want bool
	}{
		{nil, true},
		{list(0, 5, 3), true},
		{list(0, 5, 3, 3, 8, 1), true},
		{list(0, 5, 3, 3, 7, 1), false},
		{list(0, 5, 3, 3, 4, 1), true},
		{list(0, 5, 3, 3, 4, 2), false},
		{list(0, 5, 1, 1, 5, 1), false},
		{list(0, 5, 9, 9, 7, 1), false},
		{list(0, 7, 1, 9, 5, 9), false},
		{list(0, 5, 1, 1, 9, 1, 2, 5, 1), false},
		{list(0, 5, 1, 0, 9, 1), true}, // the blocks of the disk count, not those of the file
		// A span of no blocks is apart from all others.
		{list(0, 5, 0, 0, 5, 0), true},
		{list(0, 5, 3, 0, 6, 0), true},
		{list(0, 5, 3, 0, 6, -1, 0, 8, 1), true},
		{list(0, 5, 3, 0, 6, math.MinInt, 0, 7, 1), false},
		{list(0, 5, -3, 0, 4, 1), true},
		// Blocks returns only 65536 blocks of a span.
		{list(0, 1, 65536, 0, 65536, 1), false},
		{list(0, 1, 65536, 0, 65537, 1), true},
		{list(0, 1, 65537, 0, 65537, 1), true},
		{list(0, 1, math.MaxInt, 0, 65537, math.MaxInt), true},
		{list(0, 1, math.MaxInt, 0, 65536, math.MaxInt), false},
		{list(0, 0, math.MaxInt), true},
		// The numbers of blocks may be any.
		{list(0, -1, 2, 0, 1, 1), true},
		{list(0, -1, 2, 0, 0, 1), false},
		{list(0, math.MinInt, 5, 0, math.MaxInt-4, 5), true},
		{list(0, math.MinInt, 5, 0, math.MinInt+4, 5), false},
		{list(0, math.MinInt, math.MaxInt, 0, 1, math.MaxInt), true},
	} {
		wantApart(t, x.l, x.want)
	}
}

// Far more blocks than any memory has: Apart need not list them.
func TestApartOfManyBlocks(t *testing.T) {
	var l []api.Span
	for i := range 1 << 20 {
		l = append(l, api.Span{Start: i * 65536, Len: 65536})
	}
	if !spans.Apart(l) {
		t.Error("spans side by side: not apart")
	}
	l[7].Start++
	if spans.Apart(l) {
		t.Error("one block in two spans: apart")
	}
}

func TestApartIsThatOfBlocks(t *testing.T) {
	near := product([]int{0}, []int{-1, 0, 1, 2, 4, math.MinInt, math.MinInt + 1, math.MaxInt - 1, math.MaxInt}, []int{-1, 0, 1, 2, 3})
	for n := range 4 {
		for _, l := range lists(near, n) {
			wantApart(t, l, distinct(spans.Blocks(l)))
		}
		if t.Failed() {
			t.FailNow()
		}
	}
}

// Some numbers of blocks here are farther from each other than any int is from 0.
func TestApartOfBlocksAllOver(t *testing.T) {
	r := rand.New(rand.NewSource(5))
	for range 2000 {
		l := make([]api.Span, 2+r.Intn(9))
		for i := range l {
			l[i] = api.Span{Start: math.MinInt + r.Intn(16)<<60 + r.Intn(4), Len: 1 + r.Intn(2)}
		}
		wantApart(t, l, distinct(spans.Blocks(l)))
	}
}

// Map, At and Blocks of many spans, valid or not, held against the words of
// the chapter, block by block.
func TestEveryBlockOfAllSpans(t *testing.T) {
	choice := product([]int{-2, -1, 0, 1, 3}, []int{-1, 0, 5, 65535}, []int{-1, 0, 1, 2, 4})
	const n = 6
	for length := range 3 {
		for _, l := range lists(choice, length) {
			m := spans.Map(l, n)
			for i := range n {
				first, last := 0, 0
				for k := range l {
					if s := l[len(l)-1-k]; s.At <= i && i <= s.At+s.Len-1 {
						first = s.Start + i - s.At
					}
					if s := l[k]; s.At <= i && i <= s.At+s.Len-1 {
						last = s.Start + i - s.At
					}
				}
				wantAt(t, l, i, first)
				if m[i] != last {
					t.Errorf("Map(%v, %d): %v, not %d at %d", l, n, m, last, i)
				}
			}
			var blocks []int
			for _, s := range l {
				for b := s.Start; b < s.Start+s.Len; b++ {
					blocks = append(blocks, b)
				}
			}
			wantBlocks(t, l, blocks)
		}
		if t.Failed() {
			t.FailNow()
		}
	}
}

// wantSpansOf tests what P4.2 says of a map, and what the chapter says of the
// spans of one.
func wantSpansOf(t *testing.T, m []int) {
	t.Helper()
	l := spans.Of(m)
	clean := holes(m)
	if !spans.Right(l) {
		t.Fatalf("Of(%v): %v, which is not valid", m, l)
	}
	if got := spans.Map(l, len(m)); !slices.Equal(got, clean) {
		t.Fatalf("Of(%v): %v, which represents %v", m, l, got)
	}
	if len(l) != fewest(clean) {
		t.Fatalf("Of(%v): %v, not as few as possible", m, l)
	}
	for i := -1; i < len(m)+1; i++ {
		want := 0
		if i >= 0 && i < len(m) {
			want = clean[i]
		}
		wantAt(t, l, i, want)
	}
	for n := -1; n < len(m)+2; n++ {
		wantCut(t, l, n, spans.Of(m[:min(max(n, 0), len(m))]))
	}
	wantBlocks(t, l, slices.DeleteFunc(clean, func(b int) bool { return b == 0 }))
	if t.Failed() {
		t.FailNow()
	}
}

func TestSpansOfAllSmallMaps(t *testing.T) {
	for n := range 7 {
		for _, m := range lists([]int{0, 1, 2, 3, 4}, n) {
			wantSpansOf(t, m)
		}
	}
	for n := range 5 {
		for _, m := range lists([]int{-1, 0, 1, 2, 65534, 65535, 65536, math.MinInt, math.MaxInt}, n) {
			wantSpansOf(t, m)
		}
	}
}

func TestSpansOfRandomMaps(t *testing.T) {
	r := rand.New(rand.NewSource(4))
	for range 200 {
		m := make([]int, r.Intn(120))
		for i := range m {
			switch r.Intn(6) {
			case 0:
				m[i] = 0
			case 1:
				m[i] = r.Intn(400)
			default:
				if i > 0 && m[i-1] > 0 {
					m[i] = m[i-1] + 1
				}
			}
		}
		wantSpansOf(t, m)
	}
}

// Valid spans, and no others, are what Of returns for their map.
func TestSpansOfTheirMap(t *testing.T) {
	valid := 0
	check := func(l []api.Span, n int) {
		back := spans.Of(spans.Map(l, n))
		if spans.Right(l) != slices.Equal(back, l) {
			t.Fatalf("Right(%v): %t, and the spans of its map: %v", l, spans.Right(l), back)
		}
		if spans.Right(l) {
			valid++
		}
	}
	small := product([]int{-1, 0, 1, 2, 4}, []int{0, 1, 2, 3, 65535}, []int{0, 1, 2})
	for length := range 4 {
		for _, l := range lists(small, length) {
			check(l, 8)
		}
	}
	great := product([]int{-1, 0, 1, 2, 65534, 65535, 65536}, []int{0, 1, 2, 65534, 65535, 65536}, []int{0, 1, 2, 65534, 65535, 65536})
	for _, s := range great {
		check([]api.Span{s}, 65536)
	}
	for _, l := range [][]api.Span{
		list(0, 1, 65535, 65535, 65535, 1),
		list(0, 1, 65535, 65535, 1, 1),
		list(0, 9, 1, 1, 1, 65535),
		list(0, 1, 1, 1, 1, 65535),
		list(0, 1, 32768, 32768, 32769, 32767),
		list(0, 1, 32768, 32769, 32769, 32767),
		list(0, 1, 32768, 32769, 32769, 32768),
	} {
		check(l, 65536)
	}
	if valid < 100 {
		t.Errorf("only %d of the lists are valid", valid)
	}
}

func TestMemory(t *testing.T) {
	m := []int{7, 8, 0, 65536, 9}
	l := spans.Of(m)
	if !slices.Equal(m, []int{7, 8, 0, 65536, 9}) {
		t.Error("Of changed its argument:", m)
	}
	l = append(l, api.Span{At: 9, Start: 1, Len: 1}, api.Span{At: 20, Start: 3, Len: 0})
	before := slices.Clone(l)
	spans.Map(l, 20)
	spans.Right(l)
	spans.At(l, 9)
	spans.Blocks(l)
	spans.Apart(l)
	spans.Cut(l, 20)
	spans.Cut(l[:3], 1)
	if !slices.Equal(l, before) {
		t.Error("an argument was changed:", l)
	}
	all := spans.Cut(l[:3], 65536)
	for i := range all {
		all[i].Start = 99
	}
	if !slices.Equal(l, before) {
		t.Error("Cut returned the memory of its argument:", l)
	}
	spans.Map(l, 5)[0] = 99
	spans.Blocks(l)[0] = 99
	wantMap(t, l, 5, []int{7, 8, 0, 0, 9})
	wantBlocks(t, l, []int{7, 8, 9, 1})
}

func TestExampleOfTheChapter(t *testing.T) {
	m := []int{7, 8, 0, 9, 10}
	l := list(0, 7, 2, 3, 9, 2)
	wantOf(t, m, l)
	wantMap(t, l, 5, m)
}
