package ladder_test

import (
	"math"
	"math/rand"
	"slices"
	"strings"
	"testing"

	"wainwright/api"
	"wainwright/ladder"
)

// far are numbers that no pointer has.
var far = []int{math.MinInt, math.MinInt + 1, -1 << 40, -65536, -65535, -1, 65536, 65537, 1 << 17, 1 << 32, 1 << 40, math.MaxInt - 1, math.MaxInt}

// edges are the least and greatest pointers, and some that show in which
// order the bytes stand.
var edges = []int{0, 1, 127, 128, 255, 256, 258, 32767, 32768, 65534, 65535}

// count returns the n numbers from first on.
func count(first, n int) []int {
	l := make([]int, n)
	for i := range l {
		l[i] = first + i
	}
	return l
}

// only returns n zeros, but with the number value at i.
func only(n, i, value int) []int {
	l := make([]int, n)
	l[i] = value
	return l
}

// lists returns all lists of n elements of a choice.
func lists[T any](choice []T, n int) [][]T {
	all := [][]T{{}}
	for range n {
		var longer [][]T
		for _, l := range all {
			for _, x := range choice {
				longer = append(longer, append(slices.Clone(l), x))
			}
		}
		all = longer
	}
	return all
}

// extended returns the first n elements of l, and zeros if it has fewer.
func extended(l []int, n int) []int {
	whole := make([]int, n)
	copy(whole, l)
	return whole
}

// doubled returns 8 lists, of which those that are given are present.
func doubled(given map[int][]int) [][]int {
	all := make([][]int, 8)
	for k, l := range given {
		all[k] = l
	}
	return all
}

// same tells whether the lists are equal, and absent in both or in neither.
func same(a, b ladder.Rungs) bool {
	listed := func(x, y []int) bool { return slices.Equal(x, y) && (x == nil) == (y == nil) }
	return listed(a.Direct, b.Direct) && listed(a.Single, b.Single) &&
		slices.EqualFunc(a.Double, b.Double, listed) && (a.Double == nil) == (b.Double == nil)
}

// pointer returns what r has at a place of Place; a list that is absent has
// only zeros.
func pointer(r ladder.Rungs, level, k, j int) int {
	switch level {
	case 0:
		return r.Direct[k]
	case 1:
		return extended(r.Single, 8)[k]
	}
	if r.Double == nil {
		return 0
	}
	return extended(r.Double[k], 8)[j]
}

// pointers returns how many pointers of r are not 0.
func pointers(r ladder.Rungs) int {
	n := 0
	for _, l := range append([][]int{r.Direct, r.Single}, r.Double...) {
		for _, p := range l {
			if p != 0 {
				n++
			}
		}
	}
	return n
}

func wantOf(t *testing.T, m []int, want ladder.Rungs) {
	t.Helper()
	if got, err := ladder.Of(m); err != api.OK || !same(got, want) {
		t.Errorf("Of(%v): %v %d, not %v", m, got, err, want)
	}
}

func wantOfError(t *testing.T, m []int, want api.Errno) {
	t.Helper()
	if got, err := ladder.Of(m); err != want || !same(got, ladder.Rungs{}) {
		t.Errorf("Of(%v), %d elements: %v %d, not %d", m[:min(len(m), 80)], len(m), got, err, want)
	}
}

func wantMap(t *testing.T, r ladder.Rungs, want []int) {
	t.Helper()
	if got := ladder.Map(r); len(got) != 76 || !slices.Equal(got, want) {
		t.Errorf("Map(%v): %d blocks, %v, not %v", r, len(got), got, want)
	}
}

func wantPlace(t *testing.T, i, level, k, j int) {
	t.Helper()
	if a, b, c := ladder.Place(i); a != level || b != k || c != j {
		t.Errorf("Place(%d): %d %d %d, not %d %d %d", i, a, b, c, level, k, j)
	}
}

func wantBlocks(t *testing.T, r ladder.Rungs, want int) {
	t.Helper()
	if got := ladder.Blocks(r); got != want {
		t.Errorf("Blocks(%v): %d, not %d", r, got, want)
	}
}

func wantWrite(t *testing.T, l []int, want string) {
	t.Helper()
	want += strings.Repeat("\x00", 128-len(want))
	if got, err := ladder.Write(l); err != api.OK || got != want {
		t.Errorf("Write(%v): %q %d, not %q", l, got, err, want)
	}
}

func wantWriteError(t *testing.T, l []int, want api.Errno) {
	t.Helper()
	if got, err := ladder.Write(l); err != want || got != "" {
		t.Errorf("Write(%v): %q %d, not %d", l, got, err, want)
	}
}

func wantRead(t *testing.T, s string, want []int) {
	t.Helper()
	if got, err := ladder.Read(s); err != api.OK || !slices.Equal(got, want) {
		t.Errorf("Read(%q): %v %d, not %v", s, got, err, want)
	}
}

func wantCorrupt(t *testing.T, s string) {
	t.Helper()
	if got, err := ladder.Read(s); err != api.ErrCorrupt || len(got) != 0 {
		t.Errorf("Read(%q): %v %d, not ErrCorrupt", s[:min(len(s), 200)], got, err)
	}
}

func TestOf(t *testing.T) {
	zeros := []int{0, 0, 0, 0}
	all := make([][]int, 8)
	for k := range all {
		all[k] = count(13+8*k, 8)
	}
	for _, x := range []struct {
		m    []int
		want ladder.Rungs
	}{
		{nil, ladder.Rungs{Direct: zeros}},
		{[]int{}, ladder.Rungs{Direct: zeros}},
		{[]int{0}, ladder.Rungs{Direct: zeros}},
		{make([]int, 76), ladder.Rungs{Direct: zeros}},
		{[]int{7}, ladder.Rungs{Direct: []int{7, 0, 0, 0}}},
		{[]int{0, 7, 8}, ladder.Rungs{Direct: []int{0, 7, 8, 0}}},
		{[]int{5, 6, 7, 8}, ladder.Rungs{Direct: []int{5, 6, 7, 8}}},
		{[]int{5, 5, 5, 5, 5}, ladder.Rungs{Direct: []int{5, 5, 5, 5}, Single: []int{5, 0, 0, 0, 0, 0, 0, 0}}},
		{[]int{60, 0, 61, 0, 0, 62}, ladder.Rungs{Direct: []int{60, 0, 61, 0}, Single: []int{0, 62, 0, 0, 0, 0, 0, 0}}},
		{count(1, 12), ladder.Rungs{Direct: count(1, 4), Single: count(5, 8)}},
		{count(1, 13), ladder.Rungs{Direct: count(1, 4), Single: count(5, 8), Double: doubled(map[int][]int{0: {13, 0, 0, 0, 0, 0, 0, 0}})}},
		{count(1, 20), ladder.Rungs{Direct: count(1, 4), Single: count(5, 8), Double: doubled(map[int][]int{0: count(13, 8)})}},
		{count(1, 21), ladder.Rungs{Direct: count(1, 4), Single: count(5, 8), Double: doubled(map[int][]int{0: count(13, 8), 1: {21, 0, 0, 0, 0, 0, 0, 0}})}},
		{count(1, 76), ladder.Rungs{Direct: count(1, 4), Single: count(5, 8), Double: all}},
		// A list with a single block between others that are absent.
		{only(76, 43, 9), ladder.Rungs{Direct: zeros, Double: doubled(map[int][]int{3: {0, 0, 0, 0, 0, 0, 0, 9}})}},
		{only(60, 44, 9), ladder.Rungs{Direct: zeros, Double: doubled(map[int][]int{4: {9, 0, 0, 0, 0, 0, 0, 0}})}},
	} {
		wantOf(t, x.m, x.want)
	}
}

func TestOfOneBlock(t *testing.T) {
	for i := range 76 {
		for _, value := range []int{1, 51, 255, 256, 65535} {
			want := ladder.Rungs{Direct: make([]int, 4)}
			switch {
			case i < 4:
				want.Direct[i] = value
			case i < 12:
				want.Single = only(8, i-4, value)
			default:
				want.Double = doubled(map[int][]int{(i - 12) / 8: only(8, (i-12)%8, value)})
			}
			wantOf(t, only(i+1, i, value), want)
			wantOf(t, only(76, i, value), want)
			wantOf(t, only(300, i, value), want)
		}
	}
}

func TestOfMapsThatAreLong(t *testing.T) {
	short, _ := ladder.Of(count(1, 76))
	for _, n := range []int{76, 77, 78, 120, 1000, 70000} {
		wantOf(t, make([]int, n), ladder.Rungs{Direct: make([]int, 4)})
		wantOf(t, extended(count(1, 76), n), short)
	}
	for _, n := range []int{77, 78, 120, 1000, 70000} {
		for _, i := range []int{76, 77, 80, 119, n - 1} {
			if i >= n {
				continue
			}
			wantOfError(t, only(n, i, 1), api.ErrLarge)
			wantOfError(t, only(n, i, 65535), api.ErrLarge)
			for _, value := range far {
				wantOfError(t, only(n, i, value), api.ErrLarge)
			}
		}
	}
	wantOfError(t, count(1, 77), api.ErrLarge)
}

func TestOfNumbersOutOfRange(t *testing.T) {
	for i := range 76 {
		for _, value := range far {
			wantOfError(t, only(i+1, i, value), api.ErrRange)
			wantOfError(t, only(76, i, value), api.ErrRange)
			wantOfError(t, only(200, i, value), api.ErrRange)
			// ErrLarge is named first.
			for _, beyond := range []int{1, -1, 65536} {
				m := only(100, i, value)
				m[76] = beyond
				wantOfError(t, m, api.ErrLarge)
				m[76], m[99] = 0, beyond
				wantOfError(t, m, api.ErrLarge)
			}
		}
	}
}

func TestMap(t *testing.T) {
	for _, x := range []struct {
		r    ladder.Rungs
		want []int
	}{
		{ladder.Rungs{}, nil},
		{ladder.Rungs{Direct: []int{}, Single: []int{}, Double: [][]int{}}, nil},
		{ladder.Rungs{Direct: []int{1, 2, 3, 4}}, []int{1, 2, 3, 4}},
		{ladder.Rungs{Single: count(5, 8)}, append(make([]int, 4), count(5, 8)...)},
		{ladder.Rungs{Double: make([][]int, 8)}, nil},
		{ladder.Rungs{Double: doubled(map[int][]int{0: count(5, 8)})}, append(make([]int, 12), count(5, 8)...)},
		{ladder.Rungs{Double: doubled(map[int][]int{7: count(5, 8)})}, append(make([]int, 68), count(5, 8)...)},
		// Lists that are too short.
		{ladder.Rungs{Direct: []int{1}, Single: []int{5}}, []int{1, 0, 0, 0, 5}},
		{ladder.Rungs{Direct: []int{1, 2, 3}, Single: []int{5, 6, 7, 8, 9, 10, 11}}, []int{1, 2, 3, 0, 5, 6, 7, 8, 9, 10, 11}},
		{ladder.Rungs{Direct: nil, Single: []int{5}, Double: [][]int{{13}}}, append(only(12, 4, 5), 13)},
		{ladder.Rungs{Double: [][]int{nil, {21, 22}}}, append(make([]int, 20), 21, 22)},
		{ladder.Rungs{Double: [][]int{{13}, {21}, {}, {37}}}, append(append(append(only(20, 12, 13), only(16, 0, 21)...), 37), 0)},
		// Lists that are too long.
		{ladder.Rungs{Direct: count(1, 5)}, []int{1, 2, 3, 4}},
		{ladder.Rungs{Direct: count(1, 100)}, []int{1, 2, 3, 4}},
		{ladder.Rungs{Direct: count(1, 100), Single: []int{70}}, []int{1, 2, 3, 4, 70}},
		{ladder.Rungs{Single: count(5, 9)}, append(make([]int, 4), count(5, 8)...)},
		{ladder.Rungs{Single: count(5, 100), Double: [][]int{{80}}}, append(append(make([]int, 4), count(5, 8)...), 80)},
		{ladder.Rungs{Double: [][]int{count(13, 100)}}, append(make([]int, 12), count(13, 8)...)},
		{ladder.Rungs{Double: [][]int{count(13, 9), {90}}}, append(append(make([]int, 12), count(13, 8)...), 90)},
		{ladder.Rungs{Double: append(make([][]int, 7), count(69, 9), count(100, 8))}, append(make([]int, 68), count(69, 8)...)},
		{ladder.Rungs{Double: append(make([][]int, 8), count(100, 8), count(200, 8))}, nil},
		// A map takes the pointers as they are.
		{ladder.Rungs{Direct: []int{-1, 65536}, Single: []int{math.MinInt}, Double: [][]int{{math.MaxInt}}}, append(append([]int{-1, 65536, 0, 0}, only(8, 0, math.MinInt)...), math.MaxInt)},
	} {
		wantMap(t, x.r, extended(x.want, 76))
	}
}

// Map of lists of every length, held against the chapter list by list.
func TestMapOfListsOfAnyLength(t *testing.T) {
	r := rand.New(rand.NewSource(1))
	list := func() []int {
		if r.Intn(4) == 0 {
			return nil
		}
		return count(1+r.Intn(100000), r.Intn(12))
	}
	for range 5000 {
		rungs := ladder.Rungs{Direct: list(), Single: list()}
		for range r.Intn(11) {
			rungs.Double = append(rungs.Double, list())
		}
		want := append(extended(rungs.Direct, 4), extended(rungs.Single, 8)...)
		for _, l := range rungs.Double[:min(len(rungs.Double), 8)] {
			want = append(want, extended(l, 8)...)
		}
		wantMap(t, rungs, extended(want, 76))
		if t.Failed() {
			t.FailNow()
		}
	}
}

func TestPlace(t *testing.T) {
	i := 0
	for k := range 4 {
		wantPlace(t, i, 0, k, 0)
		i++
	}
	for k := range 8 {
		wantPlace(t, i, 1, k, 0)
		i++
	}
	for k := range 8 {
		for j := range 8 {
			wantPlace(t, i, 2, k, j)
			i++
		}
	}
	if i != 76 {
		t.Errorf("%d blocks, not 76", i)
	}
	for i := -200; i < 0; i++ {
		wantPlace(t, i, -1, 0, 0)
	}
	for i := 76; i < 400; i++ {
		wantPlace(t, i, -1, 0, 0)
	}
	for _, i := range far {
		wantPlace(t, i, -1, 0, 0)
	}
}

func TestBlocks(t *testing.T) {
	for _, x := range []struct {
		r    ladder.Rungs
		want int
	}{
		{ladder.Rungs{}, 0},
		{ladder.Rungs{Direct: []int{1, 2, 3, 4}}, 0},
		{ladder.Rungs{Direct: count(1, 100)}, 0},
		{ladder.Rungs{Single: count(1, 8)}, 1},
		{ladder.Rungs{Single: []int{}}, 0},
		{ladder.Rungs{Single: []int{5}}, 1},
		{ladder.Rungs{Double: [][]int{}}, 0},
		{ladder.Rungs{Double: doubled(map[int][]int{0: count(1, 8)})}, 2},
		{ladder.Rungs{Double: doubled(map[int][]int{7: count(1, 8)})}, 2},
		{ladder.Rungs{Double: doubled(map[int][]int{2: count(1, 8), 5: count(1, 8)})}, 3},
		{ladder.Rungs{Single: count(1, 8), Double: doubled(map[int][]int{2: count(1, 8), 5: count(1, 8)})}, 4},
		{ladder.Rungs{Single: count(1, 8), Double: slices.Repeat([][]int{count(1, 8)}, 8)}, 10},
		// What is present counts, whatever it contains; what is empty does not.
		{ladder.Rungs{Single: make([]int, 8)}, 1},
		{ladder.Rungs{Double: make([][]int, 8)}, 1},
		{ladder.Rungs{Double: [][]int{nil}}, 1},
		{ladder.Rungs{Double: [][]int{{}, {}, {0}}}, 2},
		{ladder.Rungs{Double: [][]int{make([]int, 8), {}, make([]int, 8)}}, 3},
		{ladder.Rungs{Double: slices.Repeat([][]int{{1}}, 9)}, 10},
	} {
		wantBlocks(t, x.r, x.want)
	}
}

// The blocks of every choice of lists: those of Double need one more, but only
// if there are any.
func TestBlocksOfMaps(t *testing.T) {
	for _, present := range lists([]int{0, 1}, 9) {
		m, want := []int{1, 1, 1, 1}, 0
		for _, is := range present {
			m = append(m, only(8, 3, is)...)
			want += is
		}
		if slices.Contains(present[1:], 1) {
			want++
		}
		r, _ := ladder.Of(m)
		wantBlocks(t, r, want)
	}
}

func TestWrite(t *testing.T) {
	wantWrite(t, make([]int, 8), "")
	wantWrite(t, count(1, 8), "\x01\x00\x02\x00\x03\x00\x04\x00\x05\x00\x06\x00\x07\x00\x08\x00")
	wantWrite(t, []int{1, 258, 0, 0, 0, 0, 0, 7}, "\x01\x00\x02\x01\x00\x00\x00\x00\x00\x00\x00\x00\x00\x00\x07")
	wantWrite(t, slices.Repeat([]int{65535}, 8), strings.Repeat("\xff", 16))
	for i := range 8 {
		for _, value := range edges {
			wantWrite(t, only(8, i, value), strings.Repeat("\x00", 2*i)+string([]byte{byte(value % 256), byte(value / 256)}))
		}
	}
}

func TestWriteErrors(t *testing.T) {
	for _, n := range []int{0, 1, 4, 7, 9, 10, 16, 64, 76, 128, 1000} {
		wantWriteError(t, make([]int, n), api.ErrArg)
		for _, value := range far {
			if n > 0 { // ErrArg is named first.
				wantWriteError(t, only(n, n-1, value), api.ErrArg)
				wantWriteError(t, only(n, 0, value), api.ErrArg)
			}
		}
	}
	wantWriteError(t, nil, api.ErrArg)
	for i := range 8 {
		for _, value := range far {
			wantWriteError(t, only(8, i, value), api.ErrRange)
		}
	}
}

func TestRead(t *testing.T) {
	zeros := strings.Repeat("\x00", 128)
	wantRead(t, zeros, make([]int, 8))
	wantRead(t, "\x01\x00\x02\x01\x00\x00\x00\x00\x00\x00\x00\x00\x00\x00\x07\x00"+zeros[16:], []int{1, 258, 0, 0, 0, 0, 0, 7})
	wantRead(t, strings.Repeat("\xff", 16)+zeros[16:], slices.Repeat([]int{65535}, 8))
	r := rand.New(rand.NewSource(2))
	for range 2000 {
		l := make([]int, 8)
		for i := range l {
			l[i] = r.Intn(65536)
		}
		s, _ := ladder.Write(l)
		wantRead(t, s, l)
	}
}

// A string is the block of the list that is read from it, or of none.
func TestReadOnlyWhatWriteReturns(t *testing.T) {
	full, _ := ladder.Write(count(300, 8))
	zeros := strings.Repeat("\x00", 128)
	for n := range 300 {
		if n == 128 {
			continue
		}
		for _, s := range []string{full, zeros} {
			wantCorrupt(t, (s + strings.Repeat("\x00", 300))[:n])
		}
	}
	wantCorrupt(t, full+"x")
	wantCorrupt(t, full+full)
	wantCorrupt(t, strings.Repeat("\x00", 1<<20))
	for i := range 128 {
		for _, b := range []byte{1, 127, 128, 255} {
			changed := []byte(full)
			changed[i] = b
			if i >= 16 {
				wantCorrupt(t, string(changed))
				continue
			}
			l, err := ladder.Read(string(changed))
			if back, _ := ladder.Write(l); err != api.OK || back != string(changed) {
				t.Errorf("Read(%q): %v %d", changed, l, err)
			}
		}
	}
}

// wantRungsOf tests what P5.2 says of a map, and which of its lists are absent.
func wantRungsOf(t *testing.T, m []int) {
	t.Helper()
	r, err := ladder.Of(m)
	if err != api.OK {
		t.Fatalf("Of(%v): %d", m, err)
	}
	whole, used := extended(m, 76), 0
	wantMap(t, r, whole)
	if len(r.Direct) != 4 {
		t.Fatalf("Of(%v): %v, whose Direct has no 4 pointers", m, r)
	}
	if r.Double != nil && (len(r.Double) != 8 || !slices.ContainsFunc(r.Double, func(l []int) bool { return l != nil })) {
		t.Fatalf("Of(%v): %v, whose Double has no 8 lists, or only such as are absent", m, r)
	}
	for _, l := range append([][]int{r.Single}, r.Double...) {
		if l != nil && (len(l) != 8 || slices.Max(l) == 0) {
			t.Fatalf("Of(%v): %v, with the list %v", m, r, l)
		}
	}
	for i, block := range whole {
		level, k, j := ladder.Place(i)
		if got := pointer(r, level, k, j); got != block {
			t.Fatalf("Of(%v): %v, with %d for block %d", m, r, got, i)
		}
		if block != 0 {
			used++
		}
	}
	if got := pointers(r); got != used {
		t.Fatalf("Of(%v): %v, with %d pointers, not %d", m, r, got, used)
	}
}

func TestRungsOfMaps(t *testing.T) {
	for n := range 77 {
		wantRungsOf(t, count(1, n))
		wantRungsOf(t, count(65535-n, n))
		wantRungsOf(t, make([]int, n))
		wantRungsOf(t, slices.Repeat([]int{7}, n))
	}
	r := rand.New(rand.NewSource(3))
	for range 3000 {
		m := make([]int, r.Intn(90))
		for range r.Intn(40) {
			if i := r.Intn(76); i < len(m) {
				m[i] = r.Intn(65536)
			}
		}
		wantRungsOf(t, m)
	}
}

// No two blocks have the same place.
func TestPlacesAreDistinct(t *testing.T) {
	owner := map[[3]int]int{}
	for i := range 76 {
		level, k, j := ladder.Place(i)
		if other, taken := owner[[3]int{level, k, j}]; taken {
			t.Errorf("the blocks %d and %d are both at %d %d %d", other, i, level, k, j)
		}
		owner[[3]int{level, k, j}] = i
	}
}

func TestArgumentsAreLeftAsTheyAre(t *testing.T) {
	m := count(1, 90)
	clear(m[76:])
	before := slices.Clone(m)
	r, _ := ladder.Of(m)
	if !slices.Equal(m, before) {
		t.Error("Of changed its argument:", m)
	}
	clear(m)
	wantMap(t, r, before[:76])

	r.Direct = append(r.Direct, 9)
	r.Single = append(r.Single, 9)
	r.Double[3] = append(r.Double[3], 9)
	r.Double = append(r.Double, []int{9})
	clear(ladder.Map(r))
	ladder.Blocks(r)
	wantMap(t, r, before[:76])
	if r.Direct[4] != 9 || r.Single[8] != 9 || r.Double[3][8] != 9 || r.Double[8][0] != 9 {
		t.Error("Map or Blocks changed its argument:", r)
	}

	l := []int{1, 2, 3, 4, 5, 6, 7, 8}
	s, _ := ladder.Write(l)
	if !slices.Equal(l, count(1, 8)) {
		t.Error("Write changed its argument:", l)
	}
	read, _ := ladder.Read(s)
	clear(read)
	wantRead(t, s, count(1, 8))
}

// Each list of an answer has memory of its own, up to its capacity.
func TestListsShareNoMemory(t *testing.T) {
	all := func() [][]int {
		r, _ := ladder.Of(count(1, 76))
		return append([][]int{r.Direct, r.Single}, r.Double...)
	}
	want := all()
	for k := range want {
		changed := all()
		clear(changed[k][:cap(changed[k])])
		for other, l := range changed {
			if other != k && !slices.Equal(l, want[other]) {
				t.Errorf("list %d shares memory with list %d: %v", other, k, l)
			}
		}
	}
}

func TestExampleOfTheChapter(t *testing.T) {
	m := only(13, 12, 9)
	r := ladder.Rungs{Direct: make([]int, 4), Double: doubled(map[int][]int{0: {9, 0, 0, 0, 0, 0, 0, 0}})}
	wantOf(t, m, r)
	wantMap(t, r, extended(m, 76))
	wantBlocks(t, r, 2)
}
