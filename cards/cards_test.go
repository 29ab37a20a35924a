package cards_test

import (
	"fmt"
	"math"
	"math/rand"
	"reflect"
	"slices"
	"strings"
	"testing"
	"unsafe"

	"wainwright/api"
	"wainwright/cards"
)

// extremes are numbers around the bounds of the fields, and far from them.
var extremes = []int{
	math.MinInt, math.MinInt32, -65536, -1, 0, 1, 2, 3, 4, 5, 199, 200, 201, 255, 256, 257, 258,
	9727, 9728, 9729, 15359, 15360, 15361, 65534, 65535, 65536, 65537, 131071, math.MaxInt32, math.MaxInt,
}

func zeros(n int) string { return strings.Repeat("\x00", n) }

// one returns a valid card of format One, all of whose numbers are different.
func one() api.Card {
	return api.Card{Format: api.One, Kind: api.File, Links: 7, Size: 1000, Ptrs: []int{60, 258, 62, 65535}, Single: 70, Double: 772}
}

// two returns a valid card of format Two with n runs; with 3 it has an Over, too.
func two(n int) api.Card {
	runs := []api.Span{{At: 0, Start: 60, Len: 2}, {At: 3, Start: 80, Len: 1}, {At: 259, Start: 1028, Len: 515}}
	c := api.Card{Format: api.Two, Kind: api.Dir, Links: 9, Size: 15000, Runs: runs[:n:n]}
	if n == 3 {
		c.Over = 4660
	}
	return c
}

// with returns a copy of c, in memory of its own, after a change.
func with(c api.Card, change func(*api.Card)) api.Card {
	c = clone(c)
	change(&c)
	return c
}

func clone(c api.Card) api.Card {
	c.Ptrs, c.Runs = slices.Clone(c.Ptrs), slices.Clone(c.Runs)
	return c
}

// withRuns returns the card of format Two that has these runs: At, Start and
// Len of each.
func withRuns(numbers ...int) api.Card {
	c := two(0)
	for i := 0; i < len(numbers); i += 3 {
		c.Runs = append(c.Runs, api.Span{At: numbers[i], Start: numbers[i+1], Len: numbers[i+2]})
	}
	return c
}

// correct returns valid cards, no two of which are the same.
func correct() []api.Card {
	return []api.Card{
		{},
		one(),
		{Format: api.One, Kind: api.File, Links: 1, Ptrs: []int{0, 0, 0, 0}},
		{Format: api.One, Kind: api.Dir, Links: 1, Ptrs: []int{0, 0, 0, 0}},
		{Format: api.One, Kind: api.Dir, Links: 200, Size: 9728, Ptrs: []int{65535, 65535, 65535, 65535}, Single: 65535, Double: 65535},
		// Neither the size nor another pointer limits a pointer.
		{Format: api.One, Kind: api.File, Links: 2, Size: 0, Ptrs: []int{5, 5, 5, 5}, Single: 5, Double: 5},
		{Format: api.One, Kind: api.File, Links: 2, Size: 9728, Ptrs: []int{0, 0, 0, 1}},
		{Format: api.One, Kind: api.File, Links: 2, Size: 257, Ptrs: []int{1, 0, 0, 0}},
		two(0), two(1), two(2), two(3),
		{Format: api.Two, Kind: api.File, Links: 1},
		{Format: api.Two, Kind: api.Dir, Links: 1},
		{Format: api.Two, Kind: api.File, Links: 200, Size: 15360},
		with(two(3), func(c *api.Card) { c.Over = 0 }),
		with(two(3), func(c *api.Card) { c.Over = 65535 }),
		withRuns(65535, 65535, 1),
		withRuns(0, 1, 65535),
		withRuns(1, 1, 65535),
		withRuns(0, 1, 1, 1, 1, 1, 2, 1, 1),
		withRuns(0, 1, 1, 1, 3, 1, 2, 5, 65531),
		withRuns(0, 60, 2, 3, 62, 1),
		withRuns(0, 60, 2, 2, 63, 1),
		withRuns(0, 60, 2, 2, 61, 1),
	}
}

// wrong returns cards that are not valid, no two of which are the same.
func wrong() []api.Card {
	return []api.Card{
		// Zero, but for one field.
		{Format: api.One}, {Format: api.Two}, {Format: 3}, {Kind: api.File}, {Kind: api.Dir}, {Links: 1}, {Links: -1}, {Size: 1},
		{Ptrs: []int{0}}, {Ptrs: []int{0, 0, 0, 0}}, {Single: 1}, {Double: 1}, {Runs: []api.Span{{}}}, {Over: 1},
		{Runs: []api.Span{{At: 0, Start: 1, Len: 1}}},
		// A file of no format, or of one that only a disk has.
		{Kind: api.File, Links: 1}, {Kind: api.File, Links: 1, Ptrs: []int{0, 0, 0, 0}},
		{Format: api.Up, Kind: api.File, Links: 1}, {Format: api.Down, Kind: api.File, Links: 1},
		{Format: api.Up, Kind: api.File, Links: 1, Ptrs: []int{0, 0, 0, 0}},
		// The lists of the other format, or of neither.
		{Format: api.One, Kind: api.File, Links: 1},
		with(one(), func(c *api.Card) { c.Ptrs = c.Ptrs[:3] }),
		with(one(), func(c *api.Card) { c.Ptrs = append(c.Ptrs, 0) }),
		with(one(), func(c *api.Card) { c.Ptrs = append(c.Ptrs, 66) }),
		with(one(), func(c *api.Card) { c.Ptrs = make([]int, 70000) }),
		with(one(), func(c *api.Card) { c.Runs = []api.Span{{}} }),
		with(one(), func(c *api.Card) { c.Runs = two(1).Runs }),
		with(one(), func(c *api.Card) { c.Runs = two(3).Runs }),
		with(one(), func(c *api.Card) { c.Runs, c.Over = two(3).Runs, 5 }),
		with(one(), func(c *api.Card) { c.Over = 1 }),
		with(two(0), func(c *api.Card) { c.Ptrs = []int{0} }),
		with(two(0), func(c *api.Card) { c.Ptrs = []int{0, 0, 0, 0} }),
		with(two(2), func(c *api.Card) { c.Ptrs = one().Ptrs }),
		with(two(3), func(c *api.Card) { c.Ptrs = one().Ptrs }),
		with(two(3), func(c *api.Card) { c.Single = 1 }),
		with(two(3), func(c *api.Card) { c.Double = 1 }),
		// Too many runs, also with none that would be wrong among fewer.
		withRuns(0, 10, 1, 2, 20, 1, 4, 30, 1, 6, 40, 1),
		with(withRuns(0, 10, 1, 2, 20, 1, 4, 30, 1, 6, 40, 1), func(c *api.Card) { c.Over = 50 }),
		withRuns(0, 10, 1, 2, 20, 1, 4, 30, 1, 0, 0, 0),
		with(two(0), func(c *api.Card) { c.Runs = make([]api.Span, 70000) }),
		// An Over with fewer runs than 3.
		with(two(0), func(c *api.Card) { c.Over = 1 }),
		with(two(1), func(c *api.Card) { c.Over = 1 }),
		with(two(2), func(c *api.Card) { c.Over = 65535 }),
		// Runs that are not valid.
		withRuns(0, 0, 0), withRuns(0, 0, 1), withRuns(0, 1, 0), withRuns(1, 0, 0),
		withRuns(0, 60, 2, 0, 0, 0), withRuns(0, 60, 2, 3, 70, 1, 0, 0, 0),
		withRuns(0, 60, 2, 2, 62, 1), withRuns(0, 60, 2, 1, 80, 1), withRuns(3, 60, 2, 0, 80, 1),
		withRuns(0, 60, 2, 5, 80, 1, 6, 81, 1), withRuns(0, 60, 2, 5, 80, 2, 6, 90, 1),
		withRuns(65535, 60, 2), withRuns(60, 65535, 2), withRuns(2, 1, 65535), withRuns(0, 2, 65535),
	}
}

// brief returns the beginning of what fmt prints of a card.
func brief(c api.Card) string {
	return fmt.Sprintf("%.300s", fmt.Sprint(c))
}

func wantRight(t *testing.T, c api.Card, want bool) {
	t.Helper()
	if got := cards.Right(c); got != want {
		t.Errorf("Right(%s): %t", brief(c), got)
	}
}

func wantSame(t *testing.T, a, b api.Card, want bool) {
	t.Helper()
	if got := cards.Same(a, b); got != want {
		t.Errorf("Same(%s, %s): %t", brief(a), brief(b), got)
	}
	if got := cards.Same(b, a); got != want {
		t.Errorf("Same(%s, %s): %t", brief(b), brief(a), got)
	}
}

func wantWrite(t *testing.T, c api.Card, want string) {
	t.Helper()
	if s, err := cards.Write(c); s != want || err != api.OK {
		t.Errorf("Write(%v): %q %d, not %q", c, s, err, want)
	}
}

func wantNoWrite(t *testing.T, c api.Card) {
	t.Helper()
	if s, err := cards.Write(c); s != "" || err != api.ErrArg {
		t.Errorf("Write(%s): %q %d", brief(c), s, err)
	}
}

func wantRead(t *testing.T, s string, want api.Card) {
	t.Helper()
	if c, err := cards.Read(s); !equal(c, want) || err != api.OK {
		t.Errorf("Read(%q): %v %d, not %v", s, c, err, want)
	}
}

func wantNoRead(t *testing.T, s string) {
	t.Helper()
	if c, err := cards.Read(s); !isZero(c) || err != api.ErrCorrupt {
		t.Errorf("Read(%.200q): %v %d", s, c, err)
	}
}

// equal holds cards against each other without Same. No list is an empty list.
func equal(a, b api.Card) bool {
	return reflect.DeepEqual(tidy(a), tidy(b))
}

func isZero(c api.Card) bool {
	return equal(c, api.Card{})
}

func tidy(c api.Card) api.Card {
	c.Ptrs = append([]int{}, c.Ptrs...)
	c.Runs = append([]api.Span{}, c.Runs...)
	return c
}

func TestRight(t *testing.T) {
	for _, c := range correct() {
		wantRight(t, c, true)
	}
	for _, c := range wrong() {
		wantRight(t, c, false)
	}
}

func TestRightOfEmptyLists(t *testing.T) {
	for _, c := range []api.Card{{}, one(), two(0), two(3)} {
		wantRight(t, tidy(c), true)
	}
	for _, c := range []api.Card{{Links: 1}, {Format: api.One, Kind: api.File, Links: 1}} {
		wantRight(t, tidy(c), false)
	}
}

// bound is a number of a card, and its least and greatest value in a valid one.
type bound struct {
	name            string
	card            api.Card
	number          func(*api.Card) *int
	least, greatest int
}

func bounds() []bound {
	kind := func(c *api.Card) *int { return &c.Kind }
	links := func(c *api.Card) *int { return &c.Links }
	size := func(c *api.Card) *int { return &c.Size }
	single := func(c *api.Card) *int { return &c.Single }
	double := func(c *api.Card) *int { return &c.Double }
	over := func(c *api.Card) *int { return &c.Over }
	all := []bound{
		{"format of one", one(), func(c *api.Card) *int { return &c.Format }, 1, 1},
		{"kind of one", one(), kind, 1, 2},
		{"links of one", one(), links, 1, 200},
		{"size of one", one(), size, 0, 9728},
		{"single of one", one(), single, 0, 65535},
		{"double of one", one(), double, 0, 65535},
		{"over of one", one(), over, 0, 0},
		{"format of two", two(0), func(c *api.Card) *int { return &c.Format }, 2, 2},
		{"kind of two", two(1), kind, 1, 2},
		{"links of two", two(2), links, 1, 200},
		{"size of two", two(3), size, 0, 15360},
		{"single of two", two(0), single, 0, 0},
		{"double of two", two(3), double, 0, 0},
		{"over of two without runs", two(0), over, 0, 0},
		{"over of two with 1 run", two(1), over, 0, 0},
		{"over of two with 2 runs", two(2), over, 0, 0},
		{"over of two with 3 runs", two(3), over, 0, 65535},
		{"at of the last run", two(3), func(c *api.Card) *int { return &c.Runs[2].At }, 4, 65536 - 515},
		{"start of the last run", two(3), func(c *api.Card) *int { return &c.Runs[2].Start }, 1, 65536 - 515},
		{"length of the last run", two(3), func(c *api.Card) *int { return &c.Runs[2].Len }, 1, 65536 - 1028},
		{"length of the first run", two(3), func(c *api.Card) *int { return &c.Runs[0].Len }, 1, 3},
		{"at of the run between", two(3), func(c *api.Card) *int { return &c.Runs[1].At }, 2, 258},
	}
	for i := range 4 {
		all = append(all, bound{"pointer of one", one(), func(c *api.Card) *int { return &c.Ptrs[i] }, 0, 65535})
	}
	return all
}

func TestRightAtEveryBound(t *testing.T) {
	for _, b := range bounds() {
		values := append([]int{b.least - 1, b.least, b.least + 1, b.greatest - 1, b.greatest, b.greatest + 1}, extremes...)
		for _, value := range values {
			c := with(b.card, func(c *api.Card) { *b.number(c) = value })
			want := value >= b.least && value <= b.greatest
			if cards.Right(c) != want {
				t.Errorf("%s: %d in %v", b.name, value, c)
			}
			if want {
				wantRead(t, encoded(c), c)
				wantWrite(t, c, encoded(c))
			} else {
				wantNoWrite(t, c)
			}
		}
	}
}

func TestSame(t *testing.T) {
	all := append(correct(), wrong()...)
	for i, a := range all {
		for k, b := range all {
			wantSame(t, a, clone(b), i == k)
		}
	}
}

func TestSameOfEmptyLists(t *testing.T) {
	for _, c := range append(correct(), wrong()...) {
		wantSame(t, c, tidy(c), true)
	}
}

// fuller has something in every field, which no valid card has.
func fuller() api.Card {
	c := two(3)
	c.Ptrs, c.Single, c.Double = one().Ptrs, 70, 772
	return c
}

func TestSameWithAnotherField(t *testing.T) {
	changes := []func(c *api.Card) *int{
		func(c *api.Card) *int { return &c.Format },
		func(c *api.Card) *int { return &c.Kind },
		func(c *api.Card) *int { return &c.Links },
		func(c *api.Card) *int { return &c.Size },
		func(c *api.Card) *int { return &c.Single },
		func(c *api.Card) *int { return &c.Double },
		func(c *api.Card) *int { return &c.Over },
	}
	for i := range 4 {
		changes = append(changes, func(c *api.Card) *int { return &c.Ptrs[i] })
	}
	for i := range 3 {
		changes = append(changes,
			func(c *api.Card) *int { return &c.Runs[i].At },
			func(c *api.Card) *int { return &c.Runs[i].Start },
			func(c *api.Card) *int { return &c.Runs[i].Len })
	}
	for _, change := range changes {
		for _, value := range extremes {
			a, b := fuller(), fuller()
			*change(&a), *change(&b) = value, value
			wantSame(t, a, b, true)
			// The numbers differ in their highest bits only, or by one.
			*change(&b) = value ^ math.MinInt
			wantSame(t, a, b, false)
			*change(&b) = value ^ 1<<32
			wantSame(t, a, b, false)
			*change(&b) = value ^ 1<<16
			wantSame(t, a, b, false)
			*change(&b) = value ^ 1
			wantSame(t, a, b, false)
		}
	}
}

func TestSameWithOtherLists(t *testing.T) {
	for _, change := range []func(c *api.Card){
		func(c *api.Card) { c.Ptrs = c.Ptrs[:3] },
		func(c *api.Card) { c.Ptrs = c.Ptrs[1:] },
		func(c *api.Card) { c.Ptrs = nil },
		func(c *api.Card) { c.Ptrs = append(c.Ptrs, 0) },
		func(c *api.Card) { slices.Reverse(c.Ptrs) },
		func(c *api.Card) { c.Runs = c.Runs[:2] },
		func(c *api.Card) { c.Runs = c.Runs[1:] },
		func(c *api.Card) { c.Runs = nil },
		func(c *api.Card) { c.Runs = append(c.Runs, api.Span{}) },
		func(c *api.Card) { slices.Reverse(c.Runs) },
		func(c *api.Card) { c.Format, c.Kind = c.Kind, c.Format+1 },
		func(c *api.Card) { c.Single, c.Double = c.Double, c.Single },
		func(c *api.Card) { c.Links, c.Size = c.Size, c.Links },
		func(c *api.Card) { c.Double, c.Over = c.Over, c.Double },
	} {
		wantSame(t, fuller(), with(fuller(), change), false)
	}
}

// bytesOf returns a number in n bytes, the least significant one first.
func bytesOf(number, n int) string {
	s := ""
	for range n {
		s += string([]byte{byte(number)})
		number >>= 8
	}
	return s
}

// encoded returns the encoding of a valid card, byte by byte.
func encoded(c api.Card) string {
	s := bytesOf(c.Format, 1) + bytesOf(c.Kind, 1) + bytesOf(c.Links, 2) + bytesOf(c.Size, 4)
	if c.Format == api.One {
		for _, block := range c.Ptrs {
			s += bytesOf(block, 2)
		}
		s += bytesOf(c.Single, 2) + bytesOf(c.Double, 2)
	}
	if c.Format == api.Two {
		s += bytesOf(len(c.Runs), 1)
		for _, run := range c.Runs {
			s += bytesOf(run.At, 2) + bytesOf(run.Start, 2) + bytesOf(run.Len, 2)
		}
		s += zeros(27-len(s)) + bytesOf(c.Over, 2)
	}
	return s + zeros(32-len(s))
}

func TestEncoding(t *testing.T) {
	for _, x := range []struct {
		c api.Card
		s string
	}{
		{api.Card{}, zeros(32)},
		{one(), "\x01\x01\x07\x00\xe8\x03\x00\x00\x3c\x00\x02\x01\x3e\x00\xff\xff\x46\x00\x04\x03" + zeros(12)},
		{api.Card{Format: api.One, Kind: api.Dir, Links: 200, Size: 9728, Ptrs: []int{1, 2, 3, 4}, Single: 5, Double: 6},
			"\x01\x02\xc8\x00\x00\x26\x00\x00\x01\x00\x02\x00\x03\x00\x04\x00\x05\x00\x06\x00" + zeros(12)},
		{two(0), "\x02\x02\x09\x00\x98\x3a\x00\x00\x00" + zeros(23)},
		{two(1), "\x02\x02\x09\x00\x98\x3a\x00\x00\x01\x00\x00\x3c\x00\x02\x00" + zeros(17)},
		{two(2), "\x02\x02\x09\x00\x98\x3a\x00\x00\x02\x00\x00\x3c\x00\x02\x00\x03\x00\x50\x00\x01\x00" + zeros(11)},
		{two(3), "\x02\x02\x09\x00\x98\x3a\x00\x00\x03\x00\x00\x3c\x00\x02\x00\x03\x00\x50\x00\x01\x00\x03\x01\x04\x04\x03\x02\x34\x12" + zeros(3)},
		{api.Card{Format: api.Two, Kind: api.File, Links: 1, Size: 15360}, "\x02\x01\x01\x00\x00\x3c\x00\x00" + zeros(24)},
	} {
		wantWrite(t, x.c, x.s)
		wantWrite(t, tidy(x.c), x.s)
		wantRead(t, x.s, x.c)
	}
}

func TestWriteAndRead(t *testing.T) {
	for _, c := range correct() {
		wantWrite(t, c, encoded(c))
		wantRead(t, encoded(c), c)
	}
	for _, c := range wrong() {
		wantNoWrite(t, c)
	}
}

// number returns the number of the n bytes of s at a place.
func number(s string, at, n int) int {
	value := 0
	for i := n - 1; i >= 0; i-- {
		value = 256*value + int(s[at+i])
	}
	return value
}

// rightRuns holds runs of numbers of 2 bytes against the words of the chapter of spans.
func rightRuns(runs []api.Span) bool {
	for i, r := range runs {
		if r.Start == 0 || r.Len == 0 || r.At+r.Len > 65536 || r.Start+r.Len > 65536 {
			return false
		}
		if i == 0 {
			continue
		}
		before := runs[i-1]
		if r.At < before.At+before.Len || r.At == before.At+before.Len && r.Start == before.Start+before.Len {
			return false
		}
	}
	return true
}

// decoded returns the card that is encoded in 32 bytes, and true, or false.
func decoded(s string) (api.Card, bool) {
	c := api.Card{Format: number(s, 0, 1), Kind: number(s, 1, 1), Links: number(s, 2, 2), Size: number(s, 4, 4)}
	if s == zeros(32) {
		return c, true
	}
	if c.Kind < 1 || c.Kind > 2 || c.Links < 1 || c.Links > 200 {
		return api.Card{}, false
	}
	if c.Format == 1 {
		for at := 8; at < 16; at += 2 {
			c.Ptrs = append(c.Ptrs, number(s, at, 2))
		}
		c.Single, c.Double = number(s, 16, 2), number(s, 18, 2)
		return c, c.Size <= 9728 && s[20:] == zeros(12)
	}
	count := number(s, 8, 1)
	if c.Format != 2 || count > 3 {
		return api.Card{}, false
	}
	for at := 9; at < 9+6*count; at += 6 {
		c.Runs = append(c.Runs, api.Span{At: number(s, at, 2), Start: number(s, at+2, 2), Len: number(s, at+4, 2)})
	}
	c.Over = number(s, 27, 2)
	rest := s[9+6*count:27] + s[29:]
	right := c.Size <= 15360 && rightRuns(c.Runs) && rest == zeros(len(rest)) && (c.Over == 0 || count == 3)
	return c, right
}

// checkRead holds Read against decoded, and what it accepts against Write.
func checkRead(t *testing.T, s string) bool {
	t.Helper()
	c, ok := decoded(s)
	if !ok {
		wantNoRead(t, s)
		return false
	}
	wantRead(t, s, c)
	wantRight(t, c, true)
	wantWrite(t, c, s)
	return true
}

func TestReadEveryByte(t *testing.T) {
	accepted := 0
	for _, c := range correct() {
		s := encoded(c)
		for at := range s {
			for value := range 256 {
				changed := []byte(s)
				changed[at] = byte(value)
				if checkRead(t, string(changed)) {
					accepted++
				}
			}
		}
	}
	// Links, Size, pointers and runs may have many values.
	if accepted < 10000 {
		t.Error("few strings are accepted:", accepted)
	}
}

func TestReadEveryHead(t *testing.T) {
	rest := encoded(two(3))[4:]
	for _, behind := range []string{rest, encoded(one())[4:], zeros(28)} {
		for format := range 256 {
			for kind := range 256 {
				for _, links := range []int{0, 1, 200, 201, 256, 65535} {
					checkRead(t, bytesOf(format, 1)+bytesOf(kind, 1)+bytesOf(links, 2)+behind)
				}
			}
		}
	}
}

func TestReadEveryLinks(t *testing.T) {
	for _, c := range []api.Card{one(), two(0), two(3)} {
		s := encoded(c)
		for links := range 65536 {
			checkRead(t, s[:2]+bytesOf(links, 2)+s[4:])
		}
	}
}

func TestReadEverySize(t *testing.T) {
	for _, c := range []api.Card{one(), two(0), two(3)} {
		s := encoded(c)
		for size := range 65536 {
			checkRead(t, s[:4]+bytesOf(size, 4)+s[8:])
		}
		for _, size := range []int{1 << 16, 1 << 24, 1 << 31, 1<<31 - 1, 1<<32 - 1, 1<<32 - 15360} {
			checkRead(t, s[:4]+bytesOf(size, 4)+s[8:])
		}
	}
}

func TestReadOfAnotherLength(t *testing.T) {
	long := strings.Repeat(encoded(one())+encoded(two(3)), 5)
	for n := range 300 {
		if n != 32 {
			wantNoRead(t, zeros(n))
			wantNoRead(t, long[:n])
			wantNoRead(t, long[32:][:min(n, 288)]+strings.Repeat("\x00", max(n-288, 0)))
			wantNoRead(t, (encoded(two(0)) + zeros(300))[:n])
		}
	}
	for _, c := range correct() {
		wantNoRead(t, encoded(c)[:31])
		wantNoRead(t, encoded(c)+"\x00")
	}
}

// randomNumber returns mostly small numbers, and sometimes one near a bound.
func randomNumber(random *rand.Rand, most int) int {
	switch random.Intn(4) {
	case 0:
		return min(random.Intn(4), most)
	case 1:
		return max(0, most-random.Intn(3))
	}
	return random.Intn(most + 1)
}

// randomCard returns a card that is mostly valid.
func randomCard(random *rand.Rand) api.Card {
	c := api.Card{Format: 1 + random.Intn(2), Kind: 1 + random.Intn(2), Links: 1 + randomNumber(random, 199)}
	if c.Format == api.One {
		c.Size = randomNumber(random, 9728)
		for range 4 {
			c.Ptrs = append(c.Ptrs, randomNumber(random, 65535))
		}
		c.Single, c.Double = randomNumber(random, 65535), randomNumber(random, 65535)
		return c
	}
	c.Size = randomNumber(random, 15360)
	at, start := 0, 1
	for range random.Intn(4) {
		at, start = at+random.Intn(2), start+random.Intn(2)
		run := api.Span{At: at, Start: start, Len: 1 + random.Intn(300)}
		c.Runs = append(c.Runs, run)
		at, start = run.At+run.Len, run.Start+run.Len
	}
	if len(c.Runs) == 3 {
		c.Over = randomNumber(random, 65535)
	}
	return c
}

func TestRandomCards(t *testing.T) {
	random := rand.New(rand.NewSource(9))
	accepted, refused := 0, 0
	for range 50000 {
		bytes := []byte(encoded(randomCard(random)))
		for range random.Intn(3) {
			bytes[random.Intn(32)] = byte(randomNumber(random, 255))
		}
		if checkRead(t, string(bytes)) {
			accepted++
		} else {
			refused++
		}
	}
	if accepted < 10000 || refused < 10000 {
		t.Error("one of the two is hardly tested:", accepted, refused)
	}
}

func TestRandomBytes(t *testing.T) {
	random := rand.New(rand.NewSource(10))
	for range 20000 {
		bytes := make([]byte, 32)
		random.Read(bytes)
		bytes[0], bytes[1], bytes[3] = bytes[0]%4, bytes[1]%3, 0
		checkRead(t, string(bytes))
	}
}

func TestNew(t *testing.T) {
	for _, format := range extremes {
		for _, kind := range extremes {
			c, err := cards.New(format, kind)
			want := api.Card{Format: format, Kind: kind, Links: 1}
			if format == 1 {
				want.Ptrs = []int{0, 0, 0, 0}
			}
			if (format != 1 && format != 2) || (kind != 1 && kind != 2) {
				if !isZero(c) || err != api.ErrArg {
					t.Errorf("New(%d, %d): %v %d", format, kind, c, err)
				}
				continue
			}
			if !equal(c, want) || err != api.OK {
				t.Errorf("New(%d, %d): %v %d", format, kind, c, err)
			}
			wantRight(t, c, true)
		}
	}
}

// block returns n bytes, no two of which, at most 256 apart, are the same.
func block(n int) string {
	bytes := make([]byte, n)
	for i := range bytes {
		bytes[i] = byte(i)
	}
	return string(bytes)
}

// places are indexes of a card in a block, and others.
var places = append([]int{6, 7, 8, 31, 32, 127, 128, -2, -3, -4, -32, 1 << 59, 1<<59 + 1, -1 << 59, 1 << 58, 3 << 58}, extremes...)

func TestPick(t *testing.T) {
	b := block(128)
	for _, k := range places {
		s, err := cards.Pick(b, k)
		if k < 0 || k > 3 {
			if s != "" || err != api.ErrArg {
				t.Errorf("Pick at %d: %q %d", k, s, err)
			}
		} else if s != b[32*k:32*k+32] || err != api.OK {
			t.Errorf("Pick at %d: %q %d", k, s, err)
		}
	}
}

func TestPlace(t *testing.T) {
	// What the block and the card contain does not matter.
	b, card := block(128), strings.Repeat("\xff\xee", 16)
	for _, k := range places {
		s, err := cards.Place(b, k, card)
		if k < 0 || k > 3 {
			if s != "" || err != api.ErrArg {
				t.Errorf("Place at %d: %q %d", k, s, err)
			}
			continue
		}
		if want := b[:32*k] + card + b[32*k+32:]; s != want || err != api.OK {
			t.Errorf("Place at %d: %q %d", k, s, err)
		}
	}
}

func TestPickAndPlaceInAnotherLength(t *testing.T) {
	for _, n := range []int{0, 1, 31, 32, 33, 64, 96, 127, 129, 159, 160, 256, 70000} {
		for k := -1; k < 5; k++ {
			if s, err := cards.Pick(block(n), k); s != "" || err != api.ErrArg {
				t.Errorf("Pick at %d of %d bytes: %q %d", k, n, s, err)
			}
			if s, err := cards.Place(block(n), k, zeros(32)); s != "" || err != api.ErrArg {
				t.Errorf("Place at %d of %d bytes: %q %d", k, n, s, err)
			}
			if s, err := cards.Place(block(128), k, block(n)); n != 32 && (s != "" || err != api.ErrArg) {
				t.Errorf("Place at %d of a card of %d bytes: %q %d", k, n, s, err)
			}
		}
	}
}

func TestPlacedCardsArePicked(t *testing.T) {
	all := correct()
	b := zeros(128)
	for i, c := range all {
		b, _ = cards.Place(b, i%4, encoded(c))
		for k := range min(i+1, 4) {
			s, err := cards.Pick(b, (i-k)%4)
			if err != api.OK || s != encoded(all[i-k]) {
				t.Errorf("card %d: %q %d", i-k, s, err)
			}
		}
	}
}

func TestArgumentsRemain(t *testing.T) {
	for _, c := range append(append(correct(), wrong()...), fuller()) {
		// The memory behind the lists is the caller's, too.
		given := c
		given.Ptrs = append(slices.Clone(c.Ptrs), 1, 2, 3)[:len(c.Ptrs)]
		given.Runs = append(slices.Clone(c.Runs), api.Span{At: 4}, api.Span{At: 5})[:len(c.Runs)]
		cards.Right(given)
		cards.Same(given, c)
		cards.Same(c, given)
		cards.Write(given)
		behind := given.Ptrs[:len(c.Ptrs)+3][len(c.Ptrs):]
		runsBehind := given.Runs[:len(c.Runs)+2][len(c.Runs):]
		if !equal(given, c) || !slices.Equal(behind, []int{1, 2, 3}) || runsBehind[0].At != 4 || runsBehind[1].At != 5 {
			t.Errorf("%s is changed to %s", brief(c), brief(given))
		}
	}
}

// within reports whether the memory of one text is a part of another's.
func within(inner, outer string) bool {
	if inner == "" || outer == "" {
		return false
	}
	a, b := uintptr(unsafe.Pointer(unsafe.StringData(inner))), uintptr(unsafe.Pointer(unsafe.StringData(outer)))
	return a < b+uintptr(len(outer)) && b < a+uintptr(len(inner))
}

func TestResultsAreNew(t *testing.T) {
	for _, c := range correct() {
		read := func() api.Card {
			c, _ := cards.Read(encoded(c))
			return c
		}
		checkNew(t, read)
	}
	for format := 1; format <= 2; format++ {
		checkNew(t, func() api.Card {
			c, _ := cards.New(format, api.Dir)
			return c
		})
	}
	b, card := block(128), zeros(32)
	for k := range 4 {
		picked, _ := cards.Pick(b, k)
		placed, _ := cards.Place(b, k, card)
		if within(picked, b) || within(placed, b) || within(placed, card) {
			t.Error("the result shares memory with an argument at", k)
		}
	}
}

// checkNew spoils one result, and looks whether the next one is as it was.
func checkNew(t *testing.T, result func() api.Card) {
	t.Helper()
	spoiled, want := result(), clone(result())
	for i := range spoiled.Ptrs {
		spoiled.Ptrs[i]++
	}
	for i := range spoiled.Runs {
		spoiled.Runs[i].Len++
	}
	if got := result(); !equal(got, want) {
		t.Errorf("%v, and then %v", want, got)
	}
}

func TestExampleOfTheChapter(t *testing.T) {
	c, err := cards.New(api.One, api.File)
	if err != api.OK {
		t.Fatal(err)
	}
	wantWrite(t, c, "\x01\x01\x01\x00"+zeros(28))
	wantRead(t, "\x01\x01\x01\x00"+zeros(28), c)
}
