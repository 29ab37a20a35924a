package bodies_test

import (
	"maps"
	"math"
	"math/rand"
	"slices"
	"strconv"
	"strings"
	"testing"

	"wainwright/api"
	"wainwright/bodies"
	"wainwright/chains"
	"wainwright/crown"
	"wainwright/deal"
	"wainwright/log"
	"wainwright/runs"
	"wainwright/slab"
)

// someCrowns are crowns of every format. Bodies depend on the card's only.
var someCrowns = []api.Crown{
	{Format: api.One, Blocks: 64},
	{Format: api.Two, Blocks: 65},
	{Format: api.Up, Blocks: 71, Cursor: 7},
	{Format: api.Down, Blocks: 256, Cursor: 32},
	{Format: api.Up, Blocks: 257},
	{Format: api.Two, Blocks: 400},
}

// noFormats are numbers that are no format of a card, some of them equal to one
// in their lowest bytes.
var noFormats = []int{math.MinInt, -1<<32 + 1, -2, -1, 0, api.Up, api.Down, 5, 256 + 1, 256 + 2, 1<<32 + 1, 1<<32 + 2, math.MaxInt}

func most(format int) int {
	if format == api.One {
		return 76
	}
	return 120
}

func zeros(n int) string { return strings.Repeat("\x00", n) }

func padded(s string) string { return s + zeros(api.Block-len(s)) }

// text returns n bytes, none of which is 0, and which differ from block to block.
func text(n int) string {
	bytes := make([]byte, n)
	for i := range bytes {
		bytes[i] = byte(1 + i%251)
	}
	return string(bytes)
}

func isSome(block int) bool { return block != 0 }

func blocksIn(m []int) []int {
	return slices.DeleteFunc(slices.Clone(m), func(block int) bool { return block == 0 })
}

// written returns the bytes of a file after this has been written.
func written(data string, at int, piece string) string {
	if piece == "" {
		return data
	}
	bytes := []byte(data + zeros(max(0, at+len(piece)-len(data))))
	copy(bytes[at:], piece)
	return string(bytes)
}

// model is what the chapters say of a disk: which of its blocks are used, and
// which of them a file has ever had.
type model struct {
	crown   api.Crown
	image   []string
	used    map[int]bool
	touched map[int]bool
}

// newModel returns a disk on which only these blocks of files are used. The
// slab has more blocks than the disk.
func newModel(c api.Crown, used ...int) *model {
	m := &model{crown: c, image: make([]string, c.Blocks+3), used: map[int]bool{}, touched: map[int]bool{}}
	for i := range m.image {
		m.image[i] = padded("old" + strconv.Itoa(i))
	}
	for _, block := range used {
		m.used[block] = true
	}
	m.image[0], _ = crown.Write(c)
	m.image[1] = padded("")
	m.image[42] = m.marks()
	return m
}

func (m *model) marks() string {
	bytes := []byte(crown.Marks(m.crown.Blocks))
	for block, used := range m.used {
		if used {
			bytes[block/8] |= 1 << (block % 8)
		}
	}
	return string(bytes)
}

func (m *model) free() int {
	count := 0
	for block := 51; block < m.crown.Blocks; block++ {
		if !m.used[block] {
			count++
		}
	}
	return count
}

// run allocates up to n consecutive blocks, and returns them.
func (m *model) run(n int) []int {
	var best, current []int
	for block := 51; block < m.crown.Blocks && len(best) < n; block++ {
		if m.used[block] {
			current = nil
			continue
		}
		current = append(current, block)
		if len(current) > len(best) {
			best = slices.Clone(current)
		}
	}
	for _, block := range best {
		m.used[block], m.touched[block] = true, true
	}
	return best
}

func (m *model) copied() *model {
	c := *m
	c.used, c.touched = maps.Clone(m.used), maps.Clone(m.touched)
	return &c
}

// file is a card and what the chapter says of it.
type file struct {
	card  api.Card
	data  string
	m     []int
	lists []int
}

func newCard(format, kind int) api.Card {
	c := api.Card{Format: format, Kind: kind, Links: 1}
	if format == api.One {
		c.Ptrs = make([]int, 4)
	}
	return c
}

func newFile(format int) *file {
	return &file{card: newCard(format, api.File), m: make([]int, most(format))}
}

// cloned returns a card that shares no memory with c.
func cloned(c api.Card) api.Card {
	c.Ptrs, c.Runs = slices.Clone(c.Ptrs), slices.Clone(c.Runs)
	return c
}

func (f *file) copied() *file {
	c := *f
	c.card, c.m, c.lists = cloned(f.card), slices.Clone(f.m), slices.Clone(f.lists)
	return &c
}

func sameCard(a, b api.Card) bool {
	return a.Format == b.Format && a.Kind == b.Kind && a.Links == b.Links && a.Size == b.Size &&
		slices.Equal(a.Ptrs, b.Ptrs) && a.Single == b.Single && a.Double == b.Double &&
		slices.Equal(a.Runs, b.Runs) && a.Over == b.Over
}

// needed returns how many blocks for lists or run blocks a map needs.
func needed(format int, m []int) int {
	if format == api.Two {
		count := 0
		for i, block := range m {
			if block != 0 && (i == 0 || m[i-1] == 0 || m[i-1]+1 != block) {
				count++
			}
		}
		return max(0, count-3+19) / 20
	}
	count := 0
	for first := 4; first < 76; first += 8 {
		if slices.ContainsFunc(m[first:first+8], isSome) {
			count++
		}
	}
	if slices.ContainsFunc(m[12:], isSome) {
		count++
	}
	return count
}

// save gives f a map, if there is room for its lists.
func (m *model) save(f *file, blocks []int) api.Errno {
	if slices.Equal(f.m, blocks) {
		return api.OK
	}
	for _, block := range f.lists {
		m.used[block] = false
	}
	f.m, f.lists = blocks, nil
	for range needed(f.card.Format, blocks) {
		if m.free() == 0 {
			return api.ErrSpace
		}
		f.lists = append(f.lists, m.run(1)...)
	}
	return api.OK
}

// write is Write with valid arguments. After an error neither m nor f is of use.
func (m *model) write(f *file, at int, data string) api.Errno {
	blocks := slices.Clone(f.m)
	var holes []int
	for i := range blocks {
		if blocks[i] == 0 && i*128 < at+len(data) && (i+1)*128 > at && data != "" {
			holes = append(holes, i)
		}
	}
	for len(holes) > 0 {
		n := 1
		for f.card.Format == api.Two && n < len(holes) && holes[n] == holes[n-1]+1 {
			n++
		}
		got := m.run(n)
		if len(got) == 0 {
			return api.ErrSpace
		}
		copy(blocks[holes[0]:], got)
		holes = holes[len(got):]
	}
	f.data = written(f.data, at, data)
	return m.save(f, blocks)
}

// cut is Cut with valid arguments.
func (m *model) cut(f *file, size int) api.Errno {
	blocks := slices.Clone(f.m)
	for i, block := range blocks {
		if block != 0 && i*128 >= size {
			m.used[block], blocks[i] = false, 0
		}
	}
	f.data = f.data[:min(size, len(f.data))] + zeros(max(0, size-len(f.data)))
	return m.save(f, blocks)
}

// begun returns the slab of a model, its log and a deal of it.
func begun(t *testing.T, m *model) (*slab.Slab, *log.Log, *deal.Deal) {
	t.Helper()
	s := slab.Load(m.image)
	l, err := log.Open(s)
	if err != api.OK {
		t.Fatalf("Open: %d", err)
	}
	return s, l, mustBegin(t, l)
}

func mustBegin(t *testing.T, l *log.Log) *deal.Deal {
	t.Helper()
	d, err := deal.Begin(l)
	if err != api.OK || d == nil {
		t.Fatalf("Begin: %v, %d", d, err)
	}
	return d
}

func mustCommit(t *testing.T, d *deal.Deal) {
	t.Helper()
	if err := d.Commit(); err != api.OK {
		t.Fatalf("Commit: %d", err)
	}
}

// mustUse marks this many free blocks as used, as if another file had them.
func mustUse(t *testing.T, d *deal.Deal, m *model, n int) {
	t.Helper()
	for range n {
		m.run(1)
	}
	if err := d.Write(42, m.marks()); err != api.OK {
		t.Fatalf("Write: %d", err)
	}
}

// mustRead returns all bytes of a file, and wants that there are none after them.
func mustRead(t *testing.T, d *deal.Deal, c api.Card) string {
	t.Helper()
	all := ""
	for at := 0; at <= c.Size; at += 4096 {
		s, err := bodies.Read(d, c, at, 4096)
		if err != api.OK || len(s) != min(4096, c.Size-at) {
			t.Fatalf("Read(%v, %d): %d bytes, %d", c, at, len(s), err)
		}
		all += s
	}
	return all
}

// wantFile wants that a file is as f says, in each of its blocks.
func wantFile(t *testing.T, d *deal.Deal, f *file) {
	t.Helper()
	if f.card.Size != len(f.data) || f.card.Kind != api.File || f.card.Links != 1 {
		t.Fatalf("the card is %v, %d bytes", f.card, len(f.data))
	}
	if got, err := bodies.Map(d, f.card); err != api.OK || !slices.Equal(got, f.m) {
		t.Fatalf("Map(%v): %d, %d, not %d", f.card, got, err, f.m)
	}
	want := slices.Concat(blocksIn(f.m), f.lists)
	if got, err := bodies.Blocks(d, f.card); err != api.OK || !slices.Equal(got, want) {
		t.Fatalf("Blocks(%v): %d, %d, not %d", f.card, got, err, want)
	}
	if got := mustRead(t, d, f.card); got != f.data {
		t.Fatalf("%q, not %q", got, f.data)
	}
	for i, block := range f.m {
		if block == 0 {
			continue
		}
		want := padded(f.data[128*i : min(len(f.data), 128*i+128)])
		if got, err := d.Read(block); got != want || err != api.OK {
			t.Fatalf("block %d: %q, %d, not %q", block, got, err, want)
		}
	}
}

// wantDisk wants that the marks are those of the model, and that the blocks
// which no file has ever had are as they were.
func wantDisk(t *testing.T, d *deal.Deal, m *model) {
	t.Helper()
	if got, _ := d.Read(42); got != m.marks() {
		t.Fatalf("the marks are %q, not %q", got, m.marks())
	}
	for i, want := range m.image {
		if i >= 1 && i <= 42 || m.touched[i] {
			continue
		}
		if got, err := d.Read(i); got != want || err != api.OK {
			t.Fatalf("block %d: %q, %d, not %q", i, got, err, want)
		}
	}
}

func wantChanged(t *testing.T, d *deal.Deal, want ...int) {
	t.Helper()
	if got := d.Changed(); !slices.Equal(got, want) {
		t.Errorf("changed are %d, not %d", got, want)
	}
}

// wantCard wants of a function that changes a file what the model says, and
// returns whether it succeeds.
func wantCard(t *testing.T, d *deal.Deal, m *model, f *file, want api.Errno, got api.Card, err api.Errno) bool {
	t.Helper()
	if err != want {
		t.Fatalf("%v, %d, not %d", got, err, want)
	}
	if err != api.OK {
		if !sameCard(got, api.Card{}) {
			t.Fatalf("%v beside %d", got, err)
		}
		return false
	}
	f.card = got
	wantFile(t, d, f)
	wantDisk(t, d, m)
	return true
}

func wantWrite(t *testing.T, d *deal.Deal, m *model, f *file, at int, data string) bool {
	t.Helper()
	before := cloned(f.card)
	want := m.write(f, at, data)
	got, err := bodies.Write(d, before, at, data)
	if !sameCard(before, f.card) {
		t.Fatalf("Write changed the card to %v", before)
	}
	return wantCard(t, d, m, f, want, got, err)
}

func wantCut(t *testing.T, d *deal.Deal, m *model, f *file, size int) bool {
	t.Helper()
	before := cloned(f.card)
	want := m.cut(f, size)
	got, err := bodies.Cut(d, before, size)
	if !sameCard(before, f.card) {
		t.Fatalf("Cut changed the card to %v", before)
	}
	return wantCard(t, d, m, f, want, got, err)
}

func wantDrop(t *testing.T, d *deal.Deal, m *model, f *file) {
	t.Helper()
	want := m.cut(f, 0)
	got, err := bodies.Drop(d, f.card)
	wantCard(t, d, m, f, want, got, err)
	if !sameCard(f.card, newCard(f.card.Format, api.File)) {
		t.Fatalf("the card is %v", f.card)
	}
}

// wantCardError wants an error, and nothing with it.
func wantCardError(t *testing.T, what string, got api.Card, err, want api.Errno) {
	t.Helper()
	if err != want || !sameCard(got, api.Card{}) {
		t.Errorf("%s: %v, %d, not %d", what, got, err, want)
	}
}

func wantWriteError(t *testing.T, d *deal.Deal, c api.Card, at int, data string, want api.Errno) {
	t.Helper()
	got, err := bodies.Write(d, c, at, data)
	wantCardError(t, "Write at "+strconv.Itoa(at), got, err, want)
}

func wantCutError(t *testing.T, d *deal.Deal, c api.Card, size int, want api.Errno) {
	t.Helper()
	got, err := bodies.Cut(d, c, size)
	wantCardError(t, "Cut to "+strconv.Itoa(size), got, err, want)
}

func wantReadError(t *testing.T, d *deal.Deal, c api.Card, at, n int, want api.Errno) {
	t.Helper()
	if got, err := bodies.Read(d, c, at, n); err != want || got != "" {
		t.Errorf("Read(%v, %d, %d): %q, %d, not %d", c, at, n, got, err, want)
	}
}

// wantErrors wants of a card that has no map that every function returns want,
// and ErrArg if its other arguments are invalid.
func wantErrors(t *testing.T, d *deal.Deal, c api.Card, want api.Errno) {
	t.Helper()
	if got, err := bodies.Map(d, c); err != want || len(got) != 0 {
		t.Errorf("Map(%v): %d, %d, not %d", c, got, err, want)
	}
	if got, err := bodies.Blocks(d, c); err != want || len(got) != 0 {
		t.Errorf("Blocks(%v): %d, %d, not %d", c, got, err, want)
	}
	for _, m := range [][]int{nil, {60}, {1}, {-1}, slices.Repeat([]int{60}, 121)} {
		got, err := bodies.Keep(d, c, m)
		wantCardError(t, "Keep", got, err, want)
	}
	for _, at := range []int{0, 1, 128, 9728, 15360, math.MaxInt} {
		for _, n := range []int{0, 1, 512} {
			wantReadError(t, d, c, at, n, want)
			wantWriteError(t, d, c, at, text(n), want)
		}
		wantReadError(t, d, c, at, 4096, want)
		wantReadError(t, d, c, at, 4097, api.ErrArg)
		wantWriteError(t, d, c, at, text(513), api.ErrArg)
		wantCutError(t, d, c, at, want)
	}
	for _, n := range []int{-1, math.MinInt} {
		wantReadError(t, d, c, n, 1, api.ErrArg)
		wantReadError(t, d, c, 0, n, api.ErrArg)
		wantWriteError(t, d, c, n, "a", api.ErrArg)
		wantWriteError(t, d, c, n, "", api.ErrArg)
		wantCutError(t, d, c, n, api.ErrArg)
	}
	got, err := bodies.Drop(d, c)
	wantCardError(t, "Drop", got, err, want)
}

// inFormats runs a test in both formats.
func inFormats(t *testing.T, test func(t *testing.T, format int)) {
	for _, format := range []int{api.One, api.Two} {
		t.Run("format "+strconv.Itoa(format), func(t *testing.T) { test(t, format) })
	}
}

// oddBlocks returns the blocks from 51 on with odd numbers, below this one.
func oddBlocks(end int) []int {
	var l []int
	for block := 51; block < end; block += 2 {
		l = append(l, block)
	}
	return l
}

// big returns a file of three pieces between holes, on a disk where lower blocks
// than those of its lists are free, and block 60 is another's.
func big(t *testing.T, format int) (*log.Log, *deal.Deal, *model, *file) {
	t.Helper()
	m, f := newModel(api.Crown{Format: api.Up, Blocks: 200}, append(oddBlocks(180), 60)...), newFile(format)
	_, l, d := begun(t, m)
	other := newFile(format)
	wantWrite(t, d, m, other, 0, text(100))
	for _, at := range []int{200, 700, 1200, 4000, 4500, 9000} {
		wantWrite(t, d, m, f, at, text(500))
	}
	wantDrop(t, d, m, other)
	if len(f.lists) < 2-format/2 || m.used[52] {
		t.Fatalf("the lists are %d", f.lists)
	}
	mustCommit(t, d)
	return l, d, m, f
}

func TestExampleOfTheChapter(t *testing.T) {
	inFormats(t, func(t *testing.T, format int) {
		_, _, d := begun(t, newModel(api.Crown{Format: format, Blocks: 64}))
		c, err := bodies.Write(d, newCard(format, api.File), 200, "ab")
		if err != api.OK || c.Size != 202 {
			t.Errorf("%v, %d", c, err)
		}
		if got, err := bodies.Blocks(d, c); err != api.OK || !slices.Equal(got, []int{51}) {
			t.Errorf("%d, %d", got, err)
		}
		if got, err := bodies.Read(d, c, 0, 4096); err != api.OK || got != zeros(200)+"ab" {
			t.Errorf("%q, %d", got, err)
		}
		if got, _ := d.Read(51); got != padded(zeros(72)+"ab") {
			t.Errorf("%q", got)
		}
		wantChanged(t, d, 42, 51)
	})
}

func TestMost(t *testing.T) {
	if one, two := bodies.Most(api.One), bodies.Most(api.Two); one != 76 || two != 120 {
		t.Errorf("%d, %d", one, two)
	}
	for _, format := range noFormats {
		if got := bodies.Most(format); got != 0 {
			t.Errorf("Most(%d): %d", format, got)
		}
	}
}

// layer is what Map and Keep are in a format.
type layer struct {
	load func(d *deal.Deal, c api.Card) ([]int, api.Errno)
	save func(d *deal.Deal, c api.Card, m []int) (api.Card, api.Errno)
}

func layerOf(format int) layer {
	if format == api.One {
		return layer{chains.Load, chains.Save}
	}
	return layer{runs.Load, runs.Save}
}

// someMaps are maps with and without lists, and some that Keep rejects.
func someMaps() [][]int {
	last := make([]int, 76)
	last[75] = 60
	beyond := make([]int, 120)
	beyond[119] = 60
	return [][]int{
		nil, {60}, {60, 0, 61, 0, 0, 62}, {60, 61, 0, 70, 0, 80, 0, 90}, last, slices.Repeat([]int{60}, 76),
		beyond, slices.Repeat([]int{60}, 120), slices.Repeat([]int{60}, 121), slices.Repeat([]int{0}, 200), {50}, {100}, {-1}, {65536},
	}
}

func TestMapAndKeep(t *testing.T) {
	inFormats(t, func(t *testing.T, format int) {
		for _, blocks := range someMaps() {
			for _, used := range []int{0, 46, 49} {
				m := newModel(api.Crown{Format: api.Down, Blocks: 100})
				m.run(used)
				m.image[42] = m.marks()
				_, _, d := begun(t, m)
				_, _, other := begun(t, m)
				c, l := newCard(format, api.Dir), layerOf(format)
				c.Links, c.Size = 200, 9728
				want, wantErr := l.save(other, c, blocks)
				got, err := bodies.Keep(d, c, blocks)
				if err != wantErr || !sameCard(got, want) || !slices.Equal(d.Changed(), other.Changed()) {
					t.Errorf("Keep(%d): %v, %d, not %v, %d", blocks, got, err, want, wantErr)
				}
				wantMap, wantErr := l.load(other, got)
				if m, err := bodies.Map(d, got); err != wantErr || !slices.Equal(m, wantMap) {
					t.Errorf("Map(%v): %d, %d, not %d, %d", got, m, err, wantMap, wantErr)
				}
			}
		}
	})
}

func TestCardsOfNoFormat(t *testing.T) {
	inFormats(t, func(t *testing.T, format int) {
		_, d, m, f := big(t, format)
		for _, other := range append(noFormats, 3-format) {
			c := cloned(f.card)
			c.Format = other
			for _, d := range []*deal.Deal{d, nil, new(deal.Deal)} {
				wantErrors(t, d, c, api.ErrArg)
			}
		}
		wantErrors(t, d, api.Card{}, api.ErrArg)
		wantChanged(t, d)
		wantFile(t, d, f)
		wantDisk(t, d, m)
	})
}

func TestCardsThatAreNotValid(t *testing.T) {
	inFormats(t, func(t *testing.T, format int) {
		_, d, _, f := big(t, format)
		for _, change := range []func(c *api.Card){
			func(c *api.Card) { c.Kind = api.Free }, func(c *api.Card) { c.Kind = 3 },
			func(c *api.Card) { c.Links = 0 }, func(c *api.Card) { c.Links = 201 },
			func(c *api.Card) { c.Size = -1 }, func(c *api.Card) { c.Size = math.MinInt },
			func(c *api.Card) { c.Size = most(format)*128 + 1 }, func(c *api.Card) { c.Size = math.MaxInt },
			func(c *api.Card) { c.Ptrs = append(c.Ptrs, 60) }, func(c *api.Card) { c.Single = -1 },
			func(c *api.Card) { c.Runs = append(c.Runs, api.Span{At: 119, Start: 60, Len: 0}) }, func(c *api.Card) { c.Over = -1 },
		} {
			c := cloned(f.card)
			change(&c)
			wantErrors(t, d, c, api.ErrArg)
			wantErrors(t, nil, c, api.ErrArg)
		}
		wantChanged(t, d)
	})
}

func TestNoMap(t *testing.T) {
	inFormats(t, func(t *testing.T, format int) {
		_, d, m, f := big(t, format)
		wantErrors(t, nil, f.card, api.ErrArg)
		wantErrors(t, new(deal.Deal), f.card, api.ErrCorrupt)
		astray := newCard(format, api.File)
		if format == api.One {
			astray.Ptrs[3] = 200
		} else {
			astray.Runs = []api.Span{{At: 3, Start: 199, Len: 2}}
		}
		wantErrors(t, d, astray, api.ErrCorrupt)
		for _, list := range f.lists {
			before, _ := d.Read(list)
			if err := d.Write(list, ""); err != api.OK {
				t.Fatal(err)
			}
			wantErrors(t, d, f.card, api.ErrCorrupt)
			if err := d.Write(list, before); err != api.OK {
				t.Fatal(err)
			}
		}
		wantFile(t, d, f)
		wantDisk(t, d, m)
		if err := d.Write(0, ""); err != api.OK {
			t.Fatal(err)
		}
		wantErrors(t, d, f.card, api.ErrCorrupt)
		wantErrors(t, d, newCard(format, api.File), api.ErrCorrupt)
		wantChanged(t, d, 0)
	})
}

func TestRead(t *testing.T) {
	inFormats(t, func(t *testing.T, format int) {
		_, d, _, f := big(t, format)
		if f.card.Size != 9500 || len(f.data) != 9500 {
			t.Fatalf("%v", f.card)
		}
		var places []int
		for at := 0; at < 9800; at += 37 + 90*(at/1000) {
			places = append(places, at)
		}
		for _, k := range []int{0, 1, 2, 5, 31, 35, 74, 75} {
			places = append(places, 128*k-1, 128*k, 128*k+1)
		}
		for _, at := range slices.Concat(places, []int{9499, 9500, 9501, 9728, 9729, 15360, 15361, math.MaxInt - 1, math.MaxInt}) {
			for _, n := range []int{0, 1, 2, 127, 128, 129, 512, 1000, 4095, 4096} {
				if at < 0 {
					wantReadError(t, d, f.card, at, n, api.ErrArg)
					continue
				}
				first := min(at, 9500)
				want := f.data[first : first+min(n, 9500-first)]
				if got, err := bodies.Read(d, f.card, at, n); err != api.OK || got != want {
					t.Fatalf("Read at %d, %d: %q, %d, not %q", at, n, got, err, want)
				}
			}
		}
		for _, n := range []int{math.MinInt, -4096, -1, 4097, math.MaxInt} {
			wantReadError(t, d, f.card, 0, n, api.ErrArg)
			wantReadError(t, d, f.card, 9600, n, api.ErrArg)
		}
		wantChanged(t, d)
	})
}

// Read tells only the bytes of the file, whatever follows them in its blocks.
func TestReadToTheEnd(t *testing.T) {
	inFormats(t, func(t *testing.T, format int) {
		_, d, _, f := big(t, format)
		for _, size := range []int{0, 1, 200, 201, 255, 256, 257, 600, 1300, 9499, 9728} {
			c := cloned(f.card)
			c.Size = size
			if got := mustRead(t, d, c); got != (f.data + zeros(300))[:size] {
				t.Errorf("%d bytes: %q", size, got)
			}
		}
	})
}

// Every length, at and around the bounds of blocks, in new files, in files that
// have holes and in whole ones.
func TestWriteEveryLength(t *testing.T) {
	inFormats(t, func(t *testing.T, format int) {
		for _, at := range []int{0, 1, 127, 128, 129, 383, 384, 500, 640, 1535, 1536, most(format)*128 - 512} {
			for n := range 513 {
				m, f := newModel(api.Crown{Format: api.One, Blocks: 90}, 52, 53, 56, 58, 59), newFile(format)
				_, _, d := begun(t, m)
				if n%3 > 0 {
					wantWrite(t, d, m, f, 300, text(400))
				}
				if n%3 > 1 {
					wantWrite(t, d, m, f, 0, text(400))
				}
				wantWrite(t, d, m, f, at, text(n))
				wantWrite(t, d, m, f, at, text(n + 5)[5:])
			}
		}
	})
}

func TestWriteEveryPlace(t *testing.T) {
	inFormats(t, func(t *testing.T, format int) {
		end := most(format) * 128
		for at := 0; at < end; at += 61 {
			m, f := newModel(api.Crown{Format: api.Two, Blocks: 64}, 54), newFile(format)
			_, _, d := begun(t, m)
			wantWrite(t, d, m, f, at, "a")
			wantWrite(t, d, m, f, end-at-1, "b")
			wantWrite(t, d, m, f, at, text(min(130, end-at)))
			wantCut(t, d, m, f, end/2)
			wantDrop(t, d, m, f)
			if m.free() != 12 {
				t.Fatalf("%d blocks are free", m.free())
			}
		}
	})
}

// The bytes that are written may be any bytes.
func TestEveryByte(t *testing.T) {
	inFormats(t, func(t *testing.T, format int) {
		m, f := newModel(api.Crown{Format: api.Two, Blocks: 70}), newFile(format)
		_, _, d := begun(t, m)
		var all []byte
		for i := range 512 {
			all = append(all, byte(i))
		}
		wantWrite(t, d, m, f, 77, string(all))
		wantWrite(t, d, m, f, 100, zeros(300))
		wantWrite(t, d, m, f, 589, zeros(52))
	})
}

func TestEmptyData(t *testing.T) {
	inFormats(t, func(t *testing.T, format int) {
		_, d, m, f := big(t, format)
		for _, at := range []int{0, 1, 9499, 9500, 9501, 9728, 9729, 15360, 15361, 1 << 40, math.MaxInt} {
			before := cloned(f.card)
			wantWrite(t, d, m, f, at, "")
			if !sameCard(before, f.card) {
				t.Errorf("at %d: %v, not %v", at, f.card, before)
			}
		}
		wantWriteError(t, d, f.card, -1, "", api.ErrArg)
		wantWriteError(t, d, f.card, math.MinInt, "", api.ErrArg)
		wantChanged(t, d)
	})
}

// allocated wants that a map has these blocks from index i on.
func allocated(t *testing.T, f *file, i int, want ...int) {
	t.Helper()
	if got := f.m[i : i+len(want)]; !slices.Equal(got, want) {
		t.Errorf("the blocks from %d on are %d, not %d", i, got, want)
	}
}

// Free are 51, 53 and 54, 56 to 58, and all from 64 on.
func TestAllocationInPieces(t *testing.T) {
	used := []int{52, 55, 59, 60, 61, 62, 63}
	m, f := newModel(api.Crown{Format: api.Up, Blocks: 100}, used...), newFile(api.One)
	_, _, d := begun(t, m)
	wantWrite(t, d, m, f, 100, text(512))
	allocated(t, f, 0, 51, 53, 54, 56, 57)
	wantWrite(t, d, m, f, 8*128, text(512))
	allocated(t, f, 8, 64, 65, 66, 67, 0)
	wantChanged(t, d, 42, 51, 53, 54, 56, 57, 58, 64, 65, 66, 67)

	m, f = newModel(api.Crown{Format: api.Up, Blocks: 100}, used...), newFile(api.Two)
	_, _, d = begun(t, m)
	wantWrite(t, d, m, f, 100, text(512))
	allocated(t, f, 0, 64, 65, 66, 67, 68, 0)
	wantWrite(t, d, m, f, 6*128, text(129))
	allocated(t, f, 5, 0, 53, 54, 0)
	wantWrite(t, d, m, f, 5*128, text(1))
	allocated(t, f, 5, 51, 53, 54, 0)
	wantWrite(t, d, m, f, 9*128-1, text(258))
	allocated(t, f, 8, 69, 70, 71, 72, 0)
}

// If no sequence is long enough, the longest ones come first.
func TestAllocationOfTheLongest(t *testing.T) {
	used := []int{52, 55, 59, 62}
	m, f := newModel(api.Crown{Format: api.Up, Blocks: 64}, used...), newFile(api.Two)
	_, _, d := begun(t, m)
	wantWrite(t, d, m, f, 128, text(512))
	allocated(t, f, 0, 0, 56, 57, 58, 51, 0)
	wantWrite(t, d, m, f, 1000, text(200))
	allocated(t, f, 7, 53, 54, 60, 0)
	wantChanged(t, d, 42, 51, 53, 54, 56, 57, 58, 60, 61)
}

// Each sequence of holes is filled by itself, in ascending order. Blocks that
// are there stay.
func TestAllocationAroundBlocks(t *testing.T) {
	for k := range 5 {
		m, f := newModel(api.Crown{Format: api.Down, Blocks: 80}, 53, 56, 59, 62), newFile(api.Two)
		_, _, d := begun(t, m)
		wantWrite(t, d, m, f, 128*k+1, "a")
		allocated(t, f, k, 51)
		wantWrite(t, d, m, f, 1, text(512))
		allocated(t, f, 0, [][]int{
			{51, 63, 64, 65, 66}, {52, 51, 63, 64, 65}, {54, 55, 51, 57, 58}, {63, 64, 65, 51, 52}, {63, 64, 65, 66, 51},
		}[k]...)
	}
	m, f := newModel(api.Crown{Format: api.Down, Blocks: 80}, 53), newFile(api.One)
	_, _, d := begun(t, m)
	wantWrite(t, d, m, f, 128*2, "a")
	wantWrite(t, d, m, f, 0, text(512))
	allocated(t, f, 0, 52, 54, 51, 55, 0)
}

// The blocks of the contents are allocated while the file still has those of its
// lists, and before the new ones.
func TestAllocationBeforeLists(t *testing.T) {
	m, f := newModel(api.Crown{Format: api.One, Blocks: 100}), newFile(api.One)
	_, _, d := begun(t, m)
	wantWrite(t, d, m, f, 128*4, "a")
	wantWrite(t, d, m, f, 128*5, "a")
	wantWrite(t, d, m, f, 128*12, "a")
	allocated(t, f, 4, 51, 53, 0)
	allocated(t, f, 12, 54)
	if !slices.Equal(f.lists, []int{52, 55, 56}) {
		t.Errorf("the lists are %d", f.lists)
	}
	m, f = newModel(api.Crown{Format: api.One, Blocks: 100}), newFile(api.Two)
	_, _, d = begun(t, m)
	for i := range 5 {
		wantWrite(t, d, m, f, 256*i, "a")
	}
	allocated(t, f, 0, 51, 0, 52, 0, 53, 0, 54, 0, 56, 0)
	if !slices.Equal(f.lists, []int{55}) {
		t.Errorf("the lists are %d", f.lists)
	}
}

// A map that stays the same leaves its lists where they are, though there are
// free blocks before them.
func TestListsStay(t *testing.T) {
	inFormats(t, func(t *testing.T, format int) {
		_, d, m, f := big(t, format)
		before := cloned(f.card)
		wantWrite(t, d, m, f, 300, "something else")
		if !sameCard(f.card, before) {
			t.Errorf("%v, not %v", f.card, before)
		}
		wantChanged(t, d, f.m[2])
		mustCommit(t, d)
		before.Size = 9600
		wantCut(t, d, m, f, 9600)
		if !sameCard(f.card, before) {
			t.Errorf("%v, not %v", f.card, before)
		}
		wantCut(t, d, m, f, 9490)
		wantChanged(t, d, f.m[74])
		wantWrite(t, d, m, f, 9491, "a")
		wantChanged(t, d, f.m[74])
		wantWrite(t, d, m, f, 0, "a")
		if f.m[0] != 52 {
			t.Errorf("the map is %d", f.m)
		}
	})
}

func TestSizesThatAreTooLarge(t *testing.T) {
	inFormats(t, func(t *testing.T, format int) {
		_, d, m, f := big(t, format)
		end := most(format) * 128
		for _, n := range []int{1, 2, 128, 129, 511, 512} {
			for _, at := range []int{end - n + 1, end, end + 1, 65536 * 128, 1 << 40, math.MaxInt - n, math.MaxInt - n + 1, math.MaxInt} {
				wantWriteError(t, d, f.card, at, text(n), api.ErrLarge)
			}
		}
		for _, size := range []int{end + 1, end + 128, 1 << 32, math.MaxInt - 127, math.MaxInt} {
			wantCutError(t, d, f.card, size, api.ErrLarge)
		}
		wantChanged(t, d)
		wantCut(t, d, m, f, end)
		wantWrite(t, d, m, f, end-1, "a")
		wantWrite(t, d, m, f, end-512, text(512))
		wantWriteError(t, d, f.card, end, "a", api.ErrLarge)
		wantFile(t, d, f)
	})
}

func TestInvalidArguments(t *testing.T) {
	inFormats(t, func(t *testing.T, format int) {
		_, d, m, f := big(t, format)
		for _, at := range []int{math.MinInt, -1 << 32, -128, -1} {
			wantWriteError(t, d, f.card, at, "a", api.ErrArg)
			wantWriteError(t, d, f.card, at, text(512), api.ErrArg)
			wantCutError(t, d, f.card, at, api.ErrArg)
			wantReadError(t, d, f.card, at, 1, api.ErrArg)
		}
		for _, n := range []int{513, 514, 4096, 65536} {
			wantWriteError(t, d, f.card, 0, text(n), api.ErrArg)
			wantWriteError(t, d, f.card, math.MaxInt, text(n), api.ErrArg)
		}
		wantChanged(t, d)
		wantFile(t, d, f)
		wantDisk(t, d, m)
	})
}

// Writes and cuts at every number of free blocks, for which there may be room
// for the contents, but not for the lists.
func TestSpace(t *testing.T) {
	inFormats(t, func(t *testing.T, format int) {
		spaces, whole := 0, 0
		for free := range 9 {
			for _, at := range []int{0, 100, 512, 1000, 1400, 1536, 5000} {
				for _, n := range []int{1, 130, 512} {
					m, f := newModel(api.Crown{Format: api.One, Blocks: 84}), newFile(format)
					_, _, d := begun(t, m)
					for i := range 4 {
						wantWrite(t, d, m, f, 256*i, "a")
						mustUse(t, d, m, 1+i%2)
					}
					mustUse(t, d, m, m.free()-free)
					if wantWrite(t, d, m, f, at, text(n)) {
						whole++
						wantWrite(t, d, m, f, at, text(n))
						wantDrop(t, d, m, f)
						continue
					}
					spaces++
				}
			}
		}
		if spaces < 40 || whole < 40 {
			t.Errorf("%d and %d", spaces, whole)
		}
	})
}

// The errors come in the order of the chapter, if several apply.
func TestOrderOfErrors(t *testing.T) {
	inFormats(t, func(t *testing.T, format int) {
		m := newModel(api.Crown{Format: api.Two, Blocks: 64})
		for m.free() > 0 {
			m.run(1)
		}
		m.image[42] = m.marks()
		_, _, d := begun(t, m)
		c, end := newCard(format, api.File), most(format)*128
		bad := cloned(c)
		if bad.Single = 70; format == api.Two {
			bad.Single, bad.Runs = 0, []api.Span{{At: 0, Start: 50, Len: 1}}
		}
		wantWriteError(t, d, bad, end, text(513), api.ErrArg)
		wantWriteError(t, d, bad, end, text(512), api.ErrCorrupt)
		wantWriteError(t, d, c, end-511, text(512), api.ErrLarge)
		wantWriteError(t, d, c, end-512, text(512), api.ErrSpace)
		wantWriteError(t, d, c, 0, "a", api.ErrSpace)
		wantCutError(t, d, bad, -1, api.ErrArg)
		wantCutError(t, d, bad, end+1, api.ErrCorrupt)
		wantCutError(t, d, c, end+1, api.ErrLarge)
		wantReadError(t, d, bad, 0, 4097, api.ErrArg)
		wantReadError(t, d, bad, 0, 4096, api.ErrCorrupt)
		wantCut(t, d, m, &file{card: c, m: make([]int, most(format))}, end)
		wantChanged(t, d)
	})
}

// A file that is cut to each size, and grows again.
func TestCutToEverySize(t *testing.T) {
	inFormats(t, func(t *testing.T, format int) {
		_, d, m, f := big(t, format)
		var sizes []int
		for size := 0; size < 9500; size += 43 {
			sizes = append(sizes, size)
		}
		for k := range 76 {
			sizes = append(sizes, 128*k, 128*k+1, 128*k+127)
		}
		for _, size := range sizes {
			was, disk := f.copied(), m.copied()
			wantCut(t, d, disk, was, size)
			wantCut(t, d, disk, was, size)
			for i := (size + 127) / 128; i < len(was.m); i++ {
				if was.m[i] != 0 {
					t.Fatalf("%d bytes: the map is %d", size, was.m)
				}
			}
			wantCut(t, d, disk, was, 9700)
			wantWrite(t, d, disk, was, max(0, size-1), "b")
			d.Undo()
		}
		wantFile(t, d, f)
	})
}

// Growing changes no block, and what it adds are holes.
func TestCutThatGrows(t *testing.T) {
	inFormats(t, func(t *testing.T, format int) {
		m, f := newModel(api.Crown{Format: api.One, Blocks: 64}), newFile(format)
		_, _, d := begun(t, m)
		for _, size := range []int{0, 1, 127, 128, 129, 5000, 9727, 9728, most(format)*128 - 1, most(format) * 128} {
			wantCut(t, d, m, f, size)
			wantChanged(t, d)
		}
		wantWrite(t, d, m, f, 4990, "a")
		mustCommit(t, d)
		wantCut(t, d, m, f, 4991)
		wantCut(t, d, m, f, 9000)
		wantChanged(t, d)
		if got := blocksIn(f.m); !slices.Equal(got, []int{51}) {
			t.Errorf("the map is %d", f.m)
		}
	})
}

// Cut frees the blocks of the contents before new lists are allocated.
func TestListsAfterCut(t *testing.T) {
	m, f := newModel(api.Crown{Format: api.One, Blocks: 100}), newFile(api.One)
	_, _, d := begun(t, m)
	for _, i := range []int{12, 4, 5} {
		wantWrite(t, d, m, f, 128*i, "a")
	}
	if !slices.Equal(f.lists, []int{52, 53, 55}) || f.m[12] != 51 {
		t.Errorf("the map is %d, the lists are %d", f.m, f.lists)
	}
	wantCut(t, d, m, f, 128*5)
	if !slices.Equal(f.lists, []int{51}) || f.m[4] != 54 {
		t.Errorf("the map is %d, the lists are %d", f.m, f.lists)
	}
}

func TestDrop(t *testing.T) {
	inFormats(t, func(t *testing.T, format int) {
		for _, c := range someCrowns {
			m, f, other := newModel(c, 55), newFile(format), newFile(format)
			free := m.free()
			_, _, d := begun(t, m)
			wantWrite(t, d, m, f, 0, "a")
			wantWrite(t, d, m, other, 100, text(200))
			wantWrite(t, d, m, f, 1530, text(140))
			wantDrop(t, d, m, f)
			wantDrop(t, d, m, f)
			wantFile(t, d, other)
			wantDrop(t, d, m, other)
			if m.free() != free {
				t.Errorf("%d blocks are free, not %d", m.free(), free)
			}
			if changed := d.Changed(); slices.Contains(changed, 42) || slices.Contains(changed, 55) {
				t.Errorf("changed are %d", changed)
			}
		}
	})
}

// Blocks names those of the contents in the order of the file, and then those of
// the lists.
func TestBlocks(t *testing.T) {
	_, _, d := begun(t, newModel(api.Crown{Format: api.One, Blocks: 100}))
	blocks := make([]int, 76)
	blocks[0], blocks[2], blocks[5], blocks[75], blocks[12] = 90, 80, 85, 60, 99
	for _, want := range []struct {
		format int
		blocks []int
	}{{api.One, []int{90, 80, 85, 99, 60, 51, 52, 53, 54}}, {api.Two, []int{90, 80, 85, 99, 60, 55}}} {
		// The size does not matter for what blocks a file has.
		for _, size := range []int{0, 300, 9728} {
			c := newCard(want.format, api.Dir)
			c.Size = size
			c, err := bodies.Keep(d, c, blocks)
			if err != api.OK {
				t.Fatal(err)
			}
			if got, err := bodies.Blocks(d, c); err != api.OK || !slices.Equal(got, want.blocks) {
				t.Errorf("%d, %d, not %d", got, err, want.blocks)
			}
			if size < 9728 {
				if _, err := bodies.Keep(d, c, nil); err != api.OK {
					t.Fatal(err)
				}
			}
		}
	}
}

// A directory's contents are read and written like those of a file.
func TestDirectories(t *testing.T) {
	inFormats(t, func(t *testing.T, format int) {
		_, _, d := begun(t, newModel(api.Crown{Format: api.One, Blocks: 64}))
		c := newCard(format, api.Dir)
		c.Links = 200
		c, err := bodies.Write(d, c, 100, text(300))
		if err != api.OK || c.Kind != api.Dir || c.Links != 200 || c.Size != 400 {
			t.Errorf("%v, %d", c, err)
		}
		if got := mustRead(t, d, c); got != zeros(100)+text(300) {
			t.Errorf("%q", got)
		}
		c, err = bodies.Cut(d, c, 110)
		if err != api.OK || c.Kind != api.Dir || c.Links != 200 || c.Size != 110 {
			t.Errorf("%v, %d", c, err)
		}
		c, err = bodies.Drop(d, c)
		if err != api.OK || c.Kind != api.Dir || c.Links != 200 || c.Size != 0 {
			t.Errorf("%v, %d", c, err)
		}
	})
}

// A file may have blocks and bytes beyond its end if it was not made by this
// layer. They do not become bytes of the file when it grows.
func TestBytesBeyondTheEnd(t *testing.T) {
	inFormats(t, func(t *testing.T, format int) {
		_, d, _, f := big(t, format)
		for _, size := range []int{0, 1, 210, 255, 256, 300, 384, 1250, 4001, 9001} {
			c := cloned(f.card)
			c.Size = size
			for _, more := range []int{1, 3, 100, 128, 300} {
				grown, err := bodies.Cut(d, c, size+more)
				if err != api.OK || mustRead(t, d, grown) != f.data[:size]+zeros(more) {
					t.Errorf("%d bytes, and %d: %v, %d", size, more, grown, err)
				}
				if m, _ := bodies.Map(d, grown); slices.ContainsFunc(m[(size+127)/128:], isSome) {
					t.Errorf("%d bytes, and %d: the map is %d", size, more, m)
				}
				d.Undo()
				grown, err = bodies.Write(d, c, size+more, "end")
				if err != api.OK || mustRead(t, d, grown) != f.data[:size]+zeros(more)+"end" {
					t.Errorf("%d bytes, and %d: %v, %d", size, more, grown, err)
				}
				// Those that are still beyond the end are not read later, either.
				grown, err = bodies.Cut(d, grown, 9700)
				if err != api.OK || mustRead(t, d, grown) != f.data[:size]+zeros(more)+"end"+zeros(9697-size-more) {
					t.Errorf("%d bytes, and %d: %v, %d", size, more, grown, err)
				}
				d.Undo()
			}
		}
	})
}

// A file has no blocks when it has been dropped, even if it had some beyond its
// end.
func TestBlocksBeyondTheEnd(t *testing.T) {
	inFormats(t, func(t *testing.T, format int) {
		_, d, m, f := big(t, format)
		for _, size := range []int{0, 1, 300, 9728} {
			c := cloned(f.card)
			c.Size = size
			for _, to := range []int{0, size} {
				got, err := bodies.Cut(d, c, to)
				if left, _ := bodies.Map(d, got); err != api.OK || got.Size != to || slices.ContainsFunc(left[(to+127)/128:], isSome) {
					t.Errorf("%d bytes, cut to %d: %v, %d", size, to, got, err)
				}
				d.Undo()
			}
			was, disk := f.copied(), m.copied()
			was.card.Size = size
			wantDrop(t, d, disk, was)
			d.Undo()
		}
	})
}

// Blocks that a file has, but that are not marked as used, cannot be freed: layer
// 13's Drop returns ErrCorrupt.
func TestBlocksThatAreNotMarked(t *testing.T) {
	inFormats(t, func(t *testing.T, format int) {
		_, d, m, f := big(t, format)
		wantMarks := m.marks()
		for _, block := range slices.Concat(blocksIn(f.m), f.lists) {
			m.used[block] = false
			mustUse(t, d, m, 0)
			if got := mustRead(t, d, f.card); got != f.data {
				t.Errorf("%q", got)
			}
			got, err := bodies.Drop(d, f.card)
			wantCardError(t, "Drop", got, err, api.ErrCorrupt)
			d.Undo()
			m.used[block] = true
		}
		if got, _ := d.Read(42); got != wantMarks {
			t.Errorf("the marks are %q", got)
		}
	})
}

// What is returned shares no memory with the card that was handed in, nor with
// what another call returns.
func TestMemory(t *testing.T) {
	inFormats(t, func(t *testing.T, format int) {
		_, d, m, f := big(t, format)
		for _, change := range []func(c api.Card) (api.Card, api.Errno){
			func(c api.Card) (api.Card, api.Errno) { return bodies.Write(d, c, 300, "") },
			func(c api.Card) (api.Card, api.Errno) { return bodies.Write(d, c, 300, "a") },
			func(c api.Card) (api.Card, api.Errno) { return bodies.Write(d, c, 0, "a") },
			func(c api.Card) (api.Card, api.Errno) { return bodies.Cut(d, c, 9728) },
			func(c api.Card) (api.Card, api.Errno) { return bodies.Cut(d, c, 9499) },
			func(c api.Card) (api.Card, api.Errno) { return bodies.Cut(d, c, 1000) },
			func(c api.Card) (api.Card, api.Errno) { return bodies.Drop(d, c) },
		} {
			c := cloned(f.card)
			got, err := change(c)
			if err != api.OK || !sameCard(c, f.card) {
				t.Errorf("%v became %v, %d", f.card, c, err)
			}
			clear(got.Ptrs[:cap(got.Ptrs)])
			clear(got.Runs[:cap(got.Runs)])
			if !sameCard(c, f.card) {
				t.Errorf("%v became %v", f.card, c)
			}
			d.Undo()
		}
		for range 2 {
			loaded, _ := bodies.Map(d, f.card)
			blocks, _ := bodies.Blocks(d, f.card)
			clear(loaded[:cap(loaded)])
			clear(blocks[:cap(blocks)])
			wantFile(t, d, f)
		}
		wantDisk(t, d, m)
	})
}

// What a deal writes to a file belongs to it until it is committed.
func TestBodiesBelongToTheDeal(t *testing.T) {
	inFormats(t, func(t *testing.T, format int) {
		m, f := newModel(api.Crown{Format: api.One, Blocks: 64}), newFile(format)
		before, empty := m.copied(), f.copied()
		s, l, d := begun(t, m)
		other := mustBegin(t, l)
		s.Stop(0)
		wantWrite(t, d, m, f, 1000, text(500))
		wantDisk(t, other, before)
		d.Undo()
		wantDisk(t, d, before)
		m, f = before, empty
		wantWrite(t, d, m, f, 500, text(500))
		wantCut(t, d, m, f, 900)
		if s.Calls() != 0 {
			t.Errorf("%d calls of the slab", s.Calls())
		}
		s.Stop(math.MaxInt)
		mustCommit(t, d)
		wantFile(t, other, f)
		wantDrop(t, other, m, f)
	})
}

// state is a disk and its files.
type state struct {
	m     *model
	files []*file
}

func (s state) copied() state {
	c := state{m: s.m.copied()}
	for _, f := range s.files {
		c.files = append(c.files, f.copied())
	}
	return c
}

// change makes a random change of one of the files, and returns whether it
// succeeds.
func (s state) change(t *testing.T, r *rand.Rand, d *deal.Deal) bool {
	t.Helper()
	f := s.files[r.Intn(len(s.files))]
	end := most(f.card.Format) * 128
	near := min(f.card.Size+r.Intn(300), end)
	switch r.Intn(8) {
	case 0:
		wantDrop(t, d, s.m, f)
	case 1:
		return wantCut(t, d, s.m, f, r.Intn(near+1))
	case 2:
		return wantCut(t, d, s.m, f, near)
	case 3:
		n := r.Intn(513)
		return wantWrite(t, d, s.m, f, r.Intn(end-n+1), text(n))
	default:
		n := r.Intn(min(512, near) + 1)
		return wantWrite(t, d, s.m, f, r.Intn(near-n+1), text(n))
	}
	return true
}

// Several files of both formats on one disk compete for its blocks.
func TestRandomCalls(t *testing.T) {
	r := rand.New(rand.NewSource(16))
	failed := 0
	for range 40 {
		m := newModel(someCrowns[r.Intn(len(someCrowns))])
		for block := 51; block < m.crown.Blocks; block++ {
			m.used[block] = r.Intn(3) == 0
		}
		m.image[42] = m.marks()
		now := state{m, []*file{newFile(api.One), newFile(api.Two), newFile(api.One), newFile(api.Two)}}
		kept := now.copied()
		_, _, d := begun(t, m)
		for range 100 {
			if !now.change(t, r, d) {
				failed++
				d.Undo()
				now = kept.copied()
			}
			for _, f := range now.files {
				wantFile(t, d, f)
			}
			if len(d.Changed()) > 15 {
				mustCommit(t, d)
				kept = now.copied()
			}
		}
	}
	if failed < 100 || failed > 2000 {
		t.Errorf("%d calls had no room", failed)
	}
}
