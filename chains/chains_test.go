package chains_test

import (
	"math"
	"math/rand"
	"slices"
	"strconv"
	"strings"
	"testing"

	"wainwright/api"
	"wainwright/chains"
	"wainwright/crown"
	"wainwright/deal"
	"wainwright/ladder"
	"wainwright/log"
	"wainwright/slab"
	"wainwright/stock"
)

// someCrowns are crowns of every format, at the bounds and between them.
var someCrowns = []api.Crown{
	{Format: api.One, Blocks: 64},
	{Format: api.Two, Blocks: 65},
	{Format: api.Up, Blocks: 71, Cursor: 7},
	{Format: api.Down, Blocks: 256, Cursor: 32},
	{Format: api.Up, Blocks: 257},
	{Format: api.One, Blocks: 400},
}

// outOfRange are numbers that no pointer has, some of them equal to block 60 in
// their lowest bytes.
var outOfRange = []int{math.MinInt, -1 << 40, -65536 + 60, -256 + 60, -60, -1, 65536, 65536 + 60, 1<<32 + 60, math.MaxInt}

// notOwned are pointers to blocks that files cannot own on a disk of this many.
func notOwned(blocks int) []int {
	return []int{1, 41, 42, 43, 50, blocks, blocks + 1, 401, 1023, 1024, 256*256 - 256 + 60, 65535}
}

func padded(s string) string { return s + strings.Repeat("\x00", api.Block-len(s)) }

// listBlock returns what the chapter of layer 5 says of the block of a list.
func listBlock(l ...int) string {
	var bytes []byte
	for _, pointer := range l {
		bytes = append(bytes, byte(pointer), byte(pointer/256))
	}
	return padded(string(bytes))
}

// mapOf returns a map of 76 blocks with this one at index i.
func mapOf(i, block int) []int {
	m := make([]int, api.MaxOne)
	m[i] = block
	return m
}

func allZero(l []int) bool { return !slices.ContainsFunc(l, func(n int) bool { return n != 0 }) }

func newCard() api.Card {
	return api.Card{Format: api.One, Kind: api.File, Links: 1, Ptrs: make([]int, 4)}
}

func sameCard(a, b api.Card) bool {
	return a.Format == b.Format && a.Kind == b.Kind && a.Links == b.Links && a.Size == b.Size &&
		slices.Equal(a.Ptrs, b.Ptrs) && a.Single == b.Single && a.Double == b.Double &&
		slices.Equal(a.Runs, b.Runs) && a.Over == b.Over
}

// cloned returns a card that shares no memory with c.
func cloned(c api.Card) api.Card {
	c.Ptrs, c.Runs = slices.Clone(c.Ptrs), slices.Clone(c.Runs)
	return c
}

// model is what the chapters say of a disk: its blocks, and which of them are
// used.
type model struct {
	crown api.Crown
	image []string
	used  map[int]bool
}

// newModel returns a disk on which only these blocks of files are used. The
// slab has more blocks than the disk. Blocks that files cannot own have lists,
// so that only their numbers are wrong.
func newModel(c api.Crown, used ...int) *model {
	m := &model{crown: c, image: make([]string, c.Blocks+3), used: map[int]bool{}}
	for i := range m.image {
		m.image[i] = padded("old" + strconv.Itoa(i))
		if i < 51 || i >= c.Blocks {
			m.image[i] = listBlock(60, 0, 0, 0, 0, 0, 0, 0)
		}
	}
	m.image[0], _ = crown.Write(c)
	m.image[1] = padded("")
	for _, block := range used {
		m.used[block] = true
	}
	m.mark()
	return m
}

// mark makes the marks of the image those of used.
func (m *model) mark() {
	bytes := []byte(crown.Marks(m.crown.Blocks))
	for block, used := range m.used {
		if used {
			bytes[block/8] |= 1 << (block % 8)
		}
	}
	m.image[42] = string(bytes)
}

func (m *model) free() int {
	count := 0
	for block := 51; block < m.crown.Blocks; block++ {
		if !m.used[block] {
			count++
		}
	}
	return count
}

// take returns the first free block, which then has this list.
func (m *model) take() int {
	block := 51
	for m.used[block] {
		block++
	}
	m.used[block] = true
	return block
}

// file is a card and what the chapter says of it.
type file struct {
	card  api.Card
	m     []int
	lists []int
}

func newFile() *file { return &file{card: newCard(), m: make([]int, api.MaxOne)} }

// needed returns how many lists a map of 76 blocks has.
func needed(full []int) int {
	count := 0
	if !allZero(full[4:12]) {
		count++
	}
	if !allZero(full[12:]) {
		count++
	}
	for first := 12; first < 76; first += 8 {
		if !allZero(full[first : first+8]) {
			count++
		}
	}
	return count
}

// save returns whether there is room for the map, and gives it to f.
func (m *model) save(f *file, pointers []int) bool {
	full := make([]int, api.MaxOne)
	copy(full, pointers)
	if m.free()+len(f.lists) < needed(full) {
		return false
	}
	for _, block := range f.lists {
		m.used[block] = false
	}
	f.m, f.lists = full, nil
	f.card.Ptrs = slices.Clone(full[:4])
	f.card.Single, f.card.Double = m.list(f, full[4:12]), 0
	if !allZero(full[12:]) {
		block := m.take()
		f.card.Double = block
		f.lists = append(f.lists, block)
		double := make([]int, 8)
		for k := range double {
			double[k] = m.list(f, full[12+8*k:20+8*k])
		}
		m.image[block] = listBlock(double...)
	}
	m.mark()
	return true
}

// list stores a list of f, unless it is absent.
func (m *model) list(f *file, l []int) int {
	if allZero(l) {
		return 0
	}
	block := m.take()
	f.lists = append(f.lists, block)
	m.image[block] = listBlock(l...)
	return block
}

// begun returns the slab of a model, its log and a deal of it.
func begun(t *testing.T, m *model) (*slab.Slab, *log.Log, *deal.Deal) {
	t.Helper()
	s := slab.Load(m.image)
	l, err := log.Open(s)
	if err != api.OK {
		t.Fatalf("Open: %d", err)
	}
	return s, l, mustBegin(t, l)
}

func mustBegin(t *testing.T, l *log.Log) *deal.Deal {
	t.Helper()
	d, err := deal.Begin(l)
	if err != api.OK || d == nil {
		t.Fatalf("Begin: %v, %d", d, err)
	}
	return d
}

func mustWrite(t *testing.T, d *deal.Deal, i int, data string) {
	t.Helper()
	if err := d.Write(i, data); err != api.OK {
		t.Fatalf("Write(%d, %q): %d", i, data, err)
	}
}

func wantLoad(t *testing.T, d *deal.Deal, c api.Card, m, lists []int) {
	t.Helper()
	if got, err := chains.Load(d, c); err != api.OK || !slices.Equal(got, m) {
		t.Errorf("Load(%v): %d, %d, not %d", c, got, err, m)
	}
	if got, err := chains.Lists(d, c); err != api.OK || !slices.Equal(got, lists) {
		t.Errorf("Lists(%v): %d, %d, not %d", c, got, err, lists)
	}
}

// wantSave saves a map and wants what the model says.
func wantSave(t *testing.T, d *deal.Deal, m *model, f *file, pointers []int) {
	t.Helper()
	before := cloned(f.card)
	want := api.OK
	if !m.save(f, pointers) {
		want = api.ErrSpace
	}
	got, err := chains.Save(d, before, pointers)
	if err != want || err == api.OK && !sameCard(got, f.card) || err != api.OK && !sameCard(got, api.Card{}) {
		t.Errorf("Save(%v, %d): %v, %d, not %v, %d", before, pointers, got, err, f.card, want)
	}
	wantFile(t, d, m, f)
}

// wantDrop drops a file and wants what the model says of an empty map.
func wantDrop(t *testing.T, d *deal.Deal, m *model, f *file) {
	t.Helper()
	before := cloned(f.card)
	m.save(f, nil)
	if got, err := chains.Drop(d, before); err != api.OK || !sameCard(got, f.card) {
		t.Errorf("Drop(%v): %v, %d, not %v", before, got, err, f.card)
	}
	wantFile(t, d, m, f)
}

func wantFile(t *testing.T, d *deal.Deal, m *model, f *file) {
	t.Helper()
	wantLoad(t, d, f.card, f.m, f.lists)
	wantModel(t, d, m)
}

// wantModel wants that a deal reads all blocks outside of the log as the model.
func wantModel(t *testing.T, d *deal.Deal, m *model) {
	t.Helper()
	for i, want := range m.image {
		if i >= 1 && i <= 41 {
			continue
		}
		if got, err := d.Read(i); got != want || err != api.OK {
			t.Fatalf("block %d: %q, %d, not %q", i, got, err, want)
		}
	}
	if free, err := stock.Free(d); free != m.free() || err != api.OK {
		t.Fatalf("%d blocks are free, %d, not %d", free, err, m.free())
	}
}

func wantChanged(t *testing.T, d *deal.Deal, want ...int) {
	t.Helper()
	if got := d.Changed(); !slices.Equal(got, want) {
		t.Errorf("changed are %d, not %d", got, want)
	}
}

// wantSaveError wants an error of Save, and nothing with it.
func wantSaveError(t *testing.T, d *deal.Deal, c api.Card, m []int, want api.Errno) {
	t.Helper()
	if got, err := chains.Save(d, c, m); err != want || !sameCard(got, api.Card{}) {
		t.Errorf("Save(%v, %d): %v, %d, not %d", c, m, got, err, want)
	}
}

// wantErrors wants of a card that every function returns want, whatever the map
// is that is saved.
func wantErrors(t *testing.T, d *deal.Deal, c api.Card, want api.Errno) {
	t.Helper()
	if got, err := chains.Load(d, c); err != want || len(got) != 0 {
		t.Errorf("Load(%v): %d, %d, not %d", c, got, err, want)
	}
	if got, err := chains.Lists(d, c); err != want || len(got) != 0 {
		t.Errorf("Lists(%v): %d, %d, not %d", c, got, err, want)
	}
	for _, m := range [][]int{nil, {60}, mapOf(75, 60), {1}, {-1}, {65536}, slices.Repeat([]int{60}, 77)} {
		wantSaveError(t, d, c, m, want)
	}
	if got, err := chains.Drop(d, c); err != want || !sameCard(got, api.Card{}) {
		t.Errorf("Drop(%v): %v, %d, not %d", c, got, err, want)
	}
}

func TestExampleOfTheChapter(t *testing.T) {
	_, _, d := begun(t, newModel(api.Crown{Format: api.One, Blocks: 64}))
	c, err := chains.Save(d, newCard(), []int{60, 0, 61, 0, 0, 62})
	if err != api.OK || !slices.Equal(c.Ptrs, []int{60, 0, 61, 0}) || c.Single != 51 || c.Double != 0 {
		t.Errorf("%v, %d", c, err)
	}
	if data, _ := d.Read(51); data != listBlock(0, 62, 0, 0, 0, 0, 0, 0) {
		t.Errorf("%q", data)
	}
	wantChanged(t, d, 42, 51)
}

func TestOrderOfAllocation(t *testing.T) {
	m := newModel(api.Crown{Format: api.One, Blocks: 100}, 52, 54, 55, 58)
	_, _, d := begun(t, m)
	pointers := make([]int, 76)
	pointers[0], pointers[11], pointers[12], pointers[27], pointers[75] = 90, 91, 92, 93, 94
	c, err := chains.Save(d, newCard(), pointers)
	want := newCard()
	want.Ptrs[0], want.Single, want.Double = 90, 51, 53
	if err != api.OK || !sameCard(c, want) {
		t.Errorf("%v, %d", c, err)
	}
	for block, l := range map[int][]int{
		51: {0, 0, 0, 0, 0, 0, 0, 91}, 53: {56, 57, 0, 0, 0, 0, 0, 59},
		56: {92, 0, 0, 0, 0, 0, 0, 0}, 57: {0, 0, 0, 0, 0, 0, 0, 93}, 59: {0, 0, 0, 0, 0, 0, 0, 94},
	} {
		if data, _ := d.Read(block); data != listBlock(l...) {
			t.Errorf("block %d: %q", block, data)
		}
	}
	wantLoad(t, d, c, pointers, []int{51, 53, 56, 57, 59})
	wantChanged(t, d, 42, 51, 53, 56, 57, 59)
}

// Each block is at one place, and maps of any length mean the same as maps of
// 76 blocks.
func TestEveryElement(t *testing.T) {
	for _, c := range someCrowns {
		for i := range 76 {
			for _, block := range []int{51, 60, c.Blocks - 1} {
				for _, pointers := range [][]int{mapOf(i, block), mapOf(i, block)[:i+1], append(mapOf(i, block), make([]int, 100)...)} {
					m, f := newModel(c), newFile()
					_, _, d := begun(t, m)
					wantSave(t, d, m, f, pointers)
					wantDrop(t, d, m, f)
				}
			}
		}
	}
}

// The lists that are present occupy as many blocks as layer 5 says; all choices
// of them are tried.
func TestEveryChoiceOfLists(t *testing.T) {
	c := api.Crown{Format: api.One, Blocks: 90}
	for choice := range 1 << 9 {
		pointers := make([]int, 76)
		count := 0
		for k := range 9 {
			if choice>>k&1 == 1 {
				pointers[4+8*k+(choice+k)%8] = 70 + k
				count++
			}
		}
		if choice > 1 {
			count++
		}
		m, f := newModel(c, 53, 57), newFile()
		_, _, d := begun(t, m)
		wantSave(t, d, m, f, pointers)
		r, err := ladder.Of(pointers)
		if err != api.OK || len(f.lists) != count || ladder.Blocks(r) != count || m.free() != 37-count {
			t.Errorf("choice %d: %d lists and %d, not %d; %d blocks are free", choice, len(f.lists), ladder.Blocks(r), count, m.free())
		}
		wantDrop(t, d, m, f)
		if m.free() != 37 || f.card.Single != 0 || f.card.Double != 0 || !allZero(f.card.Ptrs) {
			t.Errorf("choice %d: %v", choice, f.card)
		}
	}
}

func TestEmptyMaps(t *testing.T) {
	m, f := newModel(api.Crown{Format: api.One, Blocks: 64}), newFile()
	_, _, d := begun(t, m)
	for _, empty := range [][]int{nil, {}, {0}, make([]int, 76), make([]int, 77), make([]int, 70000)} {
		wantSave(t, d, m, f, slices.Repeat([]int{60}, 76))
		wantSave(t, d, m, f, empty)
	}
	wantDrop(t, d, m, f)
	wantDrop(t, d, m, f)
}

// The blocks of the old lists are free before the new ones are allocated.
func TestOldListsAreReplaced(t *testing.T) {
	m, f := newModel(api.Crown{Format: api.One, Blocks: 100}, 53), newFile()
	_, _, d := begun(t, m)
	wantSave(t, d, m, f, mapOf(4, 80))
	for _, i := range []int{4, 5, 12, 0, 75, 12, 4} {
		wantSave(t, d, m, f, mapOf(i, 81))
		wantSave(t, d, m, f, mapOf(i, 81))
	}
	wantSave(t, d, m, f, slices.Repeat([]int{82}, 76))
	if !slices.Equal(f.lists, []int{51, 52, 54, 55, 56, 57, 58, 59, 60, 61}) {
		t.Errorf("lists are %d", f.lists)
	}
	wantDrop(t, d, m, f)
}

// Save has no errors for want of room as long as the old lists and the free
// blocks are as many as the new lists.
func TestRoom(t *testing.T) {
	for old := range 11 {
		for free := range 12 {
			for count := range 11 {
				m, f := newModel(api.Crown{Format: api.One, Blocks: 75}), newFile()
				m.save(f, withLists(old))
				for block := 51 + old; block < 75-free; block++ {
					m.used[block] = true
				}
				m.mark()
				_, _, d := begun(t, m)
				wantSave(t, d, m, f, withLists(count))
				want := count
				if free+old < count {
					want = old
				}
				if len(f.lists) != want {
					t.Errorf("%d lists of old, %d free, %d needed: %v", old, free, count, f.card)
				}
			}
		}
	}
}

// withLists returns a map with this many lists, 0 to 10. Double and its first
// list are needed together, so two lists are these, and three are Single, too.
func withLists(count int) []int {
	if count == 2 {
		return mapOf(75, 74)
	}
	m := make([]int, 76)
	if count > 0 {
		m[4] = 74
	}
	for k := range max(0, count-2) {
		m[12+8*k] = 74
	}
	return m
}

func TestOtherFieldsAreKept(t *testing.T) {
	m := newModel(api.Crown{Format: api.One, Blocks: 64})
	_, _, d := begun(t, m)
	for _, c := range []api.Card{
		{Format: api.One, Kind: api.File, Links: 1, Size: 0}, {Format: api.One, Kind: api.Dir, Links: 1, Size: 9728},
		{Format: api.One, Kind: api.File, Links: 200, Size: 1}, {Format: api.One, Kind: api.Dir, Links: 7, Size: 128, Runs: []api.Span{}},
	} {
		c.Ptrs = []int{51, 0, 63, 0}
		f := &file{card: c, m: append([]int{51, 0, 63, 0}, make([]int, 72)...)}
		wantFile(t, d, m, f)
		wantSave(t, d, m, f, mapOf(30, 60))
		wantDrop(t, d, m, f)
	}
}

// wired returns a disk of 100 blocks with a card that has every list, at the
// greatest blocks and in no order, and its map.
func wired() (*model, *file) {
	m, f := newModel(api.Crown{Format: api.Up, Blocks: 100, Cursor: 3}), newFile()
	f.lists = []int{99, 60, 77, 76, 90, 98, 62, 70, 61, 80}
	for i := range f.m {
		f.m[i] = 51 + i%9
	}
	f.m[1], f.m[75] = 0, 99
	copy(f.card.Ptrs, f.m)
	f.card.Single, f.card.Double = f.lists[0], f.lists[1]
	m.image[99] = listBlock(f.m[4:12]...)
	m.image[60] = listBlock(f.lists[2:]...)
	for k, block := range f.lists[2:] {
		m.image[block] = listBlock(f.m[12+8*k : 20+8*k]...)
	}
	for _, block := range f.lists {
		m.used[block] = true
	}
	m.mark()
	return m, f
}

func TestListsAnywhere(t *testing.T) {
	m, f := wired()
	_, _, d := begun(t, m)
	wantFile(t, d, m, f)
	wantSave(t, d, m, f, f.m)
	if !slices.Equal(f.lists, []int{51, 52, 53, 54, 55, 56, 57, 58, 59, 60}) {
		t.Errorf("lists are %d", f.lists)
	}
	m, f = wired()
	_, _, d = begun(t, m)
	wantDrop(t, d, m, f)
	wantChanged(t, d, 42)
}

// Any of the lists of Double may be absent, but not all of them.
func TestListsOfDouble(t *testing.T) {
	for choice := range 1 << 8 {
		m, f := wired()
		double := slices.Clone(f.lists[2:])
		f.lists = f.lists[:2]
		for k := range double {
			if choice>>k&1 == 0 {
				copy(f.m[12+8*k:], make([]int, 8))
				m.used[double[k]], double[k] = false, 0
			} else {
				f.lists = append(f.lists, double[k])
			}
		}
		m.image[60] = listBlock(double...)
		m.mark()
		_, _, d := begun(t, m)
		if choice == 0 {
			wantErrors(t, d, f.card, api.ErrCorrupt)
			continue
		}
		wantFile(t, d, m, f)
		wantDrop(t, d, m, f)
	}
}

// Nothing forbids that a block holds several lists, or a list of itself.
func TestListsThatShareABlock(t *testing.T) {
	c := newCard()
	c.Single, c.Double = 60, 60
	m := newModel(api.Crown{Format: api.One, Blocks: 64}, 60, 61)
	m.image[60] = listBlock(60, 0, 61, 60, 0, 0, 0, 0)
	m.image[61] = listBlock(0, 0, 0, 0, 0, 0, 0, 62)
	_, _, d := begun(t, m)
	want := make([]int, 76)
	for _, first := range []int{4, 12, 36} {
		copy(want[first:], []int{60, 0, 61, 60})
	}
	want[35] = 62
	wantLoad(t, d, c, want, []int{60, 60, 60, 61, 60})
	wantChanged(t, d)
	got, err := chains.Drop(d, c)
	if err != api.OK || !sameCard(got, newCard()) {
		t.Errorf("Drop: %v, %d", got, err)
	}
	m.used[60], m.used[61] = false, false
	m.mark()
	wantModel(t, d, m)
}

// A block that holds several lists is one block when it comes to room.
func TestRoomOfASharedBlock(t *testing.T) {
	c := newCard()
	c.Single, c.Double = 60, 61
	m := newModel(api.Crown{Format: api.One, Blocks: 64}, 51, 52, 53, 54, 55, 56, 57, 58, 59, 60, 61, 62, 63)
	m.image[60] = listBlock(63, 0, 0, 0, 0, 0, 0, 0)
	m.image[61] = listBlock(60, 0, 61, 60, 0, 0, 0, 0)
	_, _, d := begun(t, m)
	if got, err := chains.Lists(d, c); err != api.OK || !slices.Equal(got, []int{60, 61, 60, 61, 60}) {
		t.Errorf("Lists: %d, %d", got, err)
	}
	three := mapOf(12, 63)
	three[4] = 63
	wantSaveError(t, d, c, three, api.ErrSpace)
	wantChanged(t, d)
	wantModel(t, d, m)
	if got, err := chains.Save(d, c, mapOf(12, 63)); err != api.OK || got.Single != 0 || got.Double != 60 {
		t.Errorf("Save: %v, %d", got, err)
	}
}

// Every pointer is 0 or a block that files can own.
func TestPointersToOtherBlocks(t *testing.T) {
	for _, bad := range notOwned(100) {
		for _, change := range []func(c *api.Card){
			func(c *api.Card) { c.Ptrs[0] = bad }, func(c *api.Card) { c.Ptrs[1] = bad },
			func(c *api.Card) { c.Ptrs[2] = bad }, func(c *api.Card) { c.Ptrs[3] = bad },
			func(c *api.Card) { c.Single = bad }, func(c *api.Card) { c.Double = bad },
		} {
			m, f := wired()
			change(&f.card)
			wantCorrupt(t, m, f.card)
		}
		for n := range 80 {
			m, f := wired()
			block, at := f.lists[n/8], 2*(n%8)
			data := m.image[block]
			m.image[block] = data[:at] + string([]byte{byte(bad), byte(bad / 256)}) + data[at+2:]
			wantCorrupt(t, m, f.card)
		}
	}
}

// wantCorrupt wants ErrCorrupt for a card, and that nothing changes.
func wantCorrupt(t *testing.T, m *model, c api.Card) {
	t.Helper()
	_, _, d := begun(t, m)
	wantErrors(t, d, c, api.ErrCorrupt)
	wantChanged(t, d)
	wantModel(t, d, m)
}

// The crown says which blocks files can own, not the slab.
func TestBlocksOfTheCrown(t *testing.T) {
	for blocks := 64; blocks <= 103; blocks++ {
		m, f := wired()
		m.image[0], _ = crown.Write(api.Crown{Format: api.Two, Blocks: blocks})
		_, _, d := begun(t, m)
		if blocks < 100 {
			wantErrors(t, d, f.card, api.ErrCorrupt)
			wantSaveError(t, d, newCard(), []int{blocks}, api.ErrCorrupt)
		} else {
			wantLoad(t, d, f.card, f.m, f.lists)
		}
		wantChanged(t, d)
	}
}

// The block of a list has nothing behind the list, and a list has pointers.
func TestBlocksThatAreNoLists(t *testing.T) {
	_, f := wired()
	for _, block := range f.lists {
		for i := 16; i < api.Block; i++ {
			m, f := wired()
			m.image[block] = m.image[block][:i] + "\x01" + m.image[block][i+1:]
			wantCorrupt(t, m, f.card)
		}
		for _, data := range []string{padded(""), padded("old60"), strings.Repeat("\x00", 127) + "\x80", strings.Repeat("\xff", 128)} {
			m, f := wired()
			m.image[block] = data
			wantCorrupt(t, m, f.card)
		}
	}
}

// A list has no pointers only if all of them are 0.
func TestListsWithOnePointer(t *testing.T) {
	_, f := wired()
	for _, block := range f.lists[2:] {
		for k := range 8 {
			m, f := wired()
			l := make([]int, 8)
			l[k] = 64
			m.image[block] = listBlock(l...)
			copy(f.m[12+8*slices.Index(f.lists[2:], block):], l)
			_, _, d := begun(t, m)
			wantFile(t, d, m, f)
		}
	}
	for k := range 8 {
		m, f := wired()
		l := make([]int, 8)
		l[k] = 64
		m.image[99] = listBlock(l...)
		copy(f.m[4:], l)
		_, _, d := begun(t, m)
		wantFile(t, d, m, f)
	}
}

// invalidCards are cards that have no map in format One.
func invalidCards() []api.Card {
	two := api.Card{Format: api.Two, Kind: api.File, Links: 1}
	runs := api.Card{Format: api.Two, Kind: api.Dir, Links: 1, Size: 128, Runs: []api.Span{{At: 0, Start: 60, Len: 1}}}
	// What its pointers lead to does not matter if the card itself is not valid.
	astray := api.Card{Format: api.One, Kind: api.File, Links: 0, Ptrs: []int{1, 50, 100, 65535}, Single: 50, Double: 51}
	wrong := []api.Card{{}, two, runs, astray}
	for _, change := range []func(c *api.Card){
		func(c *api.Card) { c.Format = 0 }, func(c *api.Card) { c.Format = api.Two }, func(c *api.Card) { c.Format = api.Up },
		func(c *api.Card) { c.Kind = api.Free }, func(c *api.Card) { c.Kind = 3 },
		func(c *api.Card) { c.Links = 0 }, func(c *api.Card) { c.Links = 201 },
		func(c *api.Card) { c.Size = -1 }, func(c *api.Card) { c.Size = 9729 },
		func(c *api.Card) { c.Ptrs = nil }, func(c *api.Card) { c.Ptrs = make([]int, 3) }, func(c *api.Card) { c.Ptrs = make([]int, 5) },
		func(c *api.Card) { c.Ptrs[2] = -1 }, func(c *api.Card) { c.Ptrs[3] = 65536 + 60 },
		func(c *api.Card) { c.Single = -1 }, func(c *api.Card) { c.Single = 65536 }, func(c *api.Card) { c.Double = math.MinInt }, func(c *api.Card) { c.Double = math.MaxInt },
		func(c *api.Card) { c.Over = 60 }, func(c *api.Card) { c.Runs = make([]api.Span, 1) },
	} {
		c := newCard()
		change(&c)
		wrong = append(wrong, c)
	}
	return wrong
}

func TestCardsThatAreNotOfFormatOne(t *testing.T) {
	m, _ := wired()
	_, _, d := begun(t, m)
	noCrown := newModel(m.crown)
	noCrown.image[0] = padded("")
	_, _, without := begun(t, noCrown)
	for _, c := range invalidCards() {
		wantErrors(t, d, c, api.ErrArg)
		wantErrors(t, without, c, api.ErrArg)
		wantErrors(t, nil, c, api.ErrArg)
	}
	wantChanged(t, d)
	wantModel(t, d, m)
}

func TestNoCrown(t *testing.T) {
	tooMany, _ := crown.Write(api.Crown{Format: api.One, Blocks: 104})
	whole, _ := crown.Write(api.Crown{Format: api.One, Blocks: 100})
	for _, block := range []string{padded(""), padded("wainwright"), tooMany, whole[:127] + "\x01"} {
		m, f := wired()
		m.image[0] = block
		_, _, d := begun(t, m)
		wantErrors(t, d, f.card, api.ErrCorrupt)
		wantErrors(t, d, newCard(), api.ErrCorrupt)
		wantChanged(t, d)
	}
	for _, c := range []api.Card{newCard(), {Format: api.One, Kind: api.File, Links: 1, Ptrs: []int{1, 2, 3, 4}, Single: 60}} {
		wantErrors(t, nil, c, api.ErrArg)
		wantErrors(t, new(deal.Deal), c, api.ErrCorrupt)
	}
}

func TestMapsThatAreTooLarge(t *testing.T) {
	m, f := wired()
	_, _, d := begun(t, m)
	for _, at := range []int{76, 77, 80, 119, 120, 256 + 3, 65536 + 3} {
		for _, last := range slices.Concat([]int{1, 60, 100, 65535}, outOfRange) {
			for _, first := range []int{0, 60, 1, 100, -1, 65536} {
				pointers := make([]int, at+1)
				pointers[0], pointers[at] = first, last
				wantSaveError(t, d, f.card, pointers, api.ErrLarge)
			}
		}
	}
	wantChanged(t, d)
	wantModel(t, d, m)
}

func TestMapsOfOtherBlocks(t *testing.T) {
	m, f := wired()
	_, _, d := begun(t, m)
	for i := range 76 {
		for _, n := range outOfRange {
			wantSaveError(t, d, f.card, mapOf(i, n), api.ErrRange)
			mixed := slices.Repeat([]int{1}, 76)
			mixed[i] = n
			wantSaveError(t, d, f.card, mixed, api.ErrRange)
		}
		for _, n := range notOwned(100) {
			wantSaveError(t, d, f.card, mapOf(i, n), api.ErrCorrupt)
			mixed := slices.Repeat([]int{60}, 76)
			mixed[i] = n
			wantSaveError(t, d, f.card, mixed, api.ErrCorrupt)
		}
	}
	wantChanged(t, d)
	wantModel(t, d, m)
}

// The errors of Save come in the order of the chapter, if several apply.
func TestOrderOfErrors(t *testing.T) {
	m := newModel(api.Crown{Format: api.One, Blocks: 64})
	for block := 51; block < 64; block++ {
		m.used[block] = true
	}
	m.mark()
	_, _, d := begun(t, m)
	pointers := slices.Repeat([]int{60}, 78)
	pointers[70], pointers[71] = 65536, 64
	bad := newCard()
	bad.Ptrs[0] = 64
	wantSaveError(t, nil, bad, pointers, api.ErrArg)
	wantSaveError(t, d, bad, pointers, api.ErrCorrupt)
	wantSaveError(t, d, newCard(), pointers, api.ErrLarge)
	pointers[76], pointers[77] = 0, 0
	wantSaveError(t, d, newCard(), pointers, api.ErrRange)
	pointers[70] = 60
	wantSaveError(t, d, newCard(), pointers, api.ErrCorrupt)
	pointers[71] = 60
	wantSaveError(t, d, newCard(), pointers, api.ErrSpace)
	wantChanged(t, d)
	wantModel(t, d, m)
	clear(pointers[4:])
	wantSave(t, d, m, newFile(), pointers)
	wantChanged(t, d)
}

// A call that fails has not written anything that a commit of someone else
// would reveal.
func TestErrorsWriteNothing(t *testing.T) {
	m := newModel(api.Crown{Format: api.One, Blocks: 64})
	for block := 51; block < 64; block++ {
		m.used[block] = true
	}
	f := newFile()
	f.card.Single, f.lists = 60, []int{60}
	f.m = mapOf(4, 61)
	m.image[60] = listBlock(61, 0, 0, 0, 0, 0, 0, 0)
	m.mark()
	_, l, d := begun(t, m)
	for pointers, want := range map[int]api.Errno{60: api.ErrSpace, 64: api.ErrCorrupt, 65536: api.ErrRange} {
		wantSaveError(t, d, f.card, mapOf(12, pointers), want)
	}
	wantSaveError(t, d, f.card, append(mapOf(0, 60), 60), api.ErrLarge)
	wantFile(t, d, m, f)
	other := mustBegin(t, l)
	m.used[55] = false
	m.mark()
	mustWrite(t, other, 42, m.image[42])
	for i := 51; i < 64; i++ {
		m.image[i] = padded("new" + strconv.Itoa(i))
	}
	m.image[60] = listBlock(0, 62, 0, 0, 0, 0, 0, 0)
	f.m = mapOf(5, 62)
	for i := 51; i < 64; i++ {
		mustWrite(t, other, i, m.image[i])
	}
	if err := other.Commit(); err != api.OK {
		t.Fatal(err)
	}
	wantFile(t, d, m, f)
	wantSave(t, d, m, f, mapOf(12, 61))
	if !slices.Equal(f.lists, []int{55, 60}) {
		t.Errorf("lists are %d", f.lists)
	}
}

// The chapter does not say what Save does if a list is in a free block: it
// returns ErrCorrupt, as layer 13 does. Were it to go on, it would count blocks
// as free twice.
func TestListsThatAreNotMarked(t *testing.T) {
	for k := range 10 {
		m, f := wired()
		for block := 51; block < 100; block++ {
			m.used[block] = block != f.lists[k]
		}
		m.mark()
		_, _, d := begun(t, m)
		wantFile(t, d, m, f)
		for _, pointers := range [][]int{nil, mapOf(4, 70), slices.Repeat([]int{70}, 76)} {
			wantSaveError(t, d, f.card, pointers, api.ErrCorrupt)
		}
		wantChanged(t, d)
		wantFile(t, d, m, f)
	}
}

// The blocks of a map are the caller's: neither their marks nor their contents
// change, whatever they are.
func TestBlocksOfTheMap(t *testing.T) {
	m, f := newModel(api.Crown{Format: api.One, Blocks: 64}, 51, 52, 53), newFile()
	_, _, d := begun(t, m)
	wantSave(t, d, m, f, []int{51, 51, 60, 61, 51, 61, 0, 54})
	wantSave(t, d, m, f, []int{0, 52, 62})
	wantSave(t, d, m, f, mapOf(20, 53))
	wantDrop(t, d, m, f)
	for _, block := range []int{51, 52, 53} {
		if used, err := stock.Used(d, block); !used || err != api.OK {
			t.Errorf("block %d: %t, %d", block, used, err)
		}
	}
	wantChanged(t, d, 54, 55)
}

func TestMemory(t *testing.T) {
	m, f := newModel(api.Crown{Format: api.One, Blocks: 64}), newFile()
	_, _, d := begun(t, m)
	runs := make([]api.Span, 1)
	c := newCard()
	c.Ptrs[0], c.Runs = 63, runs[:0]
	pointers := []int{60, 61, 62, 63, 60, 0, 0, 0, 0, 0, 0, 0, 61}
	m.save(f, pointers)
	saved, err := chains.Save(d, c, pointers)
	if err != api.OK || !slices.Equal(c.Ptrs, []int{63, 0, 0, 0}) || !slices.Equal(pointers, f.m[:13]) {
		t.Errorf("%v, %d, %d", c, pointers, err)
	}
	c.Ptrs[0], pointers[0], pointers[4] = 1, 2, 3
	if saved.Runs = append(saved.Runs, api.Span{Len: 1}); runs[0] != (api.Span{}) {
		t.Errorf("the runs became %v", runs)
	}
	saved.Runs = nil
	if !sameCard(saved, f.card) {
		t.Errorf("%v, not %v", saved, f.card)
	}
	wantFile(t, d, m, f)
	for range 2 {
		loaded, _ := chains.Load(d, saved)
		lists, _ := chains.Lists(d, saved)
		clear(loaded)
		clear(lists)
		wantLoad(t, d, saved, f.m, f.lists)
	}
	dropped, err := chains.Drop(d, saved)
	dropped.Ptrs[0] = 1
	if err != api.OK || saved.Ptrs[0] != 60 {
		t.Errorf("%v, %d", saved, err)
	}
}

// The lists belong to the deal until it is committed; then others read them.
func TestListsBelongToTheDeal(t *testing.T) {
	m, f := newModel(api.Crown{Format: api.One, Blocks: 64}), newFile()
	before := newModel(m.crown)
	s, l, d := begun(t, m)
	other := mustBegin(t, l)
	s.Stop(0)
	wantSave(t, d, m, f, slices.Repeat([]int{60}, 76))
	wantModel(t, other, before)
	if got, err := chains.Load(other, f.card); err != api.ErrCorrupt || len(got) != 0 {
		t.Errorf("Load: %d, %d", got, err)
	}
	d.Undo()
	wantModel(t, d, before)
	m, f = newModel(m.crown), newFile()
	wantSave(t, d, m, f, mapOf(70, 60))
	if s.Calls() != 0 {
		t.Errorf("%d calls of the slab", s.Calls())
	}
	s.Stop(math.MaxInt)
	if err := d.Commit(); err != api.OK {
		t.Fatal(err)
	}
	wantFile(t, other, m, f)
	wantDrop(t, other, m, f)
}

// randomMap returns a map of blocks that files can own, with more or fewer holes.
func randomMap(r *rand.Rand, blocks int) []int {
	m := make([]int, r.Intn(80))
	holes := 1 + r.Intn(60)
	for i := range m[:min(len(m), 76)] {
		if r.Intn(holes) == 0 {
			m[i] = 51 + r.Intn(blocks-51)
		}
	}
	return m
}

// Several files on one disk, whose lists compete for the blocks.
func TestRandomCalls(t *testing.T) {
	r := rand.New(rand.NewSource(14))
	for range 40 {
		c := someCrowns[r.Intn(len(someCrowns))]
		m := newModel(c)
		for block := 51; block < c.Blocks; block++ {
			m.used[block] = r.Intn(3) == 0
		}
		m.mark()
		_, l, d := begun(t, m)
		files := []*file{newFile(), newFile(), newFile()}
		for range 60 {
			f := files[r.Intn(len(files))]
			switch r.Intn(6) {
			case 0:
				wantDrop(t, d, m, f)
			case 1:
				if err := d.Commit(); err != api.OK {
					t.Fatal(err)
				}
				d = mustBegin(t, l)
			default:
				wantSave(t, d, m, f, randomMap(r, c.Blocks))
			}
			for _, f := range files {
				wantLoad(t, d, f.card, f.m, f.lists)
			}
			if t.Failed() {
				t.FailNow()
			}
		}
	}
}
