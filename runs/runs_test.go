package runs_test

import (
	"math"
	"math/rand"
	"slices"
	"strconv"
	"strings"
	"testing"

	"wainwright/api"
	"wainwright/crown"
	"wainwright/deal"
	"wainwright/log"
	"wainwright/runs"
	"wainwright/slab"
	"wainwright/stock"
)

// someCrowns are crowns of every format, at the bounds and between them.
var someCrowns = []api.Crown{
	{Format: api.Two, Blocks: 64},
	{Format: api.One, Blocks: 65},
	{Format: api.Up, Blocks: 71, Cursor: 7},
	{Format: api.Down, Blocks: 256, Cursor: 32},
	{Format: api.Up, Blocks: 257},
	{Format: api.Two, Blocks: 400},
}

// outOfRange are numbers that no block has, some of them equal to block 60 in
// their lowest bytes.
var outOfRange = []int{math.MinInt, -1 << 40, -65536 + 60, -256 + 60, -60, -1, 65536, 65536 + 60, 1<<32 + 60, math.MaxInt}

// notOwned are blocks that files cannot own on a disk of this many.
func notOwned(blocks int) []int {
	return []int{1, 41, 42, 43, 50, blocks, blocks + 1, 401, 1023, 1024, 256*256 - 256 + 60, 65535}
}

func padded(s string) string { return s + strings.Repeat("\x00", api.Block-len(s)) }

// twoBytes returns a number as layer 1 stores it in two bytes.
func twoBytes(n int) string { return string([]byte{byte(n), byte(n / 256)}) }

// runBlock returns what the chapter says of the bytes of a run block.
func runBlock(next int, l ...api.Span) string {
	s := string([]byte{byte(len(l))})
	for _, span := range l {
		s += twoBytes(span.At) + twoBytes(span.Start) + twoBytes(span.Len)
	}
	return padded(s)[:126] + twoBytes(next)
}

// replaced returns data with these bytes from at on.
func replaced(data string, at int, bytes string) string {
	return data[:at] + bytes + data[at+len(bytes):]
}

// spansOf returns the spans of a map of blocks that files can own.
func spansOf(m []int) []api.Span {
	var l []api.Span
	for i, block := range m {
		switch {
		case block == 0:
		case i > 0 && m[i-1] != 0 && block == m[i-1]+1:
			l[len(l)-1].Len++
		default:
			l = append(l, api.Span{At: i, Start: block, Len: 1})
		}
	}
	return l
}

// mapOf returns a map of 120 blocks with this one at index i.
func mapOf(i, block int) []int {
	m := make([]int, api.MaxTwo)
	m[i] = block
	return m
}

// withSpans returns a map of 120 blocks with this many spans, each of which has
// one block.
func withSpans(n int) []int {
	m := make([]int, api.MaxTwo)
	for i := range n {
		m[i] = 63 - i%2*2
	}
	return m
}

func newCard() api.Card {
	return api.Card{Format: api.Two, Kind: api.File, Links: 1}
}

func sameCard(a, b api.Card) bool {
	return a.Format == b.Format && a.Kind == b.Kind && a.Links == b.Links && a.Size == b.Size &&
		slices.Equal(a.Ptrs, b.Ptrs) && a.Single == b.Single && a.Double == b.Double &&
		slices.Equal(a.Runs, b.Runs) && a.Over == b.Over
}

// cloned returns a card that shares no memory with c.
func cloned(c api.Card) api.Card {
	c.Ptrs, c.Runs = slices.Clone(c.Ptrs), slices.Clone(c.Runs)
	return c
}

// model is what the chapters say of a disk: its blocks, and which of them are
// used.
type model struct {
	crown api.Crown
	image []string
	used  map[int]bool
}

// newModel returns a disk on which only these blocks of files are used. The
// slab has more blocks than the disk. Blocks that files cannot own are run
// blocks, so that only their numbers are wrong.
func newModel(c api.Crown, used ...int) *model {
	m := &model{crown: c, image: make([]string, c.Blocks+3), used: map[int]bool{}}
	for i := range m.image {
		m.image[i] = padded("old" + strconv.Itoa(i))
		if i < 51 || i >= c.Blocks {
			m.image[i] = runBlock(0, api.Span{At: 119, Start: 60, Len: 1})
		}
	}
	m.image[0], _ = crown.Write(c)
	m.image[1] = padded("")
	m.use(used...)
	return m
}

// use marks blocks as used.
func (m *model) use(blocks ...int) {
	for _, block := range blocks {
		m.used[block] = true
	}
	m.mark()
}

// mark makes the marks of the image those of used.
func (m *model) mark() {
	bytes := []byte(crown.Marks(m.crown.Blocks))
	for block, used := range m.used {
		if used {
			bytes[block/8] |= 1 << (block % 8)
		}
	}
	m.image[42] = string(bytes)
}

func (m *model) free() int {
	count := 0
	for block := 51; block < m.crown.Blocks; block++ {
		if !m.used[block] {
			count++
		}
	}
	return count
}

// take returns the first free block and marks it as used.
func (m *model) take() int {
	block := 51
	for m.used[block] {
		block++
	}
	m.used[block] = true
	return block
}

// file is a card and what the chapter says of it.
type file struct {
	card   api.Card
	m      []int
	blocks []int
}

func newFile() *file { return &file{card: newCard(), m: make([]int, api.MaxTwo)} }

// needed returns how many run blocks n spans need.
func needed(n int) int {
	count := 0
	for n > 3+20*count {
		count++
	}
	return count
}

// save returns whether there is room for the map, and gives it to f.
func (m *model) save(f *file, blocks []int) bool {
	full := make([]int, api.MaxTwo)
	copy(full, blocks)
	l := spansOf(full)
	count := needed(len(l))
	if m.free()+len(f.blocks) < count {
		return false
	}
	for _, block := range f.blocks {
		m.used[block] = false
	}
	f.m, f.blocks = full, nil
	for range count {
		f.blocks = append(f.blocks, m.take())
	}
	m.store(f, l)
	m.mark()
	return true
}

// store writes spans to the card and the run blocks of f.
func (m *model) store(f *file, l []api.Span) {
	f.card.Runs, f.card.Over = slices.Clone(l[:min(3, len(l))]), 0
	for k, block := range f.blocks {
		next := 0
		if k+1 < len(f.blocks) {
			next = f.blocks[k+1]
		}
		m.image[block] = runBlock(next, l[3+20*k:min(23+20*k, len(l))]...)
		f.card.Over = f.blocks[0]
	}
}

// number returns the number in two bytes of a block.
func (m *model) number(block, at int) int {
	return int(m.image[block][at]) + 256*int(m.image[block][at+1])
}

// owns reports whether files can own a block.
func (m *model) owns(block int) bool { return block >= 51 && block < m.crown.Blocks }

// meaning returns the map and the run blocks of a card whose own Runs are
// valid, or false if they are not as the chapter says.
func (m *model) meaning(c api.Card) ([]int, []int, bool) {
	l := slices.Clone(c.Runs)
	var blocks []int
	for next := c.Over; next != 0; next = m.number(next, 126) {
		if !m.owns(next) || len(l) > 120 {
			return nil, nil, false
		}
		count := int(m.image[next][0])
		if count < 1 || count > 20 || count < 20 && m.number(next, 126) != 0 {
			return nil, nil, false
		}
		if strings.Trim(m.image[next][1+6*count:126], "\x00") != "" {
			return nil, nil, false
		}
		for k := range count {
			l = append(l, api.Span{At: m.number(next, 1+6*k), Start: m.number(next, 3+6*k), Len: m.number(next, 5+6*k)})
		}
		blocks = append(blocks, next)
	}
	full, ok := m.mapOfSpans(l)
	return full, blocks, ok
}

// mapOfSpans returns the map of spans, or false if they are not as they must be.
func (m *model) mapOfSpans(l []api.Span) ([]int, bool) {
	full := make([]int, api.MaxTwo)
	end := 0
	for k, s := range l {
		if s.Len < 1 || s.At < end || s.At+s.Len > 120 || !m.owns(s.Start) || !m.owns(s.Start+s.Len-1) {
			return nil, false
		}
		if k > 0 && s.At == end && s.Start == l[k-1].Start+l[k-1].Len {
			return nil, false
		}
		for i := range s.Len {
			full[s.At+i] = s.Start + i
		}
		end = s.At + s.Len
	}
	return full, true
}

// begun returns the slab of a model, its log and a deal of it.
func begun(t *testing.T, m *model) (*slab.Slab, *log.Log, *deal.Deal) {
	t.Helper()
	s := slab.Load(m.image)
	l, err := log.Open(s)
	if err != api.OK {
		t.Fatalf("Open: %d", err)
	}
	return s, l, mustBegin(t, l)
}

func mustBegin(t *testing.T, l *log.Log) *deal.Deal {
	t.Helper()
	d, err := deal.Begin(l)
	if err != api.OK || d == nil {
		t.Fatalf("Begin: %v, %d", d, err)
	}
	return d
}

func mustWrite(t *testing.T, d *deal.Deal, i int, data string) {
	t.Helper()
	if err := d.Write(i, data); err != api.OK {
		t.Fatalf("Write(%d, %q): %d", i, data, err)
	}
}

func wantLoad(t *testing.T, d *deal.Deal, c api.Card, m, blocks []int) {
	t.Helper()
	if got, err := runs.Load(d, c); err != api.OK || !slices.Equal(got, m) {
		t.Errorf("Load(%v): %d, %d, not %d", c, got, err, m)
	}
	if got, err := runs.Lists(d, c); err != api.OK || !slices.Equal(got, blocks) {
		t.Errorf("Lists(%v): %d, %d, not %d", c, got, err, blocks)
	}
}

// wantSave saves a map and wants what the model says.
func wantSave(t *testing.T, d *deal.Deal, m *model, f *file, blocks []int) {
	t.Helper()
	before := cloned(f.card)
	want := api.OK
	if !m.save(f, blocks) {
		want = api.ErrSpace
	}
	got, err := runs.Save(d, before, blocks)
	if err != want || err == api.OK && !sameCard(got, f.card) || err != api.OK && !sameCard(got, api.Card{}) {
		t.Errorf("Save(%v, %d): %v, %d, not %v, %d", before, blocks, got, err, f.card, want)
	}
	wantFile(t, d, m, f)
}

// wantDrop drops a file and wants what the model says of an empty map.
func wantDrop(t *testing.T, d *deal.Deal, m *model, f *file) {
	t.Helper()
	before := cloned(f.card)
	m.save(f, nil)
	if got, err := runs.Drop(d, before); err != api.OK || !sameCard(got, f.card) {
		t.Errorf("Drop(%v): %v, %d, not %v", before, got, err, f.card)
	}
	wantFile(t, d, m, f)
}

func wantFile(t *testing.T, d *deal.Deal, m *model, f *file) {
	t.Helper()
	wantLoad(t, d, f.card, f.m, f.blocks)
	wantModel(t, d, m)
}

// wantModel wants that a deal reads all blocks outside of the log as the model.
func wantModel(t *testing.T, d *deal.Deal, m *model) {
	t.Helper()
	for i, want := range m.image {
		if i >= 1 && i <= 41 {
			continue
		}
		if got, err := d.Read(i); got != want || err != api.OK {
			t.Fatalf("block %d: %q, %d, not %q", i, got, err, want)
		}
	}
	if free, err := stock.Free(d); free != m.free() || err != api.OK {
		t.Fatalf("%d blocks are free, %d, not %d", free, err, m.free())
	}
}

func wantChanged(t *testing.T, d *deal.Deal, want ...int) {
	t.Helper()
	if got := d.Changed(); !slices.Equal(got, want) {
		t.Errorf("changed are %d, not %d", got, want)
	}
}

// wantSaveError wants an error of Save, and nothing with it.
func wantSaveError(t *testing.T, d *deal.Deal, c api.Card, m []int, want api.Errno) {
	t.Helper()
	if got, err := runs.Save(d, c, m); err != want || !sameCard(got, api.Card{}) {
		t.Errorf("Save(%v, %d): %v, %d, not %d", c, m, got, err, want)
	}
}

// wantErrors wants of a card that every function returns want, whatever the map
// is that is saved.
func wantErrors(t *testing.T, d *deal.Deal, c api.Card, want api.Errno) {
	t.Helper()
	if got, err := runs.Load(d, c); err != want || len(got) != 0 {
		t.Errorf("Load(%v): %d, %d, not %d", c, got, err, want)
	}
	if got, err := runs.Lists(d, c); err != want || len(got) != 0 {
		t.Errorf("Lists(%v): %d, %d, not %d", c, got, err, want)
	}
	for _, m := range [][]int{nil, {60}, mapOf(119, 60), {1}, {-1}, {65536}, slices.Repeat([]int{60}, 121)} {
		wantSaveError(t, d, c, m, want)
	}
	if got, err := runs.Drop(d, c); err != want || !sameCard(got, api.Card{}) {
		t.Errorf("Drop(%v): %v, %d, not %d", c, got, err, want)
	}
}

// wantCorrupt wants ErrCorrupt for a card, and that nothing changes.
func wantCorrupt(t *testing.T, m *model, c api.Card) {
	t.Helper()
	_, _, d := begun(t, m)
	wantErrors(t, d, c, api.ErrCorrupt)
	wantChanged(t, d)
	wantModel(t, d, m)
}

// wantMeaning wants of a card with valid Runs what the model says of it, and
// returns whether it has a map.
func wantMeaning(t *testing.T, m *model, c api.Card) bool {
	t.Helper()
	full, blocks, ok := m.meaning(c)
	if !ok {
		wantCorrupt(t, m, c)
		return false
	}
	_, _, d := begun(t, m)
	wantFile(t, d, m, &file{card: c, m: full, blocks: blocks})
	wantChanged(t, d)
	return true
}

func TestExampleOfTheChapter(t *testing.T) {
	_, _, d := begun(t, newModel(api.Crown{Format: api.Two, Blocks: 100}))
	c, err := runs.Save(d, newCard(), []int{60, 61, 0, 70, 0, 80, 0, 90})
	want := newCard()
	want.Runs, want.Over = []api.Span{{At: 0, Start: 60, Len: 2}, {At: 3, Start: 70, Len: 1}, {At: 5, Start: 80, Len: 1}}, 51
	if err != api.OK || !sameCard(c, want) {
		t.Errorf("%v, %d", c, err)
	}
	if data, _ := d.Read(51); data != padded("\x01\x07\x00\x5a\x00\x01\x00") {
		t.Errorf("%q", data)
	}
	wantChanged(t, d, 42, 51)
}

// Two run blocks, byte by byte.
func TestBytesOfRunBlocks(t *testing.T) {
	_, _, d := begun(t, newModel(api.Crown{Format: api.Two, Blocks: 400}, 51, 53))
	m := make([]int, 120)
	for k := range 24 {
		m[4*k], m[4*k+1] = 390-2*k, 391-2*k
	}
	c, err := runs.Save(d, newCard(), m)
	if err != api.OK || c.Over != 52 || !slices.Equal(c.Runs, []api.Span{{At: 0, Start: 390, Len: 2}, {At: 4, Start: 388, Len: 2}, {At: 8, Start: 386, Len: 2}}) {
		t.Errorf("%v, %d", c, err)
	}
	first := "\x14"
	for k := 3; k < 23; k++ {
		first += string([]byte{byte(4 * k), 0, byte(390 - 2*k - 256), 1, 2, 0})
	}
	first += "\x00\x00\x00\x00\x00\x36\x00"
	if data, _ := d.Read(52); data != first {
		t.Errorf("%q, not %q", data, first)
	}
	if data, _ := d.Read(54); data != padded("\x01\x5c\x00\x58\x01\x02\x00") {
		t.Errorf("%q", data)
	}
	wantLoad(t, d, c, m, []int{52, 54})
	wantChanged(t, d, 42, 52, 54)
}

func TestOrderOfAllocation(t *testing.T) {
	m, f := newModel(api.Crown{Format: api.One, Blocks: 100}, 52, 54, 55, 58), newFile()
	_, _, d := begun(t, m)
	wantSave(t, d, m, f, withSpans(120))
	if !slices.Equal(f.blocks, []int{51, 53, 56, 57, 59, 60}) {
		t.Errorf("run blocks are %d", f.blocks)
	}
	wantChanged(t, d, 42, 51, 53, 56, 57, 59, 60)
}

// Each block is at one place, and maps of any length mean the same as maps of
// 120 blocks.
func TestEveryElement(t *testing.T) {
	for _, c := range someCrowns {
		for i := range 120 {
			for _, block := range []int{51, c.Blocks - 1} {
				for _, blocks := range [][]int{mapOf(i, block), mapOf(i, block)[:i+1], append(mapOf(i, block), make([]int, 100)...)} {
					m, f := newModel(c), newFile()
					_, _, d := begun(t, m)
					wantSave(t, d, m, f, blocks)
					wantDrop(t, d, m, f)
				}
			}
		}
	}
}

// How many run blocks the spans of a map need, and that they are free after Drop.
func TestEveryNumberOfSpans(t *testing.T) {
	counts := map[int]int{
		0: 0, 1: 0, 2: 0, 3: 0, 4: 1, 22: 1, 23: 1, 24: 2, 43: 2, 44: 3, 63: 3, 64: 4, 83: 4, 84: 5, 103: 5, 104: 6, 119: 6, 120: 6,
	}
	for n := range 121 {
		m, f := newModel(api.Crown{Format: api.Two, Blocks: 90}, 53, 57), newFile()
		_, _, d := begun(t, m)
		wantSave(t, d, m, f, withSpans(n))
		if want, given := counts[n]; given && len(f.blocks) != want || len(f.card.Runs) != min(n, 3) || m.free() != 37-len(f.blocks) {
			t.Errorf("%d spans: %v, run blocks are %d, %d blocks are free", n, f.card, f.blocks, m.free())
		}
		wantDrop(t, d, m, f)
		if m.free() != 37 || !sameCard(f.card, newCard()) {
			t.Errorf("%d spans: %v, %d blocks are free", n, f.card, m.free())
		}
	}
}

// Runs of more than one block, with and without holes between them.
func TestLongerRuns(t *testing.T) {
	for length := 1; length <= 120; length++ {
		for hole := range 3 {
			blocks := make([]int, 120)
			for i := range blocks {
				if k := i % (length + hole); k < length {
					blocks[i] = 250 + k - 5*(i/(length+hole)%20)
				}
			}
			m, f := newModel(api.Crown{Format: api.Down, Blocks: 400, Cursor: 31}), newFile()
			_, _, d := begun(t, m)
			wantSave(t, d, m, f, blocks)
			if count := (120 + length + hole - 1) / (length + hole); len(f.blocks) != needed(count) {
				t.Errorf("runs of %d and holes of %d: run blocks are %d", length, hole, f.blocks)
			}
			wantDrop(t, d, m, f)
		}
	}
}

func TestEmptyMaps(t *testing.T) {
	m, f := newModel(api.Crown{Format: api.Two, Blocks: 64}), newFile()
	_, _, d := begun(t, m)
	for _, empty := range [][]int{nil, {}, {0}, make([]int, 120), make([]int, 121), make([]int, 70000)} {
		wantSave(t, d, m, f, withSpans(120))
		wantSave(t, d, m, f, empty)
	}
	wantDrop(t, d, m, f)
	wantDrop(t, d, m, f)
}

// The blocks of the old run blocks are free before the new ones are allocated.
func TestOldRunBlocksAreReplaced(t *testing.T) {
	m, f := newModel(api.Crown{Format: api.Two, Blocks: 100}, 53), newFile()
	_, _, d := begun(t, m)
	wantSave(t, d, m, f, withSpans(4))
	for _, n := range []int{24, 5, 120, 3, 23, 0, 44, 43, 104, 4} {
		wantSave(t, d, m, f, withSpans(n))
		wantSave(t, d, m, f, withSpans(n))
	}
	wantSave(t, d, m, f, withSpans(120))
	if !slices.Equal(f.blocks, []int{51, 52, 54, 55, 56, 57}) {
		t.Errorf("run blocks are %d", f.blocks)
	}
	wantDrop(t, d, m, f)
}

// Save has no errors for want of room as long as the old run blocks and the
// free blocks are as many as the new run blocks.
func TestRoom(t *testing.T) {
	for old := range 7 {
		for free := range 8 {
			for count := range 7 {
				m, f := newModel(api.Crown{Format: api.Two, Blocks: 70}), newFile()
				m.save(f, withSpans(20*old))
				for block := 51 + old; block < 70-free; block++ {
					m.used[block] = true
				}
				m.mark()
				_, _, d := begun(t, m)
				wantSave(t, d, m, f, withSpans(20*count))
				want := count
				if free+old < count {
					want = old
				}
				if len(f.blocks) != want {
					t.Errorf("%d run blocks of old, %d free, %d needed: %v", old, free, count, f.card)
				}
			}
		}
	}
}

func TestOtherFieldsAreKept(t *testing.T) {
	m := newModel(api.Crown{Format: api.Two, Blocks: 64})
	_, _, d := begun(t, m)
	for _, c := range []api.Card{
		{Format: api.Two, Kind: api.File, Links: 1, Size: 0}, {Format: api.Two, Kind: api.Dir, Links: 1, Size: 15360},
		{Format: api.Two, Kind: api.File, Links: 200, Size: 1}, {Format: api.Two, Kind: api.Dir, Links: 7, Size: 128, Ptrs: []int{}},
	} {
		c.Runs = []api.Span{{At: 0, Start: 51, Len: 1}, {At: 2, Start: 62, Len: 2}}
		f := &file{card: c, m: append([]int{51, 0, 62, 63}, make([]int, 116)...)}
		wantFile(t, d, m, f)
		wantSave(t, d, m, f, withSpans(30))
		wantDrop(t, d, m, f)
	}
}

// wired returns a disk of 100 blocks with a card that has three run blocks, in
// no order, with 20, 20 and 8 spans, and its map.
func wired() (*model, *file) {
	m, f := newModel(api.Crown{Format: api.Down, Blocks: 100, Cursor: 3}), newFile()
	f.blocks = []int{99, 60, 77}
	for k := range 50 {
		f.m[2*k+2] = 51 + k%9
	}
	f.m[3], f.m[119] = 52, 99
	m.store(f, spansOf(f.m))
	m.use(f.blocks...)
	return m, f
}

func TestRunBlocksAnywhere(t *testing.T) {
	m, f := wired()
	if !sameCard(f.card, api.Card{Format: api.Two, Kind: api.File, Links: 1, Over: 99,
		Runs: []api.Span{{At: 2, Start: 51, Len: 2}, {At: 4, Start: 52, Len: 1}, {At: 6, Start: 53, Len: 1}}}) {
		t.Fatalf("%v", f.card)
	}
	_, _, d := begun(t, m)
	wantFile(t, d, m, f)
	wantSave(t, d, m, f, f.m)
	if !slices.Equal(f.blocks, []int{51, 52, 53}) {
		t.Errorf("run blocks are %d", f.blocks)
	}
	m, f = wired()
	_, _, d = begun(t, m)
	wantDrop(t, d, m, f)
	wantChanged(t, d, 42)
}

// A run block has 1 to 20 spans, and 20 if another one follows.
func TestSpansOfRunBlocks(t *testing.T) {
	for last := range 3 {
		for count := range 256 {
			for _, next := range []int{0, 88} {
				m, f := wired()
				block := f.blocks[last]
				l := spansOf(f.m)[3+20*last:]
				l = l[:min(count, 20, len(l))]
				m.image[block] = replaced(runBlock(next, l...), 0, string([]byte{byte(count)}))
				m.image[88] = runBlock(0, api.Span{At: 118, Start: 70, Len: 2})
				want := count >= 1 && count <= len(l) && (next == 0 || count == 20)
				if wantMeaning(t, m, f.card) != want {
					t.Errorf("run block %d with %d spans, then %d: not %t", block, count, next, want)
				}
			}
		}
	}
}

// Every byte of a run block has a meaning.
func TestBytesOfARunBlock(t *testing.T) {
	for k := range 3 {
		for at := range api.Block {
			for _, bits := range []byte{1, 2, 4, 16, 64, 128, 255} {
				m, f := wired()
				block := f.blocks[k]
				m.image[block] = replaced(m.image[block], at, string([]byte{m.image[block][at] ^ bits}))
				right := wantMeaning(t, m, f.card)
				if right && at > 120 || at == 0 && right {
					t.Errorf("byte %d of run block %d, with other bits %x", at, block, bits)
				}
			}
		}
	}
}

// The bytes behind 20 spans are no further span, whatever they look like.
func TestRunBlocksWithOneSpanMore(t *testing.T) {
	for _, k := range []int{0, 1} {
		for _, bytes := range []string{"\x77\x3c\x01", "\x77\x00\x3c\x00\x01\x00\x00", "\x00\x00\x00", "\x77\x00\x3c\x00\x01"} {
			m, f := wired()
			block := f.blocks[k]
			m.image[block] = replaced(runBlock(0, spansOf(f.m)[3+20*k:23+20*k]...), 121, bytes)
			wantCorruptCount(t, m, f, block, 20, bytes)
			wantCorruptCount(t, m, f, block, 21, bytes)
		}
	}
}

// wantCorruptCount wants that a run block with this number of spans is corrupt,
// unless it has 20 and nothing behind them.
func wantCorruptCount(t *testing.T, m *model, f *file, block, count int, bytes string) {
	t.Helper()
	m.image[block] = replaced(m.image[block], 0, string([]byte{byte(count)}))
	if wantMeaning(t, m, f.card) != (count == 20 && strings.Trim(bytes, "\x00") == "") {
		t.Errorf("run block %d with %d spans, and then %q", block, count, bytes)
	}
}

// Behind the spans of a run block there is nothing, even if it looks like a span.
func TestBytesBehindTheSpans(t *testing.T) {
	for count := 1; count <= 20; count++ {
		for at := 1 + 6*count; at < 126; at++ {
			for _, bytes := range []string{"\x01", "\x80"} {
				m, f := wired()
				m.image[99] = replaced(runBlock(0, spansOf(f.m)[3:3+count]...), at, bytes)
				wantCorrupt(t, m, f.card)
			}
		}
		m, f := wired()
		m.image[99] = runBlock(0, spansOf(f.m)[3:3+count]...)
		if !wantMeaning(t, m, f.card) {
			t.Errorf("%d spans", count)
		}
	}
}

func TestBlocksThatAreNoRunBlocks(t *testing.T) {
	for k := range 3 {
		for _, data := range []string{padded(""), padded("old60"), strings.Repeat("\xff", 128), strings.Repeat("\x00", 127) + "\x01", strings.Repeat("\x14", 128)} {
			m, f := wired()
			m.image[f.blocks[k]] = data
			wantCorrupt(t, m, f.card)
		}
	}
}

// A run block is a block that files can own.
func TestRunBlocksElsewhere(t *testing.T) {
	for _, bad := range notOwned(100) {
		m, f := wired()
		f.card.Over = bad
		wantCorrupt(t, m, f.card)
		for _, block := range f.blocks[:2] {
			m, f := wired()
			m.image[block] = replaced(m.image[block], 126, twoBytes(bad))
			wantCorrupt(t, m, f.card)
		}
	}
	m, f := wired()
	f.card.Over = 0
	wantMeaning(t, m, f.card)
	for k, block := range f.blocks[:2] {
		m, f := wired()
		m.image[block] = replaced(m.image[block], 126, "\x00\x00")
		if !wantMeaning(t, m, f.card) {
			t.Errorf("run blocks without those after %d", k)
		}
	}
}

// Run blocks may not lead back to themselves; that they do ends, too.
func TestRunBlocksInACircle(t *testing.T) {
	for k := range 3 {
		for back := range k + 1 {
			m, f := wired()
			l := spansOf(f.m)[3+20*k:]
			for len(l) < 20 {
				l = append(l, api.Span{At: 120, Start: 60, Len: 1})
			}
			m.image[f.blocks[k]] = runBlock(f.blocks[back], l[:20]...)
			wantCorrupt(t, m, f.card)
		}
	}
	for _, s := range []api.Span{{}, {At: 119, Start: 60, Len: 1}, {At: 65535, Start: 65535, Len: 65535}} {
		m, f := wired()
		m.image[99] = runBlock(99, slices.Repeat([]api.Span{s}, 20)...)
		wantCorrupt(t, m, f.card)
	}
}

// A disk that consists of run blocks, each of which leads to the next one.
func TestTooManyRunBlocks(t *testing.T) {
	for _, count := range []int{5, 6, 7, 8, 9, 40, 349} {
		m := newModel(api.Crown{Format: api.Two, Blocks: 400})
		c := newCard()
		c.Runs = spansOf(withSpans(3))
		c.Over = 51
		for k := range count {
			var l []api.Span
			for i := range 20 {
				l = append(l, api.Span{At: 3 + 20*k + i, Start: 60 + i%2*5, Len: 1})
			}
			m.image[51+k] = runBlock(52+k, l...)
		}
		last := 50 + count
		m.image[last] = replaced(m.image[last], 126, "\x00\x00")
		if count > 5 && count < 8 {
			wantCorrupt(t, m, c)
			m.image[56] = runBlock(0, spansOf(withSpans(120))[103:]...)
		}
		if wantMeaning(t, m, c) != (count < 8) {
			t.Errorf("%d run blocks", count)
		}
	}
}

// A span of the card or of a run block is replaced by others.
func TestSpansOfEveryKind(t *testing.T) {
	right := 0
	for _, k := range []int{0, 1, 2, 3, 4, 22, 23, 30, 42, 43, 49, 50} {
		for _, at := range []int{0, 1, -1, 2, -2, -5} {
			for _, start := range []int{0, 1, 50, 51, 52, 59, 98, 99, 100, 65535} {
				for _, length := range []int{0, 1, 2, 3, 40, 65535} {
					m, f := wired()
					l := spansOf(f.m)
					l[k] = api.Span{At: max(0, l[k].At+at), Start: start, Len: length}
					m.store(f, l)
					if k < 3 && !validRuns(f.card.Runs) {
						continue
					}
					if wantMeaning(t, m, f.card) {
						right++
					}
				}
			}
		}
	}
	if right < 200 {
		t.Errorf("only %d of the spans are right", right)
	}
}

// validRuns reports whether spans are valid, wherever they lie.
func validRuns(l []api.Span) bool {
	for k, s := range l {
		if s.Start < 1 || s.Len < 1 || s.At+s.Len > 65536 || s.Start+s.Len > 65536 {
			return false
		}
		if k > 0 && (s.At < l[k-1].At+l[k-1].Len || s.At == l[k-1].At+l[k-1].Len && s.Start == l[k-1].Start+l[k-1].Len) {
			return false
		}
	}
	return true
}

// Spans are valid together, also where they are in different blocks.
func TestSpansBetweenBlocks(t *testing.T) {
	for first := range 3 {
		for _, s := range []api.Span{{At: 0, Start: 50, Len: 1}, {At: -1, Start: 60, Len: 1}, {At: -1, Start: 60, Len: 2}, {At: 0, Start: 0, Len: 0}} {
			m, f := wired()
			l := spansOf(f.m)
			k := 3 + 20*first
			before := l[k-1]
			l[k] = api.Span{At: before.At + 1 + s.At, Start: s.Start, Len: s.Len}
			m.store(f, l)
			wantCorrupt(t, m, f.card)
		}
		for _, more := range []int{-1, 0, 1} {
			m, f := wired()
			l := spansOf(f.m)
			k := 3 + 20*first
			l[k] = api.Span{At: l[k-1].At + 1, Start: l[k-1].Start + 1 + more, Len: 1}
			m.store(f, l)
			if wantMeaning(t, m, f.card) != (more != 0) {
				t.Errorf("span %d: %v, %v", k, l[k-1], l[k])
			}
		}
	}
}

// Runs of the card that are valid, but not on the disk or beyond the file.
func TestRunsOfTheCard(t *testing.T) {
	for _, s := range []api.Span{
		{At: 0, Start: 51, Len: 1}, {At: 119, Start: 99, Len: 1}, {At: 0, Start: 51, Len: 49}, {At: 71, Start: 51, Len: 49},
		{At: 120, Start: 60, Len: 1}, {At: 119, Start: 60, Len: 2}, {At: 72, Start: 51, Len: 49}, {At: 65535, Start: 60, Len: 1},
		{At: 0, Start: 50, Len: 1}, {At: 0, Start: 50, Len: 2}, {At: 0, Start: 100, Len: 1}, {At: 0, Start: 99, Len: 2},
		{At: 0, Start: 51, Len: 50}, {At: 0, Start: 50, Len: 51}, {At: 0, Start: 1, Len: 65535}, {At: 0, Start: 65535, Len: 1},
	} {
		m := newModel(api.Crown{Format: api.Two, Blocks: 100})
		c := newCard()
		c.Runs = []api.Span{s}
		if wantMeaning(t, m, c) != (s.At+s.Len <= 120 && s.Start >= 51 && s.Start+s.Len <= 100) {
			t.Errorf("%v", s)
		}
	}
}

// Nothing forbids that spans have blocks of the disk in common, with each other
// or with the run blocks.
func TestSpansThatShareBlocks(t *testing.T) {
	m, f := newModel(api.Crown{Format: api.Two, Blocks: 64}), newFile()
	_, _, d := begun(t, m)
	wantSave(t, d, m, f, []int{51, 52, 51, 52, 51, 52, 51, 52, 51, 51, 51})
	if !slices.Equal(f.blocks, []int{51}) {
		t.Errorf("run blocks are %d", f.blocks)
	}
	wantSave(t, d, m, f, f.m)
	wantDrop(t, d, m, f)
}

// The crown says which blocks files can own, not the slab.
func TestBlocksOfTheCrown(t *testing.T) {
	for blocks := 64; blocks <= 103; blocks++ {
		m, f := wired()
		m.image[0], _ = crown.Write(api.Crown{Format: api.One, Blocks: blocks})
		_, _, d := begun(t, m)
		if blocks < 100 {
			wantErrors(t, d, f.card, api.ErrCorrupt)
			wantSaveError(t, d, newCard(), []int{blocks}, api.ErrCorrupt)
		} else {
			wantLoad(t, d, f.card, f.m, f.blocks)
		}
		wantChanged(t, d)
	}
}

// invalidCards are cards that have no map in format Two.
func invalidCards() []api.Card {
	one := api.Card{Format: api.One, Kind: api.File, Links: 1, Ptrs: make([]int, 4)}
	pointers := api.Card{Format: api.One, Kind: api.Dir, Links: 1, Size: 128, Ptrs: []int{60, 61, 0, 0}, Single: 62}
	// Where its runs lead to does not matter if the card itself is not valid.
	astray := api.Card{Format: api.Two, Kind: api.File, Links: 0, Runs: []api.Span{{At: 120, Start: 1, Len: 1}}}
	wrong := []api.Card{{}, one, pointers, astray}
	for _, change := range []func(c *api.Card){
		func(c *api.Card) { c.Format = 0 }, func(c *api.Card) { c.Format = api.One }, func(c *api.Card) { c.Format = api.Down },
		func(c *api.Card) { c.Kind = api.Free }, func(c *api.Card) { c.Kind = 3 },
		func(c *api.Card) { c.Links = 0 }, func(c *api.Card) { c.Links = 201 },
		func(c *api.Card) { c.Size = -1 }, func(c *api.Card) { c.Size = 15361 },
		func(c *api.Card) { c.Ptrs = make([]int, 4) }, func(c *api.Card) { c.Single = 60 }, func(c *api.Card) { c.Double = 60 },
		func(c *api.Card) { c.Over = -1 }, func(c *api.Card) { c.Over = 65536 }, func(c *api.Card) { c.Over = math.MinInt }, func(c *api.Card) { c.Over = math.MaxInt },
		func(c *api.Card) { c.Runs = nil }, func(c *api.Card) { c.Runs = c.Runs[:2] },
		func(c *api.Card) { c.Runs = append(c.Runs, api.Span{At: 10, Start: 60, Len: 1}) },
		func(c *api.Card) { c.Runs[0].Len = 0 }, func(c *api.Card) { c.Runs[1].Start = 0 }, func(c *api.Card) { c.Runs[2].At = 1 },
		func(c *api.Card) { c.Runs[0].At = -1 }, func(c *api.Card) { c.Runs[2].Len = math.MaxInt },
		func(c *api.Card) { c.Runs[1] = api.Span{At: 4, Start: 53, Len: 1} },
	} {
		_, f := wired()
		change(&f.card)
		wrong = append(wrong, f.card)
	}
	return wrong
}

func TestCardsThatAreNotOfFormatTwo(t *testing.T) {
	m, _ := wired()
	_, _, d := begun(t, m)
	noCrown := newModel(m.crown)
	noCrown.image[0] = padded("")
	_, _, without := begun(t, noCrown)
	for _, c := range invalidCards() {
		wantErrors(t, d, c, api.ErrArg)
		wantErrors(t, without, c, api.ErrArg)
		wantErrors(t, nil, c, api.ErrArg)
	}
	wantChanged(t, d)
	wantModel(t, d, m)
}

func TestNoCrown(t *testing.T) {
	tooMany, _ := crown.Write(api.Crown{Format: api.Two, Blocks: 104})
	whole, _ := crown.Write(api.Crown{Format: api.Two, Blocks: 100})
	for _, block := range []string{padded(""), padded("wainwright"), tooMany, whole[:127] + "\x01"} {
		m, f := wired()
		m.image[0] = block
		_, _, d := begun(t, m)
		wantErrors(t, d, f.card, api.ErrCorrupt)
		wantErrors(t, d, newCard(), api.ErrCorrupt)
		wantChanged(t, d)
	}
	_, f := wired()
	for _, c := range []api.Card{newCard(), f.card} {
		wantErrors(t, nil, c, api.ErrArg)
		wantErrors(t, new(deal.Deal), c, api.ErrCorrupt)
	}
}

func TestMapsThatAreTooLarge(t *testing.T) {
	m, f := wired()
	_, _, d := begun(t, m)
	for _, at := range []int{120, 121, 140, 256 + 3, 65535, 65536, 65536 + 3} {
		for _, last := range slices.Concat([]int{1, 60, 100, 65535}, outOfRange) {
			for _, first := range []int{0, 60, 1, 100, -1, 65536} {
				blocks := make([]int, at+1)
				blocks[0], blocks[at] = first, last
				wantSaveError(t, d, f.card, blocks, api.ErrLarge)
			}
		}
	}
	wantChanged(t, d)
	wantModel(t, d, m)
}

func TestMapsOfOtherBlocks(t *testing.T) {
	m, f := wired()
	_, _, d := begun(t, m)
	for i := range 120 {
		for _, n := range slices.Concat(notOwned(100), outOfRange) {
			wantSaveError(t, d, f.card, mapOf(i, n), api.ErrCorrupt)
			mixed := slices.Repeat([]int{60}, 120)
			mixed[i] = n
			wantSaveError(t, d, f.card, mixed, api.ErrCorrupt)
		}
	}
	// Runs that end behind the last block of the disk, or begin before the first.
	wantSaveError(t, d, f.card, []int{0, 97, 98, 99, 100}, api.ErrCorrupt)
	wantSaveError(t, d, f.card, []int{50, 51, 52}, api.ErrCorrupt)
	wantChanged(t, d)
	wantModel(t, d, m)
}

// The errors of Save come in the order of the chapter, if several apply.
func TestOrderOfErrors(t *testing.T) {
	m := newModel(api.Crown{Format: api.Two, Blocks: 64})
	for block := 51; block < 64; block++ {
		m.used[block] = true
	}
	m.mark()
	_, _, d := begun(t, m)
	blocks := slices.Repeat([]int{60}, 122)
	blocks[71] = 64
	bad := newCard()
	bad.Runs = []api.Span{{At: 0, Start: 64, Len: 1}}
	wantSaveError(t, nil, bad, blocks, api.ErrArg)
	wantSaveError(t, d, bad, blocks, api.ErrCorrupt)
	wantSaveError(t, d, newCard(), blocks, api.ErrLarge)
	blocks[120], blocks[121] = 0, 0
	wantSaveError(t, d, newCard(), blocks, api.ErrCorrupt)
	blocks[71] = 60
	wantSaveError(t, d, newCard(), blocks, api.ErrSpace)
	clear(blocks[4:])
	wantSaveError(t, d, newCard(), blocks, api.ErrSpace)
	wantChanged(t, d)
	wantModel(t, d, m)
	clear(blocks[3:])
	wantSave(t, d, m, newFile(), blocks)
	wantChanged(t, d)
}

// A call that fails has not written anything that a commit of someone else
// would reveal.
func TestErrorsWriteNothing(t *testing.T) {
	m, f := newModel(api.Crown{Format: api.Two, Blocks: 64}), newFile()
	for block := 51; block < 64; block++ {
		m.used[block] = true
	}
	f.m, f.blocks = withSpans(4), []int{60}
	m.store(f, spansOf(f.m))
	m.mark()
	_, l, d := begun(t, m)
	wantSaveError(t, d, f.card, withSpans(24), api.ErrSpace)
	wantSaveError(t, d, f.card, []int{64}, api.ErrCorrupt)
	wantSaveError(t, d, f.card, append(withSpans(5), 60), api.ErrLarge)
	wantFile(t, d, m, f)
	other := mustBegin(t, l)
	m.used[55] = false
	m.mark()
	mustWrite(t, other, 42, m.image[42])
	for i := 51; i < 64; i++ {
		m.image[i] = padded("new" + strconv.Itoa(i))
	}
	f.m = withSpans(5)
	m.store(f, spansOf(f.m))
	for i := 51; i < 64; i++ {
		mustWrite(t, other, i, m.image[i])
	}
	if err := other.Commit(); err != api.OK {
		t.Fatal(err)
	}
	wantFile(t, d, m, f)
	wantSave(t, d, m, f, withSpans(24))
	if !slices.Equal(f.blocks, []int{55, 60}) {
		t.Errorf("run blocks are %d", f.blocks)
	}
}

// The chapter does not say what Save does if a run block is a free block: it
// returns ErrCorrupt, as layer 13 does. Were it to go on, it would count blocks
// as free twice.
func TestRunBlocksThatAreNotMarked(t *testing.T) {
	for k := range 3 {
		m, f := wired()
		for block := 51; block < 100; block++ {
			m.used[block] = block != f.blocks[k]
		}
		m.mark()
		_, _, d := begun(t, m)
		wantFile(t, d, m, f)
		for _, n := range []int{0, 3, 4, 120} {
			wantSaveError(t, d, f.card, withSpans(n), api.ErrCorrupt)
		}
		wantChanged(t, d)
		wantFile(t, d, m, f)
	}
}

// The blocks of a map are the caller's: neither their marks nor their contents
// change, whatever they are.
func TestBlocksOfTheMap(t *testing.T) {
	m, f := newModel(api.Crown{Format: api.Two, Blocks: 64}, 51, 52, 53), newFile()
	_, _, d := begun(t, m)
	wantSave(t, d, m, f, []int{51, 51, 60, 61, 51, 61, 0, 54})
	wantSave(t, d, m, f, []int{0, 52, 62})
	wantSave(t, d, m, f, slices.Repeat([]int{53}, 24))
	wantDrop(t, d, m, f)
	for _, block := range []int{51, 52, 53} {
		if used, err := stock.Used(d, block); !used || err != api.OK {
			t.Errorf("block %d: %t, %d", block, used, err)
		}
	}
	wantChanged(t, d, 54, 55)
}

func TestMemory(t *testing.T) {
	m, f := newModel(api.Crown{Format: api.Two, Blocks: 64}), newFile()
	_, _, d := begun(t, m)
	ptrs := make([]int, 1)
	c := newCard()
	c.Runs, c.Ptrs = make([]api.Span, 1, 30), ptrs[:0]
	c.Runs[0] = api.Span{At: 0, Start: 63, Len: 1}
	blocks := slices.Repeat([]int{60}, 30)
	m.save(f, blocks)
	saved, err := runs.Save(d, c, blocks)
	if err != api.OK || !slices.Equal(c.Runs, []api.Span{{At: 0, Start: 63, Len: 1}}) || !slices.Equal(blocks, f.m[:30]) || c.Runs[:2][1] != (api.Span{}) {
		t.Errorf("%v, %d, %d", c, blocks, err)
	}
	c.Runs[0], blocks[0], blocks[29] = api.Span{}, 2, 3
	if saved.Ptrs = append(saved.Ptrs, 1); ptrs[0] != 0 {
		t.Errorf("the pointers became %d", ptrs)
	}
	saved.Ptrs = nil
	if !sameCard(saved, f.card) {
		t.Errorf("%v, not %v", saved, f.card)
	}
	wantFile(t, d, m, f)
	for range 2 {
		loaded, _ := runs.Load(d, saved)
		listed, _ := runs.Lists(d, saved)
		clear(loaded)
		clear(listed)
		wantLoad(t, d, saved, f.m, f.blocks)
	}
	wantKept(t, d, m, f)
}

// wantKept wants that a card whose Runs have memory behind them keeps it.
func wantKept(t *testing.T, d *deal.Deal, m *model, f *file) {
	t.Helper()
	behind := api.Span{At: 9, Start: 9, Len: 9}
	c := cloned(f.card)
	c.Runs = append(append(make([]api.Span, 0, 200), c.Runs...), behind)[:3]
	wantLoad(t, d, c, f.m, f.blocks)
	dropped, err := runs.Drop(d, c)
	m.save(f, nil)
	if err != api.OK || len(dropped.Runs) != 0 || c.Runs[:4][3] != behind || c.Runs[0].Start != 60 {
		t.Errorf("%v, %v, %d", dropped, c.Runs[:4], err)
	}
	wantFile(t, d, m, f)
}

// The run blocks belong to the deal until it is committed; then others read them.
func TestRunBlocksBelongToTheDeal(t *testing.T) {
	m, f := newModel(api.Crown{Format: api.Two, Blocks: 64}), newFile()
	before := newModel(m.crown)
	s, l, d := begun(t, m)
	other := mustBegin(t, l)
	s.Stop(0)
	wantSave(t, d, m, f, slices.Repeat([]int{60}, 120))
	wantModel(t, other, before)
	if got, err := runs.Load(other, f.card); err != api.ErrCorrupt || len(got) != 0 {
		t.Errorf("Load: %d, %d", got, err)
	}
	d.Undo()
	wantModel(t, d, before)
	m, f = newModel(m.crown), newFile()
	wantSave(t, d, m, f, withSpans(5))
	if s.Calls() != 0 {
		t.Errorf("%d calls of the slab", s.Calls())
	}
	s.Stop(math.MaxInt)
	if err := d.Commit(); err != api.OK {
		t.Fatal(err)
	}
	wantFile(t, other, m, f)
	wantDrop(t, other, m, f)
}

// randomMap returns a map of blocks that files can own, with more or fewer
// holes, and longer or shorter runs.
func randomMap(r *rand.Rand, blocks int) []int {
	m := make([]int, r.Intn(130))
	holes, ends := 1+r.Intn(20), 1+r.Intn(6)
	next := 51
	for i := range m[:min(len(m), 120)] {
		if next == blocks || r.Intn(ends) == 0 {
			next = 51 + r.Intn(blocks-51)
		}
		if r.Intn(holes) != 0 {
			m[i] = next
			next++
		}
	}
	return m
}

// Several files on one disk, whose run blocks compete for the blocks.
func TestRandomCalls(t *testing.T) {
	r := rand.New(rand.NewSource(15))
	for range 40 {
		c := someCrowns[r.Intn(len(someCrowns))]
		m := newModel(c)
		for block := 51; block < c.Blocks; block++ {
			m.used[block] = r.Intn(3) == 0
		}
		m.mark()
		_, l, d := begun(t, m)
		files := []*file{newFile(), newFile(), newFile()}
		for range 60 {
			f := files[r.Intn(len(files))]
			switch r.Intn(6) {
			case 0:
				wantDrop(t, d, m, f)
			case 1:
				if err := d.Commit(); err != api.OK {
					t.Fatal(err)
				}
				d = mustBegin(t, l)
			default:
				wantSave(t, d, m, f, randomMap(r, c.Blocks))
			}
			for _, f := range files {
				wantLoad(t, d, f.card, f.m, f.blocks)
			}
			if t.Failed() {
				t.FailNow()
			}
		}
	}
}

// Run blocks with random bytes, most of them near to what they were.
func TestRandomImages(t *testing.T) {
	r := rand.New(rand.NewSource(16))
	right := 0
	for range 3000 {
		m, f := wired()
		for range 1 + r.Intn(3) {
			block, at := f.blocks[r.Intn(3)], r.Intn(api.Block)
			m.image[block] = replaced(m.image[block], at, string([]byte{m.image[block][at] + byte(r.Intn(5)) - 2}))
		}
		if wantMeaning(t, m, f.card) {
			right++
		}
	}
	if right < 100 || right > 2900 {
		t.Errorf("%d of the images are right", right)
	}
}
