package stock_test

import (
	"math"
	"math/rand"
	"slices"
	"strconv"
	"strings"
	"testing"

	"wainwright/api"
	"wainwright/deal"
	"wainwright/log"
	"wainwright/slab"
	"wainwright/stock"
)

// farBlocks are numbers that no slab of at most 1000 blocks has, some of them
// equal to an owned block in their lowest bytes.
var farBlocks = []int{math.MinInt, -1 << 40, -65536 + 55, -256 + 55, -55, -2, -1, 1000, 1023, 1024, 1024 + 55, 65536 + 55, 1<<32 + 55, math.MaxInt}

// tooFew are numbers of blocks that Run does not allocate.
var tooFew = []int{math.MinInt, -1 << 40, -1<<32 + 1, -256 + 1, -2, -1, 0}

// tooMany are numbers of blocks that no disk has.
var tooMany = []int{401, 1000, 1024, 1025, 65536 + 1, 1<<32 + 1, math.MaxInt - 51, math.MaxInt - 1, math.MaxInt}

// someCrowns are crowns of every format, at the bounds and between them.
var someCrowns = []api.Crown{
	{Format: api.One, Blocks: 64},
	{Format: api.Two, Blocks: 65},
	{Format: api.Up, Blocks: 71, Cursor: 7},
	{Format: api.Down, Blocks: 256, Cursor: 32},
	{Format: api.Up, Blocks: 399},
	{Format: api.One, Blocks: 400},
}

func padded(s string) string { return s + strings.Repeat("\x00", api.Block-len(s)) }

// crownBlock returns what the chapter of layer 10 says of a crown's block.
func crownBlock(c api.Crown) string {
	return padded("wainwright" + string([]byte{byte(c.Format), byte(c.Blocks), byte(c.Blocks / 256), byte(c.Cursor)}))
}

// isOwned tells what the chapter of layer 10 says of the blocks of files.
func isOwned(c api.Crown, block int) bool { return block >= 51 && block < c.Blocks }

// bits are the bits of a marks block, which are read and written here without
// layer 3.
type bits [8 * api.Block]bool

func (b *bits) block() string {
	bytes := make([]byte, api.Block)
	for i, used := range b {
		if used {
			bytes[i/8] |= 1 << (i % 8)
		}
	}
	return string(bytes)
}

// freshBits are the bits of a disk without files.
func freshBits(c api.Crown) *bits {
	b := new(bits)
	for i := range b {
		b[i] = !isOwned(c, i)
	}
	return b
}

// randomBits are any bits, also of the blocks that files cannot own: the
// fewer of them are 1, the longer are the sequences of free blocks.
func randomBits(r *rand.Rand) *bits {
	b, ones := new(bits), r.Intn(11)
	for i := range b {
		b[i] = r.Intn(10) < ones
	}
	return b
}

// oneBits are bits that are 0 at these blocks only.
func oneBits(free ...int) *bits {
	b := new(bits)
	for i := range b {
		b[i] = !slices.Contains(free, i)
	}
	return b
}

// imageOf returns the image of a slab of size blocks, which all differ, with
// an empty log, this crown and these marks.
func imageOf(size int, c api.Crown, b *bits) []string {
	image := make([]string, size)
	for i := range image {
		image[i] = padded("old" + strconv.Itoa(i))
	}
	image[0], image[1], image[42] = crownBlock(c), padded(""), b.block()
	return image
}

func mustBegin(t *testing.T, l *log.Log) *deal.Deal {
	t.Helper()
	d, err := deal.Begin(l)
	if err != api.OK || d == nil {
		t.Fatalf("Begin: %v, %d", d, err)
	}
	return d
}

// begun returns a slab with this image, its log and a deal of it.
func begun(t *testing.T, image []string) (*slab.Slab, *log.Log, *deal.Deal) {
	t.Helper()
	s := slab.Load(image)
	l, err := log.Open(s)
	if err != api.OK {
		t.Fatalf("Open: %d", err)
	}
	return s, l, mustBegin(t, l)
}

func mustWrite(t *testing.T, d *deal.Deal, i int, data string) {
	t.Helper()
	if err := d.Write(i, data); err != api.OK {
		t.Fatalf("Write(%d, %q): %d", i, data, err)
	}
}

func mustCommit(t *testing.T, d *deal.Deal) {
	t.Helper()
	if err := d.Commit(); err != api.OK {
		t.Fatalf("Commit: %d", err)
	}
}

func wantTake(t *testing.T, d *deal.Deal, block int, err api.Errno) {
	t.Helper()
	if got, gotErr := stock.Take(d); got != block || gotErr != err {
		t.Errorf("Take: %d, %d, not %d, %d", got, gotErr, block, err)
	}
}

func wantRun(t *testing.T, d *deal.Deal, n, first, length int, err api.Errno) {
	t.Helper()
	if got, gotLength, gotErr := stock.Run(d, n); got != first || gotLength != length || gotErr != err {
		t.Errorf("Run(%d): %d, %d, %d, not %d, %d, %d", n, got, gotLength, gotErr, first, length, err)
	}
}

func wantDrop(t *testing.T, d *deal.Deal, block int, err api.Errno) {
	t.Helper()
	if got := stock.Drop(d, block); got != err {
		t.Errorf("Drop(%d): %d, not %d", block, got, err)
	}
}

func wantFree(t *testing.T, d *deal.Deal, count int, err api.Errno) {
	t.Helper()
	if got, gotErr := stock.Free(d); got != count || gotErr != err {
		t.Errorf("Free: %d, %d, not %d, %d", got, gotErr, count, err)
	}
}

func wantUsed(t *testing.T, d *deal.Deal, block int, used bool, err api.Errno) {
	t.Helper()
	if got, gotErr := stock.Used(d, block); got != used || gotErr != err {
		t.Errorf("Used(%d): %t, %d, not %t, %d", block, got, gotErr, used, err)
	}
}

// wantErrors wants of a deal that every function returns err, whatever the
// other arguments are.
func wantErrors(t *testing.T, d *deal.Deal, err api.Errno) {
	t.Helper()
	wantTake(t, d, 0, err)
	for _, n := range slices.Concat(tooFew, []int{1, 2, 13, 400}, tooMany) {
		wantRun(t, d, n, 0, 0, err)
	}
	for _, block := range slices.Concat(farBlocks, []int{0, 42, 50, 51, 60, 63, 64, 399, 400}) {
		wantDrop(t, d, block, err)
		wantUsed(t, d, block, false, err)
	}
	wantFree(t, d, 0, err)
}

// wantBlocks wants that a deal reads all blocks outside of the log as they are
// in image.
func wantBlocks(t *testing.T, d *deal.Deal, image []string) {
	t.Helper()
	for i, want := range image {
		if i >= 1 && i <= 41 {
			continue
		}
		if got, err := d.Read(i); got != want || err != api.OK {
			t.Fatalf("block %d: %q, %d, not %q", i, got, err, want)
		}
	}
}

func wantChanged(t *testing.T, d *deal.Deal, want ...int) {
	t.Helper()
	if got := d.Changed(); !slices.Equal(got, want) {
		t.Errorf("changed are %d, not %d", got, want)
	}
}

// model is what the chapter says of a disk: its crown, its marks and its
// blocks, of which model is one more.
type model struct {
	crown api.Crown
	bits  *bits
	image []string
}

func newModel(size int, c api.Crown, b *bits) *model {
	return &model{crown: c, bits: b, image: imageOf(size, c, b)}
}

func (m *model) isFree(block int) bool { return isOwned(m.crown, block) && !m.bits[block] }

// areFree tells whether the length blocks from first on are all free.
func (m *model) areFree(first, length int) bool {
	for k := range length {
		if !m.isFree(first + k) {
			return false
		}
	}
	return true
}

// first returns the smallest position from which length blocks are free, or 0.
func (m *model) first(length int) int {
	for block := range m.crown.Blocks {
		if m.areFree(block, length) {
			return block
		}
	}
	return 0
}

func (m *model) set(block int, used bool) {
	m.bits[block] = used
	m.image[42] = m.bits.block()
}

// run returns what Run returns for an n of at least 1: no sequence that is
// longer than the disk is free, so the first length that is found is n's or
// the greatest.
func (m *model) run(n int) (int, int, api.Errno) {
	for length := min(n, m.crown.Blocks); length >= 1; length-- {
		first := m.first(length)
		if first == 0 {
			continue
		}
		for block := first; block < first+length; block++ {
			m.set(block, true)
			m.image[block] = padded("")
		}
		return first, length, api.OK
	}
	return 0, 0, api.ErrSpace
}

func (m *model) drop(block int) api.Errno {
	if !isOwned(m.crown, block) || m.isFree(block) {
		return api.ErrCorrupt
	}
	m.set(block, false)
	return api.OK
}

func (m *model) free() int {
	count := 0
	for block := range m.bits {
		if m.isFree(block) {
			count++
		}
	}
	return count
}

// wantModel holds everything that a deal can tell against the model.
func wantModel(t *testing.T, m *model, d *deal.Deal) {
	t.Helper()
	wantFree(t, d, m.free(), api.OK)
	for _, block := range farBlocks {
		wantUsed(t, d, block, false, api.ErrArg)
	}
	for block := -2; block < len(m.bits)+2; block++ {
		if isOwned(m.crown, block) {
			wantUsed(t, d, block, m.bits[block], api.OK)
		} else {
			wantUsed(t, d, block, false, api.ErrArg)
		}
	}
	wantBlocks(t, d, m.image)
	if t.Failed() {
		t.FailNow()
	}
}

func TestExampleOfTheChapter(t *testing.T) {
	c := api.Crown{Format: api.One, Blocks: 64}
	_, _, d := begun(t, imageOf(64, c, freshBits(c)))
	wantFree(t, d, 13, api.OK)
	wantTake(t, d, 51, api.OK)
	wantTake(t, d, 52, api.OK)
	wantFree(t, d, 11, api.OK)
}

// Blocks are taken in ascending order until none is left.
func TestTakeOfEveryBlock(t *testing.T) {
	for _, c := range someCrowns {
		for _, more := range []int{0, 1, 100} {
			m := newModel(c.Blocks+more, c, freshBits(c))
			_, _, d := begun(t, m.image)
			for block := 51; block < c.Blocks; block++ {
				wantFree(t, d, c.Blocks-block, api.OK)
				wantUsed(t, d, block, false, api.OK)
				wantTake(t, d, block, api.OK)
				wantUsed(t, d, block, true, api.OK)
				m.set(block, true)
				m.image[block] = padded("")
			}
			wantModel(t, m, d)
			wantTake(t, d, 0, api.ErrSpace)
			for _, n := range append([]int{1, 2, c.Blocks}, tooMany...) {
				wantRun(t, d, n, 0, 0, api.ErrSpace)
			}
			wantModel(t, m, d)
		}
	}
}

func TestTakeIsOfTheSmallestNumber(t *testing.T) {
	c := api.Crown{Format: api.Two, Blocks: 400}
	for _, free := range [][]int{{51}, {399}, {55, 56, 57}, {63, 64}, {51, 399}, {127, 128, 300}, {255, 256}, {256, 399}, {398, 399}} {
		m := newModel(400, c, oneBits(free...))
		_, _, d := begun(t, m.image)
		for _, block := range free {
			wantTake(t, d, block, api.OK)
		}
		wantTake(t, d, 0, api.ErrSpace)
		for _, block := range free {
			m.set(block, true)
			m.image[block] = padded("")
		}
		wantModel(t, m, d)
	}
}

// The block that was freed last is no more likely than another one.
func TestTakeOfWhatWasFreed(t *testing.T) {
	c := api.Crown{Format: api.One, Blocks: 64}
	m := newModel(64, c, oneBits())
	_, _, d := begun(t, m.image)
	for _, block := range []int{60, 55, 63, 51} {
		wantTake(t, d, 0, api.ErrSpace)
		mustWrite(t, d, block, "a")
		wantDrop(t, d, block, api.OK)
		wantUsed(t, d, block, false, api.OK)
		wantTake(t, d, block, api.OK)
		m.image[block] = padded("")
	}
	wantModel(t, m, d)
	for _, block := range []int{63, 51, 60} {
		wantDrop(t, d, block, api.OK)
	}
	wantFree(t, d, 3, api.OK)
	for _, block := range []int{51, 60, 63} {
		wantTake(t, d, block, api.OK)
	}
	wantModel(t, m, d)
}

func TestRunOfEveryLength(t *testing.T) {
	for _, c := range someCrowns {
		room := c.Blocks - 51
		for n := 1; n <= c.Blocks+1; n++ {
			_, _, d := begun(t, imageOf(c.Blocks, c, freshBits(c)))
			length := min(n, room)
			wantRun(t, d, n, 51, length, api.OK)
			wantFree(t, d, room-length, api.OK)
			if length < room {
				wantRun(t, d, n, 51+length, min(n, room-length), api.OK)
			} else {
				wantRun(t, d, n, 0, 0, api.ErrSpace)
			}
		}
		for _, n := range tooMany {
			_, _, d := begun(t, imageOf(c.Blocks, c, freshBits(c)))
			wantRun(t, d, n, 51, room, api.OK)
			wantRun(t, d, n, 0, 0, api.ErrSpace)
		}
	}
}

// Among free sequences of 1, 3, 2, 3 and 4 blocks, the first one of at least n
// blocks is used, and the longest one if there is none.
func TestRunOfTheFirstThatIsLongEnough(t *testing.T) {
	c := api.Crown{Format: api.One, Blocks: 300}
	free := []int{51, 53, 54, 55, 62, 63, 255, 256, 257, 296, 297, 298, 299}
	for n, want := range map[int][]int{1: {51, 1}, 2: {53, 2}, 3: {53, 3}, 4: {296, 4}, 5: {296, 4}, 13: {296, 4}, math.MaxInt: {296, 4}} {
		m := newModel(300, c, oneBits(free...))
		_, _, d := begun(t, m.image)
		wantRun(t, d, n, want[0], want[1], api.OK)
		m.run(n)
		wantModel(t, m, d)
	}
	_, _, d := begun(t, imageOf(300, c, oneBits(free...)))
	for _, want := range [][]int{{296, 4}, {53, 3}, {255, 3}, {62, 2}, {51, 1}} {
		wantRun(t, d, 13, want[0], want[1], api.OK)
	}
	wantRun(t, d, 13, 0, 0, api.ErrSpace)
	wantRun(t, d, 0, 0, 0, api.ErrArg)
}

func TestRunOfTooFew(t *testing.T) {
	c := api.Crown{Format: api.One, Blocks: 64}
	for _, b := range []*bits{freshBits(c), oneBits(60), oneBits()} {
		m := newModel(64, c, b)
		_, _, d := begun(t, m.image)
		for _, n := range tooFew {
			wantRun(t, d, n, 0, 0, api.ErrArg)
		}
		wantChanged(t, d)
		wantModel(t, m, d)
	}
}

// The marks of blocks that files cannot own are neither heeded nor changed.
func TestMarksOfOtherBlocks(t *testing.T) {
	for _, c := range someCrowns {
		for _, b := range []*bits{new(bits), oneBits(0, 1, 42, 49, 50, c.Blocks, c.Blocks+1, 1023), oneBits(50, 51, 52, c.Blocks-1, c.Blocks)} {
			for _, n := range []int{1, 2, 3, 60, 1000} {
				m := newModel(1000, c, new(bits))
				*m.bits = *b
				m.image[42] = m.bits.block()
				_, _, d := begun(t, m.image)
				wantModel(t, m, d)
				for range 3 {
					first, length, err := m.run(n)
					wantRun(t, d, n, first, length, err)
					wantModel(t, m, d)
				}
			}
		}
	}
}

func TestDrop(t *testing.T) {
	for _, c := range someCrowns {
		m := newModel(400, c, oneBits())
		_, _, d := begun(t, m.image)
		for _, block := range farBlocks {
			wantDrop(t, d, block, api.ErrCorrupt)
		}
		wantChanged(t, d)
		for block := -2; block < 1026; block++ {
			want := m.drop(block)
			wantDrop(t, d, block, want)
			wantDrop(t, d, block, api.ErrCorrupt)
		}
		wantFree(t, d, c.Blocks-51, api.OK)
		wantModel(t, m, d)
		wantChanged(t, d, 42)
	}
}

// Only the bit of a block tells whether it is free: not who allocated it, nor
// what is in it.
func TestDropOfAnyBlockThatIsUsed(t *testing.T) {
	c := api.Crown{Format: api.One, Blocks: 64}
	m := newModel(64, c, oneBits(52))
	_, _, d := begun(t, m.image)
	wantDrop(t, d, 51, api.OK)
	wantDrop(t, d, 52, api.ErrCorrupt)
	wantDrop(t, d, 53, api.OK)
	m.set(51, false)
	m.set(53, false)
	wantModel(t, m, d)
	wantRun(t, d, 3, 51, 3, api.OK)
	wantDrop(t, d, 52, api.OK)
	wantDrop(t, d, 52, api.ErrCorrupt)
	wantTake(t, d, 52, api.OK)
}

func TestAllocatedBlocksAreZero(t *testing.T) {
	c := api.Crown{Format: api.One, Blocks: 64}
	image := imageOf(64, c, freshBits(c))
	_, _, d := begun(t, image)
	full := strings.Repeat("\xff", api.Block)
	for _, i := range []int{50, 51, 52, 53, 54, 55} {
		mustWrite(t, d, i, full)
		image[i] = full
	}
	wantTake(t, d, 51, api.OK)
	wantRun(t, d, 3, 52, 3, api.OK)
	b := freshBits(c)
	for _, i := range []int{51, 52, 53, 54} {
		image[i], b[i] = padded(""), true
	}
	image[42] = b.block()
	wantBlocks(t, d, image)
	// The bytes of an allocated block are the user's, and those of a free one
	// stay as they are.
	mustWrite(t, d, 53, "a")
	wantTake(t, d, 55, api.OK)
	wantDrop(t, d, 53, api.OK)
	image[53], image[55] = padded("a"), padded("")
	b[53], b[55] = false, true
	image[42] = b.block()
	wantBlocks(t, d, image)
}

// A call that fails has not written anything that a commit of someone else
// would reveal.
func TestErrorsWriteNothing(t *testing.T) {
	c := api.Crown{Format: api.One, Blocks: 64}
	full, fresh := oneBits(), freshBits(c)
	_, l, d := begun(t, imageOf(64, c, full))
	wantTake(t, d, 0, api.ErrSpace)
	wantRun(t, d, 3, 0, 0, api.ErrSpace)
	wantRun(t, d, 0, 0, 0, api.ErrArg)
	wantDrop(t, d, 50, api.ErrCorrupt)
	wantDrop(t, d, 64, api.ErrCorrupt)
	wantUsed(t, d, 50, false, api.ErrArg)
	wantUsed(t, d, 51, true, api.OK)
	wantFree(t, d, 0, api.OK)
	wantChanged(t, d)
	other := mustBegin(t, l)
	mustWrite(t, other, 42, fresh.block())
	mustWrite(t, other, 51, "b")
	mustCommit(t, other)
	wantFree(t, d, 13, api.OK)
	wantUsed(t, d, 51, false, api.OK)
	wantDrop(t, d, 51, api.ErrCorrupt)
	wantRun(t, d, -1, 0, 0, api.ErrArg)
	wantChanged(t, d)
	mustWrite(t, other, 42, full.block())
	mustCommit(t, other)
	wantFree(t, d, 0, api.OK)
	image := imageOf(64, c, full)
	image[51] = padded("b")
	wantBlocks(t, d, image)
}

func TestChangesBelongToTheDeal(t *testing.T) {
	c := api.Crown{Format: api.One, Blocks: 64}
	s, l, d := begun(t, imageOf(64, c, freshBits(c)))
	other := mustBegin(t, l)
	wantTake(t, d, 51, api.OK)
	wantRun(t, d, 2, 52, 2, api.OK)
	wantDrop(t, d, 52, api.OK)
	wantChanged(t, d, 42, 51, 52, 53)
	wantFree(t, other, 13, api.OK)
	wantUsed(t, other, 51, false, api.OK)
	wantTake(t, other, 51, api.OK)
	d.Undo()
	wantFree(t, d, 13, api.OK)
	wantRun(t, d, 5, 51, 5, api.OK)
	wantUsed(t, other, 52, false, api.OK)
	if s.Calls() != 0 || !slices.Equal(s.Image(), imageOf(64, c, freshBits(c))) {
		t.Errorf("%d calls of the slab", s.Calls())
	}
	mustCommit(t, d)
	other.Undo()
	wantFree(t, other, 8, api.OK)
	wantTake(t, other, 56, api.OK)
	wantTake(t, d, 56, api.OK)
	for i := 51; i < 56; i++ {
		if s.Read(i) != padded("") {
			t.Errorf("block %d: %q", i, s.Read(i))
		}
	}
}

// A stop does not reach what has no calls of the slab.
func TestSlabIsNotCalled(t *testing.T) {
	c := api.Crown{Format: api.One, Blocks: 64}
	s, _, d := begun(t, imageOf(64, c, freshBits(c)))
	s.Stop(0)
	wantTake(t, d, 51, api.OK)
	wantRun(t, d, 5, 52, 5, api.OK)
	wantDrop(t, d, 53, api.OK)
	wantFree(t, d, 8, api.OK)
	wantUsed(t, d, 53, false, api.OK)
	if s.Calls() != 0 {
		t.Errorf("%d calls of the slab", s.Calls())
	}
}

// No state is kept beside the marks and the crown that the deal reads.
func TestMarksAndCrownAreReadEachTime(t *testing.T) {
	c := api.Crown{Format: api.One, Blocks: 64}
	_, _, d := begun(t, imageOf(100, c, freshBits(c)))
	wantTake(t, d, 51, api.OK)
	mustWrite(t, d, 42, oneBits(51, 70, 99).block())
	wantFree(t, d, 1, api.OK)
	wantUsed(t, d, 52, true, api.OK)
	wantTake(t, d, 51, api.OK)
	wantTake(t, d, 0, api.ErrSpace)
	mustWrite(t, d, 0, crownBlock(api.Crown{Format: api.Down, Blocks: 99, Cursor: 32}))
	wantFree(t, d, 1, api.OK)
	wantDrop(t, d, 99, api.ErrCorrupt)
	wantUsed(t, d, 99, false, api.ErrArg)
	wantTake(t, d, 70, api.OK)
	mustWrite(t, d, 0, crownBlock(api.Crown{Format: api.Two, Blocks: 100}))
	wantRun(t, d, 2, 99, 1, api.OK)
	wantDrop(t, d, 99, api.OK)
	mustWrite(t, d, 0, "wainwright")
	wantErrors(t, d, api.ErrCorrupt)
	mustWrite(t, d, 0, crownBlock(api.Crown{Format: api.Two, Blocks: 100}))
	wantFree(t, d, 1, api.OK)
}

// Without a crown there are no marks, whatever else is asked.
func TestNoCrown(t *testing.T) {
	c := api.Crown{Format: api.One, Blocks: 100}
	wrong := []string{
		padded(""), padded("wainwright"), strings.Repeat("\xff", api.Block),
		crownBlock(api.Crown{Format: 5, Blocks: 64}), crownBlock(api.Crown{Format: api.One, Blocks: 63}),
		crownBlock(api.Crown{Format: api.One, Blocks: 64, Cursor: 1}), crownBlock(c)[:127] + "\x01",
		crownBlock(api.Crown{Format: api.One, Blocks: 101}), crownBlock(api.Crown{Format: api.Two, Blocks: 400}),
	}
	for _, block := range wrong {
		for _, b := range []*bits{freshBits(c), oneBits(), new(bits)} {
			image := imageOf(100, c, b)
			image[0] = block
			_, _, d := begun(t, image)
			wantErrors(t, d, api.ErrCorrupt)
			wantChanged(t, d)
			wantBlocks(t, d, image)
		}
	}
}

func TestDealWithoutBlocks(t *testing.T) {
	wantErrors(t, nil, api.ErrArg)
	wantErrors(t, new(deal.Deal), api.ErrCorrupt)
	wantErrors(t, mustBegin(t, new(log.Log)), api.ErrCorrupt)
	_, _, d := begun(t, make([]string, 64))
	wantErrors(t, d, api.ErrCorrupt)
}

// randomStep lets the deal and the model make the same call, and holds the
// results against each other.
func randomStep(t *testing.T, r *rand.Rand, m *model, d *deal.Deal) {
	t.Helper()
	switch r.Intn(8) {
	case 0, 1:
		block, _, err := m.run(1)
		wantTake(t, d, block, err)
	case 2, 3:
		n := 1 + r.Intn(1+r.Intn(40))
		first, length, err := m.run(n)
		wantRun(t, d, n, first, length, err)
	case 4, 5, 6:
		block := 45 + r.Intn(m.crown.Blocks-40)
		err := m.drop(block)
		wantDrop(t, d, block, err)
	case 7:
		block := 51 + r.Intn(len(m.image)-51)
		mustWrite(t, d, block, "new"+strconv.Itoa(block))
		m.image[block] = padded("new" + strconv.Itoa(block))
	}
}

func TestRandomCalls(t *testing.T) {
	r := rand.New(rand.NewSource(13))
	for round := range 60 {
		blocks := 64 + r.Intn(1+r.Intn(337))
		c := api.Crown{Format: api.One + r.Intn(2), Blocks: blocks}
		m := newModel(blocks+r.Intn(2)*r.Intn(50), c, randomBits(r))
		if round%2 == 0 {
			m.bits = freshBits(c)
			m.image[42] = m.bits.block()
		}
		_, _, d := begun(t, m.image)
		for range 80 {
			randomStep(t, r, m, d)
			wantModel(t, m, d)
		}
	}
}

// A block that was allocated is allocated again only after it was freed.
func TestNoBlockIsAllocatedTwice(t *testing.T) {
	r := rand.New(rand.NewSource(1313))
	c := api.Crown{Format: api.Two, Blocks: 400}
	_, _, d := begun(t, imageOf(400, c, freshBits(c)))
	owned := map[int]bool{}
	for range 3000 {
		if held := len(owned); r.Intn(2) == 0 && held > 0 {
			blocks := make([]int, 0, held)
			for block := 51; block < 400; block++ {
				if owned[block] {
					blocks = append(blocks, block)
				}
			}
			block := blocks[r.Intn(held)]
			wantDrop(t, d, block, api.OK)
			delete(owned, block)
			continue
		}
		first, length, err := stock.Run(d, 1+r.Intn(6))
		if err == api.ErrSpace && len(owned) == 349 {
			continue
		}
		if err != api.OK || length < 1 {
			t.Fatalf("Run: %d, %d, %d", first, length, err)
		}
		for block := first; block < first+length; block++ {
			if owned[block] || !isOwned(c, block) {
				t.Fatalf("block %d is allocated", block)
			}
			owned[block] = true
		}
		wantFree(t, d, 349-len(owned), api.OK)
	}
}
