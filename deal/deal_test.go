package deal_test

import (
	"maps"
	"math"
	"math/rand"
	"slices"
	"strconv"
	"strings"
	"testing"

	"wainwright/api"
	"wainwright/deal"
	"wainwright/log"
	"wainwright/slab"
)

// notBlocks are numbers that no slab of at most 1000 blocks has, some of them
// equal to block 50 or 60 in their lowest bytes.
var notBlocks = []int{math.MinInt, -1 << 40, -65536 + 50, -1000, -2, -1, 1000, 1001, 65535, 65536, 65536 + 50, 1<<32 + 60, math.MaxInt}

// notNodes are numbers that no file has, some of them equal to 5 in their
// lowest bits.
var notNodes = []int{math.MinInt, -1 << 40, -32 + 5, -5, -2, -1, 32, 33, 32 + 5, 64, 256 + 5, 65536 + 5, 1<<32 + 5, math.MaxInt}

func padded(s string) string { return s + strings.Repeat("\x00", api.Block-len(s)) }

// numbered returns the image of n blocks that all differ, with an empty log.
func numbered(n int) []string {
	image := make([]string, n)
	for i := range image {
		image[i] = padded("old" + strconv.Itoa(i))
	}
	image[1] = padded("")
	return image
}

func isInLog(i int) bool { return i >= 1 && i <= 41 }

// outside returns the blocks of a slab of n blocks that are not in the log.
func outside(n int) []int {
	blocks := []int{0}
	for i := 42; i < n; i++ {
		blocks = append(blocks, i)
	}
	return blocks
}

// crownBlock returns what the chapter of layer 10 says of a crown's block.
func crownBlock(c api.Crown) string {
	return padded("wainwright" + string([]byte{byte(c.Format), byte(c.Blocks), byte(c.Blocks / 256), byte(c.Cursor)}))
}

// cardBytes returns what the chapter of layer 9 says of a card's bytes.
func cardBytes(c api.Card) string {
	if c.Format == 0 {
		return strings.Repeat("\x00", 32)
	}
	bytes := []byte{byte(c.Format), byte(c.Kind), byte(c.Links), byte(c.Links / 256), byte(c.Size), byte(c.Size / 256), 0, 0}
	var words []int
	if c.Format == api.One {
		words = append(slices.Clone(c.Ptrs), c.Single, c.Double)
	} else {
		bytes = append(bytes, byte(len(c.Runs)))
		words = make([]int, 9)
		for k, run := range c.Runs {
			words[3*k], words[3*k+1], words[3*k+2] = run.At, run.Start, run.Len
		}
		words = append(words, c.Over)
	}
	for _, word := range words {
		bytes = append(bytes, byte(word), byte(word/256))
	}
	return string(bytes) + strings.Repeat("\x00", 32-len(bytes))
}

// validCards are cards of either format, and the zero card.
func validCards() []api.Card {
	return []api.Card{
		{},
		{Format: api.One, Kind: api.File, Links: 1, Ptrs: make([]int, 4)},
		{Format: api.One, Kind: api.Dir, Links: 200, Size: 9728, Ptrs: []int{51, 0, 65535, 258}, Single: 99, Double: 399},
		{Format: api.Two, Kind: api.File, Links: 1},
		{Format: api.Two, Kind: api.Dir, Links: 3, Size: 300, Runs: []api.Span{{At: 0, Start: 60, Len: 2}, {At: 3, Start: 70, Len: 1}}},
		{Format: api.Two, Kind: api.File, Links: 2, Size: 15360, Runs: []api.Span{{At: 0, Start: 60, Len: 2}, {At: 3, Start: 70, Len: 1}, {At: 5, Start: 300, Len: 9}}, Over: 65535},
	}
}

// invalidCards are cards that have no encoding.
func invalidCards() []api.Card {
	return []api.Card{
		{Links: 1},
		{Format: api.Up, Kind: api.File, Links: 1},
		{Format: api.One, Kind: api.File, Links: 1, Ptrs: make([]int, 3)},
		{Format: api.One, Kind: api.File, Links: 0, Ptrs: make([]int, 4)},
		{Format: api.One, Kind: api.File, Links: 1, Ptrs: make([]int, 4), Single: 65536},
		{Format: api.Two, Kind: api.Dir, Links: 201},
		{Format: api.Two, Kind: 3, Links: 1},
		{Format: api.Two, Kind: api.File, Links: 1, Over: 60},
		{Format: api.Two, Kind: api.File, Links: 1, Size: math.MaxInt},
	}
}

func sameCard(a, b api.Card) bool {
	return cardBytes(a) == cardBytes(b) && len(a.Ptrs) == len(b.Ptrs) && len(a.Runs) == len(b.Runs)
}

func mustOpen(t *testing.T, s *slab.Slab) *log.Log {
	t.Helper()
	l, err := log.Open(s)
	if err != api.OK {
		t.Fatalf("Open: %d", err)
	}
	return l
}

func mustBegin(t *testing.T, l *log.Log) *deal.Deal {
	t.Helper()
	d, err := deal.Begin(l)
	if err != api.OK || d == nil {
		t.Fatalf("Begin: %v, %d", d, err)
	}
	return d
}

// begun returns a slab with this image, its log and a deal of it.
func begun(t *testing.T, image []string) (*slab.Slab, *log.Log, *deal.Deal) {
	t.Helper()
	s := slab.Load(image)
	l := mustOpen(t, s)
	return s, l, mustBegin(t, l)
}

func mustWrite(t *testing.T, d *deal.Deal, i int, data string) {
	t.Helper()
	if err := d.Write(i, data); err != api.OK {
		t.Fatalf("Write(%d, %q): %d", i, data, err)
	}
}

func mustCommit(t *testing.T, d *deal.Deal) {
	t.Helper()
	if err := d.Commit(); err != api.OK {
		t.Fatalf("Commit: %d", err)
	}
}

func wantRead(t *testing.T, d *deal.Deal, i int, want string) {
	t.Helper()
	if got, err := d.Read(i); got != padded(want) || err != api.OK {
		t.Errorf("Read(%d): %q, %d, not %q", i, got, err, want)
	}
}

func wantChanged(t *testing.T, d *deal.Deal, want ...int) {
	t.Helper()
	if got := d.Changed(); !slices.Equal(got, want) {
		t.Errorf("changed are %d, not %d", got, want)
	}
}

func TestBegin(t *testing.T) {
	if d, err := deal.Begin(nil); d != nil || err != api.ErrArg {
		t.Errorf("nil: %v, %d", d, err)
	}
	s, l, d := begun(t, numbered(64))
	wantChanged(t, d)
	mustWrite(t, d, 60, "a")
	other := mustBegin(t, l)
	wantChanged(t, other)
	wantChanged(t, d, 60)
	if s.Calls() != 0 {
		t.Errorf("%d calls of the slab", s.Calls())
	}
}

func TestExampleOfTheChapter(t *testing.T) {
	_, _, d := begun(t, numbered(64))
	mustWrite(t, d, 60, "a")
	wantRead(t, d, 60, "a")
	d.Undo()
	wantRead(t, d, 60, "old60")
}

func TestEveryBlock(t *testing.T) {
	for _, size := range []int{64, 65, 400, 1000} {
		s, l, d := begun(t, numbered(size))
		for i := -2; i < size+2; i++ {
			if i < 0 || i >= size || isInLog(i) {
				wantNoBlock(t, d, i)
				continue
			}
			wantRead(t, d, i, "old"+strconv.Itoa(i))
			mustWrite(t, d, i, "new"+strconv.Itoa(i))
			wantRead(t, d, i, "new"+strconv.Itoa(i))
			wantRead(t, mustBegin(t, l), i, "old"+strconv.Itoa(i))
		}
		for _, i := range notBlocks {
			if i < 0 || i >= size {
				wantNoBlock(t, d, i)
			}
		}
		wantChanged(t, d, outside(size)...)
		if s.Calls() != 0 || !slices.Equal(s.Image(), numbered(size)) {
			t.Errorf("%d blocks: the slab was written", size)
		}
	}
}

// wantNoBlock wants of a block that it can be neither read nor written.
func wantNoBlock(t *testing.T, d *deal.Deal, i int) {
	t.Helper()
	if got, err := d.Read(i); got != "" || err != api.ErrArg {
		t.Errorf("Read(%d): %q, %d", i, got, err)
	}
	for _, data := range []string{"", "a", padded("a"), padded("a") + "a"} {
		if err := d.Write(i, data); err != api.ErrArg {
			t.Errorf("Write(%d) of %d bytes: %d", i, len(data), err)
		}
	}
}

func TestWritePads(t *testing.T) {
	_, _, d := begun(t, numbered(64))
	for n := range api.Block + 1 {
		mustWrite(t, d, 60, strings.Repeat("x", api.Block))
		mustWrite(t, d, 60, strings.Repeat("y", n))
		wantRead(t, d, 60, strings.Repeat("y", n))
	}
	mustWrite(t, d, 60, "\x00a\xff\x00")
	wantRead(t, d, 60, "\x00a\xff")
}

func TestWriteOfTooMuch(t *testing.T) {
	_, _, d := begun(t, numbered(64))
	mustWrite(t, d, 61, "a")
	for _, n := range []int{129, 130, 256, 1000, 1001, 5000} {
		for _, i := range []int{0, 42, 60, 61, 63} {
			if err := d.Write(i, strings.Repeat("x", n)); err != api.ErrArg {
				t.Errorf("%d bytes to %d: %d", n, i, err)
			}
		}
	}
	wantRead(t, d, 60, "old60")
	wantRead(t, d, 61, "a")
	wantChanged(t, d, 61)
}

func TestOthersDoNotReadWhatIsNotCommitted(t *testing.T) {
	_, l, d := begun(t, numbered(64))
	other := mustBegin(t, l)
	mustWrite(t, d, 60, "a")
	mustWrite(t, other, 61, "b")
	wantRead(t, d, 60, "a")
	wantRead(t, d, 61, "old61")
	wantRead(t, other, 60, "old60")
	wantRead(t, other, 61, "b")
	wantRead(t, mustBegin(t, l), 60, "old60")
	wantChanged(t, d, 60)
	wantChanged(t, other, 61)
	d.Undo()
	wantRead(t, other, 61, "b")
	wantChanged(t, other, 61)
}

// A block that was not written is read as it is at that time.
func TestReadsWhatOthersCommitted(t *testing.T) {
	s, l, d := begun(t, numbered(64))
	other := mustBegin(t, l)
	mustWrite(t, d, 62, "mine")
	mustWrite(t, other, 60, "a")
	mustWrite(t, other, 62, "b")
	wantRead(t, d, 60, "old60")
	mustCommit(t, other)
	wantRead(t, d, 60, "a")
	wantRead(t, d, 62, "mine")
	wantChanged(t, d, 62)
	if err := l.Commit([]api.Change{{Block: 60, Data: padded("c")}, {Block: 62, Data: padded("mine")}}); err != api.OK {
		t.Fatal(err)
	}
	wantRead(t, d, 60, "c")
	wantChanged(t, d)
	s.Write(60, "d")
	wantRead(t, d, 60, "d")
	s.Crash(nil)
	wantRead(t, d, 60, "c")
}

// A block that was written as it was is one that the deal has written.
func TestBlockThatIsWrittenAsItWas(t *testing.T) {
	s, l, d := begun(t, numbered(64))
	other := mustBegin(t, l)
	mustWrite(t, d, 60, "old60")
	mustWrite(t, d, 61, "a")
	mustWrite(t, d, 61, "old61")
	wantChanged(t, d)
	mustWrite(t, other, 60, "b")
	mustWrite(t, other, 61, "c")
	mustCommit(t, other)
	wantRead(t, d, 60, "old60")
	wantRead(t, d, 61, "old61")
	wantChanged(t, d, 60, 61)
	mustCommit(t, d)
	if s.Read(60) != padded("old60") || s.Read(61) != padded("old61") || l.Commits() != 2 {
		t.Errorf("%q %q %d", s.Read(60), s.Read(61), l.Commits())
	}
	// After the commit it has not written anything.
	mustWrite(t, other, 60, "e")
	mustCommit(t, other)
	wantRead(t, d, 60, "e")
	wantChanged(t, d)
}

func TestChangedIsInAscendingOrder(t *testing.T) {
	r := rand.New(rand.NewSource(12))
	for range 50 {
		_, _, d := begun(t, numbered(1000))
		blocks := outside(1000)
		r.Shuffle(len(blocks), func(a, b int) { blocks[a], blocks[b] = blocks[b], blocks[a] })
		blocks = blocks[:r.Intn(200)]
		for _, i := range blocks {
			mustWrite(t, d, i, "a")
		}
		for _, i := range blocks {
			wantRead(t, d, i, "a")
		}
		slices.Sort(blocks)
		wantChanged(t, d, blocks...)
	}
}

func TestUndo(t *testing.T) {
	s, l, d := begun(t, numbered(64))
	d.Undo()
	wantChanged(t, d)
	for _, i := range outside(64) {
		mustWrite(t, d, i, "a")
	}
	d.Undo()
	wantChanged(t, d)
	for _, i := range outside(64) {
		wantRead(t, d, i, "old"+strconv.Itoa(i))
	}
	mustCommit(t, d)
	if s.Calls() != 0 || l.Commits() != 0 {
		t.Errorf("%d calls, %d commits", s.Calls(), l.Commits())
	}
	mustWrite(t, d, 60, "b")
	wantRead(t, d, 60, "b")
	wantChanged(t, d, 60)
}

// The log still has the data of its last commit, in the order of the changes.
func TestCommitOfTheChangedBlocks(t *testing.T) {
	for _, written := range [][]int{{60}, {0}, {63, 0, 42}, {50, 61, 43, 62, 60, 42}} {
		s, l, d := begun(t, numbered(64))
		want := numbered(64)
		for _, i := range written {
			mustWrite(t, d, i, "new"+strconv.Itoa(i))
			want[i] = padded("new" + strconv.Itoa(i))
		}
		mustWrite(t, d, 51, "old51")
		slices.Sort(written)
		wantChanged(t, d, written...)
		mustCommit(t, d)
		for k, i := range written {
			want[2+k] = padded("new" + strconv.Itoa(i))
		}
		if got := s.Calls(); got != 2*len(written)+6 || l.Commits() != 1 || len(s.Loose()) != 0 {
			t.Errorf("%d: %d calls, %d commits, loose %d", written, got, l.Commits(), s.Loose())
		}
		if !slices.Equal(s.Image(), want) {
			t.Errorf("%d: the image differs", written)
		}
		wantChanged(t, d)
		mustCommit(t, d)
		if s.Calls() != 2*len(written)+6 || l.Commits() != 1 {
			t.Errorf("%d: a second commit wrote", written)
		}
	}
}

func TestCommitOfNoChanges(t *testing.T) {
	s, l, d := begun(t, numbered(64))
	mustCommit(t, d)
	for _, i := range outside(64) {
		mustWrite(t, d, i, "old"+strconv.Itoa(i))
	}
	mustCommit(t, d)
	s.Stop(0)
	mustCommit(t, d)
	if s.Calls() != 0 || l.Commits() != 0 {
		t.Errorf("%d calls, %d commits", s.Calls(), l.Commits())
	}
}

func TestDealIsUsedAgain(t *testing.T) {
	s, l, d := begun(t, numbered(64))
	for n := range 10 {
		name := strconv.Itoa(n)
		mustWrite(t, d, 60, name)
		mustWrite(t, d, 50+n, name)
		mustCommit(t, d)
		if s.Read(60) != padded(name) || s.Read(50+n) != padded(name) || l.Commits() != n+1 {
			t.Errorf("commit %d: %q %q", n, s.Read(60), s.Read(50+n))
		}
	}
}

func TestCommitOfTooMuch(t *testing.T) {
	for _, more := range []int{1, 2, 100} {
		s, l, d := begun(t, numbered(400))
		blocks := outside(400)[:api.LogBlocks+more]
		for _, i := range blocks {
			mustWrite(t, d, i, "a")
		}
		for range 2 {
			if err := d.Commit(); err != api.ErrBig {
				t.Errorf("%d too many: %d", more, err)
			}
		}
		wantChanged(t, d, blocks...)
		for _, i := range blocks {
			wantRead(t, d, i, "a")
		}
		if s.Calls() != 0 || l.Commits() != 0 {
			t.Errorf("%d too many: %d calls, %d commits", more, s.Calls(), l.Commits())
		}
		for _, i := range blocks[:more] {
			mustWrite(t, d, i, "old"+strconv.Itoa(i))
		}
		wantChanged(t, d, blocks[more:]...)
		mustCommit(t, d)
		wantChanged(t, d)
		if s.Calls() != 2*api.LogBlocks+6 || s.Read(blocks[more]) != padded("a") || s.Read(0) != padded("old0") {
			t.Errorf("%d too many, then fewer: %d calls", more, s.Calls())
		}
	}
}

// After a crash within a commit the deal reads what the slab has.
func TestCommitThatCrashes(t *testing.T) {
	const calls = 2*3 + 6
	for stop := range calls {
		s, l, d := begun(t, numbered(64))
		for _, i := range []int{60, 42, 0, 63} {
			mustWrite(t, d, i, "a")
		}
		mustWrite(t, d, 63, "old63")
		s.Stop(stop)
		if err := d.Commit(); err != api.ErrCrash {
			t.Errorf("stop %d: %d", stop, err)
		}
		wantChanged(t, d)
		for _, i := range outside(64) {
			wantRead(t, d, i, strings.TrimRight(s.Read(i), "\x00"))
		}
		wantNoCommit(t, d, s)
		wantNoCommit(t, mustBegin(t, l), s)
		s.Crash(nil)
		wantNoCommit(t, d, s)
		want := "old"
		if stop >= 6 {
			want = "a"
		}
		again := mustBegin(t, mustOpen(t, s))
		if got, err := again.Read(60); err != api.OK || !strings.HasPrefix(got, want) {
			t.Errorf("stop %d: recovered %q, %d", stop, got, err)
		}
		mustWrite(t, again, 60, "b")
		mustCommit(t, again)
	}
}

// wantNoCommit wants of a deal whose log had a crash that every commit fails,
// and undoes it.
func wantNoCommit(t *testing.T, d *deal.Deal, s *slab.Slab) {
	t.Helper()
	calls := s.Calls()
	for _, count := range []int{0, 1, 22} {
		for _, i := range outside(64)[:count] {
			mustWrite(t, d, i, "b")
		}
		if err := d.Commit(); err != api.ErrState || len(d.Changed()) != 0 || s.Calls() != calls {
			t.Errorf("%d changes: error %d, changed %d, %d calls", count, err, d.Changed(), s.Calls()-calls)
		}
	}
}

// The log names ErrState before ErrBig, and only ErrBig leaves the deal as it was.
func TestTooMuchAfterACrash(t *testing.T) {
	s, _, d := begun(t, numbered(400))
	mustWrite(t, d, 60, "a")
	s.Stop(0)
	if err := d.Commit(); err != api.ErrCrash {
		t.Fatal(err)
	}
	for _, i := range outside(400) {
		mustWrite(t, d, i, "b")
	}
	if err := d.Commit(); err != api.ErrState {
		t.Errorf("%d", err)
	}
	wantChanged(t, d)
	wantRead(t, d, 60, "old60")
}

// A stop does not reach what has no calls of the slab.
func TestNothingButCommitCallsTheSlab(t *testing.T) {
	s, _, d := begun(t, numbered(64))
	s.Stop(0)
	mustWrite(t, d, 60, "a")
	wantRead(t, d, 60, "a")
	if err := d.SetCrown(api.Crown{Format: api.Two, Blocks: 64}); err != api.OK {
		t.Errorf("SetCrown: %d", err)
	}
	if err := d.SetCard(5, validCards()[2]); err != api.OK {
		t.Errorf("SetCard: %d", err)
	}
	if c, err := d.Crown(); err != api.OK || c.Format != api.Two {
		t.Errorf("Crown: %v, %d", c, err)
	}
	if c, err := d.Card(5); err != api.OK || !sameCard(c, validCards()[2]) {
		t.Errorf("Card: %v, %d", c, err)
	}
	wantChanged(t, d, 0, 44, 60)
	d.Undo()
	if s.Calls() != 0 {
		t.Errorf("%d calls", s.Calls())
	}
}

// validCrowns are valid, but for slabs of fewer blocks.
var validCrowns = []api.Crown{
	{Format: api.One, Blocks: 64}, {Format: api.One, Blocks: 100}, {Format: api.Two, Blocks: 65},
	{Format: api.Up, Blocks: 64, Cursor: 32}, {Format: api.Down, Blocks: 300, Cursor: 7}, {Format: api.Two, Blocks: 400},
}

func TestCrown(t *testing.T) {
	for _, size := range []int{64, 65, 99, 100, 299, 300, 399, 400, 401, 1000} {
		for _, c := range validCrowns {
			image := numbered(size)
			image[0] = crownBlock(c)
			_, _, loaded := begun(t, image)
			_, _, written := begun(t, numbered(size))
			mustWrite(t, written, 0, crownBlock(c))
			_, _, set := begun(t, numbered(size))
			wantErr, wantRead, want := api.OK, api.OK, c
			if c.Blocks > size {
				wantErr, wantRead, want = api.ErrArg, api.ErrCorrupt, api.Crown{}
			}
			if err := set.SetCrown(c); err != wantErr {
				t.Errorf("%v on %d blocks: SetCrown: %d", c, size, err)
			}
			for _, d := range []*deal.Deal{loaded, written, set} {
				if got, err := d.Crown(); got != want || err != wantRead {
					t.Errorf("%v on %d blocks: Crown: %v, %d", c, size, got, err)
				}
			}
			if got, _ := set.Read(0); wantErr == api.OK && got != crownBlock(c) {
				t.Errorf("%v on %d blocks: %q", c, size, got)
			}
		}
	}
}

func TestSetCrownOfAnInvalidCrown(t *testing.T) {
	for _, c := range []api.Crown{
		{}, {Format: api.One}, {Format: 0, Blocks: 64}, {Format: 5, Blocks: 64}, {Format: -1, Blocks: 64},
		{Format: api.One, Blocks: 63}, {Format: api.Two, Blocks: 401}, {Format: api.Two, Blocks: 400, Cursor: 1},
		{Format: api.Up, Blocks: 400, Cursor: 33}, {Format: api.Down, Blocks: 400, Cursor: -1},
		{Format: api.One, Blocks: math.MinInt}, {Format: api.One, Blocks: math.MaxInt},
		{Format: math.MaxInt, Blocks: 64}, {Format: api.Up, Blocks: 64, Cursor: math.MinInt},
	} {
		_, _, d := begun(t, numbered(1000))
		if err := d.SetCrown(c); err != api.ErrArg {
			t.Errorf("%v: %d", c, err)
		}
		wantChanged(t, d)
		wantRead(t, d, 0, "old0")
	}
}

func TestCrownOfABlockThatHasNone(t *testing.T) {
	valid := crownBlock(api.Crown{Format: api.Up, Blocks: 400, Cursor: 7})
	for i := range api.Block {
		for _, b := range []byte{0, 1, 2, 5, 'w', valid[i] ^ 1, valid[i] ^ 128, 255} {
			block := valid[:i] + string([]byte{b}) + valid[i+1:]
			_, _, d := begun(t, numbered(1000))
			mustWrite(t, d, 0, block)
			c, err := d.Crown()
			if err == api.OK && crownBlock(c) != block || err == api.ErrCorrupt && c != (api.Crown{}) {
				t.Errorf("byte %d is %d: %v, %d", i, b, c, err)
			}
			if err != api.OK && err != api.ErrCorrupt || err == api.OK && (i < 10 || i > 13) && block != valid {
				t.Errorf("byte %d is %d: %v, %d", i, b, c, err)
			}
		}
	}
	for _, size := range []int{64, 400, 1000} {
		_, _, d := begun(t, numbered(size))
		if c, err := d.Crown(); c != (api.Crown{}) || err != api.ErrCorrupt {
			t.Errorf("%d blocks: %v, %d", size, c, err)
		}
	}
}

// Every card has a place of its own in the blocks 43 to 50.
func TestCards(t *testing.T) {
	for _, c := range validCards() {
		for node := range api.Files {
			_, l, d := begun(t, numbered(64))
			if err := d.SetCard(node, c); err != api.OK {
				t.Errorf("node %d: SetCard(%v): %d", node, c, err)
			}
			if got, err := d.Card(node); !sameCard(got, c) || err != api.OK {
				t.Errorf("node %d: %v, %d, not %v", node, got, err, c)
			}
			block, at := 43+node/4, 32*(node%4)
			old := padded("old" + strconv.Itoa(block))
			want := old[:at] + cardBytes(c) + old[at+32:]
			if got, err := d.Read(block); got != want || err != api.OK {
				t.Errorf("node %d: the block is %q, not %q", node, got, want)
			}
			// The zero card is what the last three places of an old block have.
			if at > 0 && c.Format == 0 {
				wantChanged(t, d)
			} else {
				wantChanged(t, d, block)
			}
			wantRead(t, mustBegin(t, l), block, "old"+strconv.Itoa(block))
		}
	}
}

func TestCardsOfAllNodes(t *testing.T) {
	s, l, d := begun(t, make([]string, 64))
	for node := range api.Files {
		if c, err := d.Card(node); !sameCard(c, api.Card{}) || err != api.OK {
			t.Errorf("node %d of a new slab: %v, %d", node, c, err)
		}
	}
	card := func(node int) api.Card {
		return api.Card{Format: api.One, Kind: api.File, Links: node + 1, Ptrs: []int{node, 0, 0, 0}}
	}
	for node := range api.Files {
		if err := d.SetCard(node, card(node)); err != api.OK {
			t.Errorf("node %d: %d", node, err)
		}
	}
	wantChanged(t, d, 43, 44, 45, 46, 47, 48, 49, 50)
	for round := range 2 {
		for node := range api.Files {
			if c, err := d.Card(node); !sameCard(c, card(node)) || err != api.OK {
				t.Errorf("round %d, node %d: %v, %d", round, node, c, err)
			}
		}
		mustCommit(t, d)
	}
	if l.Commits() != 1 || s.Calls() != 2*8+6 {
		t.Errorf("%d commits, %d calls", l.Commits(), s.Calls())
	}
}

// The block of a card is written as a whole.
func TestCardsOfABlockThatOthersCommit(t *testing.T) {
	_, l, d := begun(t, make([]string, 64))
	other := mustBegin(t, l)
	one, two := validCards()[1], validCards()[4]
	if d.SetCard(4, one) != api.OK || other.SetCard(5, two) != api.OK || other.SetCard(8, two) != api.OK {
		t.Fatal("SetCard")
	}
	mustCommit(t, other)
	if c, err := d.Card(5); !sameCard(c, api.Card{}) || err != api.OK {
		t.Errorf("5: %v, %d", c, err)
	}
	if c, err := d.Card(8); !sameCard(c, two) || err != api.OK {
		t.Errorf("8: %v, %d", c, err)
	}
	if c, err := other.Card(4); !sameCard(c, api.Card{}) || err != api.OK {
		t.Errorf("4: %v, %d", c, err)
	}
	mustCommit(t, d)
	if c, err := other.Card(4); !sameCard(c, one) || err != api.OK {
		t.Errorf("4: %v, %d", c, err)
	}
}

func TestCardOfNoNode(t *testing.T) {
	_, _, d := begun(t, numbered(64))
	for _, node := range notNodes {
		if c, err := d.Card(node); !sameCard(c, api.Card{}) || err != api.ErrNone {
			t.Errorf("Card(%d): %v, %d", node, c, err)
		}
		for _, c := range slices.Concat(validCards(), invalidCards()) {
			if err := d.SetCard(node, c); err != api.ErrNone {
				t.Errorf("SetCard(%d, %v): %d", node, c, err)
			}
		}
	}
	wantChanged(t, d)
}

func TestSetCardOfAnInvalidCard(t *testing.T) {
	_, _, d := begun(t, numbered(64))
	for node := range api.Files {
		for _, c := range invalidCards() {
			if err := d.SetCard(node, c); err != api.ErrArg {
				t.Errorf("SetCard(%d, %v): %d", node, c, err)
			}
		}
	}
	wantChanged(t, d)
	wantRead(t, d, 43, "old43")
}

// Only the bytes of the card itself make it valid.
func TestCardOfBytesThatAreNone(t *testing.T) {
	for _, c := range validCards() {
		valid := cardBytes(c)
		for i := range len(valid) {
			for _, b := range []byte{0, 1, 2, 3, 4, valid[i] ^ 1, valid[i] ^ 128, 255} {
				bytes := valid[:i] + string([]byte{b}) + valid[i+1:]
				_, _, d := begun(t, numbered(64))
				mustWrite(t, d, 44, strings.Repeat("x", 32)+bytes+strings.Repeat("y", 64))
				got, err := d.Card(5)
				if err == api.OK && cardBytes(got) != bytes || err == api.ErrCorrupt && !sameCard(got, api.Card{}) {
					t.Errorf("byte %d of %v is %d: %v, %d", i, c, b, got, err)
				}
				if err != api.OK && err != api.ErrCorrupt || bytes == valid && err != api.OK {
					t.Errorf("byte %d of %v is %d: %v, %d", i, c, b, got, err)
				}
			}
		}
	}
	_, _, d := begun(t, numbered(64))
	for node := range api.Files {
		wantErr := api.OK
		if node%4 == 0 {
			wantErr = api.ErrCorrupt
		}
		if c, err := d.Card(node); !sameCard(c, api.Card{}) || err != wantErr {
			t.Errorf("node %d: %v, %d", node, c, err)
		}
	}
}

func TestNilDeal(t *testing.T) {
	var d *deal.Deal
	for _, i := range append([]int{0, 1, 42, 60}, notBlocks...) {
		wantNoBlock(t, d, i)
	}
	if c, err := d.Crown(); c != (api.Crown{}) || err != api.ErrArg {
		t.Errorf("Crown: %v, %d", c, err)
	}
	for _, c := range append(validCrowns, api.Crown{}) {
		if err := d.SetCrown(c); err != api.ErrArg {
			t.Errorf("SetCrown(%v): %d", c, err)
		}
	}
	for _, node := range append([]int{0, 1, 31}, notNodes...) {
		if c, err := d.Card(node); !sameCard(c, api.Card{}) || err != api.ErrArg {
			t.Errorf("Card(%d): %v, %d", node, c, err)
		}
		for _, c := range slices.Concat(validCards(), invalidCards()) {
			if err := d.SetCard(node, c); err != api.ErrArg {
				t.Errorf("SetCard(%d, %v): %d", node, c, err)
			}
		}
	}
	d.Undo()
	wantChanged(t, d)
	if err := d.Commit(); err != api.ErrArg {
		t.Errorf("Commit: %d", err)
	}
}

// A deal without a log, or of one that was not opened, has no blocks.
func TestDealWithoutBlocks(t *testing.T) {
	for name, d := range map[string]*deal.Deal{"no log": new(deal.Deal), "log not opened": mustBegin(t, new(log.Log))} {
		for _, i := range append([]int{0, 1, 42, 43, 60}, notBlocks...) {
			wantNoBlock(t, d, i)
		}
		if c, err := d.Crown(); c != (api.Crown{}) || err != api.ErrCorrupt {
			t.Errorf("%s: Crown: %v, %d", name, c, err)
		}
		for _, c := range append(validCrowns, api.Crown{}) {
			if err := d.SetCrown(c); err != api.ErrArg {
				t.Errorf("%s: SetCrown(%v): %d", name, c, err)
			}
		}
		if c, err := d.Card(5); !sameCard(c, api.Card{}) || err != api.ErrCorrupt {
			t.Errorf("%s: Card: %v, %d", name, c, err)
		}
		if c, err := d.Card(32); !sameCard(c, api.Card{}) || err != api.ErrNone {
			t.Errorf("%s: Card: %v, %d", name, c, err)
		}
		for _, c := range slices.Concat(validCards(), invalidCards()) {
			if err := d.SetCard(5, c); err != api.ErrArg {
				t.Errorf("%s: SetCard(%v): %d", name, c, err)
			}
		}
		wantChanged(t, d)
		d.Undo()
		d.Commit()
		wantChanged(t, d)
	}
}

func TestMemoryIsNotShared(t *testing.T) {
	_, _, d := begun(t, make([]string, 64))
	c := api.Card{Format: api.One, Kind: api.File, Links: 1, Ptrs: []int{51, 52, 53, 54}}
	two := api.Card{Format: api.Two, Kind: api.File, Links: 1, Runs: []api.Span{{At: 0, Start: 60, Len: 2}}}
	if d.SetCard(5, c) != api.OK || d.SetCard(6, two) != api.OK {
		t.Fatal("SetCard")
	}
	if !slices.Equal(c.Ptrs, []int{51, 52, 53, 54}) || !slices.Equal(two.Runs, []api.Span{{At: 0, Start: 60, Len: 2}}) {
		t.Errorf("modified: %v %v", c, two)
	}
	c.Ptrs[0], two.Runs[0].Start = 99, 99
	for range 2 {
		one, _ := d.Card(5)
		runs, _ := d.Card(6)
		if one.Ptrs[0] != 51 || runs.Runs[0].Start != 60 {
			t.Errorf("kept: %v %v", one, runs)
		}
		one.Ptrs[0], runs.Runs[0].Start = 98, 98
	}
	mustWrite(t, d, 60, "a")
	changed := d.Changed()
	changed[0], changed[1] = 1, 1
	wantChanged(t, d, 44, 60)
}

// model is what the chapter says of several deals of one log.
type model struct {
	disk    []string
	written []map[int]string
	crashed bool
	commits int
}

func (m *model) read(k, i int) string {
	if data, found := m.written[k][i]; found {
		return data
	}
	return m.disk[i]
}

func (m *model) changed(k int) []int {
	var blocks []int
	for _, i := range slices.Sorted(maps.Keys(m.written[k])) {
		if m.written[k][i] != m.disk[i] {
			blocks = append(blocks, i)
		}
	}
	return blocks
}

// commit returns what a commit returns while the slab does not stop.
func (m *model) commit(k int) api.Errno {
	blocks := m.changed(k)
	if len(blocks) > api.LogBlocks && !m.crashed {
		return api.ErrBig
	}
	err := api.ErrState
	if !m.crashed {
		err = api.OK
		for _, i := range blocks {
			m.disk[i] = m.written[k][i]
		}
		if len(blocks) > 0 {
			m.commits++
		}
	}
	clear(m.written[k])
	return err
}

func (m *model) setCard(k, node int, card string) {
	block, at := 43+node/4, 32*(node%4)
	old := m.read(k, block)
	m.written[k][block] = old[:at] + card + old[at+32:]
}

// wantModel holds everything that a deal can tell against the model.
func wantModel(t *testing.T, m *model, k int, d *deal.Deal) {
	t.Helper()
	wantChanged(t, d, m.changed(k)...)
	for i := range m.disk {
		if !isInLog(i) {
			if got, err := d.Read(i); got != m.read(k, i) || err != api.OK {
				t.Fatalf("deal %d: Read(%d): %q, %d", k, i, got, err)
			}
		}
	}
	c, err := d.Crown()
	if block := m.read(k, 0); err == api.OK && (crownBlock(c) != block || c.Blocks > len(m.disk)) {
		t.Fatalf("deal %d: Crown: %v, %d", k, c, err)
	} else if err != api.OK && slices.ContainsFunc(validCrowns, func(c api.Crown) bool { return crownBlock(c) == block && c.Blocks <= len(m.disk) }) {
		t.Fatalf("deal %d: Crown: %d", k, err)
	}
	for node := range api.Files {
		c, err := d.Card(node)
		at := 32 * (node % 4)
		if bytes := m.read(k, 43+node/4)[at : at+32]; err == api.OK && cardBytes(c) != bytes {
			t.Fatalf("deal %d: Card(%d): %v", k, node, c)
		} else if err != api.OK && slices.ContainsFunc(validCards(), func(c api.Card) bool { return cardBytes(c) == bytes }) {
			t.Fatalf("deal %d: Card(%d): %d", k, node, err)
		}
	}
}

// randomStep lets deal k and the model make the same call, and holds the
// results against each other.
func randomStep(t *testing.T, r *rand.Rand, m *model, k int, d *deal.Deal) {
	t.Helper()
	size := len(m.disk)
	switch r.Intn(12) {
	case 0, 1, 2, 3, 4:
		i, data := r.Intn(size+2), strings.Repeat(string(rune('a'+r.Intn(3))), r.Intn(4))
		if r.Intn(3) == 0 && i < size {
			data = m.disk[i]
		}
		wantErr := api.ErrArg
		if i < size && !isInLog(i) {
			wantErr = api.OK
			m.written[k][i] = padded(data[:min(len(data), api.Block)])
		}
		if err := d.Write(i, data); err != wantErr {
			t.Fatalf("Write(%d): %d", i, err)
		}
	case 5:
		c := validCrowns[r.Intn(len(validCrowns))]
		wantErr := api.ErrArg
		if c.Blocks <= size {
			wantErr = api.OK
			m.written[k][0] = crownBlock(c)
		}
		if err := d.SetCrown(c); err != wantErr {
			t.Fatalf("SetCrown(%v): %d", c, err)
		}
	case 6, 7:
		node, c := r.Intn(api.Files), validCards()[r.Intn(len(validCards()))]
		m.setCard(k, node, cardBytes(c))
		if err := d.SetCard(node, c); err != api.OK {
			t.Fatalf("SetCard(%d, %v): %d", node, c, err)
		}
	case 8:
		d.Undo()
		clear(m.written[k])
	case 9, 10:
		if err, want := d.Commit(), m.commit(k); err != want {
			t.Fatalf("Commit: %d, not %d", err, want)
		}
	case 11:
		node, c := notNodes[r.Intn(len(notNodes))], invalidCards()[r.Intn(len(invalidCards()))]
		if err := d.SetCard(node, c); err != api.ErrNone {
			t.Fatalf("SetCard(%d, %v): %d", node, c, err)
		}
		if err := d.SetCard(r.Intn(api.Files), c); err != api.ErrArg {
			t.Fatalf("SetCard(%v): %d", c, err)
		}
	}
}

func TestRandomCalls(t *testing.T) {
	r := rand.New(rand.NewSource(1212))
	for round := range 40 {
		size := []int{64, 99, 400, 1000}[round%4]
		s := slab.Load(numbered(size))
		l := mustOpen(t, s)
		m := &model{disk: numbered(size)}
		var deals []*deal.Deal
		for range 3 {
			deals = append(deals, mustBegin(t, l))
			m.written = append(m.written, map[int]string{})
		}
		for range 150 {
			k := r.Intn(len(deals))
			calls, commits := s.Calls(), m.commits
			randomStep(t, r, m, k, deals[k])
			if m.commits == commits && s.Calls() != calls {
				t.Fatal("the slab was called without a commit")
			}
			if l.Commits() != m.commits {
				t.Fatalf("%d commits, not %d", l.Commits(), m.commits)
			}
			other := r.Intn(len(deals))
			wantModel(t, m, other, deals[other])
		}
		for k, d := range deals {
			wantModel(t, m, k, d)
		}
	}
}

// A commit that the slab stops leaves the deal without changes, and the others
// with theirs; the log does not commit any more.
func TestRandomCallsWithCrashes(t *testing.T) {
	r := rand.New(rand.NewSource(121212))
	for range 60 {
		size := 64 + r.Intn(60)
		s := slab.Load(numbered(size))
		l := mustOpen(t, s)
		m := &model{disk: numbered(size), written: []map[int]string{{}, {}, {}}}
		deals := []*deal.Deal{mustBegin(t, l), mustBegin(t, l), mustBegin(t, l)}
		for range 60 {
			k := r.Intn(len(deals))
			if blocks := m.changed(k); r.Intn(8) == 0 && len(blocks) > 0 && len(blocks) <= api.LogBlocks && !m.crashed {
				s.Stop(r.Intn(2*len(blocks) + 6))
				if err := deals[k].Commit(); err != api.ErrCrash {
					t.Fatalf("Commit: %d", err)
				}
				s.Stop(-1)
				clear(m.written[k])
				m.disk, m.crashed = s.Image(), true
			}
			randomStep(t, r, m, k, deals[k])
			for k, d := range deals {
				wantModel(t, m, k, d)
			}
		}
	}
}
