package log_test

import (
	"math"
	"math/rand"
	"slices"
	"strconv"
	"strings"
	"testing"

	"wainwright/api"
	"wainwright/log"
	"wainwright/slab"
)

// notBlocks are numbers that no slab of at most 1000 blocks has, some of them
// equal to block 50 or 60 in their lowest bytes.
var notBlocks = []int{math.MinInt, -1 << 40, -65536 + 50, -1000, -2, -1, 1000, 1001, 65535, 65536, 65536 + 50, 1<<32 + 60, math.MaxInt}

// call is a call of a slab: Flush, or else Write.
type call struct {
	flush bool
	block int
	data  string
}

func full(s string) string { return strings.Repeat(s, api.Block)[:api.Block] }

func padded(s string) string { return s + strings.Repeat("\x00", api.Block-len(s)) }

// numbered returns the image of n blocks that all differ, with an empty head.
func numbered(n int) []string {
	image := make([]string, n)
	for i := range image {
		image[i] = full("old" + strconv.Itoa(i) + ".")
	}
	image[1] = padded("")
	return image
}

// changesOf returns changes of these blocks, all of whose data differ.
func changesOf(name string, blocks ...int) []api.Change {
	c := make([]api.Change, len(blocks))
	for k, block := range blocks {
		c[k] = api.Change{Block: block, Data: full(name + strconv.Itoa(k) + ".")}
	}
	return c
}

// upTo returns n blocks from a first one on.
func upTo(first, n int) []int {
	blocks := make([]int, n)
	for k := range blocks {
		blocks[k] = first + k
	}
	return blocks
}

func headOf(blocks ...int) string {
	bytes := []byte{byte(len(blocks))}
	for _, block := range blocks {
		bytes = append(bytes, byte(block%256), byte(block/256))
	}
	return padded(string(bytes))
}

// recoveryCalls returns what the chapter says of a recovery.
func recoveryCalls(c []api.Change) []call {
	var calls []call
	for _, change := range c {
		calls = append(calls, call{block: change.Block, data: change.Data})
	}
	return append(calls, call{flush: true}, call{block: 1, data: headOf()}, call{flush: true})
}

// commitCalls returns what the chapter says of a commit.
func commitCalls(c []api.Change) []call {
	var calls []call
	var blocks []int
	for k, change := range c {
		calls = append(calls, call{block: 2 + k, data: change.Data})
		blocks = append(blocks, change.Block)
	}
	calls = append(calls, call{flush: true}, call{block: 1, data: headOf(blocks...)}, call{flush: true})
	return append(calls, recoveryCalls(c)...)
}

// imageWithLog returns the image with these changes in its log.
func imageWithLog(image []string, c []api.Change) []string {
	with := slices.Clone(image)
	var blocks []int
	for k, change := range c {
		with[2+k] = change.Data
		blocks = append(blocks, change.Block)
	}
	with[1] = headOf(blocks...)
	return with
}

// applied returns the image with the changes made.
func applied(image []string, c []api.Change) []string {
	after := slices.Clone(image)
	for _, change := range c {
		after[change.Block] = change.Data
	}
	return after
}

// outside returns the blocks of an image that are not in the log.
func outside(image []string) []string {
	return slices.Concat(image[:1], image[42:])
}

func mustOpen(t *testing.T, s *slab.Slab) *log.Log {
	t.Helper()
	l, err := log.Open(s)
	if err != api.OK || l == nil {
		t.Fatalf("Open: %v, %d", l, err)
	}
	return l
}

func mustCommit(t *testing.T, l *log.Log, c []api.Change) {
	t.Helper()
	if err := l.Commit(c); err != api.OK {
		t.Fatalf("Commit of %d changes: %d", len(c), err)
	}
}

func mustFlush(t *testing.T, s *slab.Slab) {
	t.Helper()
	if err := s.Flush(); err != api.OK {
		t.Fatalf("Flush: %d", err)
	}
}

// wantSame holds two slabs against each other, their durable contents too,
// which it reads after a crash.
func wantSame(t *testing.T, name string, got, want *slab.Slab) {
	t.Helper()
	if !slices.Equal(got.Image(), want.Image()) {
		t.Errorf("%s: the image differs", name)
	}
	if !slices.Equal(got.Loose(), want.Loose()) {
		t.Errorf("%s: loose are %d, not %d", name, got.Loose(), want.Loose())
	}
	got.Crash(nil)
	want.Crash(nil)
	if !slices.Equal(got.Image(), want.Image()) {
		t.Errorf("%s: the durable image differs", name)
	}
}

// wantCalls holds what act makes of an image, at every stop, against these
// calls. Prepare comes before the stop.
func wantCalls(t *testing.T, image []string, calls []call, prepare func(s *slab.Slab) func() api.Errno) {
	t.Helper()
	for stop := range len(calls) + 1 {
		s, model := slab.Load(image), slab.Load(image)
		act := prepare(s)
		before := s.Calls()
		s.Stop(stop)
		err := act()
		name := strconv.Itoa(stop) + " of " + strconv.Itoa(len(calls)) + " calls"
		wantErr, wantCount := api.OK, len(calls)
		if stop < len(calls) {
			wantErr, wantCount = api.ErrCrash, stop+1
		}
		if err != wantErr || s.Calls()-before != wantCount {
			t.Errorf("%s: error %d after %d calls", name, err, s.Calls()-before)
		}
		for _, x := range calls[:stop] {
			if x.flush {
				model.Flush()
			} else {
				model.Write(x.block, x.data)
			}
		}
		wantSame(t, name, s, model)
	}
}

// commitOf returns for wantCalls the commit of c.
func commitOf(t *testing.T, c []api.Change) func(s *slab.Slab) func() api.Errno {
	return func(s *slab.Slab) func() api.Errno {
		l := mustOpen(t, s)
		return func() api.Errno { return l.Commit(c) }
	}
}

// reopening is for wantCalls what Open does.
func reopening(s *slab.Slab) func() api.Errno {
	return func() api.Errno {
		l, err := log.Open(s)
		if (l == nil) != (err != api.OK) {
			return -1
		}
		return err
	}
}

// changeLists are lists of changes that slabs of 64, 400 and 1000 blocks take.
func changeLists() map[int][][]api.Change {
	return map[int][][]api.Change{
		64: {
			changesOf("a", 0),
			changesOf("b", 42),
			changesOf("c", 63),
			changesOf("d", 60, 61),
			changesOf("e", 63, 0, 42),
			changesOf("f", append(upTo(42, 22), 0)...),
		},
		400: {
			changesOf("g", 399, 255, 256, 257, 0),
			changesOf("h", upTo(42, 39)...),
			changesOf("i", upTo(42, 40)...),
			changesOf("j", upTo(360, 40)...),
		},
		1000: {
			changesOf("k", 999),
			changesOf("l", append(upTo(500, 38), 999, 0)...),
		},
	}
}

func TestCommitTakesTheStepsOfTheChapter(t *testing.T) {
	for size, lists := range changeLists() {
		for _, c := range lists {
			wantCalls(t, numbered(size), commitCalls(c), commitOf(t, c))
		}
	}
}

func TestRecoveryTakesTheStepsOfTheChapter(t *testing.T) {
	for size, lists := range changeLists() {
		for _, c := range lists {
			wantCalls(t, imageWithLog(numbered(size), c), recoveryCalls(c), reopening)
		}
	}
}

func TestExampleOfTheChapter(t *testing.T) {
	s := slab.New(64)
	l := mustOpen(t, s)
	mustCommit(t, l, changesOf("a", 60, 61))
	if s.Calls() != 10 {
		t.Errorf("%d calls", s.Calls())
	}
}

// A commit of what is there already takes all steps too.
func TestCommitOfTheSameData(t *testing.T) {
	image := numbered(64)
	c := []api.Change{{Block: 60, Data: image[60]}, {Block: 50, Data: image[50]}}
	wantCalls(t, image, commitCalls(c), commitOf(t, c))
}

// The log may have data of earlier changes, and blocks that nobody wrote.
func TestCommitsFollowEachOther(t *testing.T) {
	s := slab.Load(numbered(400))
	l := mustOpen(t, s)
	want := numbered(400)
	for n, c := range [][]api.Change{
		changesOf("a", upTo(42, 40)...), changesOf("b", 60), changesOf("c", 0, 60, 399), changesOf("d", upTo(60, 7)...),
	} {
		mustCommit(t, l, c)
		want = applied(want, c)
		if !slices.Equal(outside(s.Image()), outside(want)) {
			t.Errorf("commit %d: the image differs", n)
		}
		if len(s.Loose()) != 0 || s.Read(1) != headOf() {
			t.Errorf("commit %d: loose %d, head %q", n, s.Loose(), s.Read(1))
		}
		if l.Commits() != n+1 {
			t.Errorf("commit %d: Commits: %d", n, l.Commits())
		}
	}
}

// What others wrote to the slab without a flush becomes durable with the first one.
func TestCommitFlushesWhatOthersWrote(t *testing.T) {
	s := slab.Load(numbered(64))
	l := mustOpen(t, s)
	s.Write(50, full("other."))
	mustCommit(t, l, changesOf("a", 60))
	s.Crash(nil)
	if s.Read(50) != full("other.") || s.Read(60) != full("a0.") {
		t.Errorf("%q %q", s.Read(50), s.Read(60))
	}
}

func TestCommitOfNoChanges(t *testing.T) {
	s := slab.Load(numbered(64))
	l := mustOpen(t, s)
	s.Write(50, "loose")
	before := s.Calls()
	mustCommit(t, l, nil)
	mustCommit(t, l, []api.Change{})
	s.Stop(0)
	mustCommit(t, l, nil) // nothing is written, so no call fails
	if s.Calls() != before || !slices.Equal(s.Loose(), []int{50}) || l.Commits() != 0 {
		t.Errorf("%d calls, loose %d, %d commits", s.Calls()-before, s.Loose(), l.Commits())
	}
}

// wantRefused holds that a commit returns err and changes nothing.
func wantRefused(t *testing.T, s *slab.Slab, l *log.Log, c []api.Change, err api.Errno) {
	t.Helper()
	image, loose, calls, commits := s.Image(), s.Loose(), s.Calls(), l.Commits()
	if got := l.Commit(c); got != err {
		t.Errorf("Commit of %d changes: %d, not %d", len(c), got, err)
	}
	if !slices.Equal(s.Image(), image) || !slices.Equal(s.Loose(), loose) || s.Calls() != calls || l.Commits() != commits {
		t.Errorf("Commit of %d changes with error %d changed something", len(c), err)
	}
}

// besides returns lists that have the change x in different places of otherwise
// valid changes.
func besides(x api.Change) [][]api.Change {
	lists := [][]api.Change{{x}, append(changesOf("a", upTo(42, 5)...), x)}
	for k := range 4 {
		lists = append(lists, slices.Insert(changesOf("a", 0, 62, 47), k, x))
	}
	return lists
}

func TestCommitWithAnInvalidBlock(t *testing.T) {
	for _, size := range []int{64, 400, 1000} {
		s := slab.Load(numbered(size))
		l := mustOpen(t, s)
		s.Write(50, "loose")
		for _, block := range slices.Concat(notBlocks, []int{size, size + 1, 1000}, upTo(1, 41)) {
			for _, c := range besides(api.Change{Block: block, Data: full("x")}) {
				wantRefused(t, s, l, c, api.ErrArg)
			}
		}
		// The log goes on after an error.
		mustCommit(t, l, changesOf("a", 0, 42, size-1))
	}
}

func TestCommitTakesEveryBlockOutsideTheLog(t *testing.T) {
	for _, size := range []int{64, 65, 400, 1000} {
		s := slab.Load(numbered(size))
		l := mustOpen(t, s)
		for i := range size {
			want := api.OK
			if i >= 1 && i <= 41 {
				want = api.ErrArg
			}
			if err := l.Commit(changesOf("a", i)); err != want {
				t.Errorf("block %d of %d: %d, not %d", i, size, err, want)
			}
		}
		if l.Commits() != size-41 {
			t.Errorf("%d blocks: Commits: %d", size, l.Commits())
		}
	}
}

func TestCommitWithABlockThatOccursTwice(t *testing.T) {
	s := slab.Load(numbered(400))
	l := mustOpen(t, s)
	for _, blocks := range [][]int{
		{60, 60}, {0, 0}, {60, 61, 60}, {61, 60, 60}, {60, 60, 61}, {60, 60, 60}, {399, 0, 42, 399}, append(upTo(42, 39), 42), append(upTo(42, 39), 80),
	} {
		wantRefused(t, s, l, changesOf("a", blocks...), api.ErrArg)
	}
	same := api.Change{Block: 60, Data: full("same")}
	wantRefused(t, s, l, []api.Change{same, same}, api.ErrArg)
	// Blocks whose lowest bytes are the same are not the same block.
	mustCommit(t, l, changesOf("a", 50, 50+256))
}

func TestCommitWithDataOfAnotherLength(t *testing.T) {
	s := slab.Load(numbered(64))
	l := mustOpen(t, s)
	for _, n := range []int{0, 1, 2, 64, 126, 127, 129, 130, 255, 256, 1000, 5000} {
		for _, c := range besides(api.Change{Block: 50, Data: strings.Repeat("x", n)}) {
			wantRefused(t, s, l, c, api.ErrArg)
		}
	}
	mustCommit(t, l, []api.Change{{Block: 50, Data: full("\x00")}, {Block: 51, Data: full("\xff")}, {Block: 52, Data: full("é")}})
}

func TestCommitOfTooManyChanges(t *testing.T) {
	s := slab.Load(numbered(400))
	l := mustOpen(t, s)
	for _, n := range []int{41, 42, 80, 128, 255, 256, 257, 296, 340} {
		wantRefused(t, s, l, changesOf("a", upTo(42, n)...), api.ErrBig)
		// ErrBig comes before the errors of the changes.
		wantRefused(t, s, l, make([]api.Change, n), api.ErrBig)
		wantRefused(t, s, l, changesOf("a", upTo(-5, n)...), api.ErrBig)
	}
	wantRefused(t, s, l, make([]api.Change, 70000), api.ErrBig)
	mustCommit(t, l, changesOf("a", upTo(42, 40)...))
	// At the limit the errors of the changes are told.
	wantRefused(t, s, l, make([]api.Change, 40), api.ErrArg)
}

// On a slab that is stopped, an argument that is not valid is told before the crash.
func TestRefusalsComeBeforeACrash(t *testing.T) {
	s := slab.Load(numbered(64))
	l := mustOpen(t, s)
	s.Stop(0)
	wantRefused(t, s, l, make([]api.Change, 41), api.ErrBig)
	wantRefused(t, s, l, changesOf("a", 1), api.ErrArg)
	wantRefused(t, s, l, changesOf("a", 64), api.ErrArg)
	wantRefused(t, s, l, changesOf("a", 60, 60), api.ErrArg)
	wantRefused(t, s, l, []api.Change{{Block: 60}}, api.ErrArg)
	if err := l.Commit(changesOf("a", 60)); err != api.ErrCrash {
		t.Errorf("Commit: %d", err)
	}
}

func TestNoCommitAfterACrash(t *testing.T) {
	c := changesOf("a", 60, 61, 62)
	for stop := range len(commitCalls(c)) {
		s := slab.Load(numbered(64))
		l := mustOpen(t, s)
		mustCommit(t, l, changesOf("b", 50))
		s.Stop(stop)
		if err := l.Commit(c); err != api.ErrCrash {
			t.Errorf("stop %d: %d", stop, err)
		}
		wantAllRefused := func() {
			t.Helper()
			for _, later := range [][]api.Change{c, changesOf("c", 50), nil, {}, changesOf("d", 1), {{Block: 60}}, make([]api.Change, 41)} {
				wantRefused(t, s, l, later, api.ErrState)
			}
			if l.Commits() != 1 || l.Size() != 64 {
				t.Errorf("stop %d: %d commits, %d blocks", stop, l.Commits(), l.Size())
			}
			for i := range 66 {
				if l.Read(i) != s.Read(i) {
					t.Errorf("stop %d: block %d: %q, not %q", stop, i, l.Read(i), s.Read(i))
				}
			}
		}
		wantAllRefused()
		s.Stop(-1)
		wantAllRefused()
		s.Crash([]bool{true})
		wantAllRefused()
		other := mustOpen(t, s)
		wantAllRefused()
		mustCommit(t, other, changesOf("e", 50))
		wantAllRefused()
	}
}

func TestRead(t *testing.T) {
	for _, size := range []int{64, 400, 1000} {
		s := slab.Load(numbered(size))
		l := mustOpen(t, s)
		s.Write(2, "in the log")
		s.Write(size-1, "loose")
		for i := range size {
			if got := l.Read(i); got != s.Read(i) || len(got) != api.Block {
				t.Errorf("block %d of %d: %q", i, size, got)
			}
		}
		for _, i := range append([]int{size, size + 1}, notBlocks...) {
			if got := l.Read(i); got != "" {
				t.Errorf("block %d of %d: %q", i, size, got)
			}
		}
		if l.Read(size-1) != padded("loose") || l.Read(2) != padded("in the log") {
			t.Errorf("%q %q", l.Read(size-1), l.Read(2))
		}
		s.Crash(nil)
		if l.Read(size-1) != numbered(size)[size-1] {
			t.Errorf("after a crash: %q", l.Read(size-1))
		}
		mustCommit(t, mustOpen(t, s), changesOf("by another log", size-1))
		if l.Read(size-1) != full("by another log0.") {
			t.Errorf("after a commit: %q", l.Read(size-1))
		}
	}
}

func TestSizeAndCommits(t *testing.T) {
	for _, size := range []int{64, 65, 100, 400, 1000} {
		s := slab.New(size)
		l := mustOpen(t, s)
		for n := range 5 {
			if l.Size() != size || l.Commits() != n {
				t.Errorf("%d blocks, %d commits: %d, %d", size, n, l.Size(), l.Commits())
			}
			mustCommit(t, l, nil)
			l.Commit(make([]api.Change, 41))
			l.Commit(changesOf("a", 5))
			mustCommit(t, l, changesOf("a", 0, 50))
		}
		// Each log counts its own commits.
		if other := mustOpen(t, s); other.Commits() != 0 || other.Size() != size {
			t.Errorf("the other log: %d, %d", other.Commits(), other.Size())
		}
	}
}

func TestRecoveryIsNoCommit(t *testing.T) {
	l := mustOpen(t, slab.Load(imageWithLog(numbered(64), changesOf("a", 60))))
	if l.Commits() != 0 || l.Read(60) != full("a0.") {
		t.Errorf("%d %q", l.Commits(), l.Read(60))
	}
	mustCommit(t, l, changesOf("b", 61))
	if l.Commits() != 1 {
		t.Errorf("%d", l.Commits())
	}
}

func TestNilLog(t *testing.T) {
	var l *log.Log
	for _, c := range [][]api.Change{nil, {}, changesOf("a", 60), changesOf("a", 1), make([]api.Change, 41)} {
		if err := l.Commit(c); err != api.ErrArg {
			t.Errorf("Commit of %d changes: %d", len(c), err)
		}
	}
	if l.Size() != 0 || l.Commits() != 0 {
		t.Errorf("%d %d", l.Size(), l.Commits())
	}
	for _, i := range append([]int{0, 1, 60}, notBlocks...) {
		if got := l.Read(i); got != "" {
			t.Errorf("Read(%d): %q", i, got)
		}
	}
}

// A log that was not opened has no blocks.
func TestLogThatWasNotOpened(t *testing.T) {
	l := new(log.Log)
	if l.Size() != 0 || l.Commits() != 0 || l.Read(0) != "" {
		t.Errorf("%d %d %q", l.Size(), l.Commits(), l.Read(0))
	}
	if err := l.Commit(changesOf("a", 0)); err != api.ErrArg {
		t.Errorf("Commit: %d", err)
	}
	if err := l.Commit(make([]api.Change, 41)); err != api.ErrBig {
		t.Errorf("Commit: %d", err)
	}
	mustCommit(t, l, nil)
}

func TestArgumentsAreNeitherModifiedNorKept(t *testing.T) {
	s := slab.Load(numbered(400))
	l := mustOpen(t, s)
	c := changesOf("a", upTo(42, 40)...)
	before := slices.Clone(c)
	for _, n := range []int{0, 1, 2, 39, 40} {
		mustCommit(t, l, c[:n])
		if !slices.Equal(c, before) {
			t.Fatalf("a commit of %d changes modified them", n)
		}
	}
	for k := range c {
		c[k] = api.Change{Block: 1, Data: "x"}
	}
	s.Crash(nil)
	if got, want := mustOpen(t, s).Read(50), before[8].Data; got != want {
		t.Errorf("%q, not %q", got, want)
	}
}

func TestOpenOfASlabThatIsTooSmall(t *testing.T) {
	slabs := []*slab.Slab{nil, new(slab.Slab), slab.New(-1), slab.Load(nil)}
	for n := range 64 {
		image := numbered(64)[:n]
		slabs = append(slabs, slab.New(n), slab.Load(image))
		if n > 1 {
			// ErrArg comes before ErrCorrupt.
			image[1] = full("\xff")
			slabs = append(slabs, slab.Load(image))
		}
		if n > 45 {
			slabs = append(slabs, slab.Load(imageWithLog(image, changesOf("a", 45))))
		}
	}
	for _, s := range slabs {
		image := s.Image()
		for range 2 {
			if l, err := log.Open(s); l != nil || err != api.ErrArg {
				t.Errorf("%d blocks: %v, %d", s.Size(), l, err)
			}
			s.Stop(0)
		}
		if s.Calls() != 0 || !slices.Equal(s.Image(), image) {
			t.Errorf("%d blocks: %d calls", s.Size(), s.Calls())
		}
	}
}

// Without changes in the head, Open calls nothing, so no stop is in its way.
func TestOpenWithoutChanges(t *testing.T) {
	for _, size := range []int{64, 65, 400, 999, 1000} {
		s := slab.Load(numbered(size))
		s.Write(60, "loose")
		for _, stop := range []int{-1, 0} {
			s.Stop(stop)
			if l := mustOpen(t, s); l.Size() != size || l.Commits() != 0 || l.Read(60) != padded("loose") {
				t.Errorf("%d blocks: %d, %d, %q", size, l.Size(), l.Commits(), l.Read(60))
			}
			if s.Calls() != 1 || !slices.Equal(s.Loose(), []int{60}) {
				t.Errorf("%d blocks: %d calls, loose %d", size, s.Calls(), s.Loose())
			}
		}
	}
}

// The head counts as it reads, be it durable or not.
func TestOpenWithALooseHead(t *testing.T) {
	s := slab.Load(imageWithLog(numbered(64), changesOf("a", 60)))
	s.Write(1, headOf())
	if l := mustOpen(t, s); l.Read(60) != numbered(64)[60] {
		t.Errorf("%q", l.Read(60))
	}
	s = slab.Load(numbered(64))
	s.Write(1, headOf(60, 0))
	s.Write(2, full("loose."))
	if l := mustOpen(t, s); l.Read(60) != full("loose.") || l.Read(0) != numbered(64)[3] {
		t.Errorf("%q %q", l.Read(60), l.Read(0))
	}
}

// wantCorrupt holds that Open refuses this head and changes nothing, also on a
// slab that is stopped.
func wantCorrupt(t *testing.T, size int, head string) {
	t.Helper()
	image := numbered(size)
	image[1] = padded(head)
	s := slab.Load(image)
	for range 2 {
		if l, err := log.Open(s); l != nil || err != api.ErrCorrupt {
			t.Errorf("%d blocks, head %q: %v, %d", size, head, l, err)
		}
		s.Stop(0)
	}
	if s.Calls() != 0 || !slices.Equal(s.Image(), image) {
		t.Errorf("%d blocks, head %q: %d calls", size, head, s.Calls())
	}
}

func TestOpenWithAnInvalidHead(t *testing.T) {
	for _, size := range []int{64, 400, 1000} {
		for _, blocks := range [][]int{
			{1}, {2}, {41}, {size}, {size + 1}, {1000}, {65535}, {256 * 255},
			{60, 60}, {60, 61, 60}, {61, 60, 60}, {0, 0}, {60, 1}, {1, 60}, {size, 60}, {60, size}, {60, 41, 62}, {size - 1, 0, size - 1},
		} {
			wantCorrupt(t, size, headOf(blocks...))
		}
		wantCorrupt(t, size, "\x00\x01")
		wantCorrupt(t, size, "\x00\x3c")
		wantCorrupt(t, size, "\x00\x00\x01")
		wantCorrupt(t, size, "\x01\x3c\x00\x01")
		wantCorrupt(t, size, "\x01\x3c\x00\x00\x01")
		wantCorrupt(t, size, headOf()[:127]+"\x01")
		wantCorrupt(t, size, headOf(60)[:127]+"\xff")
		// Less than two changes: block 0 twice.
		wantCorrupt(t, size, "\x02")
		wantCorrupt(t, size, full("\xff"))
	}
	for _, n := range []int{41, 42, 63} {
		wantCorrupt(t, 400, headOf(upTo(42, n)...))
		wantCorrupt(t, 400, padded(string([]byte{byte(n)})))
	}
	for n := 41; n < 256; n++ {
		wantCorrupt(t, 64, padded(string([]byte{byte(n)})))
	}
	wantCorrupt(t, 400, headOf(append(upTo(42, 39), 42)...))
	wantCorrupt(t, 400, headOf(append(upTo(42, 39), 80)...))
	wantCorrupt(t, 400, headOf(upTo(361, 40)...))
}

func TestOpenTakesEveryBlockOutsideTheLog(t *testing.T) {
	for _, size := range []int{64, 65, 400, 1000} {
		for i := range size {
			if i >= 1 && i <= 41 {
				wantCorrupt(t, size, headOf(i))
				continue
			}
			s := slab.Load(imageWithLog(numbered(size), changesOf("a", i)))
			if l := mustOpen(t, s); l.Read(i) != full("a0.") || l.Read(1) != headOf() {
				t.Errorf("block %d of %d: %q, head %q", i, size, l.Read(i), l.Read(1))
			}
		}
	}
}

// decoded reads a head for itself, byte by byte.
func decoded(head string, size int) (blocks []int, valid bool) {
	n := int(head[0])
	if n > 40 {
		return nil, false
	}
	for k := range n {
		block := int(head[1+2*k]) + 256*int(head[2+2*k])
		if block >= size || block >= 1 && block <= 41 || slices.Contains(blocks, block) {
			return nil, false
		}
		blocks = append(blocks, block)
	}
	return blocks, strings.Trim(head[1+2*n:], "\x00") == ""
}

func TestEveryByteOfAHead(t *testing.T) {
	for _, size := range []int{64, 300} {
		image := numbered(size)
		for _, head := range []string{headOf(), headOf(0), headOf(63), headOf(60, 61, 0), headOf(42, 58, 63, 61, 50, 0, 47), headOf(upTo(42, 22)...)} {
			for at := range api.Block {
				s := slab.Load(image)
				for value := range 256 {
					changed := []byte(head)
					changed[at] = byte(value)
					s.Write(1, string(changed))
					calls := s.Calls()
					l, err := log.Open(s)
					blocks, valid := decoded(string(changed), size)
					if !valid {
						if l != nil || err != api.ErrCorrupt || s.Calls() != calls {
							t.Fatalf("head %q: %v, %d", changed, l, err)
						}
						continue
					}
					if l == nil || err != api.OK {
						t.Fatalf("head %q: %v, %d", changed, l, err)
					}
					for k, block := range blocks {
						if l.Read(block) != image[2+k] {
							t.Fatalf("head %q: block %d: %q", changed, block, l.Read(block))
						}
					}
				}
			}
		}
	}
}

// crashes calls try with a copy of the slab for every choice of what a crash
// leaves of it.
func crashes(s *slab.Slab, try func(after *slab.Slab)) {
	loose := s.Loose()
	pending := make([]string, len(loose))
	for k, i := range loose {
		pending[k] = s.Read(i)
	}
	s.Crash(nil)
	durable := s.Image()
	for mask := range 1 << len(loose) {
		image := slices.Clone(durable)
		for k, i := range loose {
			if mask>>k&1 == 1 {
				image[i] = pending[k]
			}
		}
		try(slab.Load(image))
	}
}

// recoverAlways opens the log of an image, with up to depth crashes in between at
// every call, and tries what is there in the end.
func recoverAlways(t *testing.T, image []string, depth int, try func(s *slab.Slab)) {
	t.Helper()
	for stop := 0; depth > 0; stop++ {
		s := slab.Load(image)
		s.Stop(stop)
		_, err := log.Open(s)
		if err != api.OK && err != api.ErrCrash {
			t.Fatalf("stop %d: Open: %d", stop, err)
		}
		crashes(s, func(after *slab.Slab) { recoverAlways(t, after.Image(), depth-1, try) })
		if err == api.OK {
			break
		}
	}
	s := slab.Load(image)
	mustOpen(t, s)
	try(s)
}

func TestAfterEveryCrash(t *testing.T) {
	for _, x := range []struct {
		c     []api.Change
		depth int // crashes of recoveries
	}{
		{changesOf("c", 60), 3},
		{changesOf("c", 0, 63), 2},
		{changesOf("c", 61, 60), 2},
		{changesOf("c", 42, 60, 0), 1},
		{changesOf("c", 50, 51, 52, 53, 54), 0},
	} {
		start := slab.Load(numbered(64))
		mustCommit(t, mustOpen(t, start), changesOf("b", 60, 0, 50))
		before := start.Image()
		after := applied(before, x.c)
		last := len(commitCalls(x.c))
		seen := map[bool]int{}
		for stop := range last + 1 {
			s := slab.Load(before)
			l := mustOpen(t, s)
			s.Stop(stop)
			err := l.Commit(x.c)
			if (err == api.OK) != (stop == last) {
				t.Fatalf("stop %d: %d", stop, err)
			}
			crashes(s, func(crashed *slab.Slab) {
				recoverAlways(t, crashed.Image(), x.depth, func(s *slab.Slab) {
					got := outside(s.Image())
					isBefore, isAfter := slices.Equal(got, outside(before)), slices.Equal(got, outside(after))
					if !isBefore && !isAfter || err == api.OK && !isAfter {
						t.Fatalf("stop %d of a commit of %d: neither the one nor the other", stop, len(x.c))
					}
					if len(s.Loose()) != 0 || s.Read(1) != headOf() {
						t.Fatalf("stop %d: loose %d, head %q", stop, s.Loose(), s.Read(1))
					}
					seen[isAfter]++
				})
			})
		}
		if seen[false] == 0 || seen[true] == 0 {
			t.Errorf("%d times before, %d times after", seen[false], seen[true])
		}
	}
}

// Once a log was opened, a crash does not change the choice.
func TestWhatWasRecoveredStays(t *testing.T) {
	c := changesOf("c", 60, 0, 63)
	for stop := range len(commitCalls(c)) {
		for _, keep := range [][]bool{nil, {true}, {true, false}, {false, true}, {false, false, true}} {
			s := slab.Load(numbered(64))
			l := mustOpen(t, s)
			s.Stop(stop)
			l.Commit(c)
			s.Crash(keep)
			mustOpen(t, s)
			image, calls := s.Image(), s.Calls()
			for _, later := range [][]bool{nil, {true}} {
				s.Crash(later)
				mustOpen(t, s)
				if !slices.Equal(s.Image(), image) || s.Calls() != calls {
					t.Errorf("stop %d, keep %v: the image changed", stop, keep)
				}
			}
		}
	}
}

// randomChanges returns up to 40 changes of blocks that a commit may change.
func randomChanges(r *rand.Rand, size int) []api.Change {
	var blocks []int
	for _, i := range r.Perm(size) {
		if i == 0 || i >= 42 {
			blocks = append(blocks, i)
		}
	}
	most := min(len(blocks), 40)
	if r.Intn(2) == 0 {
		most = 4
	}
	blocks = blocks[:r.Intn(most+1)]
	return changesOf("r"+strconv.Itoa(r.Intn(1000000))+"-", blocks...)
}

func randomKeep(r *rand.Rand) []bool {
	keep := make([]bool, r.Intn(50))
	for k := range keep {
		keep[k] = r.Intn(2) == 0
	}
	return keep
}

// openAtLast opens the log with crashes in between.
func openAtLast(t *testing.T, r *rand.Rand, s *slab.Slab) *log.Log {
	t.Helper()
	for r.Intn(4) > 0 {
		s.Stop(r.Intn(50))
		if _, err := log.Open(s); err != api.OK && err != api.ErrCrash {
			t.Fatalf("Open: %d", err)
		}
		s.Crash(randomKeep(r))
	}
	return mustOpen(t, s)
}

func TestRandomCommitsAndCrashes(t *testing.T) {
	r := rand.New(rand.NewSource(11))
	for _, size := range []int{64, 64, 100, 400, 1000} {
		s := slab.Load(numbered(size))
		l := mustOpen(t, s)
		want := numbered(size)
		commits := 0
		for n := range 400 {
			c := randomChanges(r, size)
			if r.Intn(3) > 0 {
				s.Stop(r.Intn(2*len(c) + 8))
			}
			err := l.Commit(c)
			after := applied(want, c)
			if err == api.OK {
				want = after
				if len(c) > 0 {
					commits++
				}
			} else if err != api.ErrCrash {
				t.Fatalf("step %d: %d", n, err)
			}
			if l.Commits() != commits {
				t.Fatalf("step %d: %d commits, not %d", n, l.Commits(), commits)
			}
			if err == api.ErrCrash || r.Intn(4) == 0 {
				s.Crash(randomKeep(r))
				l = openAtLast(t, r, s)
				commits = 0
			}
			s.Stop(-1)
			got := outside(s.Image())
			if slices.Equal(got, outside(after)) {
				want = after
			} else if !slices.Equal(got, outside(want)) {
				t.Fatalf("step %d: the image is neither the one nor the other", n)
			}
		}
		mustFlush(t, s)
	}
}
