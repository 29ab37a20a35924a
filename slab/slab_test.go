package slab_test

import (
	"math"
	"math/rand"
	"slices"
	"strings"
	"testing"

	"wainwright/api"
	"wainwright/slab"
)

// notBlocks are numbers that no slab of at most 1000 blocks has.
var notBlocks = []int{math.MinInt, -1 << 40, -1000, -1, 1000, 1001, 1 << 32, 1 << 40, math.MaxInt}

func padded(s string) string { return s + strings.Repeat("\x00", api.Block-len(s)) }

func paddedAll(l []string) []string {
	all := make([]string, len(l))
	for i, s := range l {
		all[i] = padded(s)
	}
	return all
}

func mustWrite(t *testing.T, s *slab.Slab, i int, data string) {
	t.Helper()
	if err := s.Write(i, data); err != api.OK {
		t.Fatalf("Write(%d, %q): %d", i, data, err)
	}
}

func mustFlush(t *testing.T, s *slab.Slab) {
	t.Helper()
	if err := s.Flush(); err != api.OK {
		t.Fatalf("Flush: %d", err)
	}
}

// wantState holds everything that can be read of a slab against what it should be.
func wantState(t *testing.T, s *slab.Slab, image []string, loose []int, calls int) {
	t.Helper()
	want := paddedAll(image)
	if got := s.Image(); !slices.Equal(got, want) {
		t.Errorf("Image: %q, not %q", got, want)
	}
	if s.Size() != len(want) {
		t.Errorf("Size: %d, not %d", s.Size(), len(want))
	}
	for i, data := range want {
		if got := s.Read(i); got != data {
			t.Errorf("Read(%d): %q, not %q", i, got, data)
		}
	}
	for _, i := range append([]int{len(want)}, notBlocks...) {
		if got := s.Read(i); got != "" {
			t.Errorf("Read(%d): %q of %d blocks", i, got, len(want))
		}
	}
	if got := s.Loose(); !slices.Equal(got, loose) {
		t.Errorf("Loose: %d, not %d", got, loose)
	}
	if s.Calls() != calls {
		t.Errorf("Calls: %d, not %d", s.Calls(), calls)
	}
}

func TestNew(t *testing.T) {
	for _, x := range []struct{ n, size int }{
		{math.MinInt, 0}, {-1000, 0}, {-1, 0}, {0, 0}, {1, 1}, {2, 2}, {64, 64}, {400, 400},
		{999, 999}, {1000, 1000}, {1001, 1000}, {1 << 40, 1000}, {math.MaxInt, 1000},
	} {
		wantState(t, slab.New(x.n), make([]string, x.size), nil, 0)
	}
}

func TestLoad(t *testing.T) {
	long := strings.Repeat("0123456789", 20)
	for _, x := range []struct{ image, want []string }{
		{nil, nil},
		{[]string{}, nil},
		{[]string{""}, []string{""}},
		{[]string{"p"}, []string{"p"}},
		{[]string{"", "a\x00b", "c"}, []string{"", "a\x00b", "c"}},
		{[]string{long[:127], long[:128], long[:129], long}, []string{long[:127], long[:128], long[:128], long[:128]}},
		{[]string{"\xff\xfe", "\x00\x00"}, []string{"\xff\xfe", ""}},
		{[]string{strings.Repeat("é", 100)}, []string{strings.Repeat("é", 64)}},
	} {
		wantState(t, slab.Load(x.image), x.want, nil, 0)
	}
}

func TestLoadTakesTheFirstBlocks(t *testing.T) {
	for _, n := range []int{999, 1000, 1001, 1500} {
		image := make([]string, n)
		for i := range image {
			image[i] = strings.Repeat("x", i%129) + "!"
		}
		want := make([]string, min(n, 1000))
		for i := range want {
			want[i] = image[i][:min(len(image[i]), 128)]
		}
		wantState(t, slab.Load(image), want, nil, 0)
	}
}

func TestLoadedContentIsDurable(t *testing.T) {
	s := slab.Load([]string{"p", "q"})
	mustWrite(t, s, 0, "r")
	s.Crash(nil)
	wantState(t, s, []string{"p", "q"}, nil, 1)
}

func TestImageLoadsAgain(t *testing.T) {
	s := slab.Load([]string{"p", "q", strings.Repeat("r", 128)})
	mustWrite(t, s, 1, "s")
	again := slab.Load(s.Image())
	wantState(t, again, []string{"p", "s", strings.Repeat("r", 128)}, nil, 0)
	again.Crash(nil)
	wantState(t, again, []string{"p", "s", strings.Repeat("r", 128)}, nil, 0)
}

func TestWrite(t *testing.T) {
	s := slab.New(4)
	full := strings.Repeat("f", 128)
	mustWrite(t, s, 3, "z")
	wantState(t, s, []string{"", "", "", "z"}, []int{3}, 1)
	mustWrite(t, s, 0, full)
	wantState(t, s, []string{full, "", "", "z"}, []int{0, 3}, 2)
	mustWrite(t, s, 0, "a\x00b")
	wantState(t, s, []string{"a\x00b", "", "", "z"}, []int{0, 3}, 3)
	mustWrite(t, s, 2, full[:127])
	wantState(t, s, []string{"a\x00b", "", full[:127], "z"}, []int{0, 2, 3}, 4)
	mustWrite(t, s, 3, "")
	wantState(t, s, []string{"a\x00b", "", full[:127], ""}, []int{0, 2, 3}, 5)
}

// A block that is written with what it has already is loose too.
func TestWriteOfTheSame(t *testing.T) {
	s := slab.Load([]string{"a", ""})
	mustWrite(t, s, 0, "a")
	mustWrite(t, s, 1, "")
	wantState(t, s, []string{"a", ""}, []int{0, 1}, 2)
}

func TestWriteWithAnInvalidArgument(t *testing.T) {
	s := slab.Load([]string{"a", "b", "c"})
	mustWrite(t, s, 1, "x")
	calls := 1
	try := func(i int, data string) {
		t.Helper()
		if err := s.Write(i, data); err != api.ErrArg {
			t.Errorf("Write(%d, %d bytes): %d", i, len(data), err)
		}
		calls++
		wantState(t, s, []string{"a", "x", "c"}, []int{1}, calls)
	}
	for _, i := range append([]int{3, 4}, notBlocks...) {
		try(i, "q")
		try(i, strings.Repeat("q", 129))
	}
	for i := range 3 {
		for _, n := range []int{129, 130, 256, 1000, 1001, 5000} {
			try(i, strings.Repeat("q", n))
		}
	}
}

func TestFlush(t *testing.T) {
	s := slab.New(3)
	mustFlush(t, s)
	wantState(t, s, []string{"", "", ""}, nil, 1)
	mustWrite(t, s, 2, "c")
	mustWrite(t, s, 0, "a")
	mustFlush(t, s)
	wantState(t, s, []string{"a", "", "c"}, nil, 4)
	s.Crash(nil)
	wantState(t, s, []string{"a", "", "c"}, nil, 4)
	mustWrite(t, s, 0, "d")
	mustFlush(t, s)
	mustFlush(t, s)
	wantState(t, s, []string{"d", "", "c"}, nil, 7)
	s.Crash([]bool{true})
	wantState(t, s, []string{"d", "", "c"}, nil, 7)
}

func TestSlabWithoutBlocks(t *testing.T) {
	for _, s := range []*slab.Slab{slab.New(0), slab.New(-5), slab.Load(nil), {}} {
		if err := s.Write(0, ""); err != api.ErrArg {
			t.Errorf("Write: %d", err)
		}
		mustFlush(t, s)
		s.Crash([]bool{true})
		wantState(t, s, nil, nil, 2)
		s.Stop(0)
		if err := s.Write(0, ""); err != api.ErrCrash {
			t.Errorf("Write while stopped: %d", err)
		}
	}
}

func TestLooseIsAscending(t *testing.T) {
	s := slab.New(1000)
	for i := range 1000 {
		mustWrite(t, s, i*7%1000, "x")
	}
	loose := s.Loose()
	if len(loose) != 1000 || !slices.IsSorted(loose) || loose[0] != 0 || loose[999] != 999 {
		t.Errorf("Loose: %d", loose)
	}
}

func TestStopLetsSomeCallsThrough(t *testing.T) {
	for n := range 6 {
		s := slab.New(2)
		mustWrite(t, s, 1, "before")
		s.Stop(n)
		for k := range n + 3 {
			want := api.OK
			if k >= n {
				want = api.ErrCrash
			}
			if k%2 == 1 {
				if err := s.Flush(); err != want {
					t.Errorf("Stop(%d), then Flush as call %d: %d", n, k, err)
				}
			} else if err := s.Write(0, "w"); err != want {
				t.Errorf("Stop(%d), then Write as call %d: %d", n, k, err)
			}
		}
		if s.Calls() != 1+n+3 {
			t.Errorf("Stop(%d): %d calls", n, s.Calls())
		}
	}
}

func TestStoppedSlabDoesNotChange(t *testing.T) {
	s := slab.Load([]string{"a", "b"})
	mustWrite(t, s, 0, "x")
	s.Stop(0)
	wantState(t, s, []string{"x", "b"}, []int{0}, 1)
	for k, err := range []api.Errno{s.Write(0, "y"), s.Write(1, "z"), s.Flush(), s.Write(1, "")} {
		if err != api.ErrCrash {
			t.Errorf("call %d while stopped: %d", k, err)
		}
	}
	wantState(t, s, []string{"x", "b"}, []int{0}, 5)
	s.Crash(nil)
	wantState(t, s, []string{"a", "b"}, nil, 5)
}

func TestStoppedComesBeforeInvalidArguments(t *testing.T) {
	s := slab.New(2)
	s.Stop(0)
	for _, i := range append([]int{0, 2}, notBlocks...) {
		if err := s.Write(i, strings.Repeat("q", 129)); err != api.ErrCrash {
			t.Errorf("Write(%d, 129 bytes) while stopped: %d", i, err)
		}
	}
}

// A call that returns ErrArg is counted, so it brings a stop nearer.
func TestInvalidCallsBringAStopNearer(t *testing.T) {
	s := slab.New(1)
	s.Stop(2)
	for k, want := range []api.Errno{api.ErrArg, api.ErrArg, api.ErrCrash} {
		if err := s.Write(7, ""); err != want {
			t.Errorf("call %d: %d, not %d", k, err, want)
		}
	}
}

// Calls that only read, Stop and Crash are not counted.
func TestOtherCallsAreNotCounted(t *testing.T) {
	s := slab.New(2)
	s.Stop(1)
	for range 5 {
		s.Read(0)
		s.Read(-1)
		s.Image()
		s.Size()
		s.Calls()
		s.Loose()
	}
	mustWrite(t, s, 0, "a")
	if err := s.Flush(); err != api.ErrCrash {
		t.Errorf("Flush: %d", err)
	}
	for range 5 {
		s.Stop(3)
		s.Crash(nil)
	}
	wantState(t, s, []string{"", ""}, nil, 2)
}

func TestStopReplacesTheEarlierStop(t *testing.T) {
	for _, x := range []struct {
		stops []int
		goOn  int // calls that succeed; -1: all
	}{
		{[]int{0, 2}, 2},
		{[]int{2, 0}, 0},
		{[]int{3, 1}, 1},
		{[]int{0, -1}, -1},
		{[]int{0, math.MinInt}, -1},
		{[]int{0, 1<<40 + 1}, -1},
		{[]int{0, math.MaxInt}, -1},
		{[]int{0, 1 << 40}, -1}, // too far ahead to be reached
		{[]int{-1, 1}, 1},
		{[]int{math.MaxInt, 0}, 0},
		{[]int{-1}, -1},
		{[]int{1<<40 + 1}, -1},
		{[]int{math.MaxInt}, -1},
		{[]int{math.MinInt}, -1},
	} {
		s := slab.New(1)
		for range 5 {
			mustFlush(t, s)
		}
		for _, n := range x.stops {
			s.Stop(n)
		}
		for k := range 10 {
			want := api.OK
			if x.goOn >= 0 && k >= x.goOn {
				want = api.ErrCrash
			}
			if err := s.Flush(); err != want {
				t.Errorf("stops %d, call %d: %d, not %d", x.stops, k, err, want)
			}
		}
	}
}

// A later Stop also sets a slab going that refused calls already.
func TestStopSetsAStoppedSlabGoing(t *testing.T) {
	s := slab.New(1)
	s.Stop(0)
	if err := s.Write(0, "a"); err != api.ErrCrash {
		t.Errorf("Write: %d", err)
	}
	s.Stop(1)
	mustWrite(t, s, 0, "b")
	if err := s.Flush(); err != api.ErrCrash {
		t.Errorf("Flush: %d", err)
	}
	s.Stop(-1)
	mustFlush(t, s)
	wantState(t, s, []string{"b"}, nil, 4)
}

func TestCrashEndsAStop(t *testing.T) {
	for _, n := range []int{0, 1, 2, 5} {
		s := slab.New(1)
		s.Stop(n)
		s.Flush()
		s.Crash([]bool{true})
		for range 10 {
			mustFlush(t, s)
		}
	}
}

func TestCrash(t *testing.T) {
	for _, x := range []struct {
		keep []bool
		want []string
	}{
		{nil, []string{"a", "b", "c", "d", "e", "f"}},
		{[]bool{}, []string{"a", "b", "c", "d", "e", "f"}},
		{[]bool{false}, []string{"a", "b", "c", "d", "e", "f"}},
		{[]bool{true}, []string{"A", "B", "c", "D", "e", "F"}},
		{[]bool{true, false}, []string{"A", "b", "c", "D", "e", "f"}},
		{[]bool{false, true}, []string{"a", "B", "c", "d", "e", "F"}},
		{[]bool{true, false, false}, []string{"A", "b", "c", "d", "e", "F"}},
		{[]bool{false, false, true}, []string{"a", "b", "c", "D", "e", "f"}},
		{[]bool{false, false, false, true}, []string{"a", "b", "c", "d", "e", "F"}},
		{[]bool{false, true, true, false, true, true}, []string{"a", "B", "c", "D", "e", "f"}},
	} {
		s := slab.Load([]string{"a", "b", "c", "d", "e", "f"})
		for _, i := range []int{5, 1, 3, 0} { // not in ascending order
			mustWrite(t, s, i, "lost")
			mustWrite(t, s, i, "ABCDEF"[i:i+1])
		}
		s.Crash(x.keep)
		wantState(t, s, x.want, nil, 8)
		// What was decided is durable: another crash changes nothing.
		s.Crash([]bool{true})
		s.Crash(nil)
		wantState(t, s, x.want, nil, 8)
	}
}

func TestExampleOfTheChapter(t *testing.T) {
	s := slab.New(1)
	mustWrite(t, s, 0, "a")
	mustFlush(t, s)
	mustWrite(t, s, 0, "b")
	s.Crash(nil)
	wantState(t, s, []string{"a"}, nil, 3)
}

func TestNil(t *testing.T) {
	var s *slab.Slab
	for _, i := range append([]int{0, 1}, notBlocks...) {
		if err := s.Write(i, "a"); err != api.ErrArg {
			t.Errorf("Write(%d): %d", i, err)
		}
		s.Stop(i)
	}
	if err := s.Flush(); err != api.ErrArg {
		t.Errorf("Flush: %d", err)
	}
	s.Crash(nil)
	s.Crash([]bool{true})
	wantState(t, s, nil, nil, 0)
}

func TestArgumentsAreNotKept(t *testing.T) {
	image := []string{"a", "b"}
	s := slab.Load(image)
	image[0] = "x"
	wantState(t, s, []string{"a", "b"}, nil, 0)
	mustWrite(t, s, 0, "c")
	keep := []bool{true, false}
	s.Crash(keep)
	if !slices.Equal(image, []string{"x", "b"}) || !slices.Equal(keep, []bool{true, false}) {
		t.Errorf("arguments changed: %q, %t", image, keep)
	}
}

func TestResultsAreNew(t *testing.T) {
	s := slab.New(2)
	mustWrite(t, s, 1, "a")
	s.Image()[0] = "x"
	s.Loose()[0] = 0
	wantState(t, s, []string{"", "a"}, []int{1}, 1)
}

func TestSlabsAreApart(t *testing.T) {
	one, two := slab.New(2), slab.New(2)
	mustWrite(t, one, 0, "a")
	one.Stop(0)
	mustFlush(t, two)
	wantState(t, one, []string{"a", ""}, []int{0}, 1)
	wantState(t, two, []string{"", ""}, nil, 1)
}

// plain is a slab as the chapter describes it, without any cleverness.
type plain struct {
	durable, pending []string
	isLoose          []bool
	calls, goOn      int // goOn: calls until the stop; -1: none
}

func newPlain(n int) *plain {
	return &plain{durable: make([]string, n), pending: make([]string, n), isLoose: make([]bool, n), goOn: -1}
}

func (p *plain) stopped() bool {
	p.calls++
	if p.goOn > 0 {
		p.goOn--
		return false
	}
	return p.goOn == 0
}

func (p *plain) write(i int, data string) api.Errno {
	if p.stopped() {
		return api.ErrCrash
	}
	if i < 0 || i >= len(p.durable) || len(data) > 128 {
		return api.ErrArg
	}
	p.pending[i], p.isLoose[i] = data, true
	return api.OK
}

func (p *plain) flush() api.Errno {
	if p.stopped() {
		return api.ErrCrash
	}
	p.crash([]bool{true}, p.goOn)
	return api.OK
}

func (p *plain) crash(keep []bool, goOn int) {
	k := 0
	for i := range p.durable {
		if !p.isLoose[i] {
			continue
		}
		if len(keep) > 0 && keep[k%len(keep)] {
			p.durable[i] = p.pending[i]
		}
		p.isLoose[i] = false
		k++
	}
	p.goOn = goOn
}

func (p *plain) image() []string {
	all := slices.Clone(p.durable)
	for i, loose := range p.isLoose {
		if loose {
			all[i] = p.pending[i]
		}
	}
	return all
}

func (p *plain) loose() []int {
	var all []int
	for i, loose := range p.isLoose {
		if loose {
			all = append(all, i)
		}
	}
	return all
}

func randomKeep(r *rand.Rand) []bool {
	keep := make([]bool, r.Intn(5))
	for k := range keep {
		keep[k] = r.Intn(2) == 0
	}
	return keep
}

func TestAnySequenceOfCalls(t *testing.T) {
	for seed := range int64(60) {
		r := rand.New(rand.NewSource(seed))
		n := r.Intn(9)
		s, p := slab.New(n), newPlain(n)
		for range 150 {
			var got, want api.Errno
			switch r.Intn(12) {
			case 0:
				ahead := r.Intn(8) - 1
				s.Stop(ahead)
				p.goOn = ahead
			case 1:
				keep := randomKeep(r)
				s.Crash(keep)
				p.crash(keep, -1)
			case 2, 3:
				got, want = s.Flush(), p.flush()
			default:
				i, data := r.Intn(n+3)-1, strings.Repeat(string(rune('a'+r.Intn(26))), r.Intn(135))
				got, want = s.Write(i, data), p.write(i, data)
			}
			if got != want {
				t.Fatalf("seed %d: %d, not %d", seed, got, want)
			}
			wantState(t, s, p.image(), p.loose(), p.calls)
			if t.Failed() {
				t.Fatalf("seed %d", seed)
			}
		}
	}
}

// TestCrashedBlocksAreOldOrNew is promise P2.2, for every set of blocks that
// may be loose, every stop within the writes, and every choice of what is kept.
func TestCrashedBlocksAreOldOrNew(t *testing.T) {
	const blocks = 4
	for stop := range 2*blocks + 2 {
		for choice := range 1 << blocks {
			s := slab.New(blocks)
			for i := range blocks {
				mustWrite(t, s, i, "flushed")
			}
			mustFlush(t, s)
			last := slices.Repeat([]string{"flushed"}, blocks)
			s.Stop(stop)
			for k := range 2 * blocks {
				i, data := k%blocks, "new"+string(rune('0'+k))
				if s.Write(i, data) == api.OK {
					last[i] = data
				}
			}
			if s.Flush() == api.OK {
				s.Crash(nil)
				wantState(t, s, last, nil, blocks+1+2*blocks+1)
				continue
			}
			keep := make([]bool, blocks)
			for i := range keep {
				keep[i] = choice>>i&1 == 1
			}
			s.Crash(keep)
			for i, data := range s.Image() {
				want := padded("flushed")
				if keep[i] {
					want = padded(last[i])
				}
				if data != want {
					t.Errorf("stop %d, keep %t: block %d is %q", stop, keep, i, data)
				}
			}
		}
	}
}
