package marks_test

import (
	"math"
	"math/rand"
	"strings"
	"testing"

	"wainwright/marks"
)

// notBits are numbers of bits that the marks of these tests do not have.
var notBits = []int{math.MinInt, math.MinInt + 1, -1 << 40, -9, -8, -7, -1, 1 << 32, 1 << 40, math.MaxInt - 1, math.MaxInt}

// far are bounds beyond all the bits of these tests.
var far = []int{1000, 100000, 1 << 32, 1 << 40, math.MaxInt - 1, math.MaxInt}

// written returns the bits of m as a text of 0 and 1, bit 0 first.
func written(m string) string {
	var b strings.Builder
	for i := range len(m) {
		for value := 1; value < 256; value *= 2 {
			b.WriteByte("01"[int(m[i])/value%2])
		}
	}
	return b.String()
}

// read returns the marks whose bits are written in a text of 0 and 1.
func read(text string) string {
	m := make([]byte, len(text)/8)
	for i := range m {
		for k := range 8 {
			m[i] += (text[8*i+k] - '0') << k
		}
	}
	return string(m)
}

// samples returns all marks of at most one byte, all pairs of some bytes, and
// random ones of up to n bytes.
func samples(n int) []string {
	all := []string{""}
	for b := range 256 {
		all = append(all, string([]byte{byte(b)}))
	}
	some := []byte{0x00, 0x01, 0x0f, 0x18, 0x3c, 0x55, 0x7f, 0x80, 0xc3, 0xf0, 0xfe, 0xff}
	for _, b := range some {
		for _, c := range some {
			all = append(all, string([]byte{b, c}))
		}
	}
	r := rand.New(rand.NewSource(3))
	for range 60 {
		m := make([]byte, r.Intn(n+1))
		for i := range m {
			// Whole bytes of one value make sequences longer than a byte.
			m[i] = []byte{0x00, 0x00, 0xff, byte(r.Intn(256)), byte(r.Intn(256))}[r.Intn(5)]
		}
		all = append(all, string(m))
	}
	return all
}

func wantRun(t *testing.T, m string, from, n, length, start int, ok bool) {
	t.Helper()
	if i, found := marks.Run(m, from, n, length); i != start || found != ok {
		t.Errorf("Run(%s, %d, %d, %d): %d %t, not %d %t", written(m), from, n, length, i, found, start, ok)
	}
}

func wantFirst(t *testing.T, m string, from, n, first int, ok bool) {
	t.Helper()
	if i, found := marks.First(m, from, n); i != first || found != ok {
		t.Errorf("First(%s, %d, %d): %d %t, not %d %t", written(m), from, n, i, found, first, ok)
	}
}

func wantLongest(t *testing.T, m string, n, start, length int) {
	t.Helper()
	if i, l := marks.Longest(m, n); i != start || l != length {
		t.Errorf("Longest(%s, %d): %d %d, not %d %d", written(m), n, i, l, start, length)
	}
}

func wantCount(t *testing.T, m string, n, count int) {
	t.Helper()
	if got := marks.Count(m, n); got != count {
		t.Errorf("Count(%d bytes, %d): %d, not %d", len(m), n, got, count)
	}
}

func TestIs(t *testing.T) {
	for _, x := range []struct {
		m    string
		bits string
	}{
		{"\x01", "10000000"},
		{"\x80", "00000001"},
		{"\x05", "10100000"},
		{"\xfe", "01111111"},
		{"\x00\x01", "0000000010000000"},
		{"\x02\x40\xff", "010000000000001011111111"},
	} {
		for i := range len(x.bits) {
			if got := marks.Is(x.m, i); got != (x.bits[i] == '1') {
				t.Errorf("Is(%q, %d): %t", x.m, i, got)
			}
		}
	}
}

func TestIsOfAllSamples(t *testing.T) {
	for _, m := range samples(50) {
		for i, bit := range written(m) {
			if got := marks.Is(m, i); got != (bit == '1') {
				t.Errorf("Is(%q, %d): %t", m, i, got)
			}
		}
	}
}

func TestBitsThatDoNotExistAreSet(t *testing.T) {
	for _, m := range []string{"", "\x00", "\x00\x00", "\x55\xaa\x00"} {
		for _, i := range append([]int{8 * len(m), 8*len(m) + 1, 8*len(m) + 7, 8*len(m) + 8, 1000}, notBits...) {
			if !marks.Is(m, i) {
				t.Errorf("Is(%q, %d): false", m, i)
			}
			for _, yes := range []bool{false, true} {
				if got := marks.Set(m, i, yes); got != m {
					t.Errorf("Set(%q, %d, %t): %q", m, i, yes, got)
				}
			}
		}
	}
}

func TestSet(t *testing.T) {
	for _, x := range []struct {
		m    string
		i    int
		yes  bool
		want string
	}{
		{"\x00", 0, true, "\x01"},
		{"\x00", 7, true, "\x80"},
		{"\x00", 3, false, "\x00"},
		{"\xff", 0, false, "\xfe"},
		{"\xff", 7, false, "\x7f"},
		{"\xff", 3, true, "\xff"},
		{"\x00\x00", 8, true, "\x00\x01"},
		{"\xff\xff", 15, false, "\xff\x7f"},
		{"\x05\xf0\x33", 9, true, "\x05\xf2\x33"},
		{"\x05\xf0\x33", 20, false, "\x05\xf0\x23"},
	} {
		if got := marks.Set(x.m, x.i, x.yes); got != x.want {
			t.Errorf("Set(%q, %d, %t): %q, not %q", x.m, x.i, x.yes, got, x.want)
		}
	}
}

func TestSetChangesOneBitOnly(t *testing.T) {
	for _, m := range samples(30) {
		before := written(m)
		for i := range before {
			for k, yes := range []bool{false, true} {
				want := before[:i] + "01"[k:k+1] + before[i+1:]
				after := marks.Set(m, i, yes)
				if got := written(after); got != want {
					t.Fatalf("Set(%s, %d, %t): %s", before, i, yes, got)
				}
				if marks.Is(after, i) != yes {
					t.Fatalf("Set(%s, %d, %t): the bit does not read so", before, i, yes)
				}
			}
		}
	}
}

// The bytes above 127 that occur on the way are no valid text.
func TestSetFromNoneToAll(t *testing.T) {
	m := strings.Repeat("\x00", 5)
	for k := range 40 {
		m = marks.Set(m, k*7%40, true)
		wantCount(t, m, 40, k+1)
	}
	if m != strings.Repeat("\xff", 5) {
		t.Errorf("all bits set: %q", m)
	}
	for k := range 40 {
		m = marks.Set(m, k*11%40, false)
		wantCount(t, m, 40, 39-k)
	}
	if m != strings.Repeat("\x00", 5) {
		t.Errorf("no bit set: %q", m)
	}
}

func TestCount(t *testing.T) {
	for _, x := range []struct {
		m        string
		n, count int
	}{
		{"\x05", 0, 0}, {"\x05", 1, 1}, {"\x05", 2, 1}, {"\x05", 3, 2}, {"\x05", 8, 2},
		{"\x05", 9, 3}, {"\x05", 16, 10}, {"\x05", 17, 11},
		{"", 0, 0}, {"", 1, 1}, {"", 12, 12},
		{"\xff", -1, 0}, {"\xff", -8, 0}, {"\xff", -9, 0}, {"\xff", math.MinInt, 0}, {"", -1, 0},
	} {
		wantCount(t, x.m, x.n, x.count)
	}
}

func TestCountOfAllSamples(t *testing.T) {
	for _, m := range samples(20) {
		bits := written(m) + strings.Repeat("1", 20)
		for n := range len(bits) + 1 {
			wantCount(t, m, n, strings.Count(bits[:n], "1"))
		}
	}
}

func TestCountEndsAt100000(t *testing.T) {
	empty := strings.Repeat("\x00", 12500)
	for _, n := range []int{99999, 100000, 100001, 100008, 1 << 20, 1 << 40, math.MaxInt} {
		within := min(n, 100000)
		wantCount(t, "", n, within)
		wantCount(t, "\x00", n, within-8)
		wantCount(t, empty, n, 0)
		// The bit 100000 and those after it are never counted.
		wantCount(t, empty+"\xff\xff", n, 0)
		wantCount(t, strings.Repeat("\xff", 12600), n, within)
		last := 0
		if n > 99999 {
			last = 1
		}
		wantCount(t, marks.Set(empty, 99999, true), n, last)
	}
}

func TestFirst(t *testing.T) {
	for _, x := range []struct {
		bits     string
		from, n  int
		first    int
		hasFirst bool
	}{
		{"10100000", 0, 8, 1, true},
		{"10100000", 1, 8, 1, true},
		{"10100000", 2, 8, 3, true},
		{"10100000", 7, 8, 7, true},
		{"10100000", 0, 2, 1, true},
		{"10100000", 0, 1, 0, false},
		{"10100000", 2, 3, 0, false},
		{"10100000", 8, 8, 0, false},
		{"10100000", 8, 100, 0, false},
		{"10100000", 5, 3, 0, false},
		{"00000000", 0, 0, 0, false},
		{"00000000", 0, 1, 0, true},
		{"11111111", 0, 8, 0, false},
		{"11111111", 0, 9, 0, false},
		{"1111111111111110", 0, 16, 15, true},
		{"1111111111111110", 0, 15, 0, false},
		{"1111111101111111", -5, 16, 8, true},
		{"", 0, 5, 0, false},
	} {
		wantFirst(t, read(x.bits), x.from, x.n, x.first, x.hasFirst)
	}
}

func TestFirstBeyondTheBits(t *testing.T) {
	for _, n := range far {
		wantFirst(t, "\xff\x7f", 0, n, 15, true)
		wantFirst(t, "\xff\x7f", math.MinInt, n, 15, true)
		wantFirst(t, "\xff\x7f", 16, n, 0, false)
		wantFirst(t, "\xff\xff", 0, n, 0, false)
		wantFirst(t, "", 0, n, 0, false)
		for _, from := range far {
			wantFirst(t, "\x00\x00", from, n, 0, false)
		}
	}
	for _, n := range []int{-1, -8, -100, math.MinInt} {
		wantFirst(t, "\x00\x00", 0, n, 0, false)
		wantFirst(t, "\x00\x00", math.MinInt, n, 0, false)
		wantFirst(t, "\x00\x00", math.MaxInt, n, 0, false)
		wantFirst(t, "", 0, n, 0, false)
	}
}

// Unlike Count, a search has no bound of its own.
func TestSearchesGoBeyond100000(t *testing.T) {
	m := strings.Repeat("\xff", 13000) + "\x1f\x00\xff"
	wantFirst(t, m, 0, 200000, 104005, true)
	wantFirst(t, m, 0, 104005, 0, false)
	wantRun(t, m, 0, math.MaxInt, 11, 104005, true)
	wantRun(t, m, 0, math.MaxInt, 12, 0, false)
	wantLongest(t, m, math.MaxInt, 104005, 11)
	wantLongest(t, m, 104008, 104005, 3)
}

func TestRun(t *testing.T) {
	for _, x := range []struct {
		bits            string
		from, n, length int
		start           int
		ok              bool
	}{
		{"10100000", 0, 8, 1, 1, true},
		{"10100000", 0, 8, 2, 3, true},
		{"10100000", 0, 8, 5, 3, true},
		{"10100000", 0, 8, 6, 0, false},
		{"10100000", 4, 8, 4, 4, true},
		{"10100000", 4, 8, 5, 0, false},
		{"10100000", 0, 7, 4, 3, true},
		{"10100000", 0, 7, 5, 0, false},
		{"10100000", -3, 8, 2, 3, true},
		{"00000000", 0, 8, 8, 0, true},
		{"00000000", 0, 8, 9, 0, false},
		{"00000000", 0, 100, 9, 0, false}, // the bits after the last byte read as 1
		{"00000000", 0, 0, 1, 0, false},
		{"00000000", 3, 3, 1, 0, false},
		{"00000000", 6, 3, 1, 0, false},
		{"1111100000011111", 0, 16, 6, 5, true}, // across two bytes
		{"1111100000011111", 0, 16, 7, 0, false},
		{"0010001000010000", 0, 16, 4, 7, true},
		{"0010001000010000", 8, 16, 4, 12, true},
		{"0010001000010000", 0, 16, 3, 3, true},
		{"0010001000010000", 0, 10, 4, 0, false},
		{"11111111", 0, 8, 1, 0, false},
		{"", 0, 8, 1, 0, false},
	} {
		wantRun(t, read(x.bits), x.from, x.n, x.length, x.start, x.ok)
	}
}

func TestRunOfNoLength(t *testing.T) {
	for _, length := range []int{0, -1, -8, math.MinInt} {
		for _, m := range []string{"", "\x00", "\xff", "\xf0\x0f"} {
			for _, from := range []int{math.MinInt, -1, 0, 3, 8, 16, math.MaxInt} {
				for _, n := range []int{math.MinInt, -1, 0, 4, 16, math.MaxInt} {
					wantRun(t, m, from, n, length, 0, false)
				}
			}
		}
	}
}

func TestRunBeyondTheBits(t *testing.T) {
	for _, n := range far {
		wantRun(t, "\xff\x01", 0, n, 7, 9, true)
		wantRun(t, "\xff\x01", math.MinInt, n, 7, 9, true)
		wantRun(t, "\xff\x01", 0, n, 8, 0, false)
		for _, more := range far {
			wantRun(t, "\x00\x00", 0, n, more, 0, false)
			wantRun(t, "\x00\x00", more, n, 1, 0, false)
			wantRun(t, "\x00\x00", more, n, more, 0, false)
		}
	}
	for _, n := range []int{-1, -8, -100, math.MinInt} {
		for _, from := range []int{math.MinInt, -1, 0, math.MaxInt} {
			wantRun(t, "\x00\x00", from, n, 1, 0, false)
		}
	}
}

// Every start, bound and length, and some beyond the bits on either side, held
// against a search in the written bits.
func TestRunAndFirstOfAllSamples(t *testing.T) {
	for _, m := range samples(5) {
		bits := written(m)
		for n := range len(bits) + 4 {
			inside := bits[:min(n, len(bits))]
			for from := -2; from < n+2; from++ {
				skipped := min(max(from, 0), len(inside))
				for length := 1; length < n+2; length++ {
					at := strings.Index(inside[skipped:], strings.Repeat("0", length))
					ok := at >= 0
					start := 0
					if ok {
						start = skipped + at
					}
					wantRun(t, m, from, n, length, start, ok)
					if length == 1 {
						wantFirst(t, m, from, n, start, ok)
					}
				}
			}
		}
		if t.Failed() {
			t.FailNow()
		}
	}
}

func TestLongest(t *testing.T) {
	for _, x := range []struct {
		bits          string
		n             int
		start, length int
	}{
		{"10100000", 8, 3, 5},
		{"10100000", 6, 3, 3},
		{"10100000", 5, 3, 2},
		{"10100000", 4, 1, 1}, // as long as the one at 3, but earlier
		{"10100000", 2, 1, 1},
		{"10100000", 1, 0, 0},
		{"10100000", 0, 0, 0},
		{"10100000", -1, 0, 0},
		{"10100000", math.MinInt, 0, 0},
		{"00000000", 8, 0, 8},
		{"00000000", 12, 0, 8},
		{"00000000", math.MaxInt, 0, 8},
		{"11111111", 8, 0, 0},
		{"11111111", math.MaxInt, 0, 0},
		{"1001100110011111", 16, 1, 2},
		{"1001100010001111", 16, 5, 3},
		{"1110000000000111", 16, 3, 10},
		{"1111111111111110", 16, 15, 1},
		{"", 8, 0, 0},
		{"", math.MaxInt, 0, 0},
		{"", math.MinInt, 0, 0},
	} {
		wantLongest(t, read(x.bits), x.n, x.start, x.length)
	}
}

func TestLongestOfAllSamples(t *testing.T) {
	for _, m := range samples(12) {
		bits := written(m)
		for n := range len(bits) + 4 {
			inside := bits[:min(n, len(bits))]
			start, length := 0, 0
			for _, zeros := range strings.Split(inside, "1") {
				length = max(length, len(zeros))
			}
			if length > 0 {
				start = strings.Index(inside, strings.Repeat("0", length))
			}
			wantLongest(t, m, n, start, length)
		}
	}
}

func TestExampleOfTheChapter(t *testing.T) {
	for i := range 8 {
		if got := marks.Is("\x05", i); got != (i == 0 || i == 2) {
			t.Errorf("Is(5, %d): %t", i, got)
		}
	}
	wantFirst(t, "\x05", 0, 8, 1, true)
	wantRun(t, "\x05", 0, 8, 2, 3, true)
}
