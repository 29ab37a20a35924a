package crown_test

import (
	"math"
	"math/rand"
	"slices"
	"strings"
	"testing"

	"wainwright/api"
	"wainwright/crown"
)

// extremes are numbers around the bounds of the fields, and far from them.
var extremes = []int{
	math.MinInt, math.MinInt + 1, math.MinInt32, -65536, -256, -64, -32, -1, 0, 1, 2, 3, 4, 5, 6, 30, 31, 32, 33, 34,
	49, 50, 51, 52, 62, 63, 64, 65, 66, 127, 128, 129, 254, 255, 256, 257, 258, 259, 260, 261, 288, 398, 399, 400, 401, 402,
	1022, 1023, 1024, 1025, 65535, 65536, 65537, 65538, 65600, 65936, math.MaxInt32, 1<<32 + 1, 1<<32 + 300, math.MaxInt,
}

func zeros(n int) string { return strings.Repeat("\x00", n) }

// isRight holds a crown against the words of the chapter.
func isRight(c api.Crown) bool {
	if c.Format < 1 || c.Format > 4 || c.Blocks < 64 || c.Blocks > 400 || c.Cursor < 0 || c.Cursor > 32 {
		return false
	}
	return c.Format > 2 || c.Cursor == 0
}

// valid returns all valid crowns.
func valid() []api.Crown {
	var all []api.Crown
	for blocks := 64; blocks <= 400; blocks++ {
		all = append(all, api.Crown{Format: 1, Blocks: blocks}, api.Crown{Format: 2, Blocks: blocks})
		for cursor := 0; cursor <= 32; cursor++ {
			all = append(all, api.Crown{Format: 3, Blocks: blocks, Cursor: cursor}, api.Crown{Format: 4, Blocks: blocks, Cursor: cursor})
		}
	}
	return all
}

// some returns valid crowns of every format at the bounds and between them.
func some() []api.Crown {
	var chosen []api.Crown
	for _, blocks := range []int{64, 65, 255, 256, 300, 399, 400} {
		chosen = append(chosen, api.Crown{Format: 1, Blocks: blocks}, api.Crown{Format: 2, Blocks: blocks})
		for _, cursor := range []int{0, 1, 7, 31, 32} {
			chosen = append(chosen, api.Crown{Format: 3, Blocks: blocks, Cursor: cursor}, api.Crown{Format: 4, Blocks: blocks, Cursor: cursor})
		}
	}
	return chosen
}

// wrong returns crowns that are not valid.
func wrong() []api.Crown {
	return []api.Crown{
		{},
		{Format: 0, Blocks: 64}, {Format: 5, Blocks: 64}, {Format: -1, Blocks: 64}, {Format: 257, Blocks: 64}, {Format: 259, Blocks: 64, Cursor: 1},
		{Format: 1}, {Format: 1, Blocks: 63}, {Format: 1, Blocks: 401}, {Format: 1, Blocks: -64}, {Format: 1, Blocks: 65536 + 64},
		{Format: 2, Blocks: 63}, {Format: 2, Blocks: 401}, {Format: 3, Blocks: 63}, {Format: 3, Blocks: 401}, {Format: 4, Blocks: 63}, {Format: 4, Blocks: 401},
		{Format: 1, Blocks: 64, Cursor: 1}, {Format: 2, Blocks: 64, Cursor: 1}, {Format: 1, Blocks: 64, Cursor: 32}, {Format: 2, Blocks: 400, Cursor: 32},
		{Format: 1, Blocks: 64, Cursor: -1}, {Format: 2, Blocks: 64, Cursor: -1}, {Format: 1, Blocks: 64, Cursor: 256}, {Format: 2, Blocks: 64, Cursor: 256},
		{Format: 3, Blocks: 64, Cursor: -1}, {Format: 4, Blocks: 64, Cursor: -1}, {Format: 3, Blocks: 64, Cursor: 33}, {Format: 4, Blocks: 64, Cursor: 33},
		{Format: 3, Blocks: 64, Cursor: 256}, {Format: 4, Blocks: 64, Cursor: 257},
	}
}

func TestRight(t *testing.T) {
	for _, c := range valid() {
		if !crown.Right(c) {
			t.Error(c, "is valid")
		}
	}
	for _, c := range wrong() {
		if crown.Right(c) {
			t.Error(c, "is not valid")
		}
	}
}

func TestRightAroundTheBounds(t *testing.T) {
	for _, format := range extremes {
		for _, blocks := range extremes {
			for _, cursor := range extremes {
				c := api.Crown{Format: format, Blocks: blocks, Cursor: cursor}
				if got := crown.Right(c); got != isRight(c) {
					t.Errorf("Right(%v): %t", c, got)
				}
			}
		}
	}
}

// encoded returns the block of a valid crown, byte by byte.
func encoded(c api.Crown) string {
	return "wainwright" + string([]byte{byte(c.Format), byte(c.Blocks % 256), byte(c.Blocks / 256), byte(c.Cursor)}) + zeros(114)
}

func wantWrite(t *testing.T, c api.Crown, want string) {
	t.Helper()
	if s, err := crown.Write(c); s != want || err != api.OK {
		t.Errorf("Write(%v): %q %d, not %q", c, s, err, want)
	}
}

func wantNoWrite(t *testing.T, c api.Crown) {
	t.Helper()
	if s, err := crown.Write(c); s != "" || err != api.ErrArg {
		t.Errorf("Write(%v): %q %d", c, s, err)
	}
}

func wantRead(t *testing.T, s string, want api.Crown) {
	t.Helper()
	if c, err := crown.Read(s); c != want || err != api.OK {
		t.Errorf("Read(%q): %v %d, not %v", s, c, err, want)
	}
}

func wantNoRead(t *testing.T, s string) {
	t.Helper()
	if c, err := crown.Read(s); c != (api.Crown{}) || err != api.ErrCorrupt {
		t.Errorf("Read(%.200q): %v %d", s, c, err)
	}
}

func TestEncoding(t *testing.T) {
	for _, x := range []struct {
		c api.Crown
		s string
	}{
		{api.Crown{Format: api.One, Blocks: 64}, "wainwright\x01\x40\x00\x00"},
		{api.Crown{Format: api.Two, Blocks: 400}, "wainwright\x02\x90\x01\x00"},
		{api.Crown{Format: api.One, Blocks: 255}, "wainwright\x01\xff\x00\x00"},
		{api.Crown{Format: api.Two, Blocks: 256}, "wainwright\x02\x00\x01\x00"},
		{api.Crown{Format: api.Up, Blocks: 300, Cursor: 7}, "wainwright\x03\x2c\x01\x07"},
		{api.Crown{Format: api.Up, Blocks: 64, Cursor: 0}, "wainwright\x03\x40\x00\x00"},
		{api.Crown{Format: api.Down, Blocks: 257, Cursor: 32}, "wainwright\x04\x01\x01\x20"},
	} {
		wantWrite(t, x.c, x.s+zeros(114))
		wantRead(t, x.s+zeros(114), x.c)
	}
}

func TestWriteAndRead(t *testing.T) {
	blocks := map[string]api.Crown{}
	for _, c := range valid() {
		wantWrite(t, c, encoded(c))
		wantRead(t, encoded(c), c)
		blocks[encoded(c)] = c
	}
	if len(blocks) != len(valid()) {
		t.Error("two crowns have the same block")
	}
	for _, c := range wrong() {
		wantNoWrite(t, c)
	}
}

func TestWriteAroundTheBounds(t *testing.T) {
	for _, format := range extremes {
		for _, blocks := range extremes {
			for _, cursor := range extremes {
				c := api.Crown{Format: format, Blocks: blocks, Cursor: cursor}
				if isRight(c) {
					wantWrite(t, c, encoded(c))
				} else {
					wantNoWrite(t, c)
				}
			}
		}
	}
}

// checkRead holds Read against the words of the chapter, for a block with 128
// bytes, and reports whether it is that of a crown.
func checkRead(t *testing.T, s string) bool {
	t.Helper()
	c := api.Crown{Format: int(s[10]), Blocks: int(s[11]) + 256*int(s[12]), Cursor: int(s[13])}
	if s[:10] != "wainwright" || s[14:] != zeros(114) || !isRight(c) {
		wantNoRead(t, s)
		return false
	}
	wantRead(t, s, c)
	return true
}

func TestReadEveryByte(t *testing.T) {
	accepted := 0
	crowns := []api.Crown{
		{Format: 1, Blocks: 64}, {Format: 2, Blocks: 400}, {Format: 1, Blocks: 256}, {Format: 2, Blocks: 255},
		{Format: 3, Blocks: 300}, {Format: 3, Blocks: 64, Cursor: 7}, {Format: 4, Blocks: 400, Cursor: 32}, {Format: 4, Blocks: 257, Cursor: 1},
	}
	for _, c := range crowns {
		for at := range 128 {
			for value := range 256 {
				changed := []byte(encoded(c))
				changed[at] = byte(value)
				if checkRead(t, string(changed)) {
					accepted++
				}
			}
		}
	}
	// In the bytes of Blocks and of Cursor many values are valid.
	if accepted < 128*len(crowns) {
		t.Error("few blocks are accepted:", accepted)
	}
}

func TestReadEveryNumber(t *testing.T) {
	for format := range 256 {
		for cursor := range 256 {
			for _, blocks := range []string{"\x3f\x00", "\x40\x00", "\x2c\x01", "\x90\x01", "\x91\x01", "\x40\x02"} {
				checkRead(t, "wainwright"+string([]byte{byte(format)})+blocks+string([]byte{byte(cursor)})+zeros(114))
			}
		}
	}
	for format := range 6 {
		for blocks := range 65536 {
			for _, cursor := range []byte{0, 1, 32} {
				checkRead(t, "wainwright"+string([]byte{byte(format), byte(blocks), byte(blocks >> 8), cursor})+zeros(114))
			}
		}
	}
}

func TestReadOfAnotherLength(t *testing.T) {
	for _, c := range some() {
		s := encoded(c) + encoded(c)
		for n := range len(s) + 1 {
			if n != 128 {
				wantNoRead(t, s[:n])
				wantNoRead(t, (encoded(c) + zeros(200))[:n])
				wantNoRead(t, zeros(n))
			}
		}
		wantNoRead(t, s[128-14:])
		wantNoRead(t, encoded(c)+zeros(70000))
	}
}

func TestReadOfAnotherWord(t *testing.T) {
	s := encoded(api.Crown{Format: api.Two, Blocks: 300})
	rest := s[10:]
	for _, word := range []string{"", "Wainwright", "WAINWRIGHT", "wainwrigh", "wainwrigth", "wain", "cartwright", "wainwright ", " wainwright", "wainwright\x00", "\x00wainwright", "wainwrightwainwright"} {
		wantNoRead(t, word+rest)
		wantNoRead(t, (word + rest + zeros(20))[:128])
	}
	wantNoRead(t, zeros(128))
	wantNoRead(t, strings.Repeat("\xff", 128))
}

func TestReadOfRandomBlocks(t *testing.T) {
	random := rand.New(rand.NewSource(10))
	all := valid()
	accepted, refused := 0, 0
	for range 50000 {
		block := []byte(encoded(all[random.Intn(len(all))]))
		for range random.Intn(4) {
			// Mostly a byte of the numbers, or one next to them.
			at := 9 + random.Intn(6)
			if random.Intn(4) == 0 {
				at = random.Intn(128)
			}
			block[at] = byte(random.Intn(5) * random.Intn(17))
		}
		if checkRead(t, string(block)) {
			accepted++
		} else {
			refused++
		}
	}
	if accepted < 10000 || refused < 10000 {
		t.Error("one of the two is hardly tested:", accepted, refused)
	}
}

func TestCard(t *testing.T) {
	for _, x := range []struct{ node, block, index int }{
		{0, 43, 0}, {1, 43, 1}, {2, 43, 2}, {3, 43, 3}, {4, 44, 0}, {5, 44, 1}, {7, 44, 3}, {8, 45, 0},
		{15, 46, 3}, {16, 47, 0}, {22, 48, 2}, {27, 49, 3}, {28, 50, 0}, {31, 50, 3},
	} {
		if block, index, err := crown.Card(x.node); block != x.block || index != x.index || err != api.OK {
			t.Errorf("Card(%d): %d %d %d", x.node, block, index, err)
		}
	}
}

func TestCardOfNoFile(t *testing.T) {
	for _, node := range append([]int{-2, -3, -4, -5, -43, -128, 35, 36, 43, 100, 1 << 16, 1 << 40}, extremes...) {
		if node >= 0 && node <= 31 {
			continue
		}
		if block, index, err := crown.Card(node); block != 0 || index != 0 || err != api.ErrNone {
			t.Errorf("Card(%d): %d %d %d", node, block, index, err)
		}
	}
}

func TestCardsHaveDifferentPlaces(t *testing.T) {
	files := map[[2]int]int{}
	for node := range 32 {
		block, index, err := crown.Card(node)
		if err != api.OK || block < 43 || block > 50 || index < 0 || index > 3 {
			t.Errorf("Card(%d): %d %d %d", node, block, index, err)
		}
		if other, found := files[[2]int{block, index}]; found {
			t.Errorf("the cards of %d and %d have the same place", other, node)
		}
		files[[2]int{block, index}] = node
	}
}

func TestFormat(t *testing.T) {
	for _, x := range []struct {
		c          api.Crown
		node, want int
	}{
		{api.Crown{Format: api.One, Blocks: 64}, 0, api.One},
		{api.Crown{Format: api.One, Blocks: 64}, 1, api.One},
		{api.Crown{Format: api.One, Blocks: 400}, 31, api.One},
		{api.Crown{Format: api.Two, Blocks: 64}, 0, api.Two},
		{api.Crown{Format: api.Two, Blocks: 400}, 31, api.Two},
		{api.Crown{Format: api.Up, Blocks: 64, Cursor: 0}, 0, api.One},
		{api.Crown{Format: api.Up, Blocks: 64, Cursor: 1}, 0, api.Two},
		{api.Crown{Format: api.Up, Blocks: 64, Cursor: 1}, 1, api.One},
		{api.Crown{Format: api.Up, Blocks: 64, Cursor: 7}, 6, api.Two},
		{api.Crown{Format: api.Up, Blocks: 64, Cursor: 7}, 7, api.One},
		{api.Crown{Format: api.Down, Blocks: 64, Cursor: 7}, 6, api.Two},
		{api.Crown{Format: api.Down, Blocks: 64, Cursor: 7}, 7, api.One},
		{api.Crown{Format: api.Down, Blocks: 64, Cursor: 0}, 0, api.One},
		{api.Crown{Format: api.Up, Blocks: 64, Cursor: 31}, 31, api.One},
		{api.Crown{Format: api.Up, Blocks: 64, Cursor: 32}, 31, api.Two},
		{api.Crown{Format: api.Down, Blocks: 64, Cursor: 32}, 31, api.Two},
		{api.Crown{Format: api.Down, Blocks: 64, Cursor: 32}, 32, 0},
		{api.Crown{Format: api.One, Blocks: 64}, 32, 0},
		{api.Crown{Format: api.Two, Blocks: 64}, -1, 0},
	} {
		if got := crown.Format(x.c, x.node); got != x.want {
			t.Errorf("Format(%v, %d): %d", x.c, x.node, got)
		}
	}
}

// formatOf returns the format of the card of a file, as the chapter has it.
func formatOf(c api.Crown, node int) int {
	switch {
	case !isRight(c) || node < 0 || node > 31:
		return 0
	case c.Format == 1 || c.Format > 2 && node >= c.Cursor:
		return 1
	}
	return 2
}

func TestFormatOfEveryFile(t *testing.T) {
	nodes := slices.Clone(extremes)
	for node := range 32 {
		nodes = append(nodes, node)
	}
	crowns := append(some(), wrong()...)
	for cursor := range 33 {
		crowns = append(crowns, api.Crown{Format: 3, Blocks: 300, Cursor: cursor}, api.Crown{Format: 4, Blocks: 300, Cursor: cursor})
	}
	for _, c := range crowns {
		for _, node := range nodes {
			if got := crown.Format(c, node); got != formatOf(c, node) {
				t.Errorf("Format(%v, %d): %d", c, node, got)
			}
		}
	}
}

func TestOwned(t *testing.T) {
	for _, c := range valid() {
		for _, block := range []int{math.MinInt, -51, -1, 0, 1, 42, 50, c.Blocks, c.Blocks + 1, 401, 1024, 65536 + 60, math.MaxInt} {
			if crown.Owned(c, block) {
				t.Errorf("Owned(%v, %d)", c, block)
			}
		}
		for _, block := range []int{51, 52, 63, c.Blocks - 2, c.Blocks - 1} {
			if !crown.Owned(c, block) {
				t.Errorf("not Owned(%v, %d)", c, block)
			}
		}
	}
}

func TestOwnedOfEveryBlock(t *testing.T) {
	for _, c := range some() {
		for block := -10; block < 1100; block++ {
			if got := crown.Owned(c, block); got != (block >= 51 && block < c.Blocks) {
				t.Errorf("Owned(%v, %d): %t", c, block, got)
			}
		}
	}
	for _, c := range wrong() {
		for block := -10; block < 1100; block++ {
			if crown.Owned(c, block) {
				t.Errorf("Owned(%v, %d)", c, block)
			}
		}
	}
}

// bits returns marks as a text of the digits 0 and 1, bit 0 first.
func bits(marks string) string {
	digits := make([]byte, 0, 8*len(marks))
	for i := range len(marks) {
		for b := marks[i]; len(digits) < 8*i+8; b /= 2 {
			digits = append(digits, '0'+b%2)
		}
	}
	return string(digits)
}

func TestMarks(t *testing.T) {
	ones := strings.Repeat("\xff", 128)
	begin := "\xff\xff\xff\xff\xff\xff\x07"
	for _, x := range []struct {
		blocks int
		want   string
	}{
		{64, begin + "\x00" + ones[8:]},
		{65, begin + "\x00\xfe" + ones[9:]},
		{71, begin + "\x00\x80" + ones[9:]},
		{400, begin + zeros(43) + ones[50:]},
		{1023, begin + zeros(120) + "\x80"},
		{1024, begin + zeros(121)},
		{1025, begin + zeros(121)},
		{math.MaxInt, begin + zeros(121)},
		{53, ones[:6] + "\xe7" + ones[7:]},
		{52, ones[:6] + "\xf7" + ones[7:]},
		{51, ones}, {50, ones}, {1, ones}, {0, ones}, {-1, ones}, {-1024, ones}, {math.MinInt, ones},
	} {
		if got := crown.Marks(x.blocks); got != x.want {
			t.Errorf("Marks(%d): %q", x.blocks, got)
		}
	}
}

func TestMarksOfEveryNumber(t *testing.T) {
	numbers := slices.Clone(extremes)
	for blocks := -10; blocks < 1100; blocks++ {
		numbers = append(numbers, blocks)
	}
	for _, blocks := range numbers {
		exist := min(max(blocks, 51), 1024)
		want := strings.Repeat("1", 51) + strings.Repeat("0", exist-51) + strings.Repeat("1", 1024-exist)
		if got := bits(crown.Marks(blocks)); got != want {
			t.Errorf("Marks(%d): %s", blocks, got)
		}
	}
}

func TestMarksAreWhatFilesCannotOwn(t *testing.T) {
	for _, c := range some() {
		for block, digit := range bits(crown.Marks(c.Blocks)) {
			if crown.Owned(c, block) != (digit == '0') {
				t.Errorf("block %d of %v: %c", block, c, digit)
			}
		}
	}
}

func TestExampleOfTheChapter(t *testing.T) {
	if block, index, err := crown.Card(5); block != 44 || index != 1 || err != api.OK {
		t.Error(block, index, err)
	}
}
