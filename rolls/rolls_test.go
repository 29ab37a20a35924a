package rolls_test

import (
	"math"
	"math/rand"
	"slices"
	"strconv"
	"strings"
	"testing"
	"unsafe"

	"wainwright/api"
	"wainwright/rolls"
)

// free is a free slot.
var free = api.Entry{}

// badNames are names that are not valid, the empty one apart.
var badNames = []string{
	".", "..", "abcdefghijkl", "A", "aB", "a b", "a/b", "/", "a\x00", "\x00", "\x00a", "é", "\xff", "*", strings.Repeat("a", 70000),
}

// badNodes are numbers that no entry has.
var badNodes = []int{0, -1, -65535, 65536, 65537, 131071, math.MinInt, math.MaxInt, math.MinInt32, math.MaxInt32}

// roll returns the entries with these names, of which "" is a free slot; the
// number of an entry is 10 more than its place.
func roll(names ...string) []api.Entry {
	var l []api.Entry
	for i, name := range names {
		entry := api.Entry{Name: name, Node: i + 10}
		if name == "" {
			entry = free
		}
		l = append(l, entry)
	}
	return l
}

// padded returns the entries of l, and then free slots up to n.
func padded(l []api.Entry, n int) []api.Entry {
	l = slices.Clone(l)
	for len(l) < n {
		l = append(l, free)
	}
	return l
}

// many returns n entries n0, n1, ... with the numbers 1, 2, ...
func many(n int) []api.Entry {
	var l []api.Entry
	for i := range n {
		l = append(l, api.Entry{Name: "n" + strconv.Itoa(i), Node: i + 1})
	}
	return l
}

// with returns l with another entry at a place.
func with(l []api.Entry, i int, entry api.Entry) []api.Entry {
	l = slices.Clone(l)
	l[i] = entry
	return l
}

func wantRight(t *testing.T, l []api.Entry, want bool) {
	t.Helper()
	if got := rolls.Right(l); got != want {
		t.Errorf("Right(%.300v): %t", l, got)
	}
}

func wantFind(t *testing.T, l []api.Entry, name string, node int, found bool) {
	t.Helper()
	if n, ok := rolls.Find(l, name); n != node || ok != found {
		t.Errorf("Find(%v, %.20q): %d %t, not %d %t", l, name, n, ok, node, found)
	}
}

func wantAdd(t *testing.T, l []api.Entry, name string, node int, want []api.Entry) {
	t.Helper()
	if got, err := rolls.Add(l, name, node); err != api.OK || !slices.Equal(got, want) {
		t.Errorf("Add(%v, %q, %d): %v %d, not %v", l, name, node, got, err, want)
	}
}

func wantNoAdd(t *testing.T, l []api.Entry, name string, node int, want api.Errno) {
	t.Helper()
	if got, err := rolls.Add(l, name, node); err != want || len(got) != 0 {
		t.Errorf("Add(%v, %.20q, %d): %v %d, not %d", l, name, node, got, err, want)
	}
}

func wantDrop(t *testing.T, l []api.Entry, name string, want []api.Entry, node int) {
	t.Helper()
	if got, n, err := rolls.Drop(l, name); err != api.OK || n != node || !slices.Equal(got, want) {
		t.Errorf("Drop(%v, %q): %v %d %d, not %v %d", l, name, got, n, err, want, node)
	}
}

func wantNoDrop(t *testing.T, l []api.Entry, name string, want api.Errno) {
	t.Helper()
	if got, n, err := rolls.Drop(l, name); err != want || n != 0 || len(got) != 0 {
		t.Errorf("Drop(%v, %.20q): %v %d %d, not %d", l, name, got, n, err, want)
	}
}

func wantLive(t *testing.T, l, want []api.Entry) {
	t.Helper()
	if got := rolls.Live(l); !slices.Equal(got, want) {
		t.Errorf("Live(%v): %v, not %v", l, got, want)
	}
}

func wantOf(t *testing.T, l, want []api.Entry) {
	t.Helper()
	if got := rolls.Of(l); !slices.Equal(got, want) {
		t.Errorf("Of(%v): %v, not %v", l, got, want)
	}
}

// wantBlocks tells that these are the blocks of l, in both directions.
func wantBlocks(t *testing.T, l []api.Entry, want []string) {
	t.Helper()
	if got, err := rolls.Write(l); err != api.OK || !slices.Equal(got, want) {
		t.Errorf("Write(%v): %q %d, not %q", l, got, err, want)
	}
	if got, err := rolls.Read(want); err != api.OK || !slices.Equal(got, l) {
		t.Errorf("Read(%q): %v %d, not %v", want, got, err, l)
	}
}

func wantNoWrite(t *testing.T, l []api.Entry) {
	t.Helper()
	if got, err := rolls.Write(l); err != api.ErrArg || len(got) != 0 {
		t.Errorf("Write(%.300v): %q %d, not ErrArg", l, got, err)
	}
}

func wantNoRead(t *testing.T, blocks ...string) {
	t.Helper()
	if got, err := rolls.Read(blocks); err != api.ErrCorrupt || len(got) != 0 {
		t.Errorf("Read(%.300q): %v %d, not ErrCorrupt", blocks, got, err)
	}
}

// wrong returns lists that are no valid rolls.
func wrong() [][]api.Entry {
	eight := roll("a", "b", "", "c", "d", "e", "", "f")
	lists := [][]api.Entry{
		padded(many(161), 168), many(168), padded(many(161), 400), append(padded(nil, 8), many(168)...),
	}
	for n := 1; n < 40; n++ {
		if n%8 != 0 {
			lists = append(lists, many(n), padded(nil, n), padded(roll("a"), n))
		}
	}
	for i := range eight {
		for _, name := range badNames {
			lists = append(lists, with(eight, i, api.Entry{Name: name, Node: 2}), with(eight, i, api.Entry{Name: name}))
		}
		for _, node := range badNodes {
			lists = append(lists, with(eight, i, api.Entry{Name: "x", Node: node}))
			if node != 0 {
				lists = append(lists, with(eight, i, api.Entry{Node: node}))
			}
		}
		lists = append(lists, with(eight, i, api.Entry{Node: 1}), with(eight, i, api.Entry{Node: 65535}))
		for j, other := range eight {
			if j != i && other != free {
				lists = append(lists, with(eight, i, other), with(eight, i, api.Entry{Name: other.Name, Node: 99}))
			}
		}
	}
	far := padded(roll("a"), 160)
	return append(lists, with(far, 159, api.Entry{Name: "a", Node: 3}), with(far, 80, api.Entry{Name: "a", Node: 10}))
}

// correct returns valid rolls.
func correct() [][]api.Entry {
	eight := roll("a", "b", "", "c", "d", "e", "", "f")
	lists := [][]api.Entry{
		nil, {}, eight, padded(nil, 8), padded(nil, 16), padded(nil, 800), many(8), many(160),
		padded(many(160), 168), padded(many(159), 160), padded(many(160), 1600), append(padded(nil, 80), many(160)...),
		padded(roll("a"), 16), append(padded(nil, 15), roll("a")...),
		padded([]api.Entry{{Name: "a", Node: 1}, {Name: "b", Node: 65535}, {Name: "c", Node: 1}}, 8),
		roll("abcdefghijk", "abcdefghij", "...", "-", "_", "0", "a.b", "..."+"-"),
	}
	return lists
}

func TestRight(t *testing.T) {
	for _, l := range correct() {
		wantRight(t, l, true)
	}
	for _, l := range wrong() {
		wantRight(t, l, false)
	}
}

func TestFind(t *testing.T) {
	l := roll("a", "", "b", "", "ab", "abcdefghijk", "", "z")
	for i, entry := range l {
		if entry != free {
			wantFind(t, l, entry.Name, i+10, true)
			wantFind(t, l[:i], entry.Name, 0, false)
		}
	}
	for _, name := range []string{"", "c", "abc", "abcdefghij", "y", "..."} {
		wantFind(t, l, name, 0, false)
		wantFind(t, nil, name, 0, false)
	}
	for _, name := range badNames {
		wantFind(t, l, name, 0, false)
	}
}

// TestFindInAnyList: Find takes lists that are no valid rolls, too.
func TestFindInAnyList(t *testing.T) {
	wantFind(t, []api.Entry{{Name: "a", Node: 3}, {Name: "b", Node: 4}, {Name: "a", Node: 5}}, "a", 3, true)
	wantFind(t, []api.Entry{{Name: "a"}, {Name: "a", Node: 5}}, "a", 0, true)
	wantFind(t, []api.Entry{{Name: "a", Node: -7}}, "a", -7, true)
	wantFind(t, []api.Entry{{Name: "a", Node: math.MaxInt}}, "a", math.MaxInt, true)
	wantFind(t, []api.Entry{{Name: "A", Node: 1}, {Name: "a", Node: 2}}, "a", 2, true)
	wantFind(t, many(200), "n180", 181, true)
	for _, name := range append(badNames, "") {
		wantFind(t, []api.Entry{{Name: name, Node: 9}}, name, 0, false)
	}
}

func TestAdd(t *testing.T) {
	wantAdd(t, nil, "a", 1, padded([]api.Entry{{Name: "a", Node: 1}}, 8))
	wantAdd(t, []api.Entry{}, "abcdefghijk", 65535, padded([]api.Entry{{Name: "abcdefghijk", Node: 65535}}, 8))
	x := api.Entry{Name: "x", Node: 7}
	for n := range 161 {
		full := many(n)
		rounded := padded(full, (n+7)/8*8)
		switch {
		case n == 160:
			wantNoAdd(t, rounded, "x", 7, api.ErrLarge)
		case n%8 == 0:
			wantAdd(t, rounded, "x", 7, padded(append(full, x), n+8))
		default:
			wantAdd(t, rounded, "x", 7, with(rounded, n, x))
		}
	}
	for i := range 24 {
		l := with(many(24), i, free)
		wantAdd(t, l, "x", 7, with(l, i, x))
		for j := i + 1; j < 24; j++ {
			wantAdd(t, with(l, j, free), "x", 7, with(with(l, j, free), i, x))
		}
	}
	// A name that is removed may come again, and a number may be there twice.
	wantAdd(t, with(many(8), 3, free), "n3", 4, many(8))
	wantAdd(t, padded(roll("a"), 8), "b", 10, padded([]api.Entry{{Name: "a", Node: 10}, {Name: "b", Node: 10}}, 8))
}

func TestAddNothing(t *testing.T) {
	l := roll("a", "b", "", "c", "d", "e", "", "f")
	full := many(160)
	for _, w := range wrong() {
		wantNoAdd(t, w, "new", 2, api.ErrArg)
		wantNoAdd(t, w, "..", 2, api.ErrArg)
		wantNoAdd(t, w, "a", 2, api.ErrArg)
	}
	for _, node := range badNodes {
		for _, name := range []string{"new", "a", "", "..", "n1"} {
			wantNoAdd(t, l, name, node, api.ErrArg)
			wantNoAdd(t, full, name, node, api.ErrArg)
		}
	}
	for _, name := range append(badNames, "") {
		wantNoAdd(t, l, name, 2, api.ErrName)
		wantNoAdd(t, full, name, 2, api.ErrName)
		wantNoAdd(t, nil, name, 2, api.ErrName)
	}
	for _, name := range []string{"a", "b", "c", "d", "e", "f"} {
		wantNoAdd(t, l, name, 2, api.ErrThere)
	}
	wantNoAdd(t, full, "n0", 1, api.ErrThere)
	wantNoAdd(t, full, "n159", 2, api.ErrThere)
	wantNoAdd(t, full, "new", 2, api.ErrLarge)
	// Free slots do not help where 160 entries are not free.
	wantNoAdd(t, padded(full, 168), "new", 2, api.ErrLarge)
	wantNoAdd(t, append(padded(nil, 8), full...), "new", 2, api.ErrLarge)
	wantNoAdd(t, padded(full, 168), "n80", 2, api.ErrThere)
}

func TestDrop(t *testing.T) {
	for _, l := range correct() {
		for i, entry := range l {
			if entry != free {
				wantDrop(t, l, entry.Name, with(l, i, free), entry.Node)
			}
		}
	}
	// The length remains, even of a roll that has no entry any more.
	wantDrop(t, padded(roll("a"), 24), "a", padded(nil, 24), 10)
}

func TestDropNothing(t *testing.T) {
	l := roll("a", "b", "", "c", "d", "e", "", "f")
	for _, w := range wrong() {
		wantNoDrop(t, w, "a", api.ErrArg)
		wantNoDrop(t, w, "n1", api.ErrArg)
		wantNoDrop(t, w, "..", api.ErrArg)
		wantNoDrop(t, w, "", api.ErrArg)
	}
	for _, name := range append(badNames, "", "g", "aa", "abcdefghijk") {
		wantNoDrop(t, l, name, api.ErrNone)
		wantNoDrop(t, nil, name, api.ErrNone)
		wantNoDrop(t, padded(nil, 8), name, api.ErrNone)
	}
}

func TestLive(t *testing.T) {
	wantLive(t, nil, nil)
	wantLive(t, padded(nil, 16), nil)
	wantLive(t, roll("b", "", "a", "", "", "c"), []api.Entry{{Name: "b", Node: 10}, {Name: "a", Node: 12}, {Name: "c", Node: 15}})
	wantLive(t, padded(many(160), 400), many(160))
	// Only the number counts, in lists that are no valid rolls, too.
	odd := []api.Entry{{Name: "a"}, {Node: 5}, {Name: "A", Node: -1}, {Name: "x", Node: math.MinInt}, free, {Name: "x", Node: 70000}, {Name: "x", Node: 70000}}
	wantLive(t, odd, []api.Entry{{Node: 5}, {Name: "A", Node: -1}, {Name: "x", Node: math.MinInt}, {Name: "x", Node: 70000}, {Name: "x", Node: 70000}})
	wantLive(t, many(300), many(300))
}

func TestOf(t *testing.T) {
	for n := range 200 {
		wantOf(t, many(n), padded(many(n), (n+7)/8*8))
		wantOf(t, padded(nil, n), padded(nil, (n+7)/8*8))
	}
	wantOf(t, roll("b", "", "a"), padded(roll("b", "", "a"), 8))
	odd := []api.Entry{{Name: "a"}, {Node: -5}, {Name: "A", Node: 1}, {Name: "A", Node: 1}}
	wantOf(t, odd, padded(odd, 8))
}

// slot returns the bytes of an entry as the chapter says.
func slot(entry api.Entry) string {
	bytes := make([]byte, 16)
	bytes[0], bytes[1] = byte(entry.Node%256), byte(entry.Node/256)
	copy(bytes[2:], entry.Name)
	return string(bytes)
}

// blocksOf returns the blocks of a roll.
func blocksOf(l []api.Entry) []string {
	var blocks []string
	for i, entry := range l {
		if i%8 == 0 {
			blocks = append(blocks, "")
		}
		blocks[i/8] += slot(entry)
	}
	return blocks
}

func TestBlocks(t *testing.T) {
	first := "\x0a\x00a" + strings.Repeat("\x00", 13) + strings.Repeat("\x00", 16) + "\x0c\x00abcdefghijk\x00\x00\x00" + strings.Repeat("\x00", 80)
	wantBlocks(t, padded(roll("a", "", "abcdefghijk"), 8), []string{first})
	high := "\xff\xffz" + strings.Repeat("\x00", 13) + "\x00\x01y" + strings.Repeat("\x00", 13) + strings.Repeat("\x00", 96)
	wantBlocks(t, padded([]api.Entry{{Name: "z", Node: 65535}, {Name: "y", Node: 256}}, 8), []string{high})
	for _, l := range correct() {
		wantBlocks(t, l, blocksOf(l))
	}
	for node := 1; node <= 65535; node += 97 {
		l := padded([]api.Entry{free, {Name: "a", Node: node}}, 8)
		wantBlocks(t, l, blocksOf(l))
	}
}

func TestNoBlocks(t *testing.T) {
	for _, l := range wrong() {
		wantNoWrite(t, l)
	}
}

// TestReadEveryByte changes each byte of two blocks to each value: what Read
// returns then has exactly these blocks, or is nothing.
func TestReadEveryByte(t *testing.T) {
	l := append(roll("a", "", "abcdefghijk", "b", "c", "d", "e", "f"), padded(roll("xy"), 8)...)
	blocks := blocksOf(l)
	for i := range blocks {
		for at := range 128 {
			for value := range 256 {
				changed := slices.Clone(blocks)
				bytes := []byte(changed[i])
				bytes[at] = byte(value)
				changed[i] = string(bytes)
				entry, ok := decoded(changed[i][at/16*16 : at/16*16+16])
				expected := with(l, i*8+at/16, entry)
				if ok && unique(expected) {
					wantBlocks(t, expected, changed)
				} else {
					wantNoRead(t, changed...)
				}
			}
		}
	}
}

// decoded returns the entry of a valid roll that has these bytes.
func decoded(bytes string) (api.Entry, bool) {
	name := strings.TrimRight(bytes[2:13], "\x00")
	node := int(bytes[0]) + int(bytes[1])*256
	ok := bytes[13:] == "\x00\x00\x00" && (name == "") == (node == 0)
	for _, r := range name {
		ok = ok && strings.ContainsRune("abcdefghijklmnopqrstuvwxyz0123456789.-_", r)
	}
	return api.Entry{Name: name, Node: node}, ok && name != "." && name != ".."
}

// unique tells whether no two entries have the same name.
func unique(l []api.Entry) bool {
	for i, a := range l {
		for _, b := range l[:i] {
			if a.Name != "" && a.Name == b.Name {
				return false
			}
		}
	}
	return true
}

func TestReadNothing(t *testing.T) {
	block := blocksOf(padded(roll("a"), 8))[0]
	other := blocksOf(padded(roll("b"), 8))[0]
	for n := range 300 {
		if n != 128 {
			cut := (block + other + other)[:n]
			wantNoRead(t, cut)
			wantNoRead(t, other, cut)
			wantNoRead(t, cut, other)
			wantNoRead(t, strings.Repeat("\x00", n))
		}
	}
	wantNoRead(t, block, block)
	wantNoRead(t, block, other, block)
	wantNoRead(t, blocksOf(many(168))...)
	wantNoRead(t, blocksOf(padded(many(161), 168))...)
	for _, name := range badNames {
		if len(name) <= 11 && !strings.HasSuffix(name, "\x00") {
			wantNoRead(t, blocksOf(padded([]api.Entry{{Name: name, Node: 2}}, 8))...)
		}
	}
	if l, err := rolls.Read(nil); err != api.OK || len(l) != 0 {
		t.Errorf("Read(nil): %v %d", l, err)
	}
}

// TestRandom holds long sequences of Add and Drop against a plain list.
func TestRandom(t *testing.T) {
	r := rand.New(rand.NewSource(7))
	for range 8 {
		var l, model []api.Entry
		growth := 1 + r.Intn(9)
		for range 600 {
			name, node := "n"+strconv.Itoa(r.Intn(250)), 1+r.Intn(65535)
			at := slices.IndexFunc(model, func(e api.Entry) bool { return e.Name == name })
			live := len(slices.DeleteFunc(slices.Clone(model), func(e api.Entry) bool { return e == free }))
			if r.Intn(10) < growth {
				l, model = addBoth(t, l, model, api.Entry{Name: name, Node: node}, at, live)
			} else {
				l, model = dropBoth(t, l, model, name, at)
			}
			checkBoth(t, l, model)
		}
	}
}

func addBoth(t *testing.T, l, model []api.Entry, entry api.Entry, at, live int) ([]api.Entry, []api.Entry) {
	t.Helper()
	added, err := rolls.Add(l, entry.Name, entry.Node)
	want := api.OK
	switch {
	case at >= 0:
		want = api.ErrThere
	case live == 160:
		want = api.ErrLarge
	}
	if err != want {
		t.Fatalf("Add %v: %d, not %d", entry, err, want)
	}
	if err != api.OK {
		return l, model
	}
	slot := slices.Index(model, free)
	if slot < 0 {
		slot = len(model)
		model = padded(model, slot+8)
	}
	return added, with(model, slot, entry)
}

func dropBoth(t *testing.T, l, model []api.Entry, name string, at int) ([]api.Entry, []api.Entry) {
	t.Helper()
	dropped, node, err := rolls.Drop(l, name)
	if at < 0 {
		if err != api.ErrNone {
			t.Fatalf("Drop %q: %d", name, err)
		}
		return l, model
	}
	if err != api.OK || node != model[at].Node {
		t.Fatalf("Drop %q: %d %d", name, node, err)
	}
	return dropped, with(model, at, free)
}

func checkBoth(t *testing.T, l, model []api.Entry) {
	t.Helper()
	if !slices.Equal(l, model) {
		t.Fatalf("%v, not %v", l, model)
	}
	wantRight(t, l, true)
	for i := range 250 {
		name := "n" + strconv.Itoa(i)
		at := slices.IndexFunc(model, func(e api.Entry) bool { return e.Name == name })
		if at < 0 {
			wantFind(t, l, name, 0, false)
		} else {
			wantFind(t, l, name, model[at].Node, true)
		}
	}
	wantBlocks(t, l, blocksOf(model))
}

// TestArgumentsRemain: no call changes the list that it is given, or keeps a
// hold on it beyond its length.
func TestArgumentsRemain(t *testing.T) {
	for n := range 25 {
		spare := padded(append(many(n), padded(nil, 3)...), 64)
		before := slices.Clone(spare)
		l := spare[:(n+7)/8*8]
		rolls.Right(l)
		rolls.Find(l, "n1")
		rolls.Add(l, "x", 5)
		rolls.Drop(l, "n1")
		rolls.Live(l)
		rolls.Of(spare[:n])
		rolls.Write(l)
		if !slices.Equal(spare, before) {
			t.Errorf("%d: %v", n, spare)
		}
	}
	blocks := blocksOf(many(16))
	before := slices.Clone(blocks)
	rolls.Read(blocks)
	if !slices.Equal(blocks, before) {
		t.Error(blocks)
	}
}

// within tells whether a text shares memory with another.
func within(inner, outer string) bool {
	if inner == "" || outer == "" {
		return false
	}
	a, b := uintptr(unsafe.Pointer(unsafe.StringData(inner))), uintptr(unsafe.Pointer(unsafe.StringData(outer)))
	return a >= b && a < b+uintptr(len(outer))
}

// TestResultsAreNew: results share no memory with the arguments.
func TestResultsAreNew(t *testing.T) {
	for _, n := range []int{8, 9, 15} {
		l := padded(many(n), 16)
		name := strings.Clone("new")
		added, _ := rolls.Add(l, name, 5)
		dropped, _, _ := rolls.Drop(l, "n2")
		for _, result := range [][]api.Entry{added, dropped, rolls.Live(l), rolls.Of(l), rolls.Of(l[:n])} {
			for i := range result {
				for _, given := range append(slices.Clone(l), api.Entry{Name: name}) {
					if within(result[i].Name, given.Name) {
						t.Errorf("%q shares memory", result[i].Name)
					}
				}
				result[i] = api.Entry{Name: "changed", Node: 1}
			}
		}
		if !slices.Equal(l, padded(many(n), 16)) {
			t.Errorf("%d: %v", n, l)
		}
	}
	blocks := blocksOf(many(16))
	read, _ := rolls.Read(blocks)
	for _, entry := range read {
		for _, block := range blocks {
			if within(entry.Name, block) {
				t.Errorf("%q shares memory with a block", entry.Name)
			}
		}
	}
}

func TestExampleOfTheChapter(t *testing.T) {
	l, _ := rolls.Add(nil, "a", 2)
	l, _ = rolls.Add(l, "b", 3)
	l, _, _ = rolls.Drop(l, "a")
	l, _ = rolls.Add(l, "c", 4)
	want := padded([]api.Entry{{Name: "c", Node: 4}, {Name: "b", Node: 3}}, 8)
	if !slices.Equal(l, want) || !slices.Equal(rolls.Live(l), want[:2]) {
		t.Error(l)
	}
}
