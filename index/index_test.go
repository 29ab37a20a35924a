package index_test

import (
	"fmt"
	"math"
	"math/rand"
	"slices"
	"strings"
	"testing"
	"unsafe"

	"wainwright/api"
	"wainwright/index"
)

// badNames are names that are not valid.
var badNames = []string{
	"", ".", "..", "abcdefghijkl", "A", "aB", "a b", "a/b", "/", "a\x00", "\x00", "\x00a", "é", "\xff", "*", strings.Repeat("a", 70000),
}

// badNodes are numbers that no entry has.
var badNodes = []int{0, -1, -65535, 65536, 65537, 131071, math.MinInt, math.MaxInt, math.MinInt32, math.MaxInt32}

// nameOf returns the name of entry i: after it, and before the next one, come
// its name and a hyphen.
func nameOf(i int) string {
	return fmt.Sprintf("n%03d", i)
}

// many returns n entries n000, n001, ... with the numbers 1, 2, ...
func many(n int) []api.Entry {
	var l []api.Entry
	for i := range n {
		l = append(l, api.Entry{Name: nameOf(i), Node: i + 1})
	}
	return l
}

// cut returns l in pages of these sizes; what is left over is in no page.
func cut(l []api.Entry, sizes ...int) [][]api.Entry {
	var p [][]api.Entry
	for _, size := range sizes {
		p = append(p, slices.Clone(l[:size]))
		l = l[size:]
	}
	return p
}

// of returns pages of these sizes, with the entries of many.
func of(sizes ...int) [][]api.Entry {
	n := 0
	for _, size := range sizes {
		n += size
	}
	return cut(many(n), sizes...)
}

// nines returns n entries in pages of 9.
func nines(n int) [][]api.Entry {
	sizes := slices.Repeat([]int{9}, n/9)
	if n%9 != 0 {
		sizes = append(sizes, n%9)
	}
	return of(sizes...)
}

// named returns one page of entries with these names, and the numbers 10, 11, ...
func named(names ...string) [][]api.Entry {
	var page []api.Entry
	for i, name := range names {
		page = append(page, api.Entry{Name: name, Node: i + 10})
	}
	return [][]api.Entry{page}
}

func clone(p [][]api.Entry) [][]api.Entry {
	var copied [][]api.Entry
	for _, page := range p {
		copied = append(copied, slices.Clone(page))
	}
	return copied
}

// with returns p with another entry at a place.
func with(p [][]api.Entry, i, k int, entry api.Entry) [][]api.Entry {
	p = clone(p)
	p[i][k] = entry
	return p
}

func equal(p, q [][]api.Entry) bool {
	return slices.EqualFunc(p, q, slices.Equal[[]api.Entry])
}

// brief returns the beginning of what fmt prints of x.
func brief(x any) string {
	return fmt.Sprintf("%.2000s", fmt.Sprintf("%q", x))
}

func wantRight(t *testing.T, p [][]api.Entry, want bool) {
	t.Helper()
	if got := index.Right(p); got != want {
		t.Fatalf("Right(%s): %t", brief(p), got)
	}
}

func wantFind(t *testing.T, p [][]api.Entry, name string, node int, found bool) {
	t.Helper()
	if n, ok := index.Find(p, name); n != node || ok != found {
		t.Fatalf("Find(%s, %.20q): %d %t, not %d %t", brief(p), name, n, ok, node, found)
	}
}

func wantAdd(t *testing.T, p [][]api.Entry, name string, node int, want [][]api.Entry) {
	t.Helper()
	if got, err := index.Add(p, name, node); err != api.OK || !equal(got, want) {
		t.Fatalf("Add(%v, %q, %d): %v %d, not %v", p, name, node, got, err, want)
	}
}

func wantNoAdd(t *testing.T, p [][]api.Entry, name string, node int, want api.Errno) {
	t.Helper()
	if got, err := index.Add(p, name, node); err != want || len(got) != 0 {
		t.Fatalf("Add(%s, %.20q, %d): %v %d, not %d", brief(p), name, node, got, err, want)
	}
}

func wantDrop(t *testing.T, p [][]api.Entry, name string, want [][]api.Entry, node int) {
	t.Helper()
	if got, n, err := index.Drop(p, name); err != api.OK || n != node || !equal(got, want) {
		t.Fatalf("Drop(%v, %q): %v %d %d, not %v %d", p, name, got, n, err, want, node)
	}
}

func wantNoDrop(t *testing.T, p [][]api.Entry, name string, want api.Errno) {
	t.Helper()
	if got, n, err := index.Drop(p, name); err != want || n != 0 || len(got) != 0 {
		t.Fatalf("Drop(%s, %.20q): %v %d %d, not %d", brief(p), name, got, n, err, want)
	}
}

func wantAll(t *testing.T, p [][]api.Entry, want []api.Entry) {
	t.Helper()
	if got := index.All(p); !slices.Equal(got, want) {
		t.Fatalf("All(%s): %s, not %s", brief(p), brief(got), brief(want))
	}
}

func wantOf(t *testing.T, l []api.Entry, want [][]api.Entry) {
	t.Helper()
	if got := index.Of(l); !equal(got, want) {
		t.Fatalf("Of(%s): %s, not %s", brief(l), brief(got), brief(want))
	}
}

// wantBlocks tells that these are the blocks of p, in both directions.
func wantBlocks(t *testing.T, p [][]api.Entry, want []string) {
	t.Helper()
	if got, err := index.Write(p); err != api.OK || !slices.Equal(got, want) {
		t.Fatalf("Write(%v): %q %d, not %q", p, got, err, want)
	}
	if got, err := index.Read(want); err != api.OK || !equal(got, p) {
		t.Fatalf("Read(%q): %v %d, not %v", want, got, err, p)
	}
}

func wantNoWrite(t *testing.T, p [][]api.Entry) {
	t.Helper()
	if got, err := index.Write(p); err != api.ErrArg || len(got) != 0 {
		t.Fatalf("Write(%s): %q %d, not ErrArg", brief(p), got, err)
	}
}

func wantNoRead(t *testing.T, blocks ...string) {
	t.Helper()
	if got, err := index.Read(blocks); err != api.ErrCorrupt || len(got) != 0 {
		t.Fatalf("Read(%s): %s %d, not ErrCorrupt", brief(blocks), brief(got), err)
	}
}

// wrong returns pages that are not valid.
func wrong() [][][]api.Entry {
	all := [][][]api.Entry{
		{nil}, {{}}, {{}, {}}, of(0, 3), of(3, 0), of(3, 0, 3), of(10), of(11), of(100), of(3, 10), of(10, 3), of(9, 10, 9),
		nines(161), nines(162), nines(180), nines(900), of(slices.Repeat([]int{1}, 161)...), of(slices.Repeat([]int{7}, 23)...),
		named("b", "a"), named("a", "a"), named("ab", "a"), named("a0", "a."), named("a", "b", "a"), named("9", "10"),
		append(named("b"), named("a")...), append(named("b"), named("b")...), append(named("a", "c"), named("b", "d")...),
		append(named("a", "b"), append(named("c"), named("b", "d")...)...),
	}
	p := of(2, 9, 3)
	for i, page := range p {
		for k, entry := range page {
			for _, name := range badNames {
				all = append(all, with(p, i, k, api.Entry{Name: name, Node: 2}), with(p, i, k, api.Entry{Name: name}))
			}
			for _, node := range badNodes {
				all = append(all, with(p, i, k, api.Entry{Name: entry.Name, Node: node}))
			}
			for j, other := range index.All(p) {
				if other != entry {
					all = append(all, with(p, i, k, other), with(p, i, k, api.Entry{Name: nameOf(j), Node: 99}))
				}
			}
		}
	}
	return all
}

// correct returns valid pages.
func correct() [][][]api.Entry {
	return [][][]api.Entry{
		nil, {}, of(1), of(9), of(1, 1), of(9, 9), of(1, 9, 1), of(9, 1, 9), of(2, 9, 3), of(1, 2, 3, 4, 5, 6, 7, 8, 9),
		nines(159), nines(160), of(slices.Repeat([]int{1}, 160)...), of(slices.Repeat([]int{8}, 20)...), of(slices.Repeat([]int{2}, 80)...),
		named("a"), named("-", ".-", "...", "0", "9", "_", "a", "z"), named("10", "9", "a", "a-", "a.", "a0", "a_", "aa", "b"),
		named("abcdefghij", "abcdefghijk", "zzzzzzzzzzz"), append(named("a", "ab"), named("b")...),
		{{{Name: "a", Node: 65535}, {Name: "b", Node: 1}, {Name: "c", Node: 65535}}},
	}
}

func TestRight(t *testing.T) {
	for _, p := range correct() {
		wantRight(t, p, true)
	}
	for _, p := range wrong() {
		wantRight(t, p, false)
	}
	for a := range 12 {
		wantRight(t, of(a), a >= 1 && a <= 9)
		for b := range 12 {
			wantRight(t, of(a, b), a >= 1 && a <= 9 && b >= 1 && b <= 9)
		}
	}
	for n := range 200 {
		wantRight(t, nines(n), n <= 160)
	}
}

// Names are in the order of their bytes, within a page and across pages.
func TestRightOfEveryPairOfNames(t *testing.T) {
	var names []string
	for _, a := range ".-_09az" {
		for _, b := range ".-_09az" {
			names = append(names, "x"+string(a), "x"+string(a)+string(b), string(a)+string(b)+"x")
		}
	}
	for _, a := range names {
		for _, b := range names {
			wantRight(t, named(a, b), a < b)
			wantRight(t, append(named(a), named(b)...), a < b)
		}
	}
}

func TestFind(t *testing.T) {
	for _, p := range correct() {
		for i, page := range p {
			for k, entry := range page {
				wantFind(t, p, entry.Name, entry.Node, true)
				wantFind(t, p[:i], entry.Name, 0, false)
				wantFind(t, p[i+1:], entry.Name, 0, false)
				if k > 0 {
					wantFind(t, append(clone(p[:i]), page[:k]), entry.Name, 0, false)
				}
			}
		}
		for _, name := range append(badNames, "abc", "n", "n-", "n000-", "n0000", "n008-", "n159-", "n160", "m", "zzzzzzzzzz", "aaaaaaaaaaa") {
			wantFind(t, p, name, 0, false)
		}
	}
}

// No entry is found in pages that are not valid, wherever the fault is.
func TestFindInPagesThatAreNotValid(t *testing.T) {
	for _, p := range wrong() {
		for _, entry := range slices.Concat(p...) {
			wantFind(t, p, entry.Name, 0, false)
		}
		wantFind(t, p, "n000", 0, false)
		wantFind(t, p, "", 0, false)
	}
}

// added returns what Add should, for a name that is not in p.
func added(p [][]api.Entry, entry api.Entry) [][]api.Entry {
	if len(p) == 0 {
		return [][]api.Entry{{entry}}
	}
	p = clone(p)
	i := 0
	for j, page := range p {
		if page[0].Name <= entry.Name {
			i = j
		}
	}
	p[i] = append(p[i], entry)
	slices.SortFunc(p[i], func(a, b api.Entry) int { return strings.Compare(a.Name, b.Name) })
	if len(p[i]) < 10 {
		return p
	}
	var halves [][]api.Entry
	halves = append(halves, p[:i]...)
	halves = append(halves, slices.Clone(p[i][:5]), slices.Clone(p[i][5:]))
	return append(halves, p[i+1:]...)
}

// gaps returns names before, between and after n entries of many.
func gaps(n int) []string {
	names := []string{"-", "n", "n-"}
	for i := range n {
		names = append(names, nameOf(i)+"-", nameOf(i)+"0")
	}
	return append(names, "z")
}

func TestAdd(t *testing.T) {
	wantAdd(t, nil, "a", 1, [][]api.Entry{{{Name: "a", Node: 1}}})
	wantAdd(t, [][]api.Entry{}, "abcdefghijk", 65535, [][]api.Entry{{{Name: "abcdefghijk", Node: 65535}}})
	for n := 1; n <= 8; n++ {
		p := of(n)
		wantAdd(t, p, "a", 7, [][]api.Entry{append([]api.Entry{{Name: "a", Node: 7}}, p[0]...)})
		wantAdd(t, p, "z", 7, [][]api.Entry{append(slices.Clone(p[0]), api.Entry{Name: "z", Node: 7})})
	}
	// Numbers may be there twice.
	wantAdd(t, named("a"), "b", 10, [][]api.Entry{{{Name: "a", Node: 10}, {Name: "b", Node: 10}}})
	// A name between two pages goes to the first of them, even if that is full.
	wantAdd(t, of(2, 2), "n001-", 7, [][]api.Entry{append(many(2), api.Entry{Name: "n001-", Node: 7}), many(4)[2:]})
	last := append(many(9)[5:], api.Entry{Name: "n008-", Node: 7})
	wantAdd(t, of(9, 1), "n008-", 7, [][]api.Entry{many(5), last, many(10)[9:]})
	// A name before all goes to the first page, which is split if it is full.
	first := append([]api.Entry{{Name: "a", Node: 7}}, many(4)...)
	wantAdd(t, of(9), "a", 7, [][]api.Entry{first, many(9)[4:]})
	wantAdd(t, of(9, 9), "a", 7, [][]api.Entry{first, many(9)[4:], many(18)[9:]})
}

// Every name that is not there, in up to three pages of all sizes.
func TestAddToPagesOfEverySize(t *testing.T) {
	for a := 1; a <= 9; a++ {
		for b := range 10 {
			for c := range 10 {
				sizes := slices.DeleteFunc([]int{a, b, c}, func(n int) bool { return n == 0 })
				p := of(sizes...)
				for _, name := range gaps(a + b + c) {
					entry := api.Entry{Name: name, Node: 777}
					wantAdd(t, p, name, 777, added(p, entry))
				}
			}
		}
	}
}

func TestAddUpTo160Entries(t *testing.T) {
	for _, sizes := range [][]int{slices.Repeat([]int{1}, 159), append(slices.Repeat([]int{9}, 17), 6), append([]int{6}, slices.Repeat([]int{9}, 17)...)} {
		p := of(sizes...)
		for _, name := range gaps(159) {
			want := added(p, api.Entry{Name: name, Node: 9})
			wantAdd(t, p, name, 9, want)
			wantNoAdd(t, want, "n158-x", 9, api.ErrLarge)
			wantNoAdd(t, want, name, 9, api.ErrThere)
		}
	}
}

// Of several errors, the one that the chapter names first.
func TestAddNothing(t *testing.T) {
	p, full := of(4, 9, 2), nines(160)
	for _, w := range wrong() {
		wantNoAdd(t, w, "new", 2, api.ErrArg)
		wantNoAdd(t, w, "..", 2, api.ErrArg)
		wantNoAdd(t, w, "n001", 2, api.ErrArg)
		wantNoAdd(t, w, "a", 0, api.ErrArg)
	}
	for _, node := range badNodes {
		for _, name := range []string{"new", "n001", "", "..", "a"} {
			wantNoAdd(t, nil, name, node, api.ErrArg)
			wantNoAdd(t, p, name, node, api.ErrArg)
			wantNoAdd(t, full, name, node, api.ErrArg)
		}
	}
	for _, name := range badNames {
		wantNoAdd(t, nil, name, 2, api.ErrName)
		wantNoAdd(t, p, name, 2, api.ErrName)
		wantNoAdd(t, full, name, 2, api.ErrName)
	}
	for _, q := range [][][]api.Entry{p, full, of(1), of(9), of(slices.Repeat([]int{1}, 160)...)} {
		for _, entry := range slices.Concat(q...) {
			wantNoAdd(t, q, entry.Name, entry.Node, api.ErrThere)
			wantNoAdd(t, q, entry.Name, 65535, api.ErrThere)
		}
	}
	for _, name := range gaps(160) {
		wantNoAdd(t, full, name, 2, api.ErrLarge)
		wantNoAdd(t, of(slices.Repeat([]int{1}, 160)...), name, 2, api.ErrLarge)
	}
}

// dropped returns what Drop should, for entry k of page i.
func dropped(p [][]api.Entry, i, k int) [][]api.Entry {
	var result [][]api.Entry
	shorter := append(slices.Clone(p[i][:k]), p[i][k+1:]...)
	first, second := i, i // the pages that shorter takes the place of
	switch {
	case len(shorter) == 0:
		return append(append(result, clone(p[:i])...), clone(p[i+1:])...)
	case i+1 < len(p) && len(shorter)+len(p[i+1]) <= 6:
		shorter, second = append(shorter, p[i+1]...), i+1
	case i > 0 && len(p[i-1])+len(shorter) <= 6:
		shorter, first = append(slices.Clone(p[i-1]), shorter...), i-1
	}
	result = append(result, clone(p[:first])...)
	result = append(result, shorter)
	return append(result, clone(p[second+1:])...)
}

func wantDropOfAll(t *testing.T, p [][]api.Entry) {
	t.Helper()
	for i, page := range p {
		for k, entry := range page {
			wantDrop(t, p, entry.Name, dropped(p, i, k), entry.Node)
		}
	}
}

func TestDrop(t *testing.T) {
	l := many(20)
	wantDrop(t, of(1), "n000", nil, 1)
	wantDrop(t, of(3), "n001", [][]api.Entry{{l[0], l[2]}}, 2)
	// A page that is empty is removed, and nothing is merged.
	wantDrop(t, of(3, 1, 3), "n003", [][]api.Entry{l[:3], l[4:7]}, 4)
	wantDrop(t, of(1, 2, 3), "n000", [][]api.Entry{l[1:3], l[3:6]}, 1)
	wantDrop(t, of(2, 3, 1), "n005", [][]api.Entry{l[:2], l[2:5]}, 6)
	// It is merged with the next page.
	wantDrop(t, of(4, 3), "n000", [][]api.Entry{l[1:7]}, 1)
	wantDrop(t, of(1, 2, 1), "n001", [][]api.Entry{l[:1], l[2:4]}, 2)
	wantDrop(t, of(2, 5), "n001", [][]api.Entry{append(slices.Clone(l[:1]), l[2:7]...)}, 2)
	// It is merged with the previous page.
	wantDrop(t, of(3, 4), "n006", [][]api.Entry{l[:6]}, 7)
	wantDrop(t, of(3, 4, 4), "n006", [][]api.Entry{l[:6], l[7:11]}, 7)
	// It remains, with one entry too many in each direction.
	wantDrop(t, of(4, 4), "n000", [][]api.Entry{l[1:4], l[4:8]}, 1)
	wantDrop(t, of(4, 4, 4), "n007", [][]api.Entry{l[:4], l[4:7], l[8:12]}, 8)
	wantDrop(t, of(6, 2), "n007", [][]api.Entry{l[:6], l[6:7]}, 8)
	// Pages that are not concerned are not merged, and there is one merge only.
	wantDrop(t, of(1, 1, 1, 9), "n004", [][]api.Entry{l[:1], l[1:2], l[2:3], append(slices.Clone(l[3:4]), l[5:12]...)}, 5)
	wantDrop(t, of(1, 1, 2, 1, 1), "n002", [][]api.Entry{l[:1], l[1:2], l[3:5], l[5:6]}, 3)
	for _, p := range correct() {
		wantDropOfAll(t, p)
	}
}

// Every entry of up to four pages of all sizes.
func TestDropFromPagesOfEverySize(t *testing.T) {
	for a := 1; a <= 9; a++ {
		wantDropOfAll(t, of(a))
		for b := 1; b <= 9; b++ {
			wantDropOfAll(t, of(a, b))
			for c := 1; c <= 9; c++ {
				wantDropOfAll(t, of(a, b, c))
				wantDropOfAll(t, of(1, a, b, c))
				wantDropOfAll(t, of(a, b, c, 1))
			}
		}
	}
}

func TestDropNothing(t *testing.T) {
	for _, w := range wrong() {
		wantNoDrop(t, w, "n000", api.ErrArg)
		wantNoDrop(t, w, "a", api.ErrArg)
		wantNoDrop(t, w, "..", api.ErrArg)
		wantNoDrop(t, w, "", api.ErrArg)
	}
	for _, p := range [][][]api.Entry{nil, of(1), of(4, 9, 2), nines(20)} {
		for _, name := range append(gaps(20), badNames...) {
			wantNoDrop(t, p, name, api.ErrNone)
		}
		wantNoDrop(t, p, "n020", api.ErrNone)
	}
}

// All and Of take any pages, and any list.
func TestAllAndOf(t *testing.T) {
	for n := range 400 {
		wantOf(t, many(n), nines(n))
		wantAll(t, nines(n), many(n))
	}
	wantAll(t, of(3, 0, 12, 1, 0), many(16))
	wantAll(t, [][]api.Entry{nil, {}}, nil)
	for _, p := range append(correct(), wrong()...) {
		l := slices.Concat(p...)
		wantAll(t, p, l)
		var pages [][]api.Entry
		for at := 0; at < len(l); at += 9 {
			pages = append(pages, l[at:min(at+9, len(l))])
		}
		wantOf(t, l, pages)
	}
	odd := []api.Entry{{Name: "b", Node: -5}, {}, {Name: "b", Node: 70000}, {Name: "A", Node: math.MaxInt}, {Name: strings.Repeat("x", 300)}}
	wantOf(t, odd, [][]api.Entry{odd})
	wantAll(t, [][]api.Entry{odd, nil, odd}, append(slices.Clone(odd), odd...))
}

// blockOf returns the block of a page as the chapter says.
func blockOf(page []api.Entry) string {
	bytes := make([]byte, 128)
	bytes[0] = byte(len(page))
	for k, entry := range page {
		copy(bytes[1+13*k:], entry.Name)
		bytes[1+13*k+11], bytes[1+13*k+12] = byte(entry.Node%256), byte(entry.Node/256)
	}
	return string(bytes)
}

func blocksOf(p [][]api.Entry) []string {
	var blocks []string
	for _, page := range p {
		blocks = append(blocks, blockOf(page))
	}
	return blocks
}

func TestBlocks(t *testing.T) {
	wantBlocks(t, nil, nil)
	first := "\x02a" + strings.Repeat("\x00", 10) + "\x0a\x00abcdefghijk\x0b\x00" + strings.Repeat("\x00", 101)
	wantBlocks(t, named("a", "abcdefghijk"), []string{first})
	high := "\x01z" + strings.Repeat("\x00", 10) + "\xff\xff" + strings.Repeat("\x00", 114)
	wantBlocks(t, [][]api.Entry{named("a", "abcdefghijk")[0], {{Name: "z", Node: 65535}}}, []string{first, high})
	for _, p := range correct() {
		wantBlocks(t, p, blocksOf(p))
	}
	for n := range 161 {
		wantBlocks(t, nines(n), blocksOf(nines(n)))
	}
	for node := 1; node <= 65535; node += 97 {
		p := [][]api.Entry{{{Name: "a", Node: 1}, {Name: "b", Node: node}}}
		wantBlocks(t, p, blocksOf(p))
	}
}

func TestNoBlocks(t *testing.T) {
	for _, p := range wrong() {
		wantNoWrite(t, p)
	}
}

// decoded returns the entries that a block of this form has; ok is false if it
// is none of a valid page.
func decoded(block string) (page []api.Entry, ok bool) {
	n := int(block[0])
	if n < 1 || n > 9 {
		return nil, false
	}
	for k := range n {
		name := strings.TrimRight(block[1+13*k:12+13*k], "\x00")
		node := int(block[12+13*k]) + int(block[13+13*k])*256
		if name == "" || node == 0 || name == "." || name == ".." || strings.Trim(name, "abcdefghijklmnopqrstuvwxyz0123456789.-_") != "" {
			return nil, false
		}
		for i := range len(name) {
			if !strings.Contains("abcdefghijklmnopqrstuvwxyz0123456789.-_", name[i:i+1]) {
				return nil, false
			}
		}
		page = append(page, api.Entry{Name: name, Node: node})
	}
	return page, strings.Trim(block[1+13*n:], "\x00") == ""
}

// ascending tells whether the names of p are in ascending order.
func ascending(p [][]api.Entry) bool {
	l := slices.Concat(p...)
	for i := 1; i < len(l); i++ {
		if l[i-1].Name >= l[i].Name {
			return false
		}
	}
	return true
}

// TestReadEveryByte changes each byte of the blocks of three pages to each
// value: what Read returns then has exactly these blocks, or is nothing.
func TestReadEveryByte(t *testing.T) {
	p := append(named("a", "abcdefghijk", "b-"), append(named("c", "d", "e", "f", "g", "h", "i", "j", "k.k"), named("m")...)...)
	blocks := blocksOf(p)
	valid := 0
	for i := range blocks {
		for at := range 128 {
			for value := range 256 {
				changed := slices.Clone(blocks)
				bytes := []byte(changed[i])
				bytes[at] = byte(value)
				changed[i] = string(bytes)
				page, ok := decoded(changed[i])
				expected := clone(p)
				expected[i] = page
				if ok && ascending(expected) {
					valid++
					wantBlocks(t, expected, changed)
				} else {
					wantNoRead(t, changed...)
				}
			}
		}
	}
	if valid < 3000 {
		t.Errorf("only %d blocks were valid", valid)
	}
}

func TestReadNothing(t *testing.T) {
	a, b := blocksOf(named("a", "b"))[0], blocksOf(named("c"))[0]
	long := blocksOf(of(9))[0]
	for n := range 300 {
		if n != 128 {
			for _, block := range []string{a, long} {
				short := (block + strings.Repeat("\x00", 300))[:n]
				wantNoRead(t, short)
				wantNoRead(t, short, b)
				wantNoRead(t, b, short)
			}
			wantNoRead(t, (a + b + b)[:n])
			wantNoRead(t, strings.Repeat("\x00", n))
		}
		if n > 9 && n < 256 {
			// Bytes that say that there are more entries than a page has.
			wantNoRead(t, string([]byte{byte(n)})+long[1:])
			wantNoRead(t, string([]byte{byte(n)})+strings.Repeat("\x00", 127))
			wantNoRead(t, string([]byte{byte(n)})+strings.Repeat("a", 127))
		}
	}
	wantNoRead(t, blockOf(nil))
	wantNoRead(t, a, blockOf(nil), b)
	wantNoRead(t, a, blockOf(nil))
	wantNoRead(t, b, a)
	wantNoRead(t, a, a)
	wantNoRead(t, a, b, a)
	for n := 161; n < 200; n++ {
		wantNoRead(t, blocksOf(nines(n))...)
	}
	wantNoRead(t, blocksOf(of(slices.Repeat([]int{1}, 161)...))...)
	for _, name := range badNames {
		if len(name) <= 11 && !strings.HasSuffix(name, "\x00") {
			wantNoRead(t, blocksOf(named(name))...)
		}
	}
	// Bytes that are not zero, after the end of a name and after the entries.
	wantNoRead(t, a[:3]+"x"+a[4:])
	wantNoRead(t, a[:27]+"x"+a[28:])
	wantNoRead(t, a[:127]+"\x01")
	wantNoRead(t, long[:118]+"\x01"+long[119:])
}

// TestRandom holds long sequences of Add and Drop against pages that are made
// another way, and against a map.
func TestRandom(t *testing.T) {
	r := rand.New(rand.NewSource(8))
	most := 0
	for range 12 {
		var p [][]api.Entry
		nodes := map[string]int{}
		growth := 1 + r.Intn(9)
		for step := range 600 {
			name, node := nameOf(r.Intn(200)), 1+r.Intn(65535)
			if r.Intn(10) < growth {
				p = addBoth(t, p, nodes, name, node)
			} else {
				p = dropBoth(t, p, nodes, name)
			}
			node, found := nodes[name]
			wantFind(t, p, name, node, found)
			if step%10 == 0 {
				findAll(t, p, nodes)
			}
			checkBoth(t, p, nodes)
			most = max(most, len(nodes))
		}
	}
	if most != 160 {
		t.Errorf("only %d entries at once", most)
	}
}

func addBoth(t *testing.T, p [][]api.Entry, nodes map[string]int, name string, node int) [][]api.Entry {
	t.Helper()
	_, there := nodes[name]
	switch {
	case there:
		wantNoAdd(t, p, name, node, api.ErrThere)
		return p
	case len(nodes) == 160:
		wantNoAdd(t, p, name, node, api.ErrLarge)
		return p
	}
	wantAdd(t, p, name, node, added(p, api.Entry{Name: name, Node: node}))
	nodes[name] = node
	got, _ := index.Add(p, name, node)
	return got
}

func dropBoth(t *testing.T, p [][]api.Entry, nodes map[string]int, name string) [][]api.Entry {
	t.Helper()
	for i, page := range p {
		for k, entry := range page {
			if entry.Name == name {
				wantDrop(t, p, name, dropped(p, i, k), nodes[name])
				delete(nodes, name)
				got, _, _ := index.Drop(p, name)
				return got
			}
		}
	}
	wantNoDrop(t, p, name, api.ErrNone)
	return p
}

func checkBoth(t *testing.T, p [][]api.Entry, nodes map[string]int) {
	t.Helper()
	wantRight(t, p, true)
	count := 0
	for _, page := range p {
		if len(page) < 1 || len(page) > 9 {
			t.Fatalf("a page of %d entries", len(page))
		}
		count += len(page)
	}
	if count != len(nodes) || !ascending(p) {
		t.Fatalf("%v, not %v", p, nodes)
	}
	wantBlocks(t, p, blocksOf(p))
}

func findAll(t *testing.T, p [][]api.Entry, nodes map[string]int) {
	t.Helper()
	for i := range 200 {
		node, found := nodes[nameOf(i)]
		wantFind(t, p, nameOf(i), node, found)
	}
}

// TestArgumentsRemain: no call changes the pages that it is given, or the memory
// beyond their length.
func TestArgumentsRemain(t *testing.T) {
	for _, sizes := range [][]int{{1}, {9}, {4, 3}, {3, 4, 2}, {9, 9, 9}, {2, 1, 5}} {
		spare := append(of(sizes...), many(3), many(4))
		for i, page := range spare {
			spare[i] = append(page, many(40)[20:]...)[:len(page)]
		}
		var before [][]api.Entry
		for _, page := range spare {
			before = append(before, slices.Clone(page[:cap(page)]))
		}
		p := spare[:len(sizes)]
		index.Right(p)
		index.Write(p)
		index.Of(index.All(p))
		for _, name := range append(gaps(27), "n000") {
			index.Find(p, name)
			index.Add(p, name, 5)
			index.Of(p[0])
		}
		for _, entry := range slices.Concat(p...) {
			index.Drop(p, entry.Name)
		}
		for i, page := range spare {
			if !slices.Equal(page[:cap(page)], before[i]) {
				t.Errorf("%v: page %d is %v", sizes, i, page[:cap(page)])
			}
		}
	}
	blocks := blocksOf(of(3, 4))
	before := slices.Clone(blocks)
	index.Read(blocks)
	if !slices.Equal(blocks, before) {
		t.Error(blocks)
	}
}

// within tells whether a text shares memory with another.
func within(inner, outer string) bool {
	if inner == "" || outer == "" {
		return false
	}
	a, b := uintptr(unsafe.Pointer(unsafe.StringData(inner))), uintptr(unsafe.Pointer(unsafe.StringData(outer)))
	return a >= b && a < b+uintptr(len(outer))
}

// wantOwn tells that result shares no memory with these texts.
func wantOwn(t *testing.T, result []api.Entry, given ...string) {
	t.Helper()
	for _, entry := range result {
		for _, text := range given {
			if within(entry.Name, text) {
				t.Errorf("%q shares memory", entry.Name)
			}
		}
	}
}

// wantApart tells that no page shares memory with another: each is filled up,
// and overwritten, and the others remain.
func wantApart(t *testing.T, p [][]api.Entry) {
	t.Helper()
	for i := range p {
		before := clone(p)
		whole := p[i][:cap(p[i])]
		for k := range whole {
			whole[k] = api.Entry{Name: "changed", Node: 1}
		}
		for j := range p {
			if j != i && !slices.Equal(p[j], before[j]) {
				t.Errorf("page %d shares memory with page %d", j, i)
			}
		}
		copy(p[i], before[i])
	}
}

// TestResultsAreNew: results share no memory with the arguments, and the pages of
// a result none with each other.
func TestResultsAreNew(t *testing.T) {
	for _, sizes := range [][]int{{9}, {9, 9}, {4, 3}, {3, 4, 2}, {1, 4, 9}, {5, 5, 5}} {
		p := of(sizes...)
		given := []string{strings.Clone("n002-")}
		for _, entry := range slices.Concat(p...) {
			given = append(given, entry.Name)
		}
		added, _ := index.Add(p, given[0], 5)
		lowest, _ := index.Add(p, "a", 5)
		first, _, _ := index.Drop(p, "n000")
		fourth, _, _ := index.Drop(p, "n004")
		all := index.All(p)
		pages := index.Of(slices.Concat(p...))
		for _, result := range [][][]api.Entry{added, lowest, first, fourth, {all}, pages} {
			for _, page := range result {
				wantOwn(t, page, given...)
			}
			wantApart(t, result)
			for _, page := range result {
				clear(page[:cap(page)])
			}
			if !equal(p, of(sizes...)) {
				t.Fatalf("%v became %v", sizes, p)
			}
		}
		blocks := blocksOf(p)
		read, _ := index.Read(blocks)
		wantOwn(t, slices.Concat(read...), blocks...)
		wantApart(t, read)
	}
}

// Pages of other forms, and many of them, do not stop any function.
func TestManyPages(t *testing.T) {
	l := many(1000)
	p := slices.Repeat([][]api.Entry{l}, 1000)
	wantRight(t, p, false)
	wantFind(t, p, "n000", 0, false)
	wantNoAdd(t, p, "a", 1, api.ErrArg)
	wantNoDrop(t, p, "n000", api.ErrArg)
	wantNoWrite(t, p)
	wantNoWrite(t, make([][]api.Entry, 1000000))
	if n := len(index.All(p)); n != 1000000 {
		t.Error(n)
	}
	if n := len(index.Of(slices.Repeat(l, 1000))); n != 111112 {
		t.Error(n)
	}
	wantNoRead(t, make([]string, 1000000)...)
	wantNoRead(t, slices.Repeat([]string{blockOf(many(9))}, 100000)...)
}

func TestExampleOfTheChapter(t *testing.T) {
	var p [][]api.Entry
	for _, entry := range many(10) {
		p, _ = index.Add(p, entry.Name, entry.Node)
	}
	if !equal(p, of(5, 5)) {
		t.Error(p)
	}
}
