package mould_test

import (
	"math"
	"slices"
	"strings"
	"testing"

	"wainwright/api"
	"wainwright/mould"
)

// notWidths are numbers around and far from the widths that are allowed.
var notWidths = []int{math.MinInt, -4, -2, -1, 0, 3, 5, 6, 7, 8, 16, 256, math.MaxInt}

// edges are, for each width, its least and greatest values, and some that
// show in which order the bytes stand.
var edges = map[int][]int{
	1: {0, 1, 127, 128, 255},
	2: {0, 1, 255, 256, 258, 32768, 65535},
	4: {0, 1, 65535, 65536, 0x01020304, 1 << 31, 1<<32 - 1},
}

func zeros(n int) string { return strings.Repeat("\x00", n) }

// layouts returns all layouts of at most n fields.
func layouts(n int) [][]int {
	all := [][]int{nil}
	for from := 0; n > 0; n-- {
		to := len(all)
		for _, l := range all[from:to] {
			for _, width := range []int{1, 2, 4} {
				all = append(all, append(slices.Clone(l), width))
			}
		}
		from = to
	}
	return all
}

// records returns all choices of edge values for the fields of a layout.
func records(widths []int) [][]int {
	all := [][]int{{}}
	for _, width := range widths {
		var longer [][]int
		for _, l := range all {
			for _, v := range edges[width] {
				longer = append(longer, append(slices.Clone(l), v))
			}
		}
		all = longer
	}
	return all
}

func TestSize(t *testing.T) {
	for _, x := range []struct {
		widths []int
		size   int
	}{
		{nil, 0},
		{[]int{}, 0},
		{[]int{1}, 1},
		{[]int{2}, 2},
		{[]int{4}, 4},
		{[]int{1, 2}, 3},
		{[]int{4, 4, 2, 1, 1}, 12},
		{slices.Repeat([]int{4}, 5000), 20000},
	} {
		if size := mould.Size(x.widths); size != x.size {
			t.Errorf("Size(%v) = %d, not %d", x.widths, size, x.size)
		}
	}
}

func TestSizeOfAnInvalidLayout(t *testing.T) {
	for _, w := range notWidths {
		for _, widths := range [][]int{{w}, {w, 1}, {1, w}, {4, w, 2}, {w, w}} {
			if size := mould.Size(widths); size != -1 {
				t.Errorf("Size(%v) = %d", widths, size)
			}
		}
	}
	// The widths that are wrong add up to a size that would be right.
	if size := mould.Size([]int{3, -1}); size != -1 {
		t.Error(size)
	}
}

func TestWrite(t *testing.T) {
	for _, x := range []struct {
		widths, values []int
		record         string
	}{
		{nil, nil, ""},
		{[]int{}, nil, ""},
		{[]int{1, 2}, []int{5, 258}, "\x05\x02\x01"},
		{[]int{1}, []int{0}, "\x00"},
		{[]int{1}, []int{255}, "\xff"},
		{[]int{2}, []int{0}, "\x00\x00"},
		{[]int{2}, []int{65535}, "\xff\xff"},
		{[]int{2}, []int{256}, "\x00\x01"},
		{[]int{4}, []int{0}, "\x00\x00\x00\x00"},
		{[]int{4}, []int{1<<32 - 1}, "\xff\xff\xff\xff"},
		{[]int{4}, []int{0x01020304}, "\x04\x03\x02\x01"},
		{[]int{4}, []int{1 << 31}, "\x00\x00\x00\x80"},
		{[]int{2, 4, 1}, []int{1, 2, 3}, "\x01\x00\x02\x00\x00\x00\x03"},
	} {
		if record, err := mould.Write(x.widths, x.values); record != x.record || err != api.OK {
			t.Errorf("Write(%v, %v) = %q, %d", x.widths, x.values, record, err)
		}
	}
}

func TestWriteErrors(t *testing.T) {
	for _, x := range []struct {
		widths, values []int
		err            api.Errno
	}{
		// Fewer or more values than widths, also where a value is out of range.
		{nil, []int{0}, api.ErrArg},
		{[]int{1}, nil, api.ErrArg},
		{[]int{1, 2}, []int{1}, api.ErrArg},
		{[]int{1, 2}, []int{1, 2, 3}, api.ErrArg},
		{[]int{1, 2}, []int{256}, api.ErrArg},
		{[]int{1, 2}, []int{-1, 2, 3}, api.ErrArg},
		{[]int{1}, []int{1, -1}, api.ErrArg},
		// A value out of range, in any field.
		{[]int{1}, []int{-1}, api.ErrRange},
		{[]int{1}, []int{256}, api.ErrRange},
		{[]int{1}, []int{math.MinInt}, api.ErrRange},
		{[]int{1}, []int{math.MaxInt}, api.ErrRange},
		{[]int{2}, []int{-1}, api.ErrRange},
		{[]int{2}, []int{65536}, api.ErrRange},
		{[]int{2}, []int{math.MinInt}, api.ErrRange},
		{[]int{2}, []int{math.MaxInt}, api.ErrRange},
		{[]int{4}, []int{-1}, api.ErrRange},
		{[]int{4}, []int{1 << 32}, api.ErrRange},
		{[]int{4}, []int{math.MinInt}, api.ErrRange},
		{[]int{4}, []int{math.MaxInt}, api.ErrRange},
		{[]int{4, 1}, []int{0, 256}, api.ErrRange},
		{[]int{1, 4}, []int{256, 0}, api.ErrRange},
		{[]int{1, 2, 4}, []int{1, 65536, 1}, api.ErrRange},
		{[]int{1, 1}, []int{-1, 256}, api.ErrRange},
	} {
		if record, err := mould.Write(x.widths, x.values); record != "" || err != x.err {
			t.Errorf("Write(%v, %v) = %q, %d, not %d", x.widths, x.values, record, err, x.err)
		}
	}
}

func TestWriteOfAnInvalidLayout(t *testing.T) {
	for _, w := range notWidths {
		for _, v := range []int{math.MinInt, -1, 0, 1, 256, 1 << 32, math.MaxInt} {
			for _, x := range [][2][]int{
				{{w}, {v}},
				{{w, 1}, {0, v}},
				{{1, w}, {v, 0}},
				{{w, 1}, {v}},
				{{w}, nil},
			} {
				if record, err := mould.Write(x[0], x[1]); record != "" || err != api.ErrArg {
					t.Errorf("Write(%v, %v) = %q, %d", x[0], x[1], record, err)
				}
			}
		}
	}
}

func TestRead(t *testing.T) {
	for _, x := range []struct {
		widths []int
		s      string
		values []int
	}{
		{nil, "", nil},
		{nil, "abc", nil},
		{[]int{}, "\x00", nil},
		{[]int{1}, "\xff", []int{255}},
		{[]int{2}, "\xff\xff", []int{65535}},
		{[]int{4}, "\xff\xff\xff\xff", []int{1<<32 - 1}},
		{[]int{4}, "\x00\x00\x00\x80", []int{1 << 31}},
		{[]int{4}, "\x00\x00\x00\x00", []int{0}},
		{[]int{4}, "\x04\x03\x02\x01", []int{0x01020304}},
		{[]int{1, 2}, "\x05\x02\x01", []int{5, 258}},
		{[]int{1, 2}, "\x05\x02\x01\xff\xff", []int{5, 258}},
		{[]int{2, 1}, "\x05\x02\x01" + strings.Repeat("x", 300), []int{517, 1}},
	} {
		if values, err := mould.Read(x.widths, x.s); !slices.Equal(values, x.values) || err != api.OK {
			t.Errorf("Read(%v, %q) = %v, %d", x.widths, x.s, values, err)
		}
	}
}

func TestReadErrors(t *testing.T) {
	for _, w := range notWidths {
		for _, widths := range [][]int{{w}, {w, 1}, {1, w}, {4, w, 2}} {
			// ErrArg comes first, also where s is short in any case.
			for _, s := range []string{"", "\x01", strings.Repeat("\x01", 1000)} {
				if values, err := mould.Read(widths, s); len(values) != 0 || err != api.ErrArg {
					t.Errorf("Read(%v, %d bytes) = %v, %d", widths, len(s), values, err)
				}
			}
		}
	}
	for _, widths := range layouts(3) {
		size := mould.Size(widths)
		for n := range size {
			s := strings.Repeat("\x01", n)
			if values, err := mould.Read(widths, s); len(values) != 0 || err != api.ErrShort {
				t.Errorf("Read(%v, %q) = %v, %d", widths, s, values, err)
			}
		}
	}
}

func TestReadReturnsWhatWasWritten(t *testing.T) {
	for _, widths := range layouts(4) {
		for _, values := range records(widths) {
			record, err := mould.Write(widths, values)
			if err != api.OK || len(record) != mould.Size(widths) {
				t.Fatalf("Write(%v, %v) = %q, %d", widths, values, record, err)
			}
			for _, behind := range []string{"", "\x00", "\xff\xff"} {
				got, err := mould.Read(widths, record+behind)
				if err != api.OK || !slices.Equal(got, values) {
					t.Fatalf("Read(%v, %q) = %v, %d, not %v", widths, record+behind, got, err, values)
				}
			}
		}
	}
}

func TestEveryRecordIsWrittenAsItWasRead(t *testing.T) {
	for high := range 256 {
		for low := range 256 {
			s := string([]byte{byte(low), byte(high)})
			values, err := mould.Read([]int{2}, s)
			if err != api.OK || len(values) != 1 || values[0] != low+256*high {
				t.Fatalf("Read of %q: %v, %d", s, values, err)
			}
			if record, err := mould.Write([]int{2}, values); record != s || err != api.OK {
				t.Fatalf("Write of %v: %q, %d", values, record, err)
			}
		}
	}
}

func TestManyFields(t *testing.T) {
	widths := slices.Repeat([]int{1, 2, 4}, 2000)
	values := slices.Repeat([]int{200, 60000, 4000000000}, 2000)
	record, err := mould.Write(widths, values)
	if err != api.OK || len(record) != 14000 {
		t.Fatal(len(record), err)
	}
	if got, err := mould.Read(widths, record); err != api.OK || !slices.Equal(got, values) {
		t.Error("other values", err)
	}
}

func TestText(t *testing.T) {
	long := strings.Repeat("a", 1000)
	for _, x := range []struct {
		s    string
		n    int
		text string
		err  api.Errno
	}{
		{"", 0, "", api.OK},
		{"", 1, "\x00", api.OK},
		{"", 1000, zeros(1000), api.OK},
		{"ab", 2, "ab", api.OK},
		{"ab", 3, "ab\x00", api.OK},
		{"ab", 1000, "ab" + zeros(998), api.OK},
		{"\xff\xc3", 3, "\xff\xc3\x00", api.OK},
		{"ä", 2, "ä", api.OK},
		{"ä", 3, "ä\x00", api.OK},
		{long, 1000, long, api.OK},
		{long[:999], 1000, long[:999] + "\x00", api.OK},

		{"a", 0, "", api.ErrRange},
		{"abc", 2, "", api.ErrRange},
		{"ä", 1, "", api.ErrRange},
		{long + "a", 1000, "", api.ErrRange},
		{"\x00", 1, "", api.ErrRange},
		{"\x00", 0, "", api.ErrRange},
		{"\x00", 1000, "", api.ErrRange},
		{"\x00a", 4, "", api.ErrRange},
		{"a\x00", 4, "", api.ErrRange},
		{"a\x00b", 4, "", api.ErrRange},
		{"abc\x00", 4, "", api.ErrRange},

		{"", -1, "", api.ErrArg},
		{"", 1001, "", api.ErrArg},
		{"a", -1, "", api.ErrArg},
		{"a\x00", -1, "", api.ErrArg},
		{"a\x00", 1001, "", api.ErrArg},
		{long + "aa", 1001, "", api.ErrArg},
		{"a", math.MinInt, "", api.ErrArg},
		{"a", math.MaxInt, "", api.ErrArg},
	} {
		if text, err := mould.Text(x.s, x.n); text != x.text || err != x.err {
			t.Errorf("Text(%q, %d) = %q, %d", x.s, x.n, text, err)
		}
	}
}

func TestUntext(t *testing.T) {
	for _, x := range []struct {
		s, text string
		err     api.Errno
	}{
		{"", "", api.OK},
		{"\x00", "", api.OK},
		{"\x00\x00\x00", "", api.OK},
		{"a", "a", api.OK},
		{"abc", "abc", api.OK},
		{"abc\x00", "abc", api.OK},
		{"abc\x00\x00", "abc", api.OK},
		{"\xff\xfe\x00", "\xff\xfe", api.OK},
		{"ä\x00", "ä", api.OK},
		{strings.Repeat("a", 5000) + zeros(5000), strings.Repeat("a", 5000), api.OK},

		{"\x00a", "", api.ErrCorrupt},
		{"a\x00b", "", api.ErrCorrupt},
		{"a\x00b\x00", "", api.ErrCorrupt},
		{"a\x00\x00b", "", api.ErrCorrupt},
		{"a\x00\x00b\x00", "", api.ErrCorrupt},
		{"a\x00\x01", "", api.ErrCorrupt},
		{"a\x00\xff\x00", "", api.ErrCorrupt},
		{"a" + zeros(5000) + "b", "", api.ErrCorrupt},
	} {
		if text, err := mould.Untext(x.s); text != x.text || err != x.err {
			t.Errorf("Untext(%q) = %q, %d", x.s, text, err)
		}
	}
}

func TestUntextReturnsTheText(t *testing.T) {
	for _, s := range []string{"", "a", "abc", "\xff", "ä", strings.Repeat("z", 20)} {
		for n := len(s); n <= 1000; n++ {
			padded, err := mould.Text(s, n)
			if err != api.OK || len(padded) != n {
				t.Fatalf("Text(%q, %d) has %d bytes, error %d", s, n, len(padded), err)
			}
			if text, err := mould.Untext(padded); text != s || err != api.OK {
				t.Fatalf("Untext(Text(%q, %d)) = %q, %d", s, n, text, err)
			}
		}
	}
}

func TestPad(t *testing.T) {
	long := strings.Repeat("a\x00", 500)
	for _, x := range []struct {
		s      string
		n      int
		padded string
		err    api.Errno
	}{
		{"", 0, "", api.OK},
		{"", 3, "\x00\x00\x00", api.OK},
		{"", 1000, zeros(1000), api.OK},
		{"ab", 2, "ab", api.OK},
		{"ab", 5, "ab\x00\x00\x00", api.OK},
		{"\x00", 1, "\x00", api.OK},
		{"\x00a", 3, "\x00a\x00", api.OK},
		{"a\x00b", 4, "a\x00b\x00", api.OK},
		{"\xff", 2, "\xff\x00", api.OK},
		{long, 1000, long, api.OK},
		{"a", 1000, "a" + zeros(999), api.OK},

		{"a", 0, "", api.ErrRange},
		{"\x00", 0, "", api.ErrRange},
		{"abc", 2, "", api.ErrRange},
		{"ab\x00", 2, "", api.ErrRange},
		{"ä", 1, "", api.ErrRange},
		{long + "a", 1000, "", api.ErrRange},

		{"", -1, "", api.ErrArg},
		{"", 1001, "", api.ErrArg},
		{"a", -1, "", api.ErrArg},
		{long + "aa", 1001, "", api.ErrArg},
		{"a", math.MinInt, "", api.ErrArg},
		{"a", math.MaxInt, "", api.ErrArg},
	} {
		if padded, err := mould.Pad(x.s, x.n); padded != x.padded || err != x.err {
			t.Errorf("Pad(%q, %d) = %q, %d", x.s, x.n, padded, err)
		}
	}
}

// Rule R4: arguments stay as they are, and a list that is returned is new.
func TestMemory(t *testing.T) {
	widths, values := []int{1, 2, 4}, []int{7, 300, 70000}
	record, _ := mould.Write(widths, values)
	mould.Write(widths, []int{7, 300, -1})
	first, _ := mould.Read(widths, record)
	mould.Size(widths)
	if !slices.Equal(widths, []int{1, 2, 4}) || !slices.Equal(values, []int{7, 300, 70000}) {
		t.Fatal("an argument was changed", widths, values)
	}
	if len(first) != 3 {
		t.Fatal(first)
	}
	clear(first)
	second, err := mould.Read(widths, record)
	if err != api.OK || !slices.Equal(second, values) || !slices.Equal(widths, []int{1, 2, 4}) {
		t.Error("a result shares memory", second, widths)
	}
}
