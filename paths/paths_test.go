package paths_test

import (
	"math/rand"
	"regexp"
	"slices"
	"strings"
	"testing"
	"unsafe"

	"wainwright/api"
	"wainwright/paths"
)

// letters are all bytes that a valid name may have.
const letters = "abcdefghijklmnopqrstuvwxyz0123456789.-_"

// bad are names that are not valid.
var bad = []string{
	"", ".", "..",
	"abcdefghijkl", "............", "abcdefghijklm", strings.Repeat("a", 255), strings.Repeat("a", 267), strings.Repeat("a", 70000),
	"A", "Z", "aB", "README", " ", "a ", " a", "a b", "\t", "a\n", "\x00", "a\x00", "\x00a", "a\x00b",
	"/", "a/", "/a", "a/b", "//", "./a", "\\", "a\\b", "*", "?", "[a]", "a:b", "a,b", "a;b", "a+b", "a=b", "~", "a@b", "'", "\"", "`", "{", "a|b", "\x7f",
	// Letters and digits that are not a to z or 0 to 9, also some whose lowest
	// byte is one of these.
	"é", "ä", "aé", "éa", "ß", "š", "ı", "ſ", "K", "ａ", "٣", "０", "š1", "…", "․", "‐", "＿", "\u0130", "\u012e", "\u022d", "\u015f", "\U00010061",
	// Bytes that are not valid UTF-8, and the rune that stands for them.
	"\x80", "\xff", "a\xff", "\xffa", "\xc3", "a\xc3", "\xe1", "\xed\xa0\x80", "\xc0\xaf", "\xe1\xe2", "\uFFFD",
}

// good are names that are valid.
var good = []string{
	"a", "z", "m", "0", "9", "5", "-", "_", "--", "__", "-_", "...", "....", "...........", ".a", "a.", "..a", "a..", ".-", "-.", "._", "0.", ".0",
	"b.c", "a.b.c", "x-y_z.0", "abcdefghijk", "lmnopqrstuv", "wxyz0123456", "789.-_", "-rf", "00000000000",
}

// texts returns all texts of up to n of the bytes of a choice.
func texts(choice string, n int) []string {
	all := []string{""}
	last := all
	for range n {
		var longer []string
		for _, s := range last {
			for i := range len(choice) {
				longer = append(longer, s+choice[i:i+1])
			}
		}
		all = append(all, longer...)
		last = longer
	}
	return all
}

var (
	nameForm = regexp.MustCompile(`\A[a-z0-9._-]{1,11}\z`)
	pathForm = regexp.MustCompile(`\A(/|(/[a-z0-9._-]{1,11})+)\z`)
	dotsForm = regexp.MustCompile(`/\.\.?(/|\z)`)
)

// validName and validPath tell what is valid by the sentences of the chapter.
func validName(s string) bool {
	return nameForm.MatchString(s) && s != "." && s != ".."
}

func validPath(s string) bool {
	return len(s) <= 255 && pathForm.MatchString(s) && !dotsForm.MatchString(s)
}

// namesOf returns the names of a valid path.
func namesOf(path string) []string {
	return strings.FieldsFunc(path, func(r rune) bool { return r == '/' })
}

// ofLength returns a valid path of n bytes, at least 2.
func ofLength(n int) string {
	path := strings.Repeat("/abcdefghijk", n/12)
	switch n % 12 {
	case 0:
	case 1:
		// One name is shorter, so that another of one byte has its place.
		path = "/" + path[2:] + "/x"
	default:
		path += "/" + strings.Repeat("y", n%12-1)
	}
	return path
}

// randomPath returns a path of up to 25 names, not always a valid one.
func randomPath(r *rand.Rand) string {
	var path strings.Builder
	for range r.Intn(26) {
		path.WriteByte('/')
		for range 1 + r.Intn(11) {
			path.WriteByte(letters[r.Intn(len(letters))])
		}
	}
	if path.Len() == 0 {
		return "/"
	}
	s := path.String()
	if r.Intn(5) == 0 {
		i := r.Intn(len(s))
		s = s[:i] + string([]byte{byte(r.Intn(256))}) + s[i+1:]
	}
	return s
}

// samples returns short texts of every form, and random paths of all lengths.
func samples() []string {
	all := texts("/a.A\x00", 6)
	r := rand.New(rand.NewSource(6))
	for range 5000 {
		all = append(all, randomPath(r))
	}
	for n := 2; n < 300; n++ {
		all = append(all, ofLength(n))
	}
	return all
}

func wantRight(t *testing.T, name string, want bool) {
	t.Helper()
	if got := paths.Right(name); got != want {
		t.Errorf("Right(%q): %t", name[:min(len(name), 300)], got)
	}
}

func wantSplit(t *testing.T, path string, want ...string) {
	t.Helper()
	if got, err := paths.Split(path); err != api.OK || !slices.Equal(got, want) {
		t.Errorf("Split(%q): %q %d, not %q", path, got, err, want)
	}
}

func wantNoSplit(t *testing.T, path string) {
	t.Helper()
	if got, err := paths.Split(path); err != api.ErrName || len(got) != 0 {
		t.Errorf("Split(%q): %q %d, not ErrName", path[:min(len(path), 300)], got, err)
	}
}

func wantJoin(t *testing.T, l []string, want string) {
	t.Helper()
	if got, err := paths.Join(l); err != api.OK || got != want {
		t.Errorf("Join(%q): %q %d, not %q", l, got, err, want)
	}
}

func wantNoJoin(t *testing.T, l []string) {
	t.Helper()
	if got, err := paths.Join(l); err != api.ErrName || got != "" {
		t.Errorf("Join(%q), %d names: %q %d, not ErrName", l[:min(len(l), 30)], len(l), got, err)
	}
}

func wantParent(t *testing.T, path, parent, name string) {
	t.Helper()
	if p, n, err := paths.Parent(path); p != parent || n != name || err != api.OK {
		t.Errorf("Parent(%q): %q %q %d, not %q %q", path, p, n, err, parent, name)
	}
}

func wantNoParent(t *testing.T, path string, want api.Errno) {
	t.Helper()
	if p, n, err := paths.Parent(path); p != "" || n != "" || err != want {
		t.Errorf("Parent(%q): %q %q %d, not %d", path[:min(len(path), 300)], p, n, err, want)
	}
}

func wantUnder(t *testing.T, a, b string, want bool) {
	t.Helper()
	if got := paths.Under(a, b); got != want {
		t.Errorf("Under(%q, %q): %t", a, b, got)
	}
}

func wantCompare(t *testing.T, a, b string, want int) {
	t.Helper()
	if got := paths.Compare(a, b); got != want {
		t.Errorf("Compare(%q, %q): %d, not %d", a, b, got, want)
	}
	if got := paths.Compare(b, a); got != -want {
		t.Errorf("Compare(%q, %q): %d, not %d", b, a, got, -want)
	}
}

func TestRight(t *testing.T) {
	for _, name := range good {
		wantRight(t, name, true)
	}
	for _, name := range bad {
		wantRight(t, name, false)
	}
}

// Every byte at every place of a name of every length.
func TestRightOfEveryByte(t *testing.T) {
	for length := 1; length <= 13; length++ {
		for at := range length {
			for b := range 256 {
				name := []byte(strings.Repeat("a", length))
				name[at] = byte(b)
				allowed := strings.IndexByte(letters, byte(b)) >= 0
				dot := length == 1 && b == '.'
				wantRight(t, string(name), allowed && !dot && length <= 11)
			}
		}
	}
}

func TestRightOfAllShortNames(t *testing.T) {
	all := make([]byte, 256)
	for b := range all {
		all[b] = byte(b)
	}
	for _, name := range append(texts(string(all), 2), texts(".-aA/", 5)...) {
		wantRight(t, name, validName(name))
	}
}

// No rune beyond one byte is in a name, whatever its lowest bytes are.
func TestRightOfEveryRune(t *testing.T) {
	for r := rune(0x80); r <= 0x10FFFF; r++ {
		if name := string(r); paths.Right(name) || paths.Right("a"+name) {
			t.Fatalf("Right(%q): true", name)
		}
	}
}

// The limit is one of bytes.
func TestRightCountsBytes(t *testing.T) {
	for n := range 40 {
		wantRight(t, strings.Repeat("a", n), n >= 1 && n <= 11)
		wantRight(t, strings.Repeat(".", n), n >= 3 && n <= 11)
	}
}

func TestSplit(t *testing.T) {
	wantSplit(t, "/")
	wantSplit(t, "/a", "a")
	wantSplit(t, "/a/b", "a", "b")
	wantSplit(t, "/b/a", "b", "a")
	wantSplit(t, "/a/a/a", "a", "a", "a")
	wantSplit(t, "/abc/d.e/-_0", "abc", "d.e", "-_0")
	wantSplit(t, "/abcdefghijk/lmnopqrstuv", "abcdefghijk", "lmnopqrstuv")
	wantSplit(t, "/.../..a/a../.a", "...", "..a", "a..", ".a")
	wantSplit(t, strings.Repeat("/x", 127), slices.Repeat([]string{"x"}, 127)...)
	for _, name := range good {
		wantSplit(t, "/"+name, name)
		wantSplit(t, "/x/"+name, "x", name)
		wantSplit(t, "/"+name+"/x", name, "x")
	}
}

func TestSplitOfPathsThatAreNotValid(t *testing.T) {
	for _, path := range []string{
		"", "a", "a/", "a/b", "//", "///", "//a", "/a/", "/a//", "/a//b", "/a/b/", " /", "/ ", " /a", "/a ", "\x00", "/\x00", "/a\x00",
		"/.", "/..", "/./a", "/../a", "/a/.", "/a/..", "/a/./b", "/a/../b", ".", "..", "./a", "../a", "\\a", "/a\\b", "/A", "/a/B", "\xff", "/\xff", "/é", "∕a", "／",
	} {
		wantNoSplit(t, path)
	}
	for _, name := range bad {
		if strings.Contains(name, "/") {
			continue
		}
		wantNoSplit(t, "/"+name+"/")
		wantNoSplit(t, "/x/"+name)
		wantNoSplit(t, "/"+name+"/x")
		wantNoSplit(t, "/x/"+name+"/x")
		if name != "" {
			wantNoSplit(t, "/"+name)
		}
	}
}

func TestSplitOfAllSamples(t *testing.T) {
	for _, path := range samples() {
		if validPath(path) {
			wantSplit(t, path, namesOf(path)...)
		} else {
			wantNoSplit(t, path)
		}
	}
}

func TestPathsOfAllLengths(t *testing.T) {
	for n := 2; n < 600; n++ {
		path := ofLength(n)
		if len(path) != n || !pathForm.MatchString(path) {
			t.Fatalf("%q is no path of %d bytes", path, n)
		}
		names := namesOf(path)
		if n <= 255 {
			wantSplit(t, path, names...)
			wantJoin(t, names, path)
			wantParent(t, path, "/"+strings.Join(names[:len(names)-1], "/"), names[len(names)-1])
			wantUnder(t, path, path, true)
			wantUnder(t, "/", path, true)
			continue
		}
		wantNoSplit(t, path)
		wantNoJoin(t, names)
		wantNoParent(t, path, api.ErrName)
		wantUnder(t, path, path, false)
		wantUnder(t, "/", path, false)
		wantUnder(t, "/abcdefghijk", path, false)
		wantUnder(t, path, "/", false)
	}
	for _, n := range []int{1000, 65536, 1 << 20} {
		for _, path := range []string{strings.Repeat("/a", n), strings.Repeat("/", n), "/" + strings.Repeat("a", n), strings.Repeat("a/", n)} {
			wantNoSplit(t, path)
			wantNoParent(t, path, api.ErrName)
			wantUnder(t, "/", path, false)
			wantUnder(t, path, path, false)
		}
		wantNoJoin(t, slices.Repeat([]string{"a"}, n))
		wantNoJoin(t, make([]string, n))
	}
}

func TestJoin(t *testing.T) {
	wantJoin(t, nil, "/")
	wantJoin(t, []string{}, "/")
	wantJoin(t, []string{"a"}, "/a")
	wantJoin(t, []string{"a", "b"}, "/a/b")
	wantJoin(t, []string{"b", "a"}, "/b/a")
	wantJoin(t, []string{"a", "a"}, "/a/a")
	wantJoin(t, []string{"...", "b.c", "-_0"}, "/.../b.c/-_0")
	for _, name := range good {
		wantJoin(t, []string{name}, "/"+name)
		wantJoin(t, []string{"x", name, "y"}, "/x/"+name+"/y")
	}
}

func TestJoinOfNamesThatAreNotValid(t *testing.T) {
	for _, name := range bad {
		wantNoJoin(t, []string{name})
		wantNoJoin(t, []string{name, "x"})
		wantNoJoin(t, []string{"x", name})
		wantNoJoin(t, []string{"x", name, "y"})
		wantNoJoin(t, []string{name, name})
	}
}

// The longest paths of names of one length each, and those with one more byte.
func TestJoinEndsAt255Bytes(t *testing.T) {
	for length := 1; length <= 11; length++ {
		l := slices.Repeat([]string{strings.Repeat("n", length)}, 255/(length+1))
		path := strings.Repeat("/"+strings.Repeat("n", length), len(l))
		wantJoin(t, l, path)
		wantNoJoin(t, append(slices.Clone(l), strings.Repeat("n", length)))
		rest := 255 - len(path)
		if rest < 2 {
			continue
		}
		last := strings.Repeat("z", rest-1)
		wantJoin(t, append(slices.Clone(l), last), path+"/"+last)
		if rest < 12 {
			wantNoJoin(t, append(slices.Clone(l), last+"z"))
		}
	}
}

func TestParent(t *testing.T) {
	wantParent(t, "/x", "/", "x")
	wantParent(t, "/a/b", "/a", "b")
	wantParent(t, "/b/a", "/b", "a")
	wantParent(t, "/a/a/a", "/a/a", "a")
	wantParent(t, "/a/b/c/d.e", "/a/b/c", "d.e")
	wantParent(t, "/.../...", "/...", "...")
	wantParent(t, "/abcdefghijk/lmnopqrstuv", "/abcdefghijk", "lmnopqrstuv")
	wantNoParent(t, "/", api.ErrArg)
	for _, path := range []string{"", "a", "//", "/a/", "//a", "/a//b", "/.", "/..", "/a/.", "/a/..", "/./a", "/A", "/a/B", "/B/a", "/a\x00", "/\xff", "/a/abcdefghijkl"} {
		wantNoParent(t, path, api.ErrName)
	}
}

func TestParentOfAllSamples(t *testing.T) {
	for _, path := range samples() {
		switch {
		case !validPath(path):
			wantNoParent(t, path, api.ErrName)
		case path == "/":
			wantNoParent(t, path, api.ErrArg)
		default:
			at := strings.LastIndex(path, "/")
			wantParent(t, path, path[:max(at, 1)], path[at+1:])
		}
	}
}

func TestUnder(t *testing.T) {
	for _, x := range [][2]string{
		{"/", "/"}, {"/", "/a"}, {"/", "/a/b/c"}, {"/a", "/a"}, {"/a", "/a/b"}, {"/a", "/a/a"}, {"/a/b", "/a/b/c/d"}, {"/a/b/c", "/a/b/c"}, {"/...", "/.../a"},
	} {
		wantUnder(t, x[0], x[1], true)
	}
	for _, x := range [][2]string{
		{"/a", "/"}, {"/a", "/b"}, {"/a", "/ab"}, {"/ab", "/a"}, {"/a", "/a.b"}, {"/a", "/a-b/c"}, {"/a/b", "/a"}, {"/a/b", "/b/a"}, {"/b", "/a/b"},
		{"/a/b", "/a/c/b"}, {"/a/b", "/a/bc"}, {"/a/c", "/b/c"}, {"/b/c", "/a/c/d"},
		// One of them is not valid, or both.
		{"", ""}, {"", "/"}, {"", "/a"}, {"/", ""}, {"/", "x"}, {"a", "/a"}, {"/a", "a"}, {"a", "a"}, {"a", "a/b"}, {"/a/", "/a/b"}, {"/a/", "/a/"}, {"/a", "/a/"},
		{"/a", "/a//b"}, {"//", "/a"}, {"/", "//"}, {"/.", "/a"}, {"/.", "/."}, {"/..", "/../a"}, {"/a", "/a/."}, {"/a", "/a/../b"}, {"/", "/A"}, {"/A", "/A"}, {"/A", "/a"}, {"/a", "/A/b"}, {"/a", "/a/\xff"},
	} {
		wantUnder(t, x[0], x[1], false)
	}
}

func TestUnderOfAllPairs(t *testing.T) {
	all := append(texts("/a.", 5), "/a/a/a", "/a/b", "/b/a", "/ab/a", "/a/ab", "/aa/aa", "/.a/a", "/A/a", "/a/A", strings.Repeat("/a", 127), strings.Repeat("/a", 128))
	for _, a := range all {
		for _, b := range all {
			prefix := strings.HasPrefix(b+"/", a+"/") || a == "/"
			wantUnder(t, a, b, validPath(a) && validPath(b) && prefix)
		}
	}
}

func TestCompare(t *testing.T) {
	for _, x := range []struct {
		a, b string
		want int
	}{
		{"", "", 0}, {"a", "a", 0}, {"abc", "abc", 0}, {"\xff\x00", "\xff\x00", 0},
		{"", "a", -1}, {"", "\x00", -1}, {"a", "ab", -1}, {"a", "a\x00", -1}, {"ab", "b", -1}, {"abc", "abd", -1}, {"a", "z", -1}, {"az", "b", -1},
		{"-", ".", -1}, {".", "0", -1}, {"9", "_", -1}, {"_", "a", -1}, {"10", "9", -1}, {"Z", "a", -1}, {"a-b", "a.b", -1}, {"a.b", "a0", -1},
		{"/a", "/a/b", -1}, {"/a-b", "/a/b", -1}, {"/a/b", "/a0", -1},
		// Names or not, the order is that of the bytes.
		{"\x7f", "\x80", -1}, {"a", "é", -1}, {"\x80", "é", -1}, {"\uffff", "\U00010000", -1}, {"é", "\xff", -1}, {"\U0010FFFF", "\xff", -1}, {"\uFFFD", "\xff", -1}, {"\x80", "\uFFFD", -1}, {"\x80", "\x81", -1},
		{strings.Repeat("a", 70000), strings.Repeat("a", 70001), -1}, {strings.Repeat("a", 70000) + "a", strings.Repeat("a", 70000) + "b", -1},
	} {
		wantCompare(t, x.a, x.b, x.want)
	}
}

// byteOrder returns what Compare should, byte by byte.
func byteOrder(a, b string) int {
	for i := range min(len(a), len(b)) {
		if a[i] < b[i] {
			return -1
		}
		if a[i] > b[i] {
			return 1
		}
	}
	switch {
	case len(a) < len(b):
		return -1
	case len(a) > len(b):
		return 1
	}
	return 0
}

func TestCompareOfAllPairs(t *testing.T) {
	all := append(texts("\x00.a\x80\xff", 3), good...)
	all = append(all, bad...)
	for _, a := range all {
		for _, b := range all {
			wantCompare(t, a, b, byteOrder(a, b))
		}
	}
	for a := range 256 {
		for b := range 256 {
			x, y := string([]byte{byte(a)}), string([]byte{byte(b)})
			wantCompare(t, x, y, byteOrder(x, y))
		}
	}
}

func TestSplitAndJoinAreInverse(t *testing.T) {
	valid := 0
	for _, path := range samples() {
		l, err := paths.Split(path)
		if err != api.OK {
			continue
		}
		valid++
		wantJoin(t, l, path)
	}
	r := rand.New(rand.NewSource(62))
	for range 5000 {
		l := make([]string, r.Intn(24))
		for i := range l {
			l[i] = good[r.Intn(len(good))]
		}
		if path, err := paths.Join(l); err == api.OK {
			valid++
			wantSplit(t, path, l...)
		}
	}
	if valid < 5000 {
		t.Errorf("only %d paths were valid", valid)
	}
}

func TestPathsAreUnderTheirParents(t *testing.T) {
	for _, path := range samples() {
		parent, name, err := paths.Parent(path)
		if err != api.OK {
			continue
		}
		wantUnder(t, parent, path, true)
		wantUnder(t, path, parent, false)
		above, _ := paths.Split(parent)
		wantSplit(t, path, append(above, name)...)
		wantJoin(t, append(above, name), path)
	}
}

// inside reports whether part lies in the memory of whole.
func inside(part, whole string) bool {
	from := uintptr(unsafe.Pointer(unsafe.StringData(part)))
	start := uintptr(unsafe.Pointer(unsafe.StringData(whole)))
	return len(part) > 0 && from >= start && from < start+uintptr(len(whole))
}

func TestResultsShareNoMemory(t *testing.T) {
	path := strings.Clone("/abc/def/ghi")
	l, _ := paths.Split(path)
	again, _ := paths.Split(path)
	if len(l) != 3 || len(again) != 3 {
		t.Fatal(l, again)
	}
	joined, _ := paths.Join(l)
	single, _ := paths.Join(l[:1])
	parent, name, _ := paths.Parent(path)
	for _, s := range append([]string{joined, single, parent, name}, l...) {
		if inside(s, path) {
			t.Errorf("%q shares memory with the path", s)
		}
	}
	for _, s := range l {
		if inside(s, joined) || inside(s, single) {
			t.Errorf("a path shares memory with its name %q", s)
		}
	}
	clear(l[:cap(l)])
	wantSplit(t, path, again...)
	if !slices.Equal(again, []string{"abc", "def", "ghi"}) {
		t.Error("two lists share memory", again)
	}
}

func TestArgumentsAreNotModified(t *testing.T) {
	for _, l := range [][]string{{"a", "b", "c"}, {"a", "B", "c"}, slices.Repeat([]string{"a"}, 200)} {
		long := append(slices.Clone(l), "kept")
		paths.Join(long[:len(l)])
		if !slices.Equal(long, append(slices.Clone(l), "kept")) {
			t.Errorf("Join changed its argument: %q", long)
		}
	}
}

func TestExampleOfTheChapter(t *testing.T) {
	wantSplit(t, "/a/b.c", "a", "b.c")
	wantParent(t, "/a/b.c", "/a", "b.c")
}
