package path

import (
	"math/rand"
	"slices"
	"strings"
	"sync"
	"testing"

	"padlock/api"
)

// long is a name that is too long, but for that valid.
const long = "abcdefghijklmno"

// goodPaths have names that are all valid.
var goodPaths = []struct {
	s     string
	names []string
}{
	{"/", nil},
	{"/a", []string{"a"}},
	{"/a/b", []string{"a", "b"}},
	{"/b/a", []string{"b", "a"}},
	{"/a/a/a", []string{"a", "a", "a"}},
	{"/abcdefghijklmn", []string{"abcdefghijklmn"}},
	{"/abcdefghijklmn/x/opqrstuvwxyz12", []string{"abcdefghijklmn", "x", "opqrstuvwxyz12"}},
	{"/...", []string{"..."}},
	{"/.a/a./..a/a../.../....", []string{".a", "a.", "..a", "a..", "...", "...."}},
	{"/ / /\n", []string{" ", " ", "\n"}},
	{"/\\/\\\\", []string{"\\", "\\\\"}},
	{"/\x01/\x7f/\x80/\xff\xfe", []string{"\x01", "\x7f", "\x80", "\xff\xfe"}},
	{"/é/日本語/\u2215/\xc0\xaf/\xe0", []string{"é", "日本語", "\u2215", "\xc0\xaf", "\xe0"}},
	{strings.Repeat("/a", 100), slices.Repeat([]string{"a"}, 100)},
	{strings.Repeat("/abc", 50), slices.Repeat([]string{"abc"}, 50)},
	{strings.Repeat("/abcdefghijklmn", 13) + "/abcd", append(slices.Repeat([]string{"abcdefghijklmn"}, 13), "abcd")},
}

// badPaths are refused by ErrArg.
var badPaths = []string{
	"", "a", "a/b", "a/", " /a", "\x00", "\x00/a", ".", "..", "./a", "../a", "\\a", "\u2215a", "\xff/a", long, "abcdefghijklmn",
	strings.Repeat("/a", 99) + "/", "//", "///", "/a/", "/a//", "//a", "/a//b", "/a/b/", "//a/b", "/ //", strings.Repeat("/", 199), strings.Repeat("/", 200),
	"/.", "/..", "/./", "/../", "/./a", "/../a", "/a/.", "/a/..", "/a/./b", "/a/../b", "/.../..", "/../...", "/./.",
	"/\x00", "/\x00/", "/a\x00", "/\x00a", "/a\x00b", "/a/\x00", "/a/b\x00", "/a\x00/b", "/.\x00", "/..\x00", "/\xff\x00",
	"/" + long + "\x00", "/\x00" + long, "/" + long + "/", "/" + long + "//", "//" + long, "/" + long + "/.", "/" + long + "/..",
	"/" + long + "/a\x00", "/./" + long, "/../" + long, "/\x00/" + long, "/a/" + long + "/", "/" + long + "/" + long + "/.",
	"/" + long + "/a/b/c/d/./" + long, long + "/a", long + "/",
}

// longParts are refused by ErrName, as nothing but the length of a name is wrong.
var longParts = []string{
	"/" + long, "/a/" + long, "/" + long + "/a", "/a/" + long + "/b", "/" + long + "/" + long, "/...............", "/               ",
	"/" + strings.Repeat("x", 16), "/" + strings.Repeat("x", 198), "/" + strings.Repeat("x", 199), "/日本語日本", "/éééééééé", "/" + strings.Repeat("\xff", 15),
	strings.Repeat("/a", 92) + "/" + long, "/" + long + strings.Repeat("/a", 92), strings.Repeat("/"+long, 12) + "/abcdefg",
}

// parsedByWords is what Parse returns, by the words of the chapter, byte by byte.
func parsedByWords(s string) ([]string, api.Errno) {
	if len(s) < 1 || len(s) > 200 || s[0] != '/' {
		return nil, 1
	}
	if len(s) == 1 {
		return nil, 0
	}
	var names []string
	for i := range len(s) {
		if s[i] == '/' {
			names = append(names, "")
		} else {
			names[len(names)-1] += s[i : i+1]
		}
	}
	for _, name := range names {
		if name == "" || name == "." || name == ".." || strings.IndexByte(name, 0) >= 0 {
			return nil, 1
		}
	}
	for _, name := range names {
		if len(name) > 14 {
			return nil, 8
		}
	}
	return names, 0
}

// joinedByWords is what Join returns, by the words of the chapter.
func joinedByWords(l []string) string {
	if len(l) == 0 {
		return "/"
	}
	s := ""
	for _, name := range l {
		s += "/" + name
	}
	return s
}

// insideByWords is what Inside returns, by the words of the chapter.
func insideByWords(a, b []string) bool {
	if len(a) <= len(b) {
		return false
	}
	for i := range b {
		if a[i] != b[i] {
			return false
		}
	}
	return true
}

// checkParse holds Parse against the words, and the path against what was joined if there is no error.
func checkParse(t *testing.T, s string) {
	t.Helper()
	names, err := Parse(s)
	want, wantErr := parsedByWords(s)
	if !slices.Equal(names, want) || err != wantErr {
		t.Errorf("Parse(%q): %q, %d; want %q, %d", s, names, err, want, wantErr)
	}
	if err != api.OK && len(names) > 0 {
		t.Errorf("Parse(%q): names with error %d", s, err)
	}
	if again := Join(names); err == api.OK && again != s {
		t.Errorf("Join of the names of %q: %q", s, again)
	}
}

// checkRefused looks whether this error, and no name, is returned.
func checkRefused(t *testing.T, s string, want api.Errno) {
	t.Helper()
	if names, err := Parse(s); err != want || len(names) > 0 {
		t.Errorf("Parse(%q): %q, %d; want no names, %d", s, names, err, want)
	}
}

// P16.1, the example.
func TestExample(t *testing.T) {
	if names, err := Parse("/a/b"); !slices.Equal(names, []string{"a", "b"}) || err != api.OK {
		t.Errorf("Parse: %q, %d", names, err)
	}
	checkRefused(t, "/a/", api.ErrArg)
}

// P16.1: the names, in order.
func TestParseGood(t *testing.T) {
	for _, c := range goodPaths {
		if names, err := Parse(c.s); !slices.Equal(names, c.names) || err != api.OK {
			t.Errorf("Parse(%q): %q, %d", c.s, names, err)
		}
		checkParse(t, c.s)
	}
}

// P16.1: what has nothing wrong but the length of a name gets ErrName, everything else ErrArg.
func TestParseBad(t *testing.T) {
	for _, s := range badPaths {
		checkRefused(t, s, api.ErrArg)
		checkParse(t, s)
	}
	for _, s := range longParts {
		checkRefused(t, s, api.ErrName)
		checkParse(t, s)
	}
}

// P16.1: the length of the whole path comes before that of a name.
func TestParseLength(t *testing.T) {
	for many := range 230 {
		checkParse(t, strings.Repeat("/abcdefghijklmn", 20)[:many])
		checkParse(t, strings.Repeat("/a", 200)[:many])
		checkParse(t, strings.Repeat("/", many))
		checkParse(t, strings.Repeat("a", many))
		checkParse(t, "/"+strings.Repeat("a", many))
		checkParse(t, "/a/"+strings.Repeat("é", many))
		checkParse(t, strings.Repeat("/"+long, 20)[:many])
	}
	for _, s := range []string{
		strings.Repeat("/a", 100) + "b", strings.Repeat("/ab", 67), "/" + strings.Repeat("x", 200), "/" + strings.Repeat("x", 1<<20),
		strings.Repeat("/a", 1<<17), strings.Repeat("/"+long, 13), strings.Repeat("/"+long, 5000), strings.Repeat("/", 1<<18), strings.Repeat("a", 1<<18),
	} {
		checkRefused(t, s, api.ErrArg)
	}
	if names, err := Parse(strings.Repeat("/a", 98) + "/bcd"); len(names) != 99 || err != api.OK {
		t.Errorf("200 bytes: %d names, %d", len(names), err)
	}
	checkRefused(t, strings.Repeat("/a", 98)+"/bcde", api.ErrArg)
	checkRefused(t, "/"+strings.Repeat("x", 199), api.ErrName)
}

// P16.1: all strings of up to seven bytes of a few kinds.
func TestParseAllShort(t *testing.T) {
	l := []string{""}
	for range 7 {
		var longer []string
		for _, s := range l {
			checkParse(t, s)
			for _, b := range []string{"/", "a", ".", "\x00"} {
				longer = append(longer, s+b)
			}
		}
		l = longer
	}
	for _, s := range l {
		checkParse(t, s)
	}
}

// P16.1: all strings of up to two bytes, and each byte at each place of a longer path.
func TestParseEachByte(t *testing.T) {
	for a := range 256 {
		checkParse(t, string([]byte{byte(a)}))
		for b := range 256 {
			checkParse(t, string([]byte{byte(a), byte(b)}))
		}
		for _, s := range []string{"/ab/./cd/", "/a/bc/def", "/abcdefghijklmn/abcdefghijklmn", "/" + long + "/" + long, "/abcdefghijklmn"} {
			for i := range len(s) {
				checkParse(t, s[:i]+string([]byte{byte(a)})+s[i+1:])
				checkParse(t, s[:i]+string([]byte{byte(a)})+s[i:])
			}
		}
	}
}

// P16.1: each two of these parts, one after the other, and each three.
func TestParseEachParts(t *testing.T) {
	parts := []string{"a", "abcdefghijklmn", long, "", ".", "..", "...", "\x00", long + "\x00", "é", "\xff", strings.Repeat("x", 190)}
	for _, one := range parts {
		checkParse(t, "/"+one)
		for _, two := range parts {
			checkParse(t, "/"+one+"/"+two)
			for _, three := range parts {
				checkParse(t, "/"+one+"/"+two+"/"+three)
				checkParse(t, one+"/"+two+"/"+three)
			}
		}
	}
}

// P16.1: strings by chance.
func TestParseAny(t *testing.T) {
	source := rand.New(rand.NewSource(1))
	for range 20000 {
		b := make([]byte, source.Intn(220))
		for i := range b {
			b[i] = "/////abcdefg.\x00\xff"[source.Intn(15-2*source.Intn(2))]
			if i > 0 && b[i-1] == '/' && source.Intn(20) > 0 {
				b[i] = 'n'
			}
		}
		checkParse(t, "/"+string(b))
		checkParse(t, string(b))
	}
}

// P16.1: Join, for any names, whether valid or not.
func TestJoin(t *testing.T) {
	for _, c := range []struct {
		l    []string
		want string
	}{
		{nil, "/"}, {[]string{}, "/"}, {[]string{"a"}, "/a"}, {[]string{"a", "b"}, "/a/b"}, {[]string{"b", "a", "b"}, "/b/a/b"},
		{[]string{""}, "/"}, {[]string{"", ""}, "//"}, {[]string{"", "a"}, "//a"}, {[]string{"a", ""}, "/a/"}, {[]string{"/"}, "//"},
		{[]string{"a/b", "/c"}, "/a/b//c"}, {[]string{".", ".."}, "/./.."}, {[]string{"\x00", "\xff"}, "/\x00/\xff"},
		{[]string{long, "日本語"}, "/" + long + "/日本語"}, {slices.Repeat([]string{"a"}, 101), strings.Repeat("/a", 101)},
		{[]string{strings.Repeat("x", 1<<20)}, "/" + strings.Repeat("x", 1<<20)}, {slices.Repeat([]string{long}, 70000), strings.Repeat("/"+long, 70000)},
	} {
		if s := Join(c.l); s != c.want {
			t.Errorf("Join(%d names): %d bytes; want %d", len(c.l), len(s), len(c.want))
		}
	}
	for _, l := range someLists() {
		if s, want := Join(l), joinedByWords(l); s != want {
			t.Errorf("Join(%q): %q; want %q", l, s, want)
		}
	}
}

// someLists are all lists of up to four of a few names.
func someLists() [][]string {
	all := [][]string{nil}
	last := all
	for range 4 {
		var longer [][]string
		for _, l := range last {
			for _, name := range []string{"a", "b", "ab", ""} {
				longer = append(longer, append(slices.Clone(l), name))
			}
		}
		all, last = append(all, longer...), longer
	}
	return all
}

// P16.2: written-out cases.
func TestInside(t *testing.T) {
	a, b, ab := []string{"a"}, []string{"b"}, []string{"a", "b"}
	for i, c := range []struct {
		a, b []string
		want bool
	}{
		{nil, nil, false}, {[]string{}, nil, false}, {nil, []string{}, false}, {[]string{}, []string{}, false},
		{a, nil, true}, {a, []string{}, true}, {ab, nil, true}, {[]string{""}, nil, true}, {nil, a, false}, {[]string{}, ab, false},
		{a, a, false}, {ab, ab, false}, {ab, a, true}, {a, ab, false}, {ab, b, false}, {b, a, false},
		{[]string{"ab"}, a, false}, {[]string{"ab", "c"}, a, false}, {[]string{"ab", "c"}, ab, false}, {[]string{"a", "c"}, []string{"ab"}, false},
		{[]string{"a/b"}, a, false}, {[]string{"a/b", "c"}, ab, false}, {[]string{"A", "b"}, a, false},
		{[]string{"a", "b", "c"}, ab, true}, {[]string{"a", "c", "b"}, ab, false}, {[]string{"c", "b", "d"}, ab, false},
		{[]string{"x", "a", "b"}, ab, false}, {[]string{"a", "a", "a"}, []string{"a", "a"}, true}, {[]string{"a", "", "b"}, []string{"a", ""}, true},
		{[]string{"a", "\xff"}, []string{"a"}, true}, {[]string{"\xff", "a"}, []string{"\xfe"}, false},
	} {
		if is := Inside(c.a, c.b); is != c.want {
			t.Errorf("case %d: Inside(%q, %q): %t", i, c.a, c.b, is)
		}
	}
}

// P16.2: all pairs of lists of up to four of a few names, and long ones that differ at any one place.
func TestInsideAll(t *testing.T) {
	all := someLists()
	for _, a := range all {
		for _, b := range all {
			if is, want := Inside(a, b), insideByWords(a, b); is != want {
				t.Errorf("Inside(%q, %q): %t", a, b, is)
			}
		}
	}
	short := slices.Repeat([]string{"a"}, 99)
	for i := range 100 {
		other := slices.Repeat([]string{"a"}, 100)
		other[i] = "b"
		if Inside(other, short) != (i == 99) {
			t.Errorf("differs at %d", i)
		}
	}
	many := slices.Repeat([]string{"a"}, 100000)
	if !Inside(many, many[:99999]) || Inside(many, many) || Inside(many[:99999], many) {
		t.Error("many names")
	}
}

// P16.2 and P16.1 together: a path is inside the paths that it begins with, followed by a slash, and inside the root.
func TestInsideOfPaths(t *testing.T) {
	paths := []string{"/", "/a", "/b", "/ab", "/a/b", "/a/bc", "/ab/c", "/a/b/c", "/a/a", "/a/a/a"}
	for _, a := range paths {
		for _, b := range paths {
			inner, err := Parse(a)
			outer, other := Parse(b)
			want := a != b && strings.HasPrefix(a, strings.TrimSuffix(b, "/")+"/")
			if err != api.OK || other != api.OK || Inside(inner, outer) != want {
				t.Errorf("is %s inside %s: not %t", a, b, want)
			}
		}
	}
}

// P16.3: Parse returns the names that were joined, if they are valid and the path is not too long.
func TestParseJoined(t *testing.T) {
	source := rand.New(rand.NewSource(2))
	for range 20000 {
		var names []string
		room := 205
		for room > 0 && source.Intn(20) > 0 {
			name := make([]byte, 1+source.Intn(14))
			for i := range name {
				name[i] = byte('0' + source.Intn(256-'0'))
			}
			names = append(names, string(name))
			room -= 1 + len(name)
		}
		s := Join(names)
		parsed, err := Parse(s)
		if len(s) > 200 && (err != api.ErrArg || len(parsed) > 0) {
			t.Errorf("%d bytes: %d", len(s), err)
		}
		if len(s) <= 200 && (err != api.OK || !slices.Equal(parsed, names)) {
			t.Errorf("Parse(Join(%q)): %q, %d", names, parsed, err)
		}
	}
}

// R3: arguments stay as they are, with the room behind them, and are not kept.
func TestMemory(t *testing.T) {
	names := []string{"a", "b", "c", "d"}
	whole := Join(names[:2])
	if whole != "/a/b" || !Inside(names[:2], names[:1]) || Inside(names[:1], names[:3]) || !slices.Equal(names, []string{"a", "b", "c", "d"}) {
		t.Errorf("%q, %q", whole, names)
	}
	names[0] = "x"
	if whole != "/a/b" {
		t.Errorf("kept: %q", whole)
	}
	one, _ := Parse("/a/b")
	two, _ := Parse("/a/b")
	one[0] = "x"
	_ = append(one[:1], "y")
	if three, _ := Parse("/a/b"); !slices.Equal(two, []string{"a", "b"}) || !slices.Equal(three, two) {
		t.Errorf("shared: %q, %q", two, three)
	}
}

// R4: the same arguments have the same results, also in calls at the same time.
func TestSameAgain(t *testing.T) {
	var group sync.WaitGroup
	for range 8 {
		group.Go(func() {
			for _, s := range slices.Concat(badPaths, longParts) {
				checkParse(t, s)
			}
			for _, c := range goodPaths {
				checkParse(t, c.s)
				if Inside(c.names, c.names) || len(c.names) > 0 && !Inside(c.names, c.names[:len(c.names)-1]) {
					t.Errorf("Inside: %q", c.names)
				}
			}
		})
	}
	group.Wait()
}
