package dirent

import (
	"bytes"
	"math"
	"math/rand"
	"slices"
	"strconv"
	"strings"
	"sync"
	"testing"

	"padlock/api"
)

// far are numbers of no inode and indices of no entry. Some of them become valid when they are cut.
var far = []int{
	math.MinInt, math.MinInt + 1, math.MinInt + 16, math.MinInt32, -1 << 32, -1<<32 + 1, -1 << 16, -1<<16 + 3,
	-257, -256, -255, -225, -128, -31, -16, -2, -1,
	256, 257, 258, 287, 512, 65536, 65537, 1<<31 - 1, 1 << 31, 1 << 32, 1<<32 + 1, 1<<32 + 31, 1 << 60, 1<<60 + 1,
	1 << 62, math.MaxInt - 15, math.MaxInt - 1, math.MaxInt,
}

// goodNames are valid ones: the shortest and the longest, points at any place, and any bytes, be they text or not.
var goodNames = []string{
	"a", "A", "b", "aa", "ab", "a.", ".a", "..a", "a..", "...", "....", "a.b", " ", "\n", "\x01", "\x7f", "\x80", "\xff",
	"-", "\\", "*", "~", "0", "abcdefghijklmn", "..............", "              ", strings.Repeat("\xff", 14),
	"é", "ééééééé", "日本語", "\u2215", "\uff0f", "\u2024", "\xc0\x80", "\xc0\xaf", "\xe0", "\ufffd", "con.txt", "0123456789.123",
}

// badNames are not valid, whatever their lengths are.
var badNames = []string{
	"", ".", "..", "/", "//", "\x00", "\x00\x00", "/a", "a/", "a/b", "./", "../", "/.", "/..", "\x00a", "a\x00", "a\x00b",
	".\x00", "..\x00", "\xff/", "\xe0/", "\xe0\x00", "\xf0\x9f/", "é/é", "abcdefghijklm/", "/bcdefghijklmn", "abcdefghijklm\x00",
	"abcdefghijklmn/", "abcdefghijklmn\x00", "/abcdefghijklmnopq", "\x00abcdefghijklmnopq", strings.Repeat("/", 300),
	strings.Repeat("\x00", 15), strings.Repeat("a", 10000) + "/", strings.Repeat("a", 10000) + "\x00",
}

// longNames are too long, but for that they are valid.
var longNames = []string{
	"abcdefghijklmno", "...............", "               ", strings.Repeat("\xff", 15), "éééééééé", "日本語日本", strings.Repeat("a", 16),
	strings.Repeat("a", 255), strings.Repeat("a", 256), strings.Repeat("a", 257), strings.Repeat("a", 270), strings.Repeat("a", 65537),
}

// nameByWords is what Name returns, by the words of the chapter.
func nameByWords(s string) api.Errno {
	l := []byte(s)
	if len(l) == 0 || bytes.Count(l, []byte{0}) > 0 || bytes.Count(l, []byte{47}) > 0 || s == "." || s == ".." {
		return 1
	}
	if len(l) >= 15 {
		return 8
	}
	return 0
}

// listByWords tells whether these entries are a list, by the words of the chapter.
func listByWords(l []Entry) bool {
	for i, e := range l {
		if nameByWords(e.Name) != 0 || e.Inode < 1 || e.Inode > 31 {
			return false
		}
		for _, other := range l[:i] {
			if other.Name == e.Name || other.Inode == e.Inode {
				return false
			}
		}
	}
	return true
}

// encodedByWords is the encoding of a list.
func encodedByWords(l []Entry) []byte {
	var all strings.Builder
	for _, e := range l {
		all.WriteByte(byte(e.Inode))
		all.WriteByte(byte(len(e.Name)))
		all.WriteString(e.Name + strings.Repeat("\x00", 14-len(e.Name)))
	}
	return []byte(all.String())
}

// decodedByWords returns the list that has this encoding, and false if none has it.
func decodedByWords(b []byte) ([]Entry, bool) {
	var l []Entry
	for part := range slices.Chunk(b, 16) {
		if len(part) < 16 {
			return nil, false
		}
		// A valid name has no zeros, so that all at the end are behind it.
		name := strings.TrimRight(string(part[2:]), "\x00")
		if int(part[1]) != len(name) {
			return nil, false
		}
		l = append(l, Entry{name, int(part[0])})
	}
	return l, listByWords(l)
}

// shown tells of entries, but not of so many that nobody can read it.
func shown(l []Entry) string {
	var all []string
	for _, e := range l[:min(len(l), 50)] {
		all = append(all, strconv.Quote(e.Name[:min(len(e.Name), 50)])+" "+strconv.Itoa(e.Inode))
	}
	return strconv.Itoa(len(l)) + " [" + strings.Join(all, ", ") + "]"
}

// full is a list that has all the numbers, the greatest one first.
func full() []Entry {
	var l []Entry
	for number := 31; number >= 1; number-- {
		l = append(l, Entry{"child " + strconv.Itoa(number), number})
	}
	return l
}

// anyList returns a list of so many entries, by chance.
func anyList(source *rand.Rand, many int) []Entry {
	var l []Entry
	for i, number := range source.Perm(31)[:many] {
		name := make([]byte, source.Intn(13))
		for at := range name {
			name[at] = byte(1 + source.Intn('/'-1))
		}
		// The last byte makes the names differ, whatever the others are.
		l = append(l, Entry{string(name) + string([]byte{byte('A' + i)}), 1 + number})
	}
	return l
}

// lists are valid ones of all lengths.
func lists() [][]Entry {
	source := rand.New(rand.NewSource(1))
	l := [][]Entry{nil, {}, full(), {{"a", 1}}, {{"abcdefghijklmn", 31}}, {{"a", 3}, {"A", 2}, {"aa", 1}}}
	for i := 0; i < len(goodNames); i += 31 {
		var some []Entry
		for number, name := range goodNames[i:min(i+31, len(goodNames))] {
			some = append(some, Entry{name, number + 1})
		}
		l = append(l, some)
	}
	for many := range 32 {
		l = append(l, anyList(source, many), anyList(source, many))
	}
	return l
}

func checkName(t *testing.T, s string, want api.Errno) {
	t.Helper()
	if got := Name(s); got != want {
		t.Errorf("Name(%q): got %d, want %d", s, got, want)
	}
}

// accept holds Put and Get against a list and its encoding.
func accept(t *testing.T, l []Entry, want []byte) {
	t.Helper()
	if got, err := Put(l); err != api.OK || !bytes.Equal(got, want) {
		t.Errorf("Put(%s): got %q, error %d, want %q", shown(l), got, err, want)
	}
	if got, err := Get(want); err != api.OK || !slices.Equal(got, l) {
		t.Errorf("Get(%q): got %s, error %d, want %s", want, shown(got), err, shown(l))
	}
}

// With an error, there is nothing beside it (R2).
func refusePut(t *testing.T, l []Entry) {
	t.Helper()
	if got, err := Put(l); err != api.ErrArg || len(got) > 0 {
		t.Errorf("Put(%s): got %q, error %d, want error %d alone", shown(l), got, err, api.ErrArg)
	}
}

func refuseGet(t *testing.T, b []byte) {
	t.Helper()
	if got, err := Get(b); err != api.ErrIntegrity || len(got) > 0 {
		t.Errorf("Get(%q): got %s, error %d, want error %d alone", b, shown(got), err, api.ErrIntegrity)
	}
}

// checkPut holds Put of any entries, and Get of their encoding if they are a list, against the words.
func checkPut(t *testing.T, l []Entry) {
	t.Helper()
	if listByWords(l) {
		accept(t, l, encodedByWords(l))
	} else {
		refusePut(t, l)
	}
}

// checkGet holds Get of any bytes, and Put of the list if there is one, against the words.
func checkGet(t *testing.T, b []byte) {
	t.Helper()
	if l, ok := decodedByWords(b); ok {
		accept(t, l, b)
	} else {
		refuseGet(t, b)
	}
}

func checkFind(t *testing.T, l []Entry, name string, want int) {
	t.Helper()
	if got := Find(l, name); got != want {
		t.Errorf("Find(%s, %q): got %d, want %d", shown(l), name, got, want)
	}
}

func checkDrop(t *testing.T, l []Entry, i int, want []Entry) {
	t.Helper()
	if got := Drop(l, i); !slices.Equal(got, want) {
		t.Errorf("Drop(%s, %d): got %s, want %s", shown(l), i, shown(got), shown(want))
	}
}

func checkNames(t *testing.T, l []Entry, want []string) {
	t.Helper()
	if got := Names(l); !slices.Equal(got, want) {
		t.Errorf("Names(%s): got %q, want %q", shown(l), got, want)
	}
}

// P15.1: the example of the chapter.
func TestExample(t *testing.T) {
	accept(t, []Entry{{"a", 3}}, []byte{3, 1, 97, 0, 0, 0, 0, 0, 0, 0, 0, 0, 0, 0, 0, 0})
}

// P15.1: the chapter's number, and what the layers above count on.
func TestWide(t *testing.T) {
	if Wide != 16 {
		t.Errorf("Wide: got %d, want 16", Wide)
	}
	if got, err := Put(full()); err != api.OK || len(got) != 31*Wide {
		t.Errorf("Put of 31 entries: got %d bytes, error %d, want %d", len(got), err, 31*Wide)
	}
}

// P15.1: names that are valid, that are not, and that are only too long, written out by hand.
func TestNamesWrittenOut(t *testing.T) {
	for _, s := range goodNames {
		checkName(t, s, api.OK)
	}
	for _, s := range badNames {
		checkName(t, s, api.ErrArg)
	}
	for _, s := range longNames {
		checkName(t, s, api.ErrName)
	}
}

// P15.1: all names of up to two bytes, and all of three bytes of which the chapter speaks.
func TestShortNames(t *testing.T) {
	checkName(t, "", nameByWords(""))
	for one := range 256 {
		checkName(t, string([]byte{byte(one)}), nameByWords(string([]byte{byte(one)})))
		for two := range 256 {
			s := string([]byte{byte(one), byte(two)})
			checkName(t, s, nameByWords(s))
		}
	}
	some := []byte{0, '.', '/', 'a', 0xff}
	for _, one := range some {
		for _, two := range some {
			for _, three := range some {
				s := string([]byte{one, two, three})
				checkName(t, s, nameByWords(s))
			}
		}
	}
}

// P15.1: each byte at each place of names of all lengths around the longest one.
func TestEachByteOfAName(t *testing.T) {
	for _, filler := range []string{"a", ".", "\xe0", "\xff"} {
		for size := 1; size <= 33; size++ {
			for place := range size {
				for x := range 256 {
					s := []byte(strings.Repeat(filler, size))
					s[place] = byte(x)
					checkName(t, string(s), nameByWords(string(s)))
				}
			}
		}
	}
}

// P15.1: a 0 or a / is told first, wherever it is in a name that is too long, too.
func TestFirstErrorOfAName(t *testing.T) {
	for size := 1; size <= 300; size++ {
		want := api.OK
		if size > 14 {
			want = api.ErrName
		}
		long := strings.Repeat("x", size)
		checkName(t, long, want)
		for place := range size {
			checkName(t, long[:place]+"/"+long[place+1:], api.ErrArg)
			checkName(t, long[:place]+"\x00"+long[place+1:], api.ErrArg)
		}
	}
}

// P15.1: lists and their encodings written out by hand, so that no code stands between the words and them.
func TestWrittenOut(t *testing.T) {
	accept(t, nil, nil)
	accept(t, []Entry{}, []byte{})
	accept(t, []Entry{{"x", 1}}, []byte("\x01\x01x\x00\x00\x00\x00\x00\x00\x00\x00\x00\x00\x00\x00\x00"))
	accept(t, []Entry{{"x", 31}}, []byte("\x1f\x01x\x00\x00\x00\x00\x00\x00\x00\x00\x00\x00\x00\x00\x00"))
	accept(t, []Entry{{"abcdefghijklmn", 14}}, []byte("\x0e\x0eabcdefghijklmn"))
	accept(t, []Entry{{"abcdefghijklm", 14}}, []byte("\x0e\x0dabcdefghijklm\x00"))
	accept(t, []Entry{{"...", 2}}, []byte("\x02\x03...\x00\x00\x00\x00\x00\x00\x00\x00\x00\x00\x00"))
	accept(t, []Entry{{"é", 7}}, []byte("\x07\x02\xc3\xa9\x00\x00\x00\x00\x00\x00\x00\x00\x00\x00\x00\x00"))
	accept(t, []Entry{{"zz", 30}, {"a", 2}, {"hello", 16}}, []byte(
		"\x1e\x02zz\x00\x00\x00\x00\x00\x00\x00\x00\x00\x00\x00\x00"+
			"\x02\x01a\x00\x00\x00\x00\x00\x00\x00\x00\x00\x00\x00\x00\x00"+
			"\x10\x05hello\x00\x00\x00\x00\x00\x00\x00\x00\x00"))
}

// P15.1: entries that are no list, one for each of the chapter's words, written out by hand.
func TestNoListWrittenOut(t *testing.T) {
	for _, l := range [][]Entry{
		{{}},
		{{"", 1}},
		{{"a", 0}},
		{{"a", 32}},
		{{"a", -1}},
		{{"a", 257}},
		{{".", 1}},
		{{"..", 1}},
		{{"a/b", 1}},
		{{"a\x00", 1}},
		{{"abcdefghijklmno", 1}},
		{{"a", 1}, {"a", 2}},
		{{"a", 1}, {"b", 1}},
		{{"a", 1}, {"a", 1}},
		{{"a", 1}, {"b", 2}, {"a", 3}},
		{{"a", 1}, {"b", 2}, {"c", 1}},
		{{"a", 1}, {"b", 2}, {"c", 3}, {"c", 4}},
		{{"a", 1}, {"b", 2}, {"", 3}},
		{{"a", 1}, {"b", 0}, {"c", 3}},
		{{"a", 32}, {"b", 2}, {"c", 3}},
	} {
		refusePut(t, l)
	}
}

// P15.1: bytes that are no encoding of a list, written out by hand.
func TestNoEncodingWrittenOut(t *testing.T) {
	for _, s := range []string{
		"\x00\x00\x00\x00\x00\x00\x00\x00\x00\x00\x00\x00\x00\x00\x00\x00",
		"\x01\x00\x00\x00\x00\x00\x00\x00\x00\x00\x00\x00\x00\x00\x00\x00",
		"\x01\x01\x00\x00\x00\x00\x00\x00\x00\x00\x00\x00\x00\x00\x00\x00",
		"\x00\x01a\x00\x00\x00\x00\x00\x00\x00\x00\x00\x00\x00\x00\x00",
		"\x20\x01a\x00\x00\x00\x00\x00\x00\x00\x00\x00\x00\x00\x00\x00",
		"\xff\x01a\x00\x00\x00\x00\x00\x00\x00\x00\x00\x00\x00\x00\x00",
		"\x01\x00a\x00\x00\x00\x00\x00\x00\x00\x00\x00\x00\x00\x00\x00",
		"\x01\x02a\x00\x00\x00\x00\x00\x00\x00\x00\x00\x00\x00\x00\x00",
		"\x01\x01ab\x00\x00\x00\x00\x00\x00\x00\x00\x00\x00\x00\x00",
		"\x01\x01a\x00\x00\x00\x00\x00\x00\x00\x00\x00\x00\x00\x00\x01",
		"\x01\x03a\x00c\x00\x00\x00\x00\x00\x00\x00\x00\x00\x00\x00",
		"\x01\x03a/c\x00\x00\x00\x00\x00\x00\x00\x00\x00\x00\x00",
		"\x01\x01.\x00\x00\x00\x00\x00\x00\x00\x00\x00\x00\x00\x00\x00",
		"\x01\x02..\x00\x00\x00\x00\x00\x00\x00\x00\x00\x00\x00\x00",
		"\x01\x0fabcdefghijklmn",
		"\x01\x0dabcdefghijklmn",
		"\x01\x10abcdefghijklmn",
		"\x01\x1eabcdefghijklmn",
		"\x01\xffabcdefghijklmn",
		"\x01\x0eabcdefghijklmn\x02\x0eabcdefghijklmn",
		"\x01\x0eabcdefghijklmn\x01\x0eabcdefghijklmm",
		"\x01\x0eabcdefghijklmn\x01\x0eabcdefghijklmn",
		"\x01\x0eabcdefghijklmn\x00\x00\x00\x00\x00\x00\x00\x00\x00\x00\x00\x00\x00\x00\x00\x00",
		"\x01\x0fabcdefghijklmno\x02\x01b\x00\x00\x00\x00\x00\x00\x00\x00\x00\x00\x00\x00",
		"\x00", "a", "\x01\x01a", "\x01\x0eabcdefghijklm", "\x01\x0eabcdefghijklmn\x00", "\x01\x0eabcdefghijklmn\x02\x01b",
	} {
		refuseGet(t, []byte(s))
	}
}

// P15.1: an entry with each number, from below 0 to far beyond the greatest one, alone and behind another one.
func TestEachNumber(t *testing.T) {
	l := slices.Clone(far)
	for number := -40; number < 300; number++ {
		l = append(l, number)
	}
	for _, number := range l {
		checkPut(t, []Entry{{"name", number}})
		checkPut(t, []Entry{{"other", 17}, {"name", number}})
		checkPut(t, []Entry{{"name", number}, {"other", 31}})
	}
}

// P15.1: an entry with each name, valid or not, alone, and before and behind other ones.
func TestEachName(t *testing.T) {
	for _, name := range slices.Concat(goodNames, badNames, longNames) {
		checkPut(t, []Entry{{name, 5}})
		checkPut(t, []Entry{{"other", 17}, {name, 5}})
		checkPut(t, []Entry{{name, 5}, {"other", 17}})
		checkPut(t, append(full()[:30:30], Entry{name, 1}))
	}
}

// P15.1: names that are equal but for one byte or their length are not equal.
func TestSimilarNames(t *testing.T) {
	accept(t, []Entry{{"a", 1}, {"A", 2}, {"aa", 3}, {"a.", 4}, {"a ", 5}, {" a", 6}}, encodedByWords(
		[]Entry{{"a", 1}, {"A", 2}, {"aa", 3}, {"a.", 4}, {"a ", 5}, {" a", 6}}))
	accept(t, []Entry{{"abcdefghijklmn", 1}, {"abcdefghijklmo", 2}, {"abcdefghijklm", 3}}, []byte(
		"\x01\x0eabcdefghijklmn\x02\x0eabcdefghijklmo\x03\x0dabcdefghijklm\x00"))
	accept(t, []Entry{{"\xff", 1}, {"\xfe", 2}, {"\ufffd", 3}}, encodedByWords(
		[]Entry{{"\xff", 1}, {"\xfe", 2}, {"\ufffd", 3}}))
}

// P15.1: a name or a number that occurs twice is refused at any two places, in a list and in bytes.
func TestTwice(t *testing.T) {
	for _, valid := range lists() {
		for i := range valid {
			for j := range i {
				l := slices.Clone(valid)
				l[i].Name = l[j].Name
				refusePut(t, l)
				refuseGet(t, encodedByWords(l))
				l = slices.Clone(valid)
				l[i].Inode = l[j].Inode
				refusePut(t, l)
				refuseGet(t, encodedByWords(l))
			}
		}
	}
}

// P15.1: all the numbers make the longest list; one more entry has no number left.
func TestLongestList(t *testing.T) {
	accept(t, full(), encodedByWords(full()))
	for number := -1; number < 40; number++ {
		l := append(full(), Entry{"one more", number})
		refusePut(t, l)
		refuseGet(t, encodedByWords(l))
	}
	many := slices.Repeat(full(), 300)
	refusePut(t, many)
	refuseGet(t, encodedByWords(many))
	refusePut(t, make([]Entry, 100000))
	refuseGet(t, make([]byte, 1600000))
}

// P15.1: valid lists of all lengths, in any order.
func TestLists(t *testing.T) {
	for _, l := range lists() {
		if !listByWords(l) {
			t.Fatalf("%s is no list", shown(l))
		}
		accept(t, l, encodedByWords(l))
		back := slices.Clone(l)
		slices.Reverse(back)
		accept(t, back, encodedByWords(back))
	}
}

// P15.1: bytes of another length are no encoding, be they cut or filled up.
func TestOtherLengths(t *testing.T) {
	for _, l := range lists() {
		b := append(encodedByWords(l), make([]byte, 40)...)
		for n := range len(b) + 1 {
			if n == 16*len(l) {
				continue
			}
			if n%16 == 0 && n < 16*len(l) {
				accept(t, l[:n/16], b[:n])
				continue
			}
			refuseGet(t, b[:n:n])
			refuseGet(t, b[:n]) // what stands behind the bytes in memory is none of them
		}
	}
}

// P15.1: bytes that are those of a list but for one.
func TestOneByteChanged(t *testing.T) {
	for _, l := range [][]Entry{
		{{"a", 1}}, {{"abcdefghijklmn", 31}}, {{"...", 2}}, {{"..a", 2}}, {{"b", 1}, {"c", 2}}, {{"abcdefg", 8}, {"abcdefh", 9}, {"abcdef", 10}},
	} {
		b := encodedByWords(l)
		for place, before := range b {
			for x := range 256 {
				b[place] = byte(x)
				checkGet(t, b)
			}
			b[place] = before
		}
	}
}

// P15.1: each length of the name's bytes with each length that the name is said to have.
func TestEachLengthOfAName(t *testing.T) {
	for size := range 15 {
		for said := range 256 {
			b := make([]byte, 16)
			b[0], b[1] = 9, byte(said)
			copy(b[2:], "abcdefghijklmn"[:size])
			checkGet(t, b)
			checkGet(t, slices.Concat(b, encodedByWords([]Entry{{"x", 8}})))
		}
	}
}

// P15.1 and P15.4: any bytes, by chance, whose values are small enough to be those of a list often, but not always.
func TestAnyBytes(t *testing.T) {
	source := rand.New(rand.NewSource(2))
	lists := 0
	for range 100000 {
		var b []byte
		for range source.Intn(4) {
			part := make([]byte, 16)
			part[0], part[1] = byte(source.Intn(34)), byte(source.Intn(4))
			for at := range min(int(part[1]), 14) {
				part[2+at] = "abcdefgh./\x00\xff"[source.Intn(12)]
			}
			if source.Intn(8) == 0 {
				part[source.Intn(16)] = byte(source.Intn(256))
			}
			b = append(b, part...)
		}
		checkGet(t, b)
		if l, ok := decodedByWords(b); ok && len(l) > 0 {
			lists++
		}
	}
	if lists < 1000 {
		t.Errorf("only %d of the bytes are those of a list", lists)
	}
}

// P15.1: any entries, by chance, some of which occur twice.
func TestAnyEntries(t *testing.T) {
	source := rand.New(rand.NewSource(3))
	valid := 0
	for range 100000 {
		var l []Entry
		for range source.Intn(6) {
			name := goodNames[source.Intn(len(goodNames))]
			if source.Intn(30) == 0 {
				name = badNames[source.Intn(len(badNames))]
			}
			l = append(l, Entry{name, source.Intn(33)})
		}
		checkPut(t, l)
		if listByWords(l) && len(l) > 1 {
			valid++
		}
	}
	if valid < 1000 {
		t.Errorf("only %d of the lists are valid", valid)
	}
}

// P15.4: Get returns the entries that Put encoded, and Put the bytes that Get decoded.
func TestThereAndBack(t *testing.T) {
	for _, l := range lists() {
		b, err := Put(l)
		if err != api.OK {
			t.Fatalf("Put(%s): error %d", shown(l), err)
		}
		back, err := Get(b)
		if err != api.OK || !slices.Equal(back, l) {
			t.Errorf("Get(Put(%s)): got %s, error %d", shown(l), shown(back), err)
		}
		again, err := Put(back)
		if err != api.OK || !bytes.Equal(again, b) {
			t.Errorf("Put(Get(%q)): got %q, error %d", b, again, err)
		}
	}
}

// P15.2: Find, written out by hand: the first of equal names, names that begin alike, and names that are none.
func TestFindWrittenOut(t *testing.T) {
	l := []Entry{{"b", 4}, {"a", 3}, {"ab", 9}, {"a", 5}, {"", 0}, {"b", 1}, {"", 7}, {"A", 2}, {"a/\x00", -1}}
	for name, want := range map[string]int{
		"b": 0, "a": 1, "ab": 2, "": 4, "A": 7, "a/\x00": 8,
		"c": -1, "abc": -1, "B": -1, "a/": -1, "\x00": -1, "a\x00": -1, " a": -1, "4": -1,
	} {
		checkFind(t, l, name, want)
	}
	for _, name := range []string{"", "a", ".", "/"} {
		checkFind(t, nil, name, -1)
		checkFind(t, []Entry{}, name, -1)
	}
	checkFind(t, []Entry{{}}, "", 0)
	checkFind(t, make([]Entry, 3), "", 0)
	checkFind(t, append(l[:1:1], l[:1]...), "a", -1)
	checkFind(t, l[:1], "a", -1) // it stands behind the list in memory, but is not in it
}

// P15.2: each name of a list is found at its place, also where it occurs again behind it; others are not found.
func TestFindEach(t *testing.T) {
	for _, l := range lists() {
		twice := slices.Concat(l, l)
		for i, e := range l {
			checkFind(t, l, e.Name, i)
			checkFind(t, twice, e.Name, i)
			checkFind(t, twice[i+1:], e.Name, len(l)-1)
			checkFind(t, l[:i], e.Name, -1)
			checkFind(t, l[i+1:], e.Name, -1)
			checkFind(t, l, e.Name+"\x00", -1)
			checkFind(t, l, "/"+e.Name, -1)
		}
		checkFind(t, l, "", -1)
		checkFind(t, l, strings.Repeat("a", 1000), -1)
	}
}

// P15.2: Drop, written out by hand: the first, one in between, the last, the only one, and none.
func TestDropWrittenOut(t *testing.T) {
	l := []Entry{{"a", 1}, {"b", 2}, {"c", 3}, {"d", 4}}
	checkDrop(t, l, 0, []Entry{{"d", 4}, {"b", 2}, {"c", 3}})
	checkDrop(t, l, 1, []Entry{{"a", 1}, {"d", 4}, {"c", 3}})
	checkDrop(t, l, 2, []Entry{{"a", 1}, {"b", 2}, {"d", 4}})
	checkDrop(t, l, 3, []Entry{{"a", 1}, {"b", 2}, {"c", 3}})
	checkDrop(t, l, 4, l)
	checkDrop(t, l, -1, l)
	checkDrop(t, l[:3], 3, l[:3])
	checkDrop(t, l[:2], 0, []Entry{{"b", 2}})
	checkDrop(t, l[:2], 1, []Entry{{"a", 1}})
	checkDrop(t, l[:1], 0, nil)
	checkDrop(t, l[:1], 1, l[:1])
	checkDrop(t, nil, 0, nil)
	checkDrop(t, []Entry{}, 0, nil)
	checkDrop(t, []Entry{{}, {"/", -1}, {"/", -1}}, 0, []Entry{{"/", -1}, {"/", -1}})
}

// P15.2: Drop of each entry of lists of all lengths, and of what is none.
func TestDropEach(t *testing.T) {
	for _, l := range lists() {
		for i := range l {
			var want []Entry
			for at, e := range l[:len(l)-1] {
				if at == i {
					e = l[len(l)-1]
				}
				want = append(want, e)
			}
			checkDrop(t, l, i, want)
		}
		for _, i := range append([]int{len(l), len(l) + 1, len(l) + 16}, far...) {
			checkDrop(t, l, i, l)
		}
	}
}

// P15.2: Names, written out by hand: by bytes, a shorter name before those that begin with it, equal ones all.
func TestNamesOfEntriesWrittenOut(t *testing.T) {
	checkNames(t, nil, nil)
	checkNames(t, []Entry{}, nil)
	checkNames(t, []Entry{{}}, []string{""})
	checkNames(t, []Entry{{"a", 1}}, []string{"a"})
	checkNames(t, []Entry{{"b", 1}, {"a", 2}}, []string{"a", "b"})
	checkNames(t, []Entry{{"a", 2}, {"b", 1}, {"a", 3}, {"", 4}}, []string{"", "a", "a", "b"})
	checkNames(t, []Entry{{"file10", 1}, {"file9", 2}, {"file1", 3}}, []string{"file1", "file10", "file9"})
	checkNames(t, []Entry{{"a", 1}, {"B", 2}, {"_", 3}, {"A", 4}, {"b", 5}}, []string{"A", "B", "_", "a", "b"})
	checkNames(t, []Entry{{"\xff", 1}, {"é", 2}, {"z", 3}, {"\x80", 4}, {"\x01", 5}, {"\ufffd", 6}, {"\U0001f600", 7}},
		[]string{"\x01", "z", "\x80", "é", "\ufffd", "\U0001f600", "\xff"})
	checkNames(t, []Entry{{"aa", 1}, {"a/", 2}, {"a", 3}, {"a\x00", 4}, {"..", 5}}, []string{"..", "a", "a\x00", "a/", "aa"})
}

// P15.2: Names of lists of all lengths, in whatever order they are.
func TestNamesOfEntries(t *testing.T) {
	source := rand.New(rand.NewSource(4))
	for _, l := range lists() {
		var want [][]byte
		for _, e := range l {
			want = append(want, []byte(e.Name))
		}
		slices.SortFunc(want, bytes.Compare)
		var names []string
		for _, name := range want {
			names = append(names, string(name))
		}
		mixed := slices.Clone(l)
		for range 5 {
			source.Shuffle(len(mixed), func(i, j int) { mixed[i], mixed[j] = mixed[j], mixed[i] })
			checkNames(t, mixed, names)
		}
	}
}

// P15.3: entries, and the memory around them, are as they were; results share no memory with them or with one another.
func TestMemoryOfEntries(t *testing.T) {
	for _, valid := range lists() {
		room := slices.Concat([]Entry{{"before", -1}}, valid, []Entry{{"behind", -2}, {"behind", -3}})
		kept := slices.Clone(room)
		l := room[1 : 1+len(valid)]
		for i := -1; i <= len(l); i++ {
			want := Drop(l, i)
			got := Drop(l, i)
			clear(got[:cap(got)])
			checkDrop(t, l, i, want)
		}
		names := Names(l)
		again := Names(l)
		clear(names[:cap(names)])
		checkNames(t, l, again)
		b, _ := Put(l)
		clear(b[:cap(b)])
		accept(t, l, encodedByWords(valid))
		Find(l, "behind")
		if !slices.Equal(room, kept) {
			t.Errorf("behind the calls: got %s, want %s", shown(room), shown(kept))
		}
	}
}

// P15.3: bytes, and the memory around them, are as they were; entries do not change with the bytes they were read from.
func TestMemoryOfBytes(t *testing.T) {
	for _, l := range lists() {
		room := slices.Concat([]byte{200, 201}, encodedByWords(l), []byte{202, 203})
		kept := slices.Clone(room)
		b := room[2 : 2+16*len(l)]
		first, err := Get(b)
		second, _ := Get(b)
		if !bytes.Equal(room, kept) {
			t.Errorf("behind Get: got %q, want %q", room, kept)
		}
		clear(second[:cap(second)])
		for i := range room {
			room[i] = 'x'
		}
		if err != api.OK || !slices.Equal(first, l) {
			t.Errorf("after a change of the bytes: got %s, error %d, want %s", shown(first), err, shown(l))
		}
	}
}

// R4: neither calls before nor calls at the same time influence a call.
func TestCallsAtOnce(t *testing.T) {
	shared := lists()
	var wait sync.WaitGroup
	for n := range 16 {
		wait.Go(func() {
			source := rand.New(rand.NewSource(int64(n % 4)))
			for range 300 {
				l := shared[source.Intn(len(shared))]
				accept(t, l, encodedByWords(l))
				refusePut(t, slices.Concat(l, []Entry{{"a", 32}}))
				refuseGet(t, slices.Concat(encodedByWords(l), make([]byte, 16)))
				for i, e := range l {
					checkFind(t, l, e.Name, i)
				}
				checkDrop(t, l, len(l)-1, l[:max(len(l)-1, 0)])
				if names := Names(l); !slices.IsSorted(names) || len(names) != len(l) {
					t.Errorf("Names(%s): got %q", shown(l), names)
				}
			}
		})
	}
	wait.Wait()
}
