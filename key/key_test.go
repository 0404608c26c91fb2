package key

import (
	"slices"
	"strconv"
	"strings"
	"testing"

	"toller/api"
)

// mixed are n numbers of many lengths, always the same ones.
func mixed(n int) []uint64 {
	out := make([]uint64, n)
	x := uint64(88172645463325252)
	for i := range out {
		x ^= x << 13
		x ^= x >> 7
		x ^= x << 17
		out[i] = x >> (x % 64)
	}
	return out
}

// texts are all of at most so many bytes, of these ones.
func texts(most int, alphabet string) []string {
	out := []string{""}
	from := 0
	for range most {
		to := len(out)
		for _, s := range out[from:to] {
			for i := range len(alphabet) {
				out = append(out, s+alphabet[i:i+1])
			}
		}
		from = to
	}
	return out
}

// with is s, but for one byte at a place.
func with(s string, at int, c byte) string {
	b := []byte(s)
	b[at] = c
	return string(b)
}

// long is a text of so many bytes.
func long(n int) string {
	return strings.Repeat("k", n)
}

// rising are texts of many kinds, each less than all behind it.
func rising() []string {
	return []string{
		"", "\x00", "\x00\x00", "\x00a", "\x01", "\x1f", " ", " a", "!", "!!",
		"!~", "/", "0", "10", "2", "9", "A", "Z", "a", "a\x00", "a ", "a!",
		"aa", "aa\xff", "ab", "ab/", "abc", "ab~", "ab\x7f", "ab\x80",
		"ab\xff", "ac", "api/", "api/a", "api/b", "b", "ba", "~", "~~",
		"\x7f", "\x80", "\x80\x00", "\x80\x80", "\xc2", "\xc3", "\xc3(",
		"\xc3\xa9", "\xe4\xb8\x96", "\xfe\xff", "\xff", "\xff\x00",
		"\xff\xfe", "\xff\xff", "\xff\xff\xff",
	}
}

// wantRight is the chapter's words on Right, by bytes that are listed.
func wantRight(k string) bool {
	const visible = "!\"#$%&'()*+,-./0123456789:;<=>?@" +
		"ABCDEFGHIJKLMNOPQRSTUVWXYZ[\\]^_`abcdefghijklmnopqrstuvwxyz{|}~"
	for i := range len(k) {
		if strings.IndexByte(visible, k[i]) < 0 {
			return false
		}
	}
	return len(k) >= 1 && len(k) <= 128
}

// wantCommon is the greatest length of which both have one beginning.
func wantCommon(a, b string) int {
	n := min(len(a), len(b))
	for a[:n] != b[:n] {
		n--
	}
	return n
}

// wantSorted holds each one against all behind it, not the next one alone.
func wantSorted(l []string) bool {
	for i := range l {
		for j := i + 1; j < len(l); j++ {
			if strings.Compare(l[i], l[j]) >= 0 {
				return false
			}
		}
	}
	return true
}

func checkRight(t *testing.T, k string, want bool) {
	t.Helper()
	if got := Right(k); got != want {
		t.Errorf("Right(%.40q), of %d bytes, = %v", k, len(k), got)
	}
}

// checkLess: a is less than b, and not the other way round, nor is either less
// than itself.
func checkLess(t *testing.T, a, b string) {
	t.Helper()
	if !Less(a, b) {
		t.Errorf("Less(%.40q, %.40q) = false", a, b)
	}
	if Less(b, a) {
		t.Errorf("Less(%.40q, %.40q) = true", b, a)
	}
	checkSame(t, a)
	checkSame(t, b)
}

// checkSame: a text is not less than one of the same bytes, in its own memory
// or in another one.
func checkSame(t *testing.T, a string) {
	t.Helper()
	if Less(a, a) || Less(a, strings.Clone(a)) || Less(strings.Clone(a), a) {
		t.Errorf("%.40q is less than itself", a)
	}
}

// checkCommon: so many, either way round.
func checkCommon(t *testing.T, a, b string, want int) {
	t.Helper()
	if got := Common(a, b); got != want {
		t.Errorf("Common(%.40q, %.40q) = %d, want %d", a, b, got, want)
	}
	if got := Common(b, a); got != want {
		t.Errorf("Common(%.40q, %.40q) = %d, want %d", b, a, got, want)
	}
}

func checkHas(t *testing.T, k, prefix string, want bool) {
	t.Helper()
	if got := Has(k, prefix); got != want {
		t.Errorf("Has(%.40q, %.40q) = %v", k, prefix, got)
	}
}

func checkSorted(t *testing.T, l []string, want bool) {
	t.Helper()
	if got := Sorted(l); got != want {
		t.Errorf("Sorted(%.20q), of %d, = %v", l, len(l), got)
	}
}

// checkTwo holds all that is told of two against the library, and against one
// another.
func checkTwo(t *testing.T, a, b string) {
	t.Helper()
	if got, want := Less(a, b), strings.Compare(a, b) < 0; got != want {
		t.Errorf("Less(%.40q, %.40q) = %v", a, b, got)
	}
	checkCommon(t, a, b, wantCommon(a, b))
	checkHas(t, a, b, strings.HasPrefix(a, b))
	checkSorted(t, []string{a, b}, strings.Compare(a, b) < 0)
	checkAgree(t, a, b)
}

// checkAgree: Has, Common and Less tell the same of two.
func checkAgree(t *testing.T, a, b string) {
	t.Helper()
	n := Common(a, b)
	if n < 0 || n > min(len(a), len(b)) {
		t.Fatalf("Common(%.40q, %.40q) = %d", a, b, n)
	}
	if Has(a, b) != (n == len(b)) || Has(b, a) != (n == len(a)) {
		t.Errorf("%.40q, %.40q: Common is %d, Has %v and %v", a, b, n, Has(a, b), Has(b, a))
	}
	if !Has(a, b[:n]) || !Has(b, a[:n]) {
		t.Errorf("%.40q, %.40q don't both have the %d bytes of Common", a, b, n)
	}
	if n < len(a) && Has(b, a[:n+1]) || n < len(b) && Has(a, b[:n+1]) {
		t.Errorf("%.40q, %.40q have more in common than %d bytes", a, b, n)
	}
	less := Less(a, b)
	switch {
	case n == len(a):
		if less != (n < len(b)) {
			t.Errorf("%.40q begins %.40q: Less is %v", a, b, less)
		}
	case n == len(b):
		if less {
			t.Errorf("%.40q begins %.40q, and is greater", b, a)
		}
	case less != (a[n] < b[n]):
		t.Errorf("%.40q, %.40q part at %d: Less is %v", a, b, n, less)
	}
	if Has(a, b) && Has(b, a) != (a == b) {
		t.Errorf("%.40q, %.40q begin with one another", a, b)
	}
}

func TestExample(t *testing.T) {
	checkCommon(t, "api/a", "api/b", 4)
}

func TestRightByLength(t *testing.T) {
	if api.MaxKey != 128 {
		t.Fatalf("MaxKey is %d", api.MaxKey)
	}
	for _, c := range []string{"!", "a", "~"} {
		checkRight(t, "", false)
		for n := 1; n <= 128; n++ {
			checkRight(t, strings.Repeat(c, n), true)
		}
		for _, n := range []int{129, 130, 255, 256, 257, 384, 1 << 16, 1<<16 + 1, 1 << 20} {
			checkRight(t, strings.Repeat(c, n), false)
		}
	}
	// Counted by bytes, not by runes, and wrong in either case.
	checkRight(t, strings.Repeat("\u00e9", 64), false)
	checkRight(t, strings.Repeat("\u00e9", 128), false)
}

// TestRightOfEachByte: only those of 21 to 7e, hexadecimal, are visible, alone
// and at every place of a key.
func TestRightOfEachByte(t *testing.T) {
	for c := range 256 {
		want := c >= 0x21 && c <= 0x7e
		for _, n := range []int{1, 2, 3, 127, 128} {
			for at := range n {
				k := with(long(n), at, byte(c))
				checkRight(t, k, want)
				if wantRight(k) != want {
					t.Fatalf("the bytes that are listed lack, or have, %x", c)
				}
			}
		}
		for _, at := range []int{0, 64, 127, 128} {
			checkRight(t, with(long(129), at, byte(c)), false)
		}
	}
}

func TestRightOfWords(t *testing.T) {
	for _, k := range []string{"a", "api/a", "10.0.0.1:80", "!", "~", "!~", "#", "user@host", "{\"a\":[1]}"} {
		checkRight(t, k, true)
	}
	rows := []string{
		" ", "a b", " a", "a ", "\t", "a\tb", "\n", "a\n", "\r", "\x00",
		"a\x00", "\x00a", "\x1f", "\x20", "\x7f", "a\x7f", "\x80", "a\x80",
		"\xff", "\xffa", "\xa1", "\xfe", "\xc3", "\xc3(", "\xed\xa0\x80",
		"\u00e9", "caf\u00e9", "\u4e16", "\u00a0", "\ufeffa", "\ufffd",
		"\U0001f600",
	}
	for _, k := range rows {
		checkRight(t, k, false)
	}
	for _, k := range rising() {
		checkRight(t, k, wantRight(k))
	}
}

func TestLess(t *testing.T) {
	rows := []struct{ a, b string }{
		// One of no byte, and one that begins the other one.
		{"", "a"}, {"", "\x00"}, {"", "\xff"}, {"", long(129)},
		{"a", "ab"}, {"a", "a\x00"}, {"a", "a\xff"}, {"ab", "abc"},
		{"\xff", "\xff\x00"}, {"\xff", "\xff\xff"}, {"\x00", "\x00\x00"},
		// They part at the first byte, at a middle one, and at the last one.
		{"abc", "bbc"}, {"abc", "acc"}, {"abc", "abd"},
		{"api/a", "api/b"}, {"api/a", "apj/a"}, {"api/a", "bpi/a"},
		// The first byte that parts them counts, not a later one.
		{"abz", "bba"}, {"azc", "bac"}, {"aaz", "aba"}, {"a\xff", "b\x00"},
		// The longer one is less, where they part ahead of its end.
		{"aaaa", "b"}, {"aa", "b"}, {"ab~~~", "ac"}, {"10", "2"}, {"\x00\xff", "\x01"},
		// Case counts, as bytes do.
		{"B", "a"}, {"A", "a"}, {"Z", "a"},
		// Bytes of 80 and above are greater than those below.
		{"\x7f", "\x80"}, {"\x00", "\x80"}, {"~", "\xff"}, {"a\x7fb", "a\x80a"},
		{"\x80", "\x81"}, {"\x80", "\xff"}, {"\xfe", "\xff"}, {"z", "\xc3\xa9"},
		{"k\x7f", "k\xff"}, {"\xc3\x28", "\xc3\xa9"}, {"\xef\xbf\xbd", "\xff"},
		// By bytes, not by what UTF-16 or runes have: ff is no rune.
		{"\uffff", "\U00010000"}, {"\U0010ffff", "\xff"}, {"\ufffd", "\xf8"},
	}
	for _, x := range rows {
		checkLess(t, x.a, x.b)
	}
}

// TestLessOfEachByte: all bytes against all, alone, and at the first, at a
// middle and at the last place.
func TestLessOfEachByte(t *testing.T) {
	for x := range 256 {
		for y := range 256 {
			one, other := string([]byte{byte(x)}), string([]byte{byte(y)})
			for _, p := range []struct{ ahead, behind string }{{"", ""}, {"", "kk"}, {"k", "k"}, {"kk", ""}} {
				a, b := p.ahead+one+p.behind, p.ahead+other+p.behind
				if got := Less(a, b); got != (x < y) {
					t.Errorf("Less(%q, %q) = %v", a, b, got)
				}
			}
		}
	}
}

// TestLessAtEachPlace: wherever texts part, however long they are, and whatever
// lies behind.
func TestLessAtEachPlace(t *testing.T) {
	for _, n := range []int{1, 2, 3, 127, 128, 129, 1000} {
		s := long(n)
		checkSame(t, s)
		for at := range n {
			checkLess(t, s[:at], s)
			checkLess(t, s, with(s, at, 'l'))
			checkLess(t, with(s, at, 'j'), s)
			checkLess(t, with(s, at, '\x00'), s)
			checkLess(t, s, with(s, at, '\xff'))
			checkLess(t, s+s, with(s, at, 'l'))
			checkLess(t, with(s, at, 'j'), s[:at+1])
		}
	}
}

// TestOneOrder: of two that differ just one is less, and who is less than
// another one is less than all that it is less than.
func TestOneOrder(t *testing.T) {
	l := append(texts(3, "\x00a\xff"), rising()...)
	for _, a := range l {
		for _, b := range l {
			if a == b {
				checkSame(t, a)
				continue
			}
			if Less(a, b) == Less(b, a) {
				t.Errorf("of %q, %q neither is less, or both are", a, b)
			}
			for _, c := range l {
				if Less(a, b) && Less(b, c) && !Less(a, c) {
					t.Errorf("%q, %q, %q: the first is not less than the last", a, b, c)
				}
			}
		}
	}
}

func TestRising(t *testing.T) {
	l := rising()
	for i, a := range l {
		checkSame(t, a)
		for _, b := range l[i+1:] {
			checkLess(t, a, b)
		}
	}
}

func TestCommon(t *testing.T) {
	rows := []struct {
		a, b string
		want int
	}{
		{"", "", 0}, {"", "a", 0}, {"", "\x00", 0}, {"", long(129), 0},
		{"a", "a", 1}, {"ab", "ab", 2}, {"api/a", "api/a", 5},
		{"a", "ab", 1}, {"ab", "abc", 2}, {"a", "a\x00", 1}, {"api", "api/a", 3},
		{"a", "b", 0}, {"abc", "xbc", 0}, {"abc", "axc", 1}, {"abc", "abx", 2},
		{"abcd", "abxd", 2}, {"aba", "abb", 2}, {"A", "a", 0},
		// What is alike behind the place at which they part does not count.
		{"xbcdef", "ybcdef", 0}, {"axcdef", "aycdef", 1}, {"axax", "ayax", 1},
		{"aaaa", "aa", 2}, {"aaab", "aab", 2},
		// Bytes, not runes: two of one first byte, and what is no UTF-8.
		{"\u00e9", "\u00e8", 1}, {"\u4e16", "\u4e17", 2}, {"\xff\xff", "\xff\xfe", 1},
		{"\x00\x00", "\x00", 1}, {"\x80", "\x00", 0}, {"\xe1", "a", 0}, {"\xff\xfe", "\xfe\xff", 0},
		{"\ufffd", "\xff", 0}, {"a\x80", "a\x81", 1},
	}
	for _, x := range rows {
		checkCommon(t, x.a, x.b, x.want)
	}
}

func TestCommonAtEachPlace(t *testing.T) {
	for _, n := range []int{1, 2, 3, 127, 128, 129, 255, 256, 257, 1000} {
		s := long(n)
		checkCommon(t, s, strings.Clone(s), n)
		checkCommon(t, s, s+"k", n)
		for at := range n {
			checkCommon(t, s, s[:at], at)
			checkCommon(t, s, with(s, at, '\xff'), at)
			checkCommon(t, s, with(s, at, 'j')+"kk", at)
			checkCommon(t, with(s, at, 'a'), with(s, at, 'b'), at)
		}
	}
	for x := range 256 {
		for y := range 256 {
			want := 1
			if x == y {
				want = 3
			}
			checkCommon(t, string([]byte{'k', byte(x), 'k'}), string([]byte{'k', byte(y), 'k'}), want)
		}
	}
	checkCommon(t, long(1<<20), long(1<<20+5), 1<<20)
}

func TestHas(t *testing.T) {
	rows := []struct {
		k, prefix string
		want      bool
	}{
		// A prefix of no byte.
		{"", "", true}, {"a", "", true}, {"\x00", "", true}, {long(129), "", true},
		// The key itself, and less of it.
		{"a", "a", true}, {"abc", "abc", true}, {"abc", "ab", true}, {"abc", "a", true},
		{"api/a", "api/", true}, {"\xff\xfe", "\xff", true}, {"\u00e9", "\xc3", true}, {"a\x00b", "a\x00", true},
		// A longer one.
		{"", "a", false}, {"", "\x00", false}, {"a", "ab", false}, {"a", "aa", false},
		{"ab", "abc", false}, {"a", "a\x00", false}, {"a", long(129), false}, {"api", "api/", false},
		// One that parts at its first byte, at a middle one, at its last one.
		{"abc", "b", false}, {"abc", "xbc", false}, {"abc", "axc", false},
		{"abc", "abx", false}, {"abc", "ax", false}, {"api/a", "api:", false},
		{"\xff\xfe", "\xfe", false}, {"\u00e9", "\xc2", false}, {"abc", "A", false},
		// One that stands in the key, but not at its beginning.
		{"abc", "bc", false}, {"abc", "c", false}, {"aab", "ab", false},
	}
	for _, x := range rows {
		checkHas(t, x.k, x.prefix, x.want)
	}
}

func TestHasAtEachPlace(t *testing.T) {
	for _, n := range []int{1, 2, 3, 127, 128, 129, 1000} {
		s := long(n)
		checkHas(t, s, s, true)
		checkHas(t, s, s+"k", false)
		for at := range n {
			checkHas(t, s, s[:at], true)
			checkHas(t, s[:at], s, false)
			checkHas(t, s, with(s, at, 'j'), false)
			checkHas(t, s, with(s[:at+1], at, '\xeb'), false)
			checkHas(t, with(s, at, '\x00'), s[:at], true)
			checkHas(t, with(s, at, '\x00'), s[:at+1], false)
		}
	}
}

// TestTwo holds all that is told of any two against the library.
func TestTwo(t *testing.T) {
	l := append(texts(4, "\x00a\x80"), rising()...)
	for _, a := range l {
		for _, b := range l {
			checkTwo(t, a, b)
		}
	}
}

func TestTwoMixed(t *testing.T) {
	n := mixed(20000)
	for i := 0; i+1 < len(n); i += 2 {
		a := strconv.FormatUint(n[i], 2)
		b := strconv.FormatUint(n[i+1], 2)
		checkTwo(t, a, b)
		at := int(n[i+1] % uint64(len(a)))
		checkTwo(t, a, with(a, at, byte(n[i])))
		checkTwo(t, a, a[:at]+b)
		checkTwo(t, with(b, int(n[i]%uint64(len(b))), byte(n[i+1])), b)
	}
}

// TestPieces: what stands in the same memory behind a text's end counts for
// nothing.
func TestPieces(t *testing.T) {
	const whole = "abcabd"
	checkTwo(t, whole[:3], whole[3:])
	checkTwo(t, whole[:2], whole[:3])
	checkTwo(t, whole[:2], whole[3:5])
	checkCommon(t, whole[:2], whole[:4], 2)
	checkHas(t, whole[:2], whole[:3], false)
	checkLess(t, whole[:2], whole[:3])
	checkSame(t, whole[:2])
	checkRight(t, "a b"[:1], true)
	checkRight(t, (long(128) + "k")[:128], true)
}

func TestSortedOfFew(t *testing.T) {
	checkSorted(t, nil, true)
	checkSorted(t, []string{}, true)
	checkSorted(t, make([]string, 0, 3), true)
	for _, k := range append(rising(), long(128), long(129), long(1<<20)) {
		checkSorted(t, []string{k}, true)
		checkSorted(t, []string{k, k}, false)
		checkSorted(t, []string{k, strings.Clone(k)}, false)
		checkSorted(t, []string{k, k + "\x00"}, true)
		checkSorted(t, []string{k + "\x00", k}, false)
		checkSorted(t, []string{k, k, k}, false)
	}
	checkSorted(t, []string{"a", "b"}, true)
	checkSorted(t, []string{"b", "a"}, false)
	checkSorted(t, []string{"a", "b", "c"}, true)
	checkSorted(t, []string{"a", "c", "b"}, false)
	checkSorted(t, []string{"b", "a", "c"}, false)
	checkSorted(t, []string{"c", "b", "a"}, false)
	// Greater than the one that is first, but not than the one ahead.
	checkSorted(t, []string{"a", "z", "m"}, false)
	checkSorted(t, []string{"a", "b", "a"}, false)
	checkSorted(t, []string{"a", "b", "a", "b"}, false)
	checkSorted(t, []string{"\x7f", "\x80", "\xff"}, true)
	checkSorted(t, []string{"\x80", "\x7f"}, false)
	checkSorted(t, []string{"10", "2", "9"}, true)
	checkSorted(t, []string{"2", "10"}, false)
}

// TestSortedOfMany: just what rises from end to end is sorted, so any two that
// change places, and any one that is there twice, are found.
func TestSortedOfMany(t *testing.T) {
	l := rising()
	checkSorted(t, l, true)
	for i := range l {
		twice := slices.Insert(slices.Clone(l), i, l[i])
		checkSorted(t, twice, false)
		checkSorted(t, slices.Concat(l, l[i:i+1]), false)
		for j := i + 1; j < len(l); j++ {
			other := slices.Clone(l)
			other[i], other[j] = other[j], other[i]
			checkSorted(t, other, false)
			other[i] = l[i]
			checkSorted(t, other, false)
			other[i], other[j] = l[j], l[j]
			checkSorted(t, other, false)
		}
	}
	slices.Reverse(l)
	checkSorted(t, l, false)
}

// TestPartsOfSorted: of what is sorted each front, each end, what lies between,
// and what is left without it is, too.
func TestPartsOfSorted(t *testing.T) {
	l := rising()
	for i := range len(l) + 1 {
		for j := i; j <= len(l); j++ {
			checkSorted(t, l[i:j], true)
			checkSorted(t, slices.Concat(l[:i], l[j:]), true)
			// The parts the other way round are sorted only if one is none.
			checkSorted(t, slices.Concat(l[j:], l[i:j]), i == j || j == len(l))
		}
	}
}

func TestSortedOfAllFew(t *testing.T) {
	l := texts(2, "\x00a\xff")
	for _, a := range l {
		for _, b := range l {
			for _, c := range l {
				s := []string{a, b, c}
				checkSorted(t, s, wantSorted(s))
				if Sorted(s) != (Less(a, b) && Less(b, c)) {
					t.Errorf("Sorted(%q) is not what Less tells", s)
				}
			}
		}
	}
}

func TestSortedMixed(t *testing.T) {
	n := mixed(4000)
	for i := 0; i+8 < len(n); i += 8 {
		var l []string
		for _, x := range n[i : i+int(n[i]%8)] {
			l = append(l, strconv.FormatUint(x%1000, 10))
		}
		checkSorted(t, l, wantSorted(l))
		slices.Sort(l)
		checkSorted(t, l, wantSorted(l))
		checkSorted(t, slices.Compact(l), true)
	}
}

func TestSortedOfVeryMany(t *testing.T) {
	const many = 100000
	l := make([]string, many)
	for i := range l {
		l[i] = "k" + strconv.Itoa(many+i)
	}
	checkSorted(t, l, true)
	for _, at := range []int{1, many / 2, many - 1} {
		kept := l[at]
		l[at] = l[at-1]
		checkSorted(t, l, false)
		l[at] = kept
	}
	checkSorted(t, l, true)
}

// TestLeavesWhatItIsHanded: the keys of a list are not changed, and neither what
// lies ahead of it nor what lies behind its length is looked at, or changed.
func TestLeavesWhatItIsHanded(t *testing.T) {
	memory := []string{"z", "a", "b", "c", "a", "", "\xff"}
	before := slices.Clone(memory)
	checkSorted(t, memory[1:4], true)
	checkSorted(t, memory[1:1], true)
	checkSorted(t, memory[:1], true)
	checkSorted(t, memory[:2], false)
	checkSorted(t, memory[1:5], false)
	checkSorted(t, memory, false)
	if !slices.Equal(memory, before) {
		t.Errorf("the memory is %q, was %q", memory, before)
	}
	a, b := strings.Clone("api/a"), strings.Clone("api/b")
	checkTwo(t, a, b)
	checkRight(t, a, true)
	if a != "api/a" || b != "api/b" {
		t.Errorf("the keys are %q, %q", a, b)
	}
}

// TestAgain: what is told hangs on nothing that was told.
func TestAgain(t *testing.T) {
	for range 3 {
		checkCommon(t, "api/a", "api/b", 4)
		checkLess(t, "api/a", "api/b")
		checkHas(t, "api/a", "api/", true)
		checkHas(t, "api/a", "api/b", false)
		checkRight(t, "api/a", true)
		checkRight(t, "api a", false)
		checkSorted(t, []string{"api/a", "api/b"}, true)
		checkSorted(t, []string{"api/b", "api/a"}, false)
	}
}

// TestPairs: bytes side by side, as far as both go, and no further than they are
// asked for.
func TestPairs(t *testing.T) {
	rows := []struct{ a, b, want string }{
		{"", "", ""}, {"a", "", ""}, {"", "b", ""}, {"a", "b", "ab"},
		{"ace", "bdf", "abcdef"}, {"ac", "bdf", "abcd"}, {"ace", "bd", "abcd"},
		{"\xff\x00", "\x80\xc3", "\xff\x80\x00\xc3"},
	}
	for _, r := range rows {
		var got []byte
		for x, y := range pairs(r.a, r.b) {
			got = append(got, x, y)
		}
		if string(got) != r.want {
			t.Errorf("pairs(%q, %q) are %q, want %q", r.a, r.b, got, r.want)
		}
	}
	for most := 1; most <= 3; most++ {
		seen := 0
		for range pairs("abc", "abc") {
			seen++
			if seen == most {
				break
			}
		}
		if seen != most {
			t.Errorf("%d pairs, want %d", seen, most)
		}
	}
}
