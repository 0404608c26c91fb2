package words

import (
	"bytes"
	"slices"
	"strings"
	"testing"

	"toller/api"
)

// mixed are n numbers of many lengths, always the same ones.
func mixed(n int) []uint64 {
	out := make([]uint64, n)
	x := uint64(88172645463325252)
	for i := range out {
		x ^= x << 13
		x ^= x >> 7
		x ^= x << 17
		out[i] = x >> (x % 64)
	}
	return out
}

// texts are all of at most so many bytes, of these ones.
func texts(most int, alphabet string) []string {
	out := []string{""}
	from := 0
	for range most {
		to := len(out)
		for _, s := range out[from:to] {
			for i := range len(alphabet) {
				out = append(out, s+alphabet[i:i+1])
			}
		}
		from = to
	}
	return out
}

// one is a text of one byte.
func one(c int) string {
	return string([]byte{byte(c)})
}

// may says whether a byte may be in a text, by bytes that are listed.
func may(c byte) bool {
	const all = " \t\n!\"#$%&'()*+,-./0123456789:;<=>?@" +
		"ABCDEFGHIJKLMNOPQRSTUVWXYZ[\\]^_`abcdefghijklmnopqrstuvwxyz{|}~"
	return strings.IndexByte(all, c) >= 0
}

// w is a word at a place.
func w(text string, line, col int) api.Word {
	return api.Word{Text: text, Line: line, Col: col}
}

// at is a place.
func at(line, col int) api.Place {
	return api.Place{Line: line, Col: col}
}

// same says whether two are of the same words, at the same places.
func same(a, b [][]api.Word) bool {
	return slices.EqualFunc(a, b, slices.Equal[[]api.Word])
}

// deep is a copy that shares no list with what it is of.
func deep(lines [][]api.Word) [][]api.Word {
	var out [][]api.Word
	for _, line := range lines {
		out = append(out, slices.Clone(line))
	}
	return out
}

// wantLine are the words of the n-th line, by cutting off its front.
func wantLine(line string, n int) []api.Word {
	var out []api.Word
	rest := strings.TrimLeft(line, " \t")
	if strings.HasPrefix(rest, "#") {
		return nil
	}
	for rest != "" {
		col := len(line) - len(rest) + 1
		to := strings.IndexAny(rest, " \t")
		if to < 0 {
			to = len(rest)
		}
		out = append(out, w(rest[:to], n, col))
		rest = strings.TrimLeft(rest[to:], " \t")
	}
	return out
}

// wantSplit is the chapter's words on Split, line by line.
func wantSplit(text string) ([][]api.Word, api.Errno, api.Place) {
	if len(text) > 1<<20 {
		return nil, api.ErrLong, at(0, 0)
	}
	var out [][]api.Word
	for i, line := range strings.Split(text, "\n") {
		for j := range len(line) {
			if !may(line[j]) {
				return nil, api.ErrByte, at(i+1, j+1)
			}
		}
		if l := wantLine(line, i+1); len(l) > 0 {
			out = append(out, l)
		}
	}
	return out, api.OK, at(0, 0)
}

// checkSplit: these words, and neither an error nor a place.
func checkSplit(t *testing.T, text string, want ...[]api.Word) {
	t.Helper()
	got, e, p := Split([]byte(text))
	if !same(got, want) || e != api.OK || p != at(0, 0) {
		t.Errorf("Split(%.60q), of %d bytes, = %.200v, %d, %v, want %.200v", text, len(text), got, e, p, want)
	}
}

// checkFault: this error at this place, and no words.
func checkFault(t *testing.T, text string, e api.Errno, p api.Place) {
	t.Helper()
	lines, f, q := Split([]byte(text))
	if len(lines) != 0 || f != e || q != p {
		t.Errorf("Split(%.60q), of %d bytes, = %d lines, %d, %v, want %d, %v", text, len(text), len(lines), f, q, e, p)
	}
}

// checkAll holds all that is told of a text against wantSplit.
func checkAll(t *testing.T, text string) {
	t.Helper()
	got, e, p := Split([]byte(text))
	want, f, q := wantSplit(text)
	if !same(got, want) || e != f || p != q {
		t.Errorf("Split(%.60q), of %d bytes, = %.200v, %d, %v, want %.200v, %d, %v", text, len(text), got, e, p, want, f, q)
	}
}

func checkJoin(t *testing.T, lines [][]string, want string) {
	t.Helper()
	if got := Join(lines); string(got) != want {
		t.Errorf("Join(%.60q) = %.60q, want %.60q", lines, got, want)
	}
}

// checkJoined: what is joined of these is split into these, the n-th ones in
// the n-th line, each behind what stands ahead of it and a blank.
func checkJoined(t *testing.T, lines [][]string) {
	t.Helper()
	var want [][]api.Word
	for i, line := range lines {
		var l []api.Word
		col := 1
		for _, word := range line {
			l = append(l, w(word, i+1, col))
			col += len(word) + 1
		}
		want = append(want, l)
	}
	text := Join(lines)
	got, e, p := Split(text)
	if !same(got, want) || e != api.OK || p != at(0, 0) {
		t.Errorf("Split(Join(%.60q)) = %.200v, %d, %v", lines, got, e, p)
	}
	if again := Join(plainly(got)); !bytes.Equal(again, text) {
		t.Errorf("joined %.60q, split, and joined %.60q", text, again)
	}
}

// plainly are the words without their places.
func plainly(lines [][]api.Word) [][]string {
	var out [][]string
	for _, line := range lines {
		var l []string
		for _, word := range line {
			l = append(l, word.Text)
		}
		out = append(out, l)
	}
	return out
}

func TestExample(t *testing.T) {
	checkSplit(t, "a  b", []api.Word{w("a", 1, 1), w("b", 1, 4)})
}

func TestLimits(t *testing.T) {
	if api.MaxText != 1<<20 || api.ErrByte != 20 || api.ErrLong != 21 {
		t.Fatalf("MaxText %d, ErrByte %d, ErrLong %d", api.MaxText, api.ErrByte, api.ErrLong)
	}
}

// TestSplitOfNoWords: texts in which no line has words.
func TestSplitOfNoWords(t *testing.T) {
	lines, e, p := Split(nil)
	if len(lines) != 0 || e != api.OK || p != at(0, 0) {
		t.Errorf("Split(nil) = %v, %d, %v", lines, e, p)
	}
	for _, text := range []string{
		"", " ", "\t", "  ", "\t\t", " \t", "\t ", strings.Repeat(" \t", 1000),
		"\n", "\n\n", "\n\n\n", strings.Repeat("\n", 1000),
		" \n", "\n ", " \n\t\n ", "\t\n\n\t", "\n \n",
		"#", "#\n", " #", "\t#", " \t #a b\n", "#a", "# a", "##", "# # #", "#\n#\n", "\n#\n\n #b\n",
	} {
		checkSplit(t, text)
	}
}

func TestSplitOfOneWord(t *testing.T) {
	for _, word := range []string{"a", "!", "~", "ab", "api/a", "a#", "a#b", "10.0.0.1:80", "{\"a\":[1]}", strings.Repeat("k", 128), strings.Repeat("k", 5000)} {
		checkSplit(t, word, []api.Word{w(word, 1, 1)})
		checkSplit(t, word+"\n", []api.Word{w(word, 1, 1)})
		checkSplit(t, word+"\n\n", []api.Word{w(word, 1, 1)})
		checkSplit(t, word+"\n ", []api.Word{w(word, 1, 1)})
		checkSplit(t, "\n"+word, []api.Word{w(word, 2, 1)})
		checkSplit(t, "\n\n"+word+"\n", []api.Word{w(word, 3, 1)})
		for _, gap := range []string{" ", "\t", "  ", "\t\t", " \t", "\t ", " \t \t\t "} {
			n := len(gap) + 1
			checkSplit(t, gap+word, []api.Word{w(word, 1, n)})
			checkSplit(t, word+gap, []api.Word{w(word, 1, 1)})
			checkSplit(t, gap+word+gap, []api.Word{w(word, 1, n)})
			checkSplit(t, gap+word+gap+"\n", []api.Word{w(word, 1, n)})
			checkSplit(t, gap+"\n"+gap+word, []api.Word{w(word, 2, n)})
		}
	}
}

// TestSplitByBlanks: blanks of both kinds, any number of them, each of them one
// byte of the line.
func TestSplitByBlanks(t *testing.T) {
	gaps := []string{" ", "\t", "  ", "\t\t", " \t", "\t ", "   ", " \t \t"}
	for _, g := range gaps {
		for _, h := range gaps {
			b, c := len(g)+3, len(g)+len(h)+4
			checkSplit(t, "aa"+g+"b"+h+"ccc", []api.Word{w("aa", 1, 1), w("b", 1, b), w("ccc", 1, c)})
			checkSplit(t, h+"aa"+g+"b"+h+"\n", []api.Word{w("aa", 1, len(h)+1), w("b", 1, len(h)+b)})
		}
	}
	// A blank parts words, and an end of a line does, too.
	checkSplit(t, "ab", []api.Word{w("ab", 1, 1)})
	checkSplit(t, "a b", []api.Word{w("a", 1, 1), w("b", 1, 3)})
	checkSplit(t, "a\tb", []api.Word{w("a", 1, 1), w("b", 1, 3)})
	checkSplit(t, "a\nb", []api.Word{w("a", 1, 1)}, []api.Word{w("b", 2, 1)})
}

// TestSplitByLines: lines that have no words are counted, but not told.
func TestSplitByLines(t *testing.T) {
	checkSplit(t, "a b\nc\n", []api.Word{w("a", 1, 1), w("b", 1, 3)}, []api.Word{w("c", 2, 1)})
	checkSplit(t, "a\n\nb", []api.Word{w("a", 1, 1)}, []api.Word{w("b", 3, 1)})
	checkSplit(t, "a\n \t\n  b", []api.Word{w("a", 1, 1)}, []api.Word{w("b", 3, 3)})
	checkSplit(t, "\n\n\n\n a", []api.Word{w("a", 5, 2)})
	checkSplit(t, "a  b\n# c\n\n d\n", []api.Word{w("a", 1, 1), w("b", 1, 4)}, []api.Word{w("d", 4, 2)})
	checkSplit(t, "# x\n#\n\t# y\na b\n#\nc", []api.Word{w("a", 4, 1), w("b", 4, 3)}, []api.Word{w("c", 6, 1)})
	checkSplit(t, "size 2\n\tdefault 10 5 gcra\n",
		[]api.Word{w("size", 1, 1), w("2", 1, 6)},
		[]api.Word{w("default", 2, 2), w("10", 2, 10), w("5", 2, 13), w("gcra", 2, 15)})
	// Each line counts its bytes anew, whatever the one ahead of it was like.
	for _, ahead := range []string{"", "a", "aaaa", "a ", " a", " ", "\t\t", "#", "# aa", " #", "a #"} {
		text := ahead + "\n b c"
		want := [][]api.Word{{w("b", 2, 2), w("c", 2, 4)}}
		if l := wantLine(ahead, 1); len(l) > 0 {
			want = slices.Insert(want, 0, l)
		}
		checkSplit(t, text, want...)
	}
}

// TestSplitOfManyLines: places far into a text.
func TestSplitOfManyLines(t *testing.T) {
	for _, n := range []int{1, 2, 255, 256, 257, 1<<16 - 1, 1 << 16, 1<<16 + 1, 1<<20 - 1} {
		checkSplit(t, strings.Repeat("\n", n)+"a", []api.Word{w("a", n+1, 1)})
		checkSplit(t, strings.Repeat(" ", n)+"a", []api.Word{w("a", 1, n+1)})
		checkSplit(t, "#"+strings.Repeat("#", n-1)+"\n")
	}
	var want [][]api.Word
	for i := range 1 << 16 {
		want = append(want, []api.Word{w("k", i+1, 1), w("ab", i+1, 4)})
	}
	checkSplit(t, strings.Repeat("k  ab\n", 1<<16), want...)
	var line []api.Word
	for i := range 1 << 19 {
		line = append(line, w("k", 1, 2*i+1))
	}
	checkSplit(t, strings.Repeat("k ", 1<<19), line)
}

// TestHash: a line has no words just if its first word begins with it.
func TestHash(t *testing.T) {
	for _, ahead := range []string{"", " ", "\t", "  \t"} {
		for _, line := range []string{"#", "#a", "##", "#a b", "# a", "# #", "#\ta", "#!~"} {
			checkSplit(t, ahead+line)
			checkSplit(t, ahead+line+"\nb", []api.Word{w("b", 2, 1)})
			checkSplit(t, "a\n"+ahead+line+"\nb c", []api.Word{w("a", 1, 1)}, []api.Word{w("b", 3, 1), w("c", 3, 3)})
		}
	}
	// Inside a word, at its end, and as the first byte of a later one.
	checkSplit(t, "a#", []api.Word{w("a#", 1, 1)})
	checkSplit(t, "a#b", []api.Word{w("a#b", 1, 1)})
	checkSplit(t, "a## b#", []api.Word{w("a##", 1, 1), w("b#", 1, 5)})
	checkSplit(t, "a #", []api.Word{w("a", 1, 1), w("#", 1, 3)})
	checkSplit(t, "a #b c", []api.Word{w("a", 1, 1), w("#b", 1, 3), w("c", 1, 6)})
	checkSplit(t, "a ##\n", []api.Word{w("a", 1, 1), w("##", 1, 3)})
	checkSplit(t, " a\t# #", []api.Word{w("a", 1, 2), w("#", 1, 4), w("#", 1, 6)})
	// Only of its own line, and first in each line anew.
	checkSplit(t, "a #\n# b\n#\nc #", []api.Word{w("a", 1, 1), w("#", 1, 3)}, []api.Word{w("c", 4, 1), w("#", 4, 3)})
	// What looks like it in part: the bytes beside it.
	checkSplit(t, "\" a", []api.Word{w("\"", 1, 1), w("a", 1, 3)})
	checkSplit(t, "$ a", []api.Word{w("$", 1, 1), w("a", 1, 3)})
}

// TestEachByteAlone: a visible one is a word, but for `#`; blanks and an end of
// a line are none; each other one may not be.
func TestEachByteAlone(t *testing.T) {
	for c := range 256 {
		switch {
		case c == ' ' || c == '\t' || c == '\n' || c == '#':
			checkSplit(t, one(c))
		case c >= 0x21 && c <= 0x7e:
			checkSplit(t, one(c), []api.Word{w(one(c), 1, 1)})
		default:
			checkFault(t, one(c), api.ErrByte, at(1, 1))
		}
		if want := c == 9 || c == 10 || c >= 0x20 && c <= 0x7e; may(byte(c)) != want {
			t.Fatalf("the bytes that are listed lack, or have, %x", c)
		}
	}
	for _, c := range []string{"\x00", "\x08", "\x0b", "\x0c", "\x0d", "\x1f", "\x7f", "\x80", "\x89", "\x8a", "\xa0", "\xa1", "\xfe", "\xff"} {
		checkFault(t, c, api.ErrByte, at(1, 1))
	}
}

// TestEachByteAtEachPlace: at the first, at a middle and at the last place of a
// line, inside words, between them, and behind `#`, with lines ahead and behind.
func TestEachByteAtEachPlace(t *testing.T) {
	lines := []struct{ ahead, behind string }{
		{"", ""}, {"", "bc"}, {"b", "c"}, {"bc", ""}, {" ", " "}, {"b ", " c"},
		{"\t", "b"}, {"#", ""}, {"#", "b"}, {"# b", "c"}, {" # ", " b"},
		{"b #", "c"}, {"b#", "#c"}, {"", "#"}, {"", " #"},
	}
	fronts := []string{"", "\n", "k\n", "# k\n", "k kk\n\n", " \n\t#\n", "kkkkkkkkkk\n"}
	backs := []string{"", "\n", "\nk", "\n# k\n"}
	for c := range 256 {
		for _, l := range lines {
			for _, f := range fronts {
				for _, b := range backs {
					text := f + l.ahead + one(c) + l.behind + b
					checkAll(t, text)
					if !may(byte(c)) {
						checkFault(t, text, api.ErrByte, at(strings.Count(f, "\n")+1, len(l.ahead)+1))
					}
				}
			}
		}
	}
}

// TestFirstStray: of several that may not be, the first one is told.
func TestFirstStray(t *testing.T) {
	rows := []struct {
		text      string
		line, col int
	}{
		{"\x00\xff", 1, 1}, {"a\x7f\x80", 1, 2}, {"a \xff b \x00", 1, 3},
		{"\xff\n\x00", 1, 1}, {"a\n b\xff", 2, 3}, {"a\n\x00\xff\n\x01", 2, 1},
		{"a\r\nb\r\n", 1, 2}, {"\n\r\n\r", 2, 1}, {"# \x00\n\xff", 1, 3},
		{"#\n#a\x80b\x80\n", 2, 3}, {" \t\x0b\x0c", 1, 3}, {"a b c\n\n\nd e\x7f", 4, 4},
		{"caf\u00e9", 1, 4}, {"a\u4e16b", 1, 2}, {"\ufeffa", 1, 1}, {"a\u00a0b", 1, 2},
		{"a\n# \u00e9 \x00", 2, 3},
	}
	for _, r := range rows {
		checkFault(t, r.text, api.ErrByte, at(r.line, r.col))
	}
	const n = 100
	clean := strings.Repeat("k", n)
	for i := range n {
		for j := i; j < n; j++ {
			b := []byte(clean)
			b[i], b[j] = 0xff, 0
			checkFault(t, string(b), api.ErrByte, at(1, i+1))
		}
	}
}

// TestAllShort holds all texts of few bytes against the chapter's words.
func TestAllShort(t *testing.T) {
	for _, text := range texts(6, "a# \t\n\r") {
		checkAll(t, text)
	}
	for _, text := range texts(9, "a#\n ") {
		checkAll(t, text)
	}
}

func TestMixed(t *testing.T) {
	const clean = "ab#~! \t\n"
	const some = clean + clean + clean + clean + "\x00\r\x7f\x80\xff"
	n := mixed(60000)
	for i := 0; i+30 < len(n); i += 15 {
		for _, alphabet := range []string{clean, some} {
			var b []byte
			for _, x := range n[i : i+30] {
				b = append(b, alphabet[x%uint64(len(alphabet))])
			}
			checkAll(t, string(b))
		}
	}
}

// TestLong: 2^20 bytes may be; one more may not, whatever they are, for ErrLong
// is named first.
func TestLong(t *testing.T) {
	const most = 1 << 20
	for _, c := range []string{"a", " ", "\t", "\n", "#"} {
		checkAll(t, strings.Repeat(c, most-1))
		checkAll(t, strings.Repeat(c, most))
		for _, more := range []int{1, 2, 1000, most} {
			checkFault(t, strings.Repeat(c, most+more), api.ErrLong, at(0, 0))
		}
	}
	word := strings.Repeat("a", most)
	checkSplit(t, word, []api.Word{w(word, 1, 1)})
	checkSplit(t, word[:most-1]+"\n", []api.Word{w(word[:most-1], 1, 1)})
	checkFault(t, word+"\n", api.ErrLong, at(0, 0))
	for _, stray := range []string{"\x00", "\r", "\x7f", "\x80", "\xff"} {
		checkFault(t, stray+word[1:], api.ErrByte, at(1, 1))
		checkFault(t, word[1:]+stray, api.ErrByte, at(1, most))
		checkFault(t, strings.Repeat("\n", most-1)+stray, api.ErrByte, at(most, 1))
		checkFault(t, strings.Repeat(stray, most), api.ErrByte, at(1, 1))
		checkFault(t, word+stray, api.ErrLong, at(0, 0))
		checkFault(t, stray+word, api.ErrLong, at(0, 0))
		checkFault(t, word[:5]+stray+word, api.ErrLong, at(0, 0))
		checkFault(t, strings.Repeat(stray, most+1), api.ErrLong, at(0, 0))
	}
}

// TestNoWordsBesideAnError: however many there were ahead of it.
func TestNoWordsBesideAnError(t *testing.T) {
	for _, text := range []string{"a b\nc\n\xff", "a\x00", "a b \r\n", "a\n# \x7f", strings.Repeat("a b\n", 1000) + "\x80"} {
		lines, e, _ := Split([]byte(text))
		if len(lines) != 0 || e != api.ErrByte {
			t.Errorf("Split(%.20q) = %d lines, %d", text, len(lines), e)
		}
	}
}

func TestJoin(t *testing.T) {
	rows := []struct {
		lines [][]string
		want  string
	}{
		// No lines, lines of no words, words of no byte.
		{nil, ""}, {[][]string{}, ""}, {make([][]string, 0, 3), ""},
		{[][]string{nil}, "\n"}, {[][]string{{}}, "\n"}, {[][]string{nil, {}, nil}, "\n\n\n"},
		{[][]string{{""}}, "\n"}, {[][]string{{"", ""}}, " \n"}, {[][]string{{"", "a", ""}}, " a \n"},
		{[][]string{{"a", "", "b"}}, "a  b\n"}, {[][]string{{""}, {"", ""}, nil}, "\n \n\n"},
		// One, and many.
		{[][]string{{"a"}}, "a\n"}, {[][]string{{"a", "b"}}, "a b\n"}, {[][]string{{"a"}, {"b"}}, "a\nb\n"},
		{[][]string{{"ab", "c", "def"}, {"g"}, {"h", "i"}}, "ab c def\ng\nh i\n"},
		{[][]string{nil, {"a"}, nil, {"b", "c"}, nil}, "\na\n\nb c\n\n"},
		{[][]string{{"size", "2"}, {"default", "10", "5", "gcra"}}, "size 2\ndefault 10 5 gcra\n"},
		// Whatever the words are: they are not looked at.
		{[][]string{{"#", "a"}}, "# a\n"}, {[][]string{{" ", "a\tb", "\n"}}, "  a\tb \n\n"},
		{[][]string{{"\x00", "\xff"}, {"\u00e9"}}, "\x00 \xff\n\u00e9\n"},
	}
	for _, r := range rows {
		checkJoin(t, r.lines, r.want)
	}
}

func TestJoinOfMany(t *testing.T) {
	const many = 1 << 18
	var lines [][]string
	for range many {
		lines = append(lines, []string{"ab", "c"})
	}
	checkJoin(t, lines, strings.Repeat("ab c\n", many))
	checkJoin(t, [][]string{slices.Repeat([]string{"k"}, many)}, strings.Repeat("k ", many-1)+"k\n")
	// Longer than what may be split.
	long := strings.Repeat("k", 1<<20)
	checkJoin(t, [][]string{{long}}, long+"\n")
	checkFault(t, string(Join([][]string{{long}})), api.ErrLong, at(0, 0))
}

// TestJoinedIsSplit: into the same words, where each line has some, of visible
// bytes, and does not begin with `#`.
func TestJoinedIsSplit(t *testing.T) {
	checkJoined(t, nil)
	checkJoined(t, [][]string{})
	var heads []string
	for c := 0x21; c <= 0x7e; c++ {
		if c != '#' {
			heads = append(heads, one(c), one(c)+"#", one(c)+"~"+one(c))
		}
	}
	for _, head := range heads {
		checkJoined(t, [][]string{{head}})
		for _, word := range []string{"a", "#", "#a", "##", "!", "~", head} {
			checkJoined(t, [][]string{{head, word}})
			checkJoined(t, [][]string{{head, word, head}, {head}})
			checkJoined(t, [][]string{{head}, {"a", word, word}, {head, word}})
		}
	}
	checkJoined(t, [][]string{heads, heads})
	long := strings.Repeat("k", 1<<20-1)
	checkJoined(t, [][]string{{long}})
	checkJoined(t, [][]string{{long[:1<<19-1], long[:1<<19-1]}})
	n := mixed(20000)
	for i := 0; i+10 < len(n); i += 5 {
		var lines [][]string
		for _, x := range n[i : i+int(n[i]%10)] {
			var line []string
			for j := range x%5 + 1 {
				from := (x + 7*j) % uint64(len(heads)-4)
				line = append(line, strings.Join(heads[from:from+1+x%4], ""))
			}
			lines = append(lines, line)
		}
		checkJoined(t, lines)
	}
}

// TestSplitIsJoined: of any text that is split, what is joined of its words is
// split into them, unless a line that has more of them began with `#`: none does.
func TestSplitIsJoined(t *testing.T) {
	for _, text := range texts(6, "ab# \n") {
		lines, e, _ := Split([]byte(text))
		if e != api.OK {
			t.Fatalf("Split(%q): %d", text, e)
		}
		checkJoined(t, plainly(lines))
	}
}

// TestSplitOwnsItsMemory: what is told stays when the text changes, when another
// answer changes, and when one line of it does.
func TestSplitOwnsItsMemory(t *testing.T) {
	text := []byte("a bb\nccc\n# d\ne f g h i\n")
	kept := bytes.Clone(text)
	one, _, _ := Split(text)
	other, _, _ := Split(text)
	want := deep(one)
	if !bytes.Equal(text, kept) {
		t.Fatalf("the text is %q", text)
	}
	for i := range text {
		text[i] = 'z'
	}
	if !same(one, want) || !same(other, want) {
		t.Fatalf("behind the text's change: %v, %v", one, other)
	}
	for i := range one {
		for j := range one[i] {
			one[i][j] = w("x", 9, 9)
		}
		// A list's end is its own, too: what is put behind it is in no other one.
		one[i] = append(one[i], w("y", 8, 8), w("y", 8, 8))
		one[i] = slices.Grow(one[i], 8)
		clear(one[i][len(one[i]):cap(one[i])])
		if !same(one[i+1:], want[i+1:]) {
			t.Errorf("line %d's change is seen in %v", i, one[i+1:])
		}
	}
	one = append(one, nil)
	clear(one[:cap(one)])
	if !same(other, want) {
		t.Errorf("one answer's change is seen in the other one: %v", other)
	}
	checkSplit(t, string(kept), want...)
}

// TestLinesApart: what lies behind each line's length is no other line's.
func TestLinesApart(t *testing.T) {
	var text []byte
	// Short ones behind long ones, too: these may have left room for them.
	for i := range 20 {
		for j := range 6 {
			text = append(text, strings.Repeat("k ", i)+"\n"+strings.Repeat("k ", j)+"\n"...)
		}
	}
	lines, _, _ := Split(text)
	want := deep(lines)
	for i := range lines {
		behind := lines[i][len(lines[i]):cap(lines[i])]
		for j := range behind {
			behind[j] = w("x", 1, 1)
		}
	}
	if !same(lines, want) {
		t.Errorf("lines share memory: %v", lines)
	}
}

func TestJoinOwnsItsMemory(t *testing.T) {
	lines := [][]string{{"a", "bb"}, {}, {"ccc"}}
	one, other := Join(lines), Join(lines)
	lines[0][0], lines[2] = "z", nil
	if string(one) != "a bb\n\nccc\n" {
		t.Errorf("behind the list's change: %q", one)
	}
	one = one[:cap(one)]
	for i := range one {
		one[i] = 'x'
	}
	if string(other) != "a bb\n\nccc\n" {
		t.Errorf("one answer's change is seen in the other one: %q", other)
	}
	checkJoin(t, [][]string{{"a", "bb"}, {}, {"ccc"}}, "a bb\n\nccc\n")
}

// TestSplitLeavesWhatItIsHanded: the text is not changed, and what lies ahead of
// it or behind its length is neither looked at nor changed.
func TestSplitLeavesWhatItIsHanded(t *testing.T) {
	memory := []byte("\xffa bc\nd\xff\x00 e")
	kept := bytes.Clone(memory)
	rows := []struct {
		from, to int
		want     [][]api.Word
	}{
		{1, 1, nil}, {1, 2, [][]api.Word{{w("a", 1, 1)}}}, {1, 3, [][]api.Word{{w("a", 1, 1)}}},
		{1, 4, [][]api.Word{{w("a", 1, 1), w("b", 1, 3)}}}, {1, 5, [][]api.Word{{w("a", 1, 1), w("bc", 1, 3)}}},
		{1, 7, [][]api.Word{{w("a", 1, 1), w("bc", 1, 3)}, {w("d", 2, 1)}}}, {4, 5, [][]api.Word{{w("c", 1, 1)}}},
		{5, 7, [][]api.Word{{w("d", 2, 1)}}}, {9, 11, [][]api.Word{{w("e", 1, 2)}}},
	}
	for _, r := range rows {
		got, e, p := Split(memory[r.from:r.to])
		if !same(got, r.want) || e != api.OK || p != at(0, 0) {
			t.Errorf("Split(%q) = %v, %d, %v", memory[r.from:r.to], got, e, p)
		}
	}
	if _, e, p := Split(memory[1:8]); e != api.ErrByte || p != at(2, 2) {
		t.Errorf("Split(%q): %d, %v", memory[1:8], e, p)
	}
	long := bytes.Repeat([]byte{' '}, 1<<20+1)
	if _, e, _ := Split(long[:1<<20]); e != api.OK {
		t.Errorf("2^20 bytes of more: %d", e)
	}
	if !bytes.Equal(memory, kept) {
		t.Errorf("the memory is %q", memory)
	}
}

func TestJoinLeavesWhatItIsHanded(t *testing.T) {
	words := []string{"a", "b", "c", "d"}
	lines := [][]string{words[:2], words[2:3], words}
	checkJoin(t, lines, "a b\nc\na b c d\n")
	checkJoin(t, lines[:2], "a b\nc\n")
	checkJoin(t, lines[:0], "")
	checkJoin(t, lines[1:2], "c\n")
	checkJoin(t, [][]string{words[:0]}, "\n")
	if !slices.Equal(words, []string{"a", "b", "c", "d"}) || len(lines) != 3 || len(lines[0]) != 2 || len(lines[1]) != 1 || len(lines[2]) != 4 {
		t.Errorf("the lists are %q, %q", words, lines)
	}
}

// TestAgain: what is told hangs on nothing that was told.
func TestAgain(t *testing.T) {
	for range 3 {
		checkSplit(t, "a  b", []api.Word{w("a", 1, 1), w("b", 1, 4)})
		checkFault(t, "a\n b\xff", api.ErrByte, at(2, 3))
		checkSplit(t, "# c")
		checkFault(t, strings.Repeat("\xff", 1<<20+1), api.ErrLong, at(0, 0))
		checkJoin(t, [][]string{{"a", "b"}}, "a b\n")
	}
}

// TestKindOf: each byte is of one kind, and of no byte it is told that the text
// is at its end.
func TestKindOf(t *testing.T) {
	for c := range 256 {
		want := stray
		switch {
		case c == 0x20 || c == 0x09:
			want = blank
		case c == 0x0a:
			want = turn
		case c == 0x23:
			want = hash
		case c >= 0x21 && c <= 0x7e:
			want = plain
		}
		if got := kindOf(byte(c)); got != want {
			t.Errorf("kindOf(%x) = %d, want %d", c, got, want)
		}
	}
}

// TestWalk: a place goes on by bytes, and down by lines.
func TestWalk(t *testing.T) {
	k := walk{text: []byte("ab\n\nc"), at: complex(1, 1)}
	rows := []struct {
		met  kind
		at   complex128
		step func()
	}{
		{plain, 1 + 1i, k.on}, {plain, 1 + 2i, k.on}, {turn, 1 + 3i, k.down},
		{turn, 2 + 1i, k.down}, {plain, 3 + 1i, k.on}, {nothing, 3 + 2i, nil},
	}
	for _, r := range rows {
		if got, p := k.met(), k.place(); got != r.met || k.at != r.at || p != at(int(real(r.at)), int(imag(r.at))) {
			t.Fatalf("met %d at %v, %v, want %d at %v", got, k.at, p, r.met, r.at)
		}
		if r.step != nil {
			r.step()
		}
	}
}
