package rule

import (
	"fmt"
	"math/big"
	"slices"
	"strconv"
	"strings"
	"testing"
	"unsafe"

	"toller/api"
)

const (
	end    = 1<<64 - 1
	maxCap = 1 << 62
)

// mixed are n numbers of many lengths, always the same ones.
func mixed(n int) []uint64 {
	out := make([]uint64, n)
	x := uint64(88172645463325252)
	for i := range out {
		x ^= x << 13
		x ^= x >> 7
		x ^= x << 17
		out[i] = x >> (x % 64)
	}
	return out
}

// long is a text of so many bytes.
func long(n int) string {
	return strings.Repeat("k", n)
}

// of is a rule.
func of(prefix string, every, burst uint64, kind uint8) api.Rule {
	return api.Rule{Prefix: prefix, Every: every, Burst: burst, Kind: kind}
}

// show is a rule as a message tells it, whatever bytes its prefix has.
func show(r api.Rule) string {
	return fmt.Sprintf("{%.40q %d %d %d}", r.Prefix, r.Every, r.Burst, r.Kind)
}

// line are the words of a text.
func line(text string) []string {
	return strings.Fields(text)
}

// prefixes are some that are right, and some that are not.
func prefixes() []string {
	return []string{
		"", "a", "!", "~", "api/", "default", "rule", "#", "0", long(127), long(128),
		" ", "\x7f", "a ", " a", "a b", "a\tb", "a\n", "\x00", "\x80", "\xff", "caf\u00e9", long(129), long(5000),
	}
}

// pairs are of an Every and a Burst each: of 0, 1 and the end, on both sides of
// the greatest cap, and such as go round at 64 bits.
func pairs() [][2]uint64 {
	return [][2]uint64{
		{0, 0}, {0, 1}, {1, 0}, {0, end}, {end, 0}, {0, maxCap}, {maxCap, 0},
		{1, 1}, {1, 2}, {2, 1}, {10, 5}, {500, 20}, {api.Second, 1000},
		{1, maxCap - 1}, {1, maxCap}, {1, maxCap + 1}, {maxCap - 1, 1}, {maxCap, 1}, {maxCap + 1, 1},
		{2, maxCap / 2}, {maxCap / 2, 2}, {2, maxCap/2 + 1}, {maxCap/2 + 1, 2},
		{3, maxCap / 3}, {3, maxCap/3 + 1}, {maxCap / 3, 3}, {maxCap/3 + 1, 3},
		{1 << 31, 1 << 31}, {1 << 31, 1<<31 + 1}, {1<<31 + 1, 1 << 31}, {1<<31 - 1, 1<<31 + 1},
		// More than 2^63, so as a number with a sign it would be less than 0.
		{2, maxCap}, {maxCap, 2}, {2, maxCap + 1}, {3, maxCap}, {1, end}, {end, 1}, {1, 1 << 63}, {1 << 63, 1},
		// Just 2^64, which goes round to 0, and what goes round to 1, to 2 and to 2^62.
		{1 << 32, 1 << 32}, {2, 1 << 63}, {1 << 63, 2}, {4, maxCap}, {1 << 33, 1 << 31}, {1 << 63, 1 << 63},
		{end, end}, {3, 12297829382473034411}, {3, 6148914691236517206}, {6148914691236517206, 3},
		{5, maxCap}, {maxCap, 5}, {2, end}, {end, 2}, {1 << 62, 1 << 62},
	}
}

// listed says whether all bytes are among these, and whether they are not too
// many and not too few.
func listed(prefix string) bool {
	const visible = "!\"#$%&'()*+,-./0123456789:;<=>?@" +
		"ABCDEFGHIJKLMNOPQRSTUVWXYZ[\\]^_`abcdefghijklmnopqrstuvwxyz{|}~"
	for i := range len(prefix) {
		if strings.IndexByte(visible, prefix[i]) < 0 {
			return false
		}
	}
	return len(prefix) >= 1 && len(prefix) <= 128
}

// over says whether two are more than the greatest cap, by big numbers.
func over(every, burst uint64) bool {
	p := new(big.Int).SetUint64(every)
	p.Mul(p, new(big.Int).SetUint64(burst))
	return p.Cmp(new(big.Int).Lsh(big.NewInt(1), 62)) > 0
}

// wantRight is the chapter's words on Right.
func wantRight(r api.Rule) api.Errno {
	switch {
	case r.Prefix != "" && !listed(r.Prefix):
		return 23
	case r.Every == 0:
		return 24
	case r.Burst == 0:
		return 25
	case over(r.Every, r.Burst):
		return 26
	case r.Kind != 1 && r.Kind != 2 && r.Kind != 3:
		return 27
	}
	return 0
}

// wantNumber is chapter 3's words on Parse, by big numbers.
func wantNumber(word string) (uint64, api.Errno) {
	if word == "" || strings.Trim(word, "0123456789") != "" || word[0] == '0' && word != "0" {
		return 0, 10
	}
	n, _ := new(big.Int).SetString(word, 10)
	if !n.IsUint64() {
		return 0, 11
	}
	return n.Uint64(), 0
}

// wantNumbers are the chapter's words on Every and Burst, the first of which
// is the at-th word.
func wantNumbers(every, burst string, at int) (uint64, uint64, api.Errno, int) {
	n, e := wantNumber(every)
	if e == 0 && n == 0 {
		e = 24
	}
	if e != 0 {
		return 0, 0, e, at
	}
	m, e := wantNumber(burst)
	if e == 0 && m == 0 {
		e = 25
	}
	if e == 0 && over(n, m) {
		e = 26
	}
	if e != 0 {
		return 0, 0, e, at + 1
	}
	return n, m, 0, 0
}

// wantParse is the chapter's words on Parse.
func wantParse(line []string) (api.Rule, api.Errno, int) {
	var prefix string
	var rest []string
	switch {
	case len(line) == 4 && line[0] == "default":
		rest = line[1:]
	case len(line) == 5 && line[0] == "rule":
		prefix, rest = line[1], line[2:]
		if !listed(prefix) {
			return api.Rule{}, 23, 1
		}
	default:
		return api.Rule{}, 22, 0
	}
	every, burst, e, at := wantNumbers(rest[0], rest[1], len(line)-3)
	if e != 0 {
		return api.Rule{}, e, at
	}
	kind := slices.Index([]string{"", "gcra", "bucket", "leaky"}, rest[2])
	if kind < 1 {
		return api.Rule{}, 27, len(line) - 1
	}
	return of(prefix, every, burst, uint8(kind)), 0, 0
}

// checkRight: this is wrong with a rule; Cap and Print tell the same.
func checkRight(t *testing.T, r api.Rule, want api.Errno) {
	t.Helper()
	if got := Right(r); got != want {
		t.Errorf("Right(%s), its prefix of %d bytes, = %d, want %d", show(r), len(r.Prefix), got, want)
	}
	cap, words := Cap(r), Print(r)
	if want != 0 && (cap != 0 || len(words) != 0) {
		t.Errorf("%s, which has the error %d, has the cap %d and the words %.40q", show(r), want, cap, words)
	}
	if want == 0 && (cap != r.Every*r.Burst || len(words) == 0) {
		t.Errorf("%s has the cap %d and the words %.40q", show(r), cap, words)
	}
}

func checkCap(t *testing.T, r api.Rule, want uint64) {
	t.Helper()
	if got := Cap(r); got != want {
		t.Errorf("Cap(%s) = %d, want %d", show(r), got, want)
	}
}

func checkKind(t *testing.T, name string, want uint8, is bool) {
	t.Helper()
	if got, ok := Kind(name); got != want || ok != is {
		t.Errorf("Kind(%.40q) = %d, %v, want %d, %v", name, got, ok, want, is)
	}
}

// checkParse: a line is of this rule, and has no error at no word.
func checkParse(t *testing.T, line []string, want api.Rule) {
	t.Helper()
	if r, e, at := Parse(line); r != want || e != 0 || at != 0 {
		t.Errorf("Parse(%.40q) = %s, %d, %d, want %s", line, show(r), e, at, show(want))
	}
}

// checkFault: this error of this word, and a rule of noughts.
func checkFault(t *testing.T, line []string, want api.Errno, word int) {
	t.Helper()
	if r, e, at := Parse(line); r != (api.Rule{}) || e != want || at != word {
		t.Errorf("Parse(%.40q), of %d words, = %s, %d, %d, want %d, %d", line[:min(len(line), 9)], len(line), show(r), e, at, want, word)
	}
}

// checkAll holds what is told of a line against wantParse, and what is read
// against what is printed of it.
func checkAll(t *testing.T, line []string) {
	t.Helper()
	was := slices.Clone(line)
	r, e, at := Parse(line)
	want, f, word := wantParse(line)
	if r != want || e != f || at != word {
		t.Errorf("Parse(%.40q) = %s, %d, %d, want %s, %d, %d", line, show(r), e, at, show(want), f, word)
	}
	if !slices.Equal(line, was) {
		t.Errorf("Parse(%.40q) has made it %.40q", was, line)
	}
	if e != 0 {
		return
	}
	checkRight(t, r, 0)
	checkPrint(t, r, line...)
}

func checkPrint(t *testing.T, r api.Rule, want ...string) {
	t.Helper()
	if got := Print(r); !slices.Equal(got, want) {
		t.Errorf("Print(%s) = %.40q, want %.40q", show(r), got, want)
	}
}

// checkPrinted: what is printed is read as the rule that it was.
func checkPrinted(t *testing.T, r api.Rule) {
	t.Helper()
	words := Print(r)
	if wantRight(r) != 0 {
		if len(words) != 0 {
			t.Errorf("Print(%s), which is not right, = %.40q", show(r), words)
		}
		return
	}
	if _, e, _ := wantParse(words); e != 0 {
		t.Errorf("Print(%s) = %.40q, which has the error %d", show(r), words, e)
	}
	checkParse(t, words, r)
}

func TestExample(t *testing.T) {
	checkFault(t, line("rule api/ 500 0 leaky"), api.ErrBurst, 3)
	checkParse(t, line("rule api/ 500 20 leaky"), of("api/", 500, 20, api.Leaky))
	checkParse(t, line("default 10 5 gcra"), of("", 10, 5, api.Gcra))
}

func TestNumbersOfApi(t *testing.T) {
	if api.MaxCap != maxCap || api.MaxKey != 128 || api.Gcra != 1 || api.Bucket != 2 || api.Leaky != 3 {
		t.Error("the limits and the kinds")
	}
	got := []api.Errno{api.OK, api.ErrDigit, api.ErrBig, api.ErrWord, api.ErrPrefix, api.ErrEvery, api.ErrBurst, api.ErrCap, api.ErrKind}
	if !slices.Equal(got, []api.Errno{0, 10, 11, 22, 23, 24, 25, 26, 27}) {
		t.Errorf("the errors are %d", got)
	}
}

func TestRight(t *testing.T) {
	for kind := uint8(1); kind <= 3; kind++ {
		for _, p := range []string{"", "a", "api/", "!", "~", long(127), long(128)} {
			checkRight(t, of(p, 1, 1, kind), 0)
			checkRight(t, of(p, 500, 20, kind), 0)
			checkRight(t, of(p, 1, maxCap, kind), 0)
			checkRight(t, of(p, maxCap, 1, kind), 0)
			checkRight(t, of(p, 1<<31, 1<<31, kind), 0)
		}
	}
}

func TestRightOfOneError(t *testing.T) {
	checkRight(t, of(" ", 10, 5, 1), api.ErrPrefix)
	checkRight(t, of("a", 0, 5, 1), api.ErrEvery)
	checkRight(t, of("a", 10, 0, 1), api.ErrBurst)
	checkRight(t, of("a", 2, maxCap, 1), api.ErrCap)
	checkRight(t, of("a", 10, 5, 4), api.ErrKind)
	checkRight(t, api.Rule{}, api.ErrEvery)
}

// TestRightOfTwoErrors: the one that the chapter names first. (An Every or a
// Burst of 0 makes a product of 0, which is not above the cap.)
func TestRightOfTwoErrors(t *testing.T) {
	checkRight(t, of(" ", 0, 5, 1), api.ErrPrefix)
	checkRight(t, of(" ", 10, 0, 1), api.ErrPrefix)
	checkRight(t, of(" ", 2, maxCap, 1), api.ErrPrefix)
	checkRight(t, of(" ", 10, 5, 4), api.ErrPrefix)
	checkRight(t, of("a", 0, 0, 1), api.ErrEvery)
	checkRight(t, of("a", 0, end, 1), api.ErrEvery)
	checkRight(t, of("a", 0, 5, 4), api.ErrEvery)
	checkRight(t, of("a", 10, 0, 4), api.ErrBurst)
	checkRight(t, of("a", end, 0, 1), api.ErrBurst)
	checkRight(t, of("a", 2, maxCap, 4), api.ErrCap)
	// More than two.
	checkRight(t, of(" ", 0, 0, 0), api.ErrPrefix)
	checkRight(t, of("", 0, 0, 0), api.ErrEvery)
	checkRight(t, of("", end, 0, 0), api.ErrBurst)
	checkRight(t, of("", end, end, 0), api.ErrCap)
}

func TestRightOfPrefixes(t *testing.T) {
	checkRight(t, of(long(128), 10, 5, 1), 0)
	checkRight(t, of(long(129), 10, 5, 1), api.ErrPrefix)
	checkRight(t, of(long(1<<20), 10, 5, 1), api.ErrPrefix)
	for _, p := range []string{"\x21", "\x7e", "a\x21", "\x7ea", "a\x21\x7eb", strings.Repeat("\x7e", 128)} {
		checkRight(t, of(p, 10, 5, 1), 0)
	}
	for _, p := range []string{"\x20", "\x7f", "\x80", "\xff", "a\x20", "\x7fa", "a\x80b", "\x00", "\u00e9", long(127) + "\x20", "\xff" + long(127)} {
		checkRight(t, of(p, 10, 5, 1), api.ErrPrefix)
	}
}

// TestEachByteOfAPrefix: alone, and at the first, a middle and the last place.
func TestEachByteOfAPrefix(t *testing.T) {
	for c := range 256 {
		one := string([]byte{byte(c)})
		want := api.OK
		if c < 0x21 || c > 0x7e {
			want = api.ErrPrefix
		}
		for _, p := range []string{one, one + "a", "a" + one, "a" + one + "b", one + long(127), long(127) + one, long(64) + one + long(63)} {
			r := of(p, 10, 5, 2)
			checkRight(t, r, want)
			checkPrinted(t, r)
			words := []string{"rule", p, "10", "5", "bucket"}
			if want == api.OK {
				checkParse(t, words, r)
			} else {
				checkFault(t, words, want, 1)
			}
		}
	}
}

func TestRightOfNumbers(t *testing.T) {
	checkRight(t, of("", 0, 1, 1), api.ErrEvery)
	checkRight(t, of("", 1, 0, 1), api.ErrBurst)
	checkRight(t, of("", 1, 1, 1), 0)
	checkRight(t, of("", 0, end, 1), api.ErrEvery)
	checkRight(t, of("", end, 0, 1), api.ErrBurst)
	checkRight(t, of("", 1, end, 1), api.ErrCap)
	checkRight(t, of("", end, 1, 1), api.ErrCap)
	checkRight(t, of("", end, end, 1), api.ErrCap)
	checkRight(t, of("", maxCap, 1, 1), 0)
	checkRight(t, of("", 1, maxCap, 1), 0)
	checkRight(t, of("", maxCap+1, 1, 1), api.ErrCap)
	checkRight(t, of("", 1, maxCap+1, 1), api.ErrCap)
	// 2^62 and one more, of two greater numbers: 2^62 + 1 is 5 times the other.
	checkRight(t, of("", 1<<31, 1<<31, 1), 0)
	checkRight(t, of("", 5, 922337203685477581, 1), api.ErrCap)
	checkRight(t, of("", 922337203685477581, 5, 1), api.ErrCap)
	checkRight(t, of("", 5, 922337203685477580, 1), 0)
	// These go round to 0, to 1, to 2 and to 2^62.
	checkRight(t, of("", 1<<32, 1<<32, 1), api.ErrCap)
	checkRight(t, of("", 1<<63, 2, 1), api.ErrCap)
	checkRight(t, of("", 4, maxCap, 1), api.ErrCap)
	checkRight(t, of("", 3, 12297829382473034411, 1), api.ErrCap)
	checkRight(t, of("", 3, 6148914691236517206, 1), api.ErrCap)
	checkRight(t, of("", 5, maxCap, 1), api.ErrCap)
}

func TestRightOfKinds(t *testing.T) {
	for kind := range 256 {
		want := api.ErrKind
		if kind == 1 || kind == 2 || kind == 3 {
			want = api.OK
		}
		checkRight(t, of("", 10, 5, uint8(kind)), want)
		checkRight(t, of("a", maxCap, 1, uint8(kind)), want)
	}
}

// TestRightOfAll: each prefix with each two numbers and with some kinds.
func TestRightOfAll(t *testing.T) {
	for _, p := range prefixes() {
		for _, n := range pairs() {
			for _, kind := range []uint8{0, 1, 2, 3, 4, 255} {
				r := of(p, n[0], n[1], kind)
				checkRight(t, r, wantRight(r))
				checkPrinted(t, r)
			}
		}
	}
}

func TestRightOfMixed(t *testing.T) {
	n := mixed(30000)
	for i := 0; i+3 <= len(n); i += 3 {
		r := of("", n[i], n[i+1], uint8(n[i+2]%5))
		checkRight(t, r, wantRight(r))
		checkPrinted(t, r)
		if n[i] == 0 {
			continue
		}
		// The greatest burst that may be, and one more.
		most := maxCap / n[i]
		for _, burst := range []uint64{most, most + 1} {
			r := of("k", n[i], burst, uint8(n[i+2]%3+1))
			checkRight(t, r, wantRight(r))
			checkPrinted(t, r)
		}
	}
}

func TestCap(t *testing.T) {
	checkCap(t, of("", 1, 1, 1), 1)
	checkCap(t, of("", 10, 5, 1), 50)
	checkCap(t, of("api/", 500, 20, 2), 10000)
	checkCap(t, of(long(128), 3, 7, 3), 21)
	checkCap(t, of("", maxCap, 1, 1), maxCap)
	checkCap(t, of("", 1, maxCap, 2), maxCap)
	checkCap(t, of("", 1<<31, 1<<31, 3), maxCap)
	checkCap(t, of("", 5, 922337203685477580, 3), maxCap-4)
	for _, r := range []api.Rule{
		{}, of(" ", 10, 5, 1), of(long(129), 10, 5, 1), of("", 0, 5, 1), of("", 10, 0, 1),
		of("", maxCap+1, 1, 1), of("", 1, end, 1), of("", end, end, 1), of("", 3, 6148914691236517206, 1),
		of("", 10, 5, 0), of("", 10, 5, 4), of("", 10, 5, 255),
	} {
		checkCap(t, r, 0)
	}
}

func TestKind(t *testing.T) {
	checkKind(t, "gcra", 1, true)
	checkKind(t, "bucket", 2, true)
	checkKind(t, "leaky", 3, true)
	checkKind(t, "", 0, false)
	for _, name := range []string{"gcra", "bucket", "leaky"} {
		for i := range len(name) {
			// A byte less, in another case, and another one.
			checkKind(t, name[:i]+name[i+1:], 0, false)
			checkKind(t, name[:i]+strings.ToUpper(name[i:i+1])+name[i+1:], 0, false)
			checkKind(t, name[:i]+"\x00"+name[i+1:], 0, false)
			checkKind(t, name[:i], 0, false)
		}
		for i := range len(name) + 1 {
			for _, more := range []string{" ", "a", "s", "\x00", "\n", "\xff"} {
				checkKind(t, name[:i]+more+name[i:], 0, false)
			}
		}
		checkKind(t, strings.ToUpper(name), 0, false)
		checkKind(t, name+name, 0, false)
	}
	for _, name := range []string{"0", "1", "2", "3", "default", "rule", "gcrabucket", "token", " ", "\x00", long(1 << 20)} {
		checkKind(t, name, 0, false)
	}
}

func TestName(t *testing.T) {
	want := map[uint8]string{1: "gcra", 2: "bucket", 3: "leaky"}
	for kind := range 256 {
		if got := Name(uint8(kind)); got != want[uint8(kind)] {
			t.Errorf("Name(%d) = %q", kind, got)
		}
	}
}

// TestNamesAndKinds: each is the other's way back.
func TestNamesAndKinds(t *testing.T) {
	for kind := range 256 {
		name := Name(uint8(kind))
		if name == "" {
			checkRight(t, of("", 10, 5, uint8(kind)), api.ErrKind)
			continue
		}
		checkKind(t, name, uint8(kind), true)
		checkRight(t, of("", 10, 5, uint8(kind)), 0)
	}
	for _, name := range []string{"gcra", "bucket", "leaky"} {
		kind, is := Kind(name)
		if got := Name(kind); !is || got != name {
			t.Errorf("Name(Kind(%q)) = %q", name, got)
		}
	}
}

func TestParse(t *testing.T) {
	checkParse(t, line("default 1 1 gcra"), of("", 1, 1, 1))
	checkParse(t, line("default 10 5 bucket"), of("", 10, 5, 2))
	checkParse(t, line("default 1000000000 60 leaky"), of("", api.Second, 60, 3))
	checkParse(t, line("default 4611686018427387904 1 gcra"), of("", maxCap, 1, 1))
	checkParse(t, line("default 1 4611686018427387904 gcra"), of("", 1, maxCap, 1))
	checkParse(t, line("rule a 1 2 gcra"), of("a", 1, 2, 1))
	checkParse(t, line("rule api/ 500 20 bucket"), of("api/", 500, 20, 2))
	checkParse(t, line("rule ~! 3 7 leaky"), of("~!", 3, 7, 3))
	checkParse(t, []string{"rule", long(128), "3", "7", "leaky"}, of(long(128), 3, 7, 3))
	// What are words of other places may be a prefix.
	for _, p := range []string{"rule", "default", "gcra", "0", "7", "#", "size"} {
		checkParse(t, []string{"rule", p, "3", "7", "leaky"}, of(p, 3, 7, 3))
	}
}

// TestParseOfNoLine: by its first word, or by how many it has, it is none.
func TestParseOfNoLine(t *testing.T) {
	checkFault(t, nil, api.ErrWord, 0)
	checkFault(t, []string{}, api.ErrWord, 0)
	for n := range 12 {
		words := line("a 10 5 gcra 10 5 gcra 10 5 gcra a b c")[:n]
		numbers := line("10 5 gcra gcra gcra gcra 10 5 gcra a b c")[:n]
		for _, behind := range [][]string{words, numbers, make([]string, n)} {
			if n != 4 {
				checkFault(t, append([]string{"rule"}, behind...), api.ErrWord, 0)
			}
			if n != 3 {
				checkFault(t, append([]string{"default"}, behind...), api.ErrWord, 0)
			}
			for _, first := range []string{
				"", "size", "Rule", "RULE", "Default", "DEFAULT", "rul", "rules", "ule", "defaul", "defaults", "efault",
				" rule", "rule ", "rule\x00", "default\n", "rule a", "a", "10", "gcra", "#", "#rule", "\xff", long(1 << 10),
			} {
				checkFault(t, append([]string{first}, behind...), api.ErrWord, 0)
			}
		}
	}
	checkFault(t, line("default a 10 5 gcra"), api.ErrWord, 0)
	checkFault(t, line("rule 10 5 gcra"), api.ErrWord, 0)
	// Whatever else is wrong.
	checkFault(t, []string{"default", "", "", "", ""}, api.ErrWord, 0)
	checkFault(t, []string{"rule", "", "0", "0"}, api.ErrWord, 0)
	checkFault(t, []string{"rules", "", "0", "0", ""}, api.ErrWord, 0)
	checkFault(t, make([]string, 1<<16), api.ErrWord, 0)
}

// TestParseOfOneError: each error at each word at which it may be.
func TestParseOfOneError(t *testing.T) {
	for _, p := range []string{"", " ", "a b", "\x00", "\x7f", "\x80", "\u00e9", "a\n", long(129), long(1 << 20)} {
		checkFault(t, []string{"rule", p, "10", "5", "gcra"}, api.ErrPrefix, 1)
	}
	for word, e := range map[string]api.Errno{
		"": 10, "00": 10, "01": 10, "010": 10, "x": 10, "1x": 10, "x1": 10, "1 ": 10, " 1": 10, "+1": 10, "-1": 10, "1_0": 10,
		"0x1": 10, "1e3": 10, "1.0": 10, "\x00": 10, "\xff": 10, "\u0661": 10, "/": 10, ":": 10, "gcra": 10, "018446744073709551616": 10,
		"99999999999999999999999x": 10, "18446744073709551616": 11, "18446744073709551617": 11, "99999999999999999999": 11,
		"36893488147419103232": 11, "100000000000000000000": 11, strings.Repeat("9", 1<<16): 11,
	} {
		checkFault(t, []string{"rule", "a", word, "5", "gcra"}, e, 2)
		checkFault(t, []string{"default", word, "5", "gcra"}, e, 1)
		checkFault(t, []string{"rule", "a", "10", word, "gcra"}, e, 3)
		checkFault(t, []string{"default", "10", word, "gcra"}, e, 2)
	}
	checkFault(t, line("rule a 0 5 gcra"), api.ErrEvery, 2)
	checkFault(t, line("default 0 5 gcra"), api.ErrEvery, 1)
	checkFault(t, line("rule a 10 0 gcra"), api.ErrBurst, 3)
	checkFault(t, line("default 10 0 gcra"), api.ErrBurst, 2)
	for _, name := range []string{"", "Gcra", "GCRA", "gcr", "cra", "gcraa", "gcra ", "bucke", "buckets", "leak", "Leaky", "1", "4", "rule", "\x00", long(1 << 16)} {
		checkFault(t, []string{"rule", "a", "10", "5", name}, api.ErrKind, 4)
		checkFault(t, []string{"default", "10", "5", name}, api.ErrKind, 3)
	}
}

// TestParseOfCaps: what is too great is so at the burst, even if it is so by
// the every.
func TestParseOfCaps(t *testing.T) {
	for _, text := range []string{
		"2 4611686018427387904", "4611686018427387904 2", "1 4611686018427387905", "4611686018427387905 1",
		"18446744073709551615 1", "1 18446744073709551615", "18446744073709551615 18446744073709551615",
		"4294967296 4294967296", "9223372036854775808 2", "3 6148914691236517206", "5 4611686018427387904", "5 922337203685477581",
	} {
		checkFault(t, line("default "+text+" gcra"), api.ErrCap, 2)
		checkFault(t, line("rule a "+text+" gcra"), api.ErrCap, 3)
		// Ahead of what is wrong behind it.
		checkFault(t, line("default "+text+" x"), api.ErrCap, 2)
		checkFault(t, line("rule a "+text+" x"), api.ErrCap, 3)
	}
	for _, text := range []string{"0", "x", "18446744073709551616"} {
		want := map[string]api.Errno{"0": api.ErrBurst, "x": api.ErrDigit, "18446744073709551616": api.ErrBig}[text]
		checkFault(t, line("default 18446744073709551615 "+text+" gcra"), want, 2)
		checkFault(t, line("rule a 18446744073709551615 "+text+" gcra"), want, 3)
	}
}

// TestParseOfTwoErrors: the first word's is told.
func TestParseOfTwoErrors(t *testing.T) {
	rows := []struct {
		text string
		e    api.Errno
		at   int
	}{
		{"rule \x7f x 5 gcra", api.ErrPrefix, 1}, {"rule \x7f 18446744073709551616 5 gcra", api.ErrPrefix, 1},
		{"rule \x7f 0 5 gcra", api.ErrPrefix, 1}, {"rule \x7f 10 x gcra", api.ErrPrefix, 1},
		{"rule \x7f 10 0 gcra", api.ErrPrefix, 1}, {"rule \x7f 10 5 x", api.ErrPrefix, 1},
		{"rule \x7f 2 4611686018427387904 gcra", api.ErrPrefix, 1},
		{"rule a x y gcra", api.ErrDigit, 2}, {"rule a x 18446744073709551616 gcra", api.ErrDigit, 2},
		{"rule a 18446744073709551616 x gcra", api.ErrBig, 2}, {"rule a 18446744073709551616 0 gcra", api.ErrBig, 2},
		{"rule a 0 x gcra", api.ErrEvery, 2}, {"rule a 0 0 gcra", api.ErrEvery, 2}, {"rule a 0 18446744073709551615 gcra", api.ErrEvery, 2},
		{"rule a 0 5 x", api.ErrEvery, 2}, {"rule a x 5 x", api.ErrDigit, 2},
		{"rule a 10 x x", api.ErrDigit, 3}, {"rule a 10 18446744073709551616 x", api.ErrBig, 3}, {"rule a 10 0 x", api.ErrBurst, 3},
		{"default x y gcra", api.ErrDigit, 1}, {"default 0 x gcra", api.ErrEvery, 1}, {"default 0 0 gcra", api.ErrEvery, 1},
		{"default 18446744073709551616 0 x", api.ErrBig, 1}, {"default 0 5 x", api.ErrEvery, 1},
		{"default 10 x x", api.ErrDigit, 2}, {"default 10 0 x", api.ErrBurst, 2}, {"default 10 18446744073709551616 x", api.ErrBig, 2},
		{"default 10 5 x", api.ErrKind, 3}, {"rule a 10 5 x", api.ErrKind, 4},
	}
	for _, r := range rows {
		checkFault(t, line(r.text), r.e, r.at)
	}
	checkFault(t, []string{"rule", "", "0", "0", ""}, api.ErrPrefix, 1)
	checkFault(t, []string{"rule", "a", "", "", ""}, api.ErrDigit, 2)
}

// TestParseOfAll: each word with each other one.
func TestParseOfAll(t *testing.T) {
	numbers := []string{
		"", "0", "00", "07", "x", "1", "2", "7", "+7", "2147483648", "4294967296", "4611686018427387904",
		"4611686018427387905", "9223372036854775808", "18446744073709551615", "18446744073709551616",
	}
	kinds := []string{"gcra", "bucket", "leaky", "", "Gcra", "gcr", "leakyy"}
	for _, every := range numbers {
		for _, burst := range numbers {
			for _, kind := range kinds {
				checkAll(t, []string{"default", every, burst, kind})
				checkAll(t, []string{"rule", every, burst, kind})
				for _, p := range prefixes() {
					checkAll(t, []string{"rule", p, every, burst, kind})
				}
				checkAll(t, []string{"default", "a", every, burst, kind})
				checkAll(t, []string{"size", "a", every, burst, kind})
			}
		}
	}
}

// TestParseOfMixed: lines of words as they come.
func TestParseOfMixed(t *testing.T) {
	some := []string{"rule", "default", "rule", "default", "a", "api/", "1", "10", "500", "0", "x", "", "gcra", "bucket", "leaky", "4611686018427387904", " "}
	n := mixed(120000)
	for i := 0; i+6 <= len(n); i += 6 {
		words := make([]string, n[i]%7)
		for j := range words {
			words[j] = some[n[i+j]/7%uint64(len(some))]
		}
		checkAll(t, words)
	}
	for i := 0; i+3 <= len(n); i += 3 {
		every, burst := strconv.FormatUint(n[i], 10), strconv.FormatUint(n[i+1], 10)
		name := []string{"gcra", "bucket", "leaky"}[n[i+2]%3]
		checkAll(t, []string{"default", every, burst, name})
		checkAll(t, []string{"rule", "k" + every, burst, every, name})
	}
}

func TestPrint(t *testing.T) {
	checkPrint(t, of("", 10, 5, 1), "default", "10", "5", "gcra")
	checkPrint(t, of("", 1, 1, 2), "default", "1", "1", "bucket")
	checkPrint(t, of("", 1, maxCap, 3), "default", "1", "4611686018427387904", "leaky")
	checkPrint(t, of("api/", 500, 20, 3), "rule", "api/", "500", "20", "leaky")
	checkPrint(t, of("default", maxCap, 1, 1), "rule", "default", "4611686018427387904", "1", "gcra")
	checkPrint(t, of(long(128), 2, 3, 2), "rule", long(128), "2", "3", "bucket")
}

func TestPrintOfWhatIsNotRight(t *testing.T) {
	for _, r := range []api.Rule{
		{}, of(" ", 10, 5, 1), of("a b", 10, 5, 1), of(long(129), 10, 5, 1), of("a", 0, 5, 1), of("", 0, 5, 1),
		of("a", 10, 0, 1), of("", 10, 0, 1), of("a", 2, maxCap, 1), of("", 1<<32, 1<<32, 1), of("", end, end, 1),
		of("a", 10, 5, 0), of("", 10, 5, 4), of("", 10, 5, 255),
	} {
		checkPrint(t, r)
	}
}

// TestOwnMemory: neither a rule that is read nor words that are printed change
// with the bytes of which the prefix was handed in.
func TestOwnMemory(t *testing.T) {
	b := []byte("api/")
	p := unsafe.String(&b[0], len(b))
	r, e, at := Parse([]string{"rule", p, "500", "20", "leaky"})
	words := Print(of(p, 500, 20, 3))
	copy(b, "xxxx")
	if r != of("api/", 500, 20, 3) || e != 0 || at != 0 {
		t.Errorf("what was read is %s, %d, %d now", show(r), e, at)
	}
	if !slices.Equal(words, line("rule api/ 500 20 leaky")) {
		t.Errorf("what was printed is %q now", words)
	}
}

// TestNewLists: whatever is done to words that are printed, or to a line that
// was read, is not to be seen in another answer.
func TestNewLists(t *testing.T) {
	for _, r := range []api.Rule{of("", 10, 5, 1), of("api/", 500, 20, 3)} {
		a, b := Print(r), Print(r)
		want := slices.Clone(b)
		for i := range a {
			a[i] = "x"
		}
		_ = append(a[:1], "y", "z")
		if !slices.Equal(b, want) {
			t.Errorf("Print(%s) is %q now", show(r), b)
		}
		checkPrint(t, r, want...)
		for i, word := range b[len(b):cap(b)] {
			if word != "" {
				t.Errorf("Print(%s) has %q at %d behind its end", show(r), word, i)
			}
		}
		got, _, _ := Parse(b)
		for i := range b {
			b[i] = "x"
		}
		if got != r {
			t.Errorf("what was read is %s now, want %s", show(got), show(r))
		}
		checkParse(t, want, r)
	}
}

// TestBehindALine: what lies behind a list's length is neither read nor
// written, and nothing ahead of it is changed.
func TestBehindALine(t *testing.T) {
	for _, text := range []string{
		"rule a 10 5 gcra x y", "default 10 5 gcra gcra x y", "rule a 0 5 gcra x", "default 10 5 x y", "rule 10 5 gcra gcra gcra", "x y z a b c",
	} {
		all := line(text)
		for n := range len(all) + 1 {
			got, e, at := Parse(all[:n])
			alone, f, word := Parse(slices.Clip(slices.Clone(all[:n])))
			if got != alone || e != f || at != word {
				t.Errorf("the first %d words of %q: %s, %d, %d, and alone %s, %d, %d", n, text, show(got), e, at, show(alone), f, word)
			}
			if !slices.Equal(all, line(text)) {
				t.Errorf("Parse of the first %d words of %q has made it %q", n, text, all)
			}
			checkAll(t, all[:n])
		}
	}
	words := line("rule a 10 5 gcra")
	checkParse(t, words[:5], of("a", 10, 5, 1))
	checkFault(t, words[:4], api.ErrWord, 0)
	checkFault(t, words[:0], api.ErrWord, 0)
	words = line("default 10 5 gcra x")
	checkParse(t, words[:4], of("", 10, 5, 1))
	checkFault(t, words[:3], api.ErrWord, 0)
}

// TestAgain: what is told hangs on nothing that was told ahead of it.
func TestAgain(t *testing.T) {
	for range 3 {
		checkParse(t, line("rule api/ 500 20 leaky"), of("api/", 500, 20, 3))
		checkFault(t, line("rule api/ 500 0 leaky"), api.ErrBurst, 3)
		checkParse(t, line("default 10 5 gcra"), of("", 10, 5, 1))
		checkFault(t, line("default 10 5 x"), api.ErrKind, 3)
		checkRight(t, of("", 10, 5, 4), api.ErrKind)
		checkRight(t, of("", 10, 5, 1), 0)
		checkKind(t, "leaky", 3, true)
		checkKind(t, "", 0, false)
	}
}
