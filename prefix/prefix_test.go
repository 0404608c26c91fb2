package prefix

import (
	"fmt"
	"math"
	"slices"
	"strings"
	"testing"
	"unsafe"

	"toller/api"
)

// mixed are n numbers of many lengths, always the same ones.
func mixed(n int) []uint64 {
	out := make([]uint64, n)
	x := uint64(88172645463325252)
	for i := range out {
		x ^= x << 13
		x ^= x >> 7
		x ^= x << 17
		out[i] = x >> (x % 64)
	}
	return out
}

// texts are all of at most so many bytes, of these ones.
func texts(most int, alphabet string) []string {
	out := []string{""}
	from := 0
	for range most {
		to := len(out)
		for _, s := range out[from:to] {
			for i := range len(alphabet) {
				out = append(out, s+alphabet[i:i+1])
			}
		}
		from = to
	}
	return out
}

// orders are all orders in which n may come.
func orders(n int) [][]int {
	if n == 0 {
		return [][]int{nil}
	}
	var out [][]int
	for _, o := range orders(n - 1) {
		for at := range n {
			out = append(out, slices.Insert(slices.Clone(o), at, n-1))
		}
	}
	return out
}

// with is s, but for one byte at a place.
func with(s string, at int, c byte) string {
	b := []byte(s)
	b[at] = c
	return string(b)
}

// long is a text of so many bytes.
func long(n int) string {
	return strings.Repeat("k", n)
}

// by is a rule of these numbers.
func by(prefix string, every, burst uint64, kind uint8) api.Rule {
	return api.Rule{Prefix: prefix, Every: every, Burst: burst, Kind: kind}
}

// all are rules of these prefixes. No two have one Every, so that each can be
// told from each other one.
func all(prefixes ...string) []api.Rule {
	var out []api.Rule
	for i, p := range prefixes {
		out = append(out, by(p, uint64(i)+1, 5, uint8(i%3)+1))
	}
	return out
}

// odd are texts that begin one another, or nearly do, of many kinds of bytes.
func odd() []string {
	return []string{
		"", "\x00", "\x00\x00", "\x00a", "\x01", " ", " a", "\n", "a", "a\x00",
		"a ", "aa", "aa\xff", "ab", "ab/", "abc", "ab\x80", "ab\xff", "api",
		"api/", "api/a", "api/a/b", "api:", "A", "b", "~", "\x7f", "\x80",
		"\x80\x00", "\x80\x80", "\xc2", "\xc3", "\xc3(", "\u00e9", "\u00e8",
		"\u4e16", "\u4e17", "\ufffd", "\uffff", "\U0001f600", "\xfe\xff", "\xff",
		"\xff\x00", "\xff\xfe", "\xff\xff", "\xff\xff\xff", "\xed\xa0\x80",
		long(127), long(128), long(129), long(1000),
	}
}

// wantFind is the chapter's words on Find: of all rules with whose prefix the
// key begins one of the longest, and of these the first one.
func wantFind(l []api.Rule, k string) (api.Rule, bool) {
	at := -1
	for i, r := range l {
		if strings.HasPrefix(k, r.Prefix) && (at < 0 || len(r.Prefix) > len(l[at].Prefix)) {
			at = i
		}
	}
	if at < 0 {
		return api.Rule{}, false
	}
	return l[at], true
}

// wantLen is how many prefixes differ.
func wantLen(l []api.Rule) int {
	seen := map[string]bool{}
	for _, r := range l {
		seen[r.Prefix] = true
	}
	return len(seen)
}

func checkFind(t *testing.T, w *Tree, k string, want api.Rule) {
	t.Helper()
	got, is := w.Find(k)
	if !is || got != want {
		t.Errorf("Find(%.40q), of %d bytes, = %.200q, %v, want %.200q", k, len(k), fmt.Sprint(got), is, fmt.Sprint(want))
	}
}

func checkNone(t *testing.T, w *Tree, k string) {
	t.Helper()
	got, is := w.Find(k)
	if is || got != (api.Rule{}) {
		t.Errorf("Find(%.40q), of %d bytes, = %.200q, %v, want none", k, len(k), fmt.Sprint(got), is)
	}
}

func checkLen(t *testing.T, w *Tree, want int) {
	t.Helper()
	if got := w.Len(); got != want {
		t.Errorf("Len = %d, want %d", got, want)
	}
}

// checkKeys holds what a tree of these rules tells of these keys against the
// chapter's words.
func checkKeys(t *testing.T, w *Tree, l []api.Rule, keys []string) {
	t.Helper()
	checkLen(t, w, wantLen(l))
	for _, k := range keys {
		if r, is := wantFind(l, k); is {
			checkFind(t, w, k, r)
		} else {
			checkNone(t, w, k)
		}
	}
	if t.Failed() {
		t.Fatalf("the rules are %d, %.2000q", len(l), fmt.Sprint(l))
	}
}

// check holds a tree of these rules against the chapter's words.
func check(t *testing.T, l []api.Rule, keys []string) {
	t.Helper()
	checkKeys(t, New(l), l, keys)
}

// near are the texts themselves, and those about them: of a byte more or less,
// or of another byte at the first, a middle or the last place.
func near(l []string) []string {
	out := []string{""}
	for _, s := range l {
		out = append(out, s, s+"\x00", s+"k", s+"\xff", s+s)
		if s == "" {
			continue
		}
		last := len(s) - 1
		out = append(out, s[:last], s[:len(s)/2], s[1:])
		for _, at := range []int{0, len(s) / 2, last} {
			out = append(out, with(s, at, s[at]+1), with(s, at, s[at]-1), with(s, at, s[at]^0x80))
		}
	}
	return out
}

func TestExample(t *testing.T) {
	l := all("", "a", "ab")
	for _, o := range orders(3) {
		w := New([]api.Rule{l[o[0]], l[o[1]], l[o[2]]})
		checkFind(t, w, "abc", l[2])
		checkFind(t, w, "b", l[0])
		checkLen(t, w, 3)
	}
}

func TestNoRules(t *testing.T) {
	for _, l := range [][]api.Rule{nil, {}, make([]api.Rule, 0, 3), all("", "a")[:0]} {
		w := New(l)
		checkLen(t, w, 0)
		for _, k := range near(odd()) {
			checkNone(t, w, k)
		}
		checkLen(t, w, 0)
	}
}

func TestNilTree(t *testing.T) {
	var w *Tree
	checkLen(t, w, 0)
	for _, k := range near(odd()) {
		checkNone(t, w, k)
	}
	checkLen(t, w, 0)
}

func TestOneRule(t *testing.T) {
	for _, p := range odd() {
		check(t, []api.Rule{by(p, 10, 5, api.Gcra)}, near(append(odd(), p)))
	}
}

// TestOneByteBeside: a key that is the prefix, or goes on behind it, begins with
// it; one that ends ahead of its end, or has another byte in it, does not.
func TestOneByteBeside(t *testing.T) {
	for _, n := range []int{1, 2, 3, 8, 127, 128, 129, 1000} {
		p := long(n)
		r := by(p, 10, 5, api.Leaky)
		w := New([]api.Rule{r})
		checkFind(t, w, p, r)
		checkFind(t, w, p+"\x00", r)
		checkFind(t, w, p+"k", r)
		checkFind(t, w, p+"\xff", r)
		checkFind(t, w, p+p, r)
		checkNone(t, w, p[:n-1])
		for at := range n {
			checkNone(t, w, p[:at])
			checkNone(t, w, with(p, at, 'j'))
			checkNone(t, w, with(p, at, 'l'))
			checkNone(t, w, with(p, at, '\x00'))
			checkNone(t, w, with(p, at, '\xeb'))
			checkNone(t, w, with(p, at, 'j')+p)
		}
		checkNone(t, w, "x"+p)
	}
}

// TestEachByte: every byte is told from every other one, at the first, at a
// middle and at the last place, with the other ones' prefixes there and not.
func TestEachByte(t *testing.T) {
	for _, about := range [][2]string{{"", ""}, {"", "kk"}, {"k", "k"}, {"kk", ""}} {
		var l []api.Rule
		var keys []string
		for c := range 256 {
			p := about[0] + string([]byte{byte(c)}) + about[1]
			l = append(l, by(p, uint64(c)+1, 1, 1))
			keys = append(keys, p, p+"k", p+"\x00", p[:2*len(p)/3])
		}
		check(t, l, keys)
		slices.Reverse(l)
		check(t, l, keys)
		for c := range 256 {
			check(t, l[c:c+1], keys)
		}
	}
}

func TestTheFirstCounts(t *testing.T) {
	for _, p := range []string{"", "a", "ab", "api/", "\x00", "\xff\xfe", long(128), long(1000)} {
		one, other := by(p, 10, 5, api.Gcra), by(p, 20, 7, api.Leaky)
		keys := near([]string{p, "a", "api/a"})
		rows := [][]api.Rule{
			{one, other}, {other, one}, {one, one}, {other, other}, {one, other, one}, {other, one, one},
			// Far from each other, others between, ahead and behind.
			append(append([]api.Rule{one}, all("b", "abc", "api/a", "", "x", long(500))...), other),
			append(append([]api.Rule{other}, all("b", "abc", "api/a", "", "x", long(500))...), one),
			append(all("b", p, "abc", p, long(500)), one, other),
			append([]api.Rule{one, other}, all("b", "abc", p, long(500))...),
		}
		for _, l := range rows {
			check(t, l, keys)
		}
		// One that is first by its numbers alone, too.
		for _, r := range []api.Rule{by(p, 11, 5, 1), by(p, 10, 6, 1), by(p, 10, 5, 2), by(p, 0, 0, 0)} {
			checkFind(t, New([]api.Rule{one, r}), p+"k", one)
			checkFind(t, New([]api.Rule{r, one}), p+"k", r)
			checkLen(t, New([]api.Rule{r, one}), 1)
		}
	}
}

// TestTwiceInEveryOrder: two of one prefix, among those that begin it and those
// that it begins.
func TestTwiceInEveryOrder(t *testing.T) {
	for _, p := range [][]string{{"", "", "a", "ab"}, {"a", "a", "", "abc"}, {"ab", "ab", "a", "abc"}, {"ab", "ab", "ac", "abcd"}, {"abc", "ab", "ab", "abc"}} {
		l := all(p...)
		for _, o := range orders(len(l)) {
			var turned []api.Rule
			for _, i := range o {
				turned = append(turned, l[i])
			}
			check(t, turned, texts(4, "abcd"))
		}
	}
}

func TestNestedInEveryOrder(t *testing.T) {
	rows := [][]string{
		// Steps of one byte.
		{"", "a", "ab", "abc", "abcd", "abcde"},
		{"a", "aa", "aaa", "aaaa", "aaaaa"},
		// Steps of many.
		{"", "api/v1/", "api/v1/users/", "api/v1/users/anna", "api/v1/users/anna/photos"},
		{"kkkk", long(9), long(127), long(128), long(129)},
		// Of both, and others that part from them there and between.
		{"", "a", "abcdef", "abcdefg", "abcdefghijkl", "abcxyz"},
		{"abcdef", "abc", "abd", "b", "abcxef"},
		{"\xff\xff", "\xff", "\xff\xff\xff", "\xff\x00", "\x00\xff"},
		{"\xc3\xa9", "\xc3", "\xc3\xa8", "\xc3\xa9\x80", ""},
	}
	for _, p := range rows {
		l, keys := all(p...), near(p)
		for _, o := range orders(len(l)) {
			var turned []api.Rule
			for _, i := range o {
				turned = append(turned, l[i])
			}
			check(t, turned, keys)
		}
	}
}

// TestLongestOfNested: the steps' numbers by hand, and what lies beside them.
func TestLongestOfNested(t *testing.T) {
	l := all("a", "abcd", "abcde", "abcdefgh")
	rows := map[string]int{
		"a": 0, "ab": 0, "abc": 0, "abcx": 0, "ax": 0, "aabcd": 0,
		"abcd": 1, "abcdx": 1, "abcdf": 1,
		"abcde": 2, "abcdef": 2, "abcdefg": 2, "abcdefgx": 2, "abcdexgh": 2, "abcdeabcde": 2,
		"abcdefgh": 3, "abcdefghi": 3, "abcdefgh\x00": 3,
	}
	for _, o := range orders(4) {
		w := New([]api.Rule{l[o[0]], l[o[1]], l[o[2]], l[o[3]]})
		for k, i := range rows {
			checkFind(t, w, k, l[i])
		}
		for _, k := range []string{"", "b", "bcd", "A", "\x00a", "\xe1"} {
			checkNone(t, w, k)
		}
		checkLen(t, w, 4)
	}
}

// TestLongerThanTheKey: a prefix that goes on where the key ends, or beside it,
// counts for nothing, and one that is shorter does.
func TestLongerThanTheKey(t *testing.T) {
	l := all("ab", "abcd", "abce", "abcdef")
	for _, o := range orders(4) {
		w := New([]api.Rule{l[o[0]], l[o[1]], l[o[2]], l[o[3]]})
		checkFind(t, w, "ab", l[0])
		checkFind(t, w, "abc", l[0])
		checkFind(t, w, "abcx", l[0])
		checkFind(t, w, "abcde", l[1])
		checkFind(t, w, "abcee", l[2])
		checkNone(t, w, "a")
		checkNone(t, w, "")
	}
	// Where two part, a key that ends there, or goes on otherwise, has no rule.
	w := New(all("abcd", "abce"))
	for _, k := range []string{"", "a", "ab", "abc", "abcf", "abc\x00", "abd"} {
		checkNone(t, w, k)
	}
	checkLen(t, w, 2)
	// Nor has one that ends in a long step.
	w = New(all(long(128)))
	for n := range 128 {
		checkNone(t, w, long(n))
	}
}

func TestEmptyKey(t *testing.T) {
	checkNone(t, New(all("a")), "")
	checkNone(t, New(all("\x00")), "")
	checkNone(t, New(all("a", "ab", "b")), "")
	l := all("", "a")
	checkFind(t, New(l), "", l[0])
	checkFind(t, New(l[:1]), "", l[0])
	slices.Reverse(l)
	checkFind(t, New(l), "", l[1])
	l = all("a", "b", "", "ab", "")
	checkFind(t, New(l), "", l[2])
}

// TestEmptyPrefix: it is found where no other one is, and only there.
func TestEmptyPrefix(t *testing.T) {
	l := all("api/", "", "b")
	w := New(l)
	for _, k := range []string{"", "a", "api", "apix", "api:", "Api/", "c", "\x00", "\xff", "\xe2", long(1000)} {
		checkFind(t, w, k, l[1])
	}
	checkFind(t, w, "api/", l[0])
	checkFind(t, w, "api/api/", l[0])
	checkFind(t, w, "b", l[2])
	for _, k := range near(odd()) {
		checkFind(t, New(l[1:2]), k, l[1])
	}
	checkLen(t, w, 3)
	checkLen(t, New(l[1:2]), 1)
}

func TestOddTexts(t *testing.T) {
	keys := near(odd())
	l := all(odd()...)
	check(t, l, keys)
	slices.Reverse(l)
	check(t, l, keys)
	// Without the empty one, and each of them without another one.
	check(t, l[:len(l)-1], keys)
	for i := range l {
		check(t, slices.Delete(slices.Clone(l), i, i+1), keys)
	}
}

// TestAnyRule: this chapter tells no errors, so that rules that others call
// wrong are told as they were handed in, in each field.
func TestAnyRule(t *testing.T) {
	numbers := []uint64{0, 1, 2, 255, 256, 1 << 32, 1 << 62, 1<<62 + 1, 1 << 63, math.MaxUint64}
	for _, p := range []string{"", "a", " ", "a b", "\x00", "\xff", "caf\u00e9", "#", long(128), long(129)} {
		for _, every := range numbers {
			for i, burst := range numbers {
				for _, kind := range []uint8{0, 1, 2, 3, 4, 128, 255} {
					r := by(p, every, burst, kind)
					checkFind(t, New([]api.Rule{r}), p, r)
					// Not the numbers of one that begins it, or goes on behind it.
					w := New([]api.Rule{by(p+"k", 7, 7, 1), r, by("", 8, 8, uint8(i)), by(p, 9, 9, 3)})
					checkFind(t, w, p+"j", r)
				}
			}
		}
	}
}

// TestRuleOfNoughts: a rule of noughts is one, too.
func TestRuleOfNoughts(t *testing.T) {
	w := New([]api.Rule{{}})
	checkFind(t, w, "", api.Rule{})
	checkFind(t, w, "a", api.Rule{})
	checkLen(t, w, 1)
	l := []api.Rule{{}, by("", 10, 5, 1), {Prefix: "a"}, by("a", 10, 5, 1), by("ab", 20, 5, 1)}
	w = New(l)
	checkFind(t, w, "", api.Rule{})
	checkFind(t, w, "a", l[2])
	checkFind(t, w, "abc", l[4])
	checkLen(t, w, 3)
}

func TestLen(t *testing.T) {
	rows := []struct {
		l    []string
		want int
	}{
		{[]string{""}, 1}, {[]string{"a"}, 1}, {[]string{"", ""}, 1}, {[]string{"a", "a", "a"}, 1},
		{[]string{"", "a"}, 2}, {[]string{"a", ""}, 2}, {[]string{"a", "b", "a"}, 2}, {[]string{"ab", "a"}, 2},
		// No more than these, though others stand where two of them part.
		{[]string{"abc", "abd"}, 2}, {[]string{"abc", "abd", "ab"}, 3}, {[]string{"abc", "abd", "ax", "x"}, 4},
		{[]string{"abc", "abd", "ab", "ab", "abd"}, 3}, {[]string{"a", "A", "\xe1"}, 3},
		{[]string{"", "\x00", "\x00\x00"}, 3}, {[]string{"a", "a "}, 2},
	}
	for _, x := range rows {
		l := all(x.l...)
		checkLen(t, New(l), x.want)
		slices.Reverse(l)
		checkLen(t, New(l), x.want)
	}
	for n := range 300 {
		var l []api.Rule
		for i := range n {
			l = append(l, by(fmt.Sprint(i), 1, 1, 1))
		}
		checkLen(t, New(l), n)
		checkLen(t, New(append(l, l...)), n)
	}
}

func TestThousand(t *testing.T) {
	shapes := []func(i int) string{
		// Of one length, of many, of few that each begins the next one, and mixed.
		func(i int) string { return fmt.Sprintf("api/%07d", i) },
		func(i int) string { return fmt.Sprint(i) },
		func(i int) string { return long(i) },
		func(i int) string { return strings.Repeat("ab", i%100) + long(i/100) },
		func(i int) string { return fmt.Sprintf("%b", i*i*i) },
		func(i int) string { return string([]byte{byte(i), byte(i / 256), byte(i)}) },
	}
	for _, shape := range shapes {
		var l []api.Rule
		var names []string
		for i := range 1000 {
			l = append(l, by(shape(i), uint64(i)+1, 5, uint8(i%3)+1))
			if i%37 == 0 || i > 990 {
				names = append(names, shape(i), shape(i+1))
			}
		}
		keys := near(names)
		check(t, l, keys)
		slices.Reverse(l)
		check(t, l, keys)
		w := New(l)
		for _, r := range l {
			// The one that is first, where two are of one prefix.
			want, _ := wantFind(l, r.Prefix)
			checkFind(t, w, r.Prefix, want)
		}
	}
}

// TestAllFew: all lists of at most three prefixes, of all short ones.
func TestAllFew(t *testing.T) {
	p, keys := texts(3, "ab"), texts(4, "ab")
	for _, a := range p {
		check(t, all(a), keys)
		for _, b := range p {
			check(t, all(a, b), keys)
			for _, c := range p {
				check(t, all(a, b, c), keys)
			}
		}
	}
}

// TestAllOrders: all short prefixes, in every order.
func TestAllOrders(t *testing.T) {
	l, keys := all(texts(2, "\x00\xff")...), texts(3, "\x00\xff")
	for _, o := range orders(len(l)) {
		var turned []api.Rule
		for _, i := range o {
			turned = append(turned, l[i])
		}
		check(t, turned, keys)
	}
}

func TestMixed(t *testing.T) {
	n := mixed(12000)
	text := func(x uint64) string {
		s := fmt.Sprintf("%b", x)
		if x%3 == 0 {
			s = strings.Map(func(r rune) rune { return r - '0' }, s)
		}
		if x%5 == 0 {
			s = long(int(x%200)) + s
		}
		return s[:int(x>>3)%(len(s)+1)]
	}
	for from := 0; from < len(n); {
		to := min(len(n), from+2+int(n[from]%60))
		var l []api.Rule
		var names []string
		for _, x := range n[from:to] {
			names = append(names, text(x))
			if x%2 == 0 {
				l = append(l, by(text(x), x, x>>1, uint8(x)))
			}
		}
		check(t, l, near(names))
		from = to
	}
}

// TestVeryLong: prefixes and keys of a million bytes and more.
func TestVeryLong(t *testing.T) {
	const n = 1 << 22
	s := long(n)
	l := all(s, s[:n-1], s[:n/2], with(s, n-1, 'l'), with(s, n/2, 'l'), with(s, 0, 'l'), s+"k", "")
	keys := []string{s, s + "k", s + "l", s[:n-1], s[:n-2], s[:n/2], s[:n/2-1], with(s, 0, 'l'), with(s, 0, 'm'),
		with(s, n-1, 'l'), with(s, n-1, 'm'), with(s, n/2, 'l'), with(s, n/2, 'l')[:n-1], with(s, n/2-1, 'l'), s + s}
	check(t, l, keys)
	slices.Reverse(l)
	check(t, l, keys)
	check(t, l[1:], keys)
}

// TestVeryMany: of many more rules than may be elsewhere, each is found.
func TestVeryMany(t *testing.T) {
	const many = 200000
	var l []api.Rule
	for i := range many {
		l = append(l, by(fmt.Sprintf("%d/", i), uint64(i)+1, 5, 1))
	}
	w := New(append(l, l...))
	checkLen(t, w, many)
	for i, r := range l {
		checkFind(t, w, r.Prefix+"k", l[i])
		checkNone(t, w, r.Prefix[:len(r.Prefix)-1])
	}
}

// TestNestedByMany: a way down of very many nodes has an end.
func TestNestedByMany(t *testing.T) {
	const n = 20000
	s := long(n)
	var l []api.Rule
	for i := 1; i <= n; i += 10 {
		l = append(l, by(s[:i], uint64(i), 5, 1))
	}
	for range 2 {
		w := New(l)
		checkLen(t, w, n/10)
		for _, i := range []int{1, 2, 10, 11, 12, n / 2, n/2 + 1, n - 1, n} {
			want := (i-1)/10*10 + 1
			checkFind(t, w, s[:i], by(s[:want], uint64(want), 5, 1))
			checkFind(t, w, s[:i]+"l", by(s[:want], uint64(want), 5, 1))
		}
		checkNone(t, w, "")
		checkNone(t, w, "l")
		slices.Reverse(l)
	}
}

// TestFindChangesNothing: what is told of a key hangs on no key ahead of it.
func TestFindChangesNothing(t *testing.T) {
	for _, p := range [][]string{{"", "a", "ab", "abcd", "b"}, {"ab", "abcd", "\xff"}, odd(), odd()[1:]} {
		l := all(p...)
		w := New(l)
		before := nodes(w.root)
		keys := near(odd())
		for range 3 {
			checkKeys(t, w, l, keys)
			slices.Reverse(keys)
		}
		for _, k := range keys {
			want, is := w.Find(k)
			for _, other := range []string{"", "a", "abcd", "abcde", "x", "\xff\xff", long(2000), k, k + "k"} {
				w.Find(other)
				if got, still := w.Find(k); got != want || still != is {
					t.Fatalf("Find(%.40q) = %v, %v behind %.40q, was %v, %v", k, got, still, other, want, is)
				}
			}
		}
		checkLen(t, w, wantLen(l))
		if after := nodes(w.root); after != before {
			t.Errorf("%d nodes, and %d before anything was asked", after, before)
		}
	}
}

// TestListChangedBehind: a tree keeps nothing of the list that it was made of,
// nor does it change what is told of it.
func TestListChangedBehind(t *testing.T) {
	l := all("a", "ab", "", "abc", "ab")
	before := slices.Clone(l)
	w := New(l)
	if !slices.Equal(l, before) {
		t.Errorf("the list is %v, was %v", l, before)
	}
	for i := range l {
		l[i] = by("x", 99, 99, 9)
	}
	checkKeys(t, w, before, texts(4, "abcx"))
	clear(l)
	checkKeys(t, w, before, texts(4, "abcx"))
	copy(l, before)
	slices.Reverse(l)
	checkKeys(t, w, before, texts(4, "abcx"))
}

// TestBehindAList: what lies in a list's memory ahead of it, or behind its
// length, counts for nothing, and stays as it is.
func TestBehindAList(t *testing.T) {
	memory := all("", "a", "ab", "b", "a", "abc", "")
	before := slices.Clone(memory)
	for i := range memory {
		for j := i; j <= len(memory); j++ {
			check(t, memory[i:j], texts(4, "abc"))
			checkLen(t, New(memory[i:j]), wantLen(before[i:j]))
		}
	}
	if !slices.Equal(memory, before) {
		t.Errorf("the memory is %v, was %v", memory, before)
	}
}

// TestBehindAText: neither what a prefix nor what a key has in its memory behind
// its end counts.
func TestBehindAText(t *testing.T) {
	const whole = "abcdabce"
	l := []api.Rule{by(whole[:3], 1, 1, 1), by(whole[4:6], 2, 2, 2), by(whole[:0], 3, 3, 3)}
	keys := []string{whole[:1], whole[:2], whole[:3], whole[:4], whole[4:5], whole[4:7], whole[1:], whole[:0]}
	check(t, l, keys)
	check(t, l[:2], keys)
	checkNone(t, New(all(whole[:4])), whole[:3])
	checkFind(t, New(all(whole[:2])), whole[:3], all("ab")[0])
}

// raw is a text in memory that can be written.
func raw(s string) ([]byte, string) {
	b := []byte(s)
	return b, unsafe.String(unsafe.SliceData(b), len(b))
}

// TestOwnMemory: not even the bytes of a prefix or of a key are shared between
// what is handed in, what is kept, and what is told.
func TestOwnMemory(t *testing.T) {
	for _, p := range [][]string{{"api/"}, {"api/", "api/a"}, {"api/a", "api/"}, {"api/a", "api/b"}, {"a", "api/a", "ap", "apx"}} {
		l := all(p...)
		var memory [][]byte
		for i, s := range p {
			b, text := raw(s)
			memory = append(memory, b)
			l[i].Prefix = text
		}
		w := New(l)
		for _, b := range memory {
			for i := range b {
				b[i] = 'x'
			}
		}
		keys := near(append(slices.Clone(p), "xxxx", "xxxxx"))
		kept := all(p...)
		checkKeys(t, w, kept, keys)
		// Neither a key that is changed, nor what was told of it, changes anything.
		for _, s := range p {
			b, k := raw(s + "k")
			one, _ := w.Find(k)
			other, _ := w.Find(k)
			for i := range b {
				b[i] = 'x'
			}
			if !strings.HasPrefix(s, one.Prefix) || one != other {
				t.Errorf("told %q, %q, and a key that was %q is changed", one.Prefix, other.Prefix, s)
			}
			if unsafe.StringData(one.Prefix) == unsafe.StringData(other.Prefix) {
				t.Errorf("%q is told twice in one memory", one.Prefix)
			}
			written := unsafe.Slice(unsafe.StringData(one.Prefix), len(one.Prefix))
			for i := range written {
				written[i] = 'x'
			}
			checkKeys(t, w, kept, keys)
			checkFind(t, w, other.Prefix, other)
		}
	}
}

// TestRuleToldIsACopy: what is done to a rule that was told is not told again.
func TestRuleToldIsACopy(t *testing.T) {
	l := all("a", "ab")
	w := New(l)
	r, _ := w.Find("abc")
	r.Prefix, r.Every, r.Burst, r.Kind = "x", 99, 99, 9
	checkKeys(t, w, l, texts(4, "abx"))
}

func TestTwoTrees(t *testing.T) {
	l, m := all("", "a", "ab", "abc"), all("ab", "abd", "b")
	slices.Reverse(m)
	w, v := New(l), New(m)
	keys := texts(4, "abcd")
	checkKeys(t, w, l, keys)
	checkKeys(t, v, m, keys)
	none := New(nil)
	other := New(all("ab", "c", "ab"))
	for _, k := range keys {
		checkNone(t, none, k)
	}
	checkKeys(t, other, all("ab", "c"), keys)
	checkKeys(t, v, m, keys)
	checkKeys(t, w, l, keys)
	checkLen(t, none, 0)
	// Of one list, too, whatever is asked of the other one in between.
	x, y := New(l), New(l)
	for _, k := range keys {
		one, is := x.Find(k)
		two, too := y.Find(k)
		if one != two || is != too {
			t.Errorf("of %q two trees of one list tell %v, %v", k, one, two)
		}
	}
}

// TestWay: a way down is by nodes that a key begins with, one below the other,
// and no further than it is asked for; it is the same again.
func TestWay(t *testing.T) {
	w := New(all("a", "abcd", "abce", "abcdef"))
	rows := []struct {
		k    string
		want string
	}{
		{"", "||"}, {"x", "|x|"}, {"a", "|a||"}, {"ab", "|ab|b|"}, {"abc", "|abc|bc||"},
		{"abcdx", "|abcdx|bcdx|dx|x|"}, {"abcdef", "|abcdef|bcdef|def|ef||"}, {"abxd", "|abxd|bxd|"},
	}
	for _, r := range rows {
		way := w.root.way(r.k)
		for range 2 {
			got := "|"
			for _, left := range way {
				got += left + "|"
			}
			if got != r.want {
				t.Errorf("the way of %q leaves %q, want %q", r.k, got, r.want)
			}
		}
	}
	for most := 1; most <= 4; most++ {
		seen := 0
		for range w.root.way("abcdef") {
			seen++
			if seen == most {
				break
			}
		}
		if seen != most {
			t.Errorf("%d nodes, want %d", seen, most)
		}
	}
}

// nodes is how many there are from one down.
func nodes(n *node) int {
	many := 1
	for _, below := range n.down {
		many += nodes(below)
	}
	return many
}

// TestFewNodes: there are no more nodes than prefixes, and those where two part.
func TestFewNodes(t *testing.T) {
	for _, l := range [][]api.Rule{all(long(128)), all(long(128), long(127), "x"), all(odd()...), all(texts(5, "ab")...)} {
		for range 2 {
			if got, most := nodes(New(l).root), 2*len(l)+1; got > most {
				t.Errorf("%d nodes of %d rules, want %d at most", got, len(l), most)
			}
			slices.Reverse(l)
		}
	}
	if got := nodes(New(all("abcdef", "abcdef", "abcdef")).root); got != 2 {
		t.Errorf("%d nodes of one prefix", got)
	}
}
