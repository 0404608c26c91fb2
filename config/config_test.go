package config

import (
	"bytes"
	"fmt"
	"math"
	"math/big"
	"slices"
	"strconv"
	"strings"
	"testing"
	"unsafe"

	"toller/api"
)

const maxCap = 1 << 62

// mixed are n numbers of many lengths, always the same ones.
func mixed(n int) []uint64 {
	out := make([]uint64, n)
	x := uint64(88172645463325252)
	for i := range out {
		x ^= x << 13
		x ^= x >> 7
		x ^= x << 17
		out[i] = x >> (x % 64)
	}
	return out
}

// long is a text of so many bytes.
func long(n int) string {
	return strings.Repeat("k", n)
}

// of is a rule that is right, of this prefix.
func of(prefix string) api.Rule {
	return api.Rule{Prefix: prefix, Every: 10, Burst: 5, Kind: api.Gcra}
}

// by is a rule of these numbers.
func by(prefix string, every, burst uint64, kind uint8) api.Rule {
	return api.Rule{Prefix: prefix, Every: every, Burst: burst, Kind: kind}
}

// all are rules that are right, of these prefixes.
func all(prefixes ...string) []api.Rule {
	var out []api.Rule
	for _, p := range prefixes {
		out = append(out, of(p))
	}
	return out
}

// policy is rules, and how many keys may be active.
func policy(most int, rules ...api.Rule) api.Policy {
	return api.Policy{Most: most, Rules: rules}
}

// many are n prefixes, none of them empty, rising.
func many(n int) []string {
	var out []string
	for i := range n {
		out = append(out, fmt.Sprintf("k%07d", i))
	}
	return out
}

// at is a place.
func at(line, col int) api.Place {
	return api.Place{Line: line, Col: col}
}

// same says whether two are of the same Most and rules, in one order.
func same(p, q api.Policy) bool {
	return p.Most == q.Most && slices.Equal(p.Rules, q.Rules)
}

// deep is a copy that shares no list with what it is of.
func deep(p api.Policy) api.Policy {
	return api.Policy{Most: p.Most, Rules: slices.Clone(p.Rules)}
}

// none says whether a policy is of noughts.
func none(p api.Policy) bool {
	return p.Most == 0 && len(p.Rules) == 0
}

// show is a policy as a message tells it.
func show(p api.Policy) string {
	return fmt.Sprintf("%d rules, %.200q", len(p.Rules), fmt.Sprint(p))
}

// listed says whether all bytes are among these, and whether they are not too
// many and not too few.
func listed(prefix string) bool {
	const visible = "!\"#$%&'()*+,-./0123456789:;<=>?@" +
		"ABCDEFGHIJKLMNOPQRSTUVWXYZ[\\]^_`abcdefghijklmnopqrstuvwxyz{|}~"
	for i := range len(prefix) {
		if strings.IndexByte(visible, prefix[i]) < 0 {
			return false
		}
	}
	return len(prefix) >= 1 && len(prefix) <= 128
}

// over says whether two are more than the greatest cap, by big numbers.
func over(every, burst uint64) bool {
	p := new(big.Int).SetUint64(every)
	p.Mul(p, new(big.Int).SetUint64(burst))
	return p.Cmp(new(big.Int).Lsh(big.NewInt(1), 62)) > 0
}

// wantRule is chapter 11's words on Right.
func wantRule(r api.Rule) api.Errno {
	switch {
	case r.Prefix != "" && !listed(r.Prefix):
		return 23
	case r.Every == 0:
		return 24
	case r.Burst == 0:
		return 25
	case over(r.Every, r.Burst):
		return 26
	case r.Kind != 1 && r.Kind != 2 && r.Kind != 3:
		return 27
	}
	return 0
}

// wantRight is the chapter's words on Right.
func wantRight(p api.Policy) api.Errno {
	if p.Most < 1 || p.Most > 1000000 {
		return 29
	}
	if len(p.Rules) > 1000 {
		return 32
	}
	seen := map[string]int{}
	for _, r := range p.Rules {
		if e := wantRule(r); e != 0 {
			return e
		}
		seen[r.Prefix]++
	}
	if seen[""] == 0 {
		return 31
	}
	for _, n := range seen {
		if n > 1 {
			return 28
		}
	}
	return 0
}

// wantOrder is the chapter's words on Order, by putting each rule behind those
// that are not greater. (The language's own order of texts is by bytes.)
func wantOrder(p api.Policy) api.Policy {
	out := api.Policy{Most: p.Most}
	for _, r := range p.Rules {
		i := len(out.Rules)
		for i > 0 && r.Prefix < out.Rules[i-1].Prefix {
			i--
		}
		out.Rules = slices.Insert(out.Rules, i, r)
	}
	return out
}

// wantNumber is chapter 3's words on Parse, by big numbers.
func wantNumber(word string) (uint64, api.Errno) {
	if word == "" || strings.Trim(word, "0123456789") != "" || word[0] == '0' && word != "0" {
		return 0, 10
	}
	n, _ := new(big.Int).SetString(word, 10)
	if !n.IsUint64() {
		return 0, 11
	}
	return n.Uint64(), 0
}

// place is a word and where in its line it begins.
type place struct {
	text string
	col  int
}

// wantWords is chapter 10's words on one line.
func wantWords(line string) []place {
	var out []place
	for i := 0; i < len(line); i++ {
		if line[i] == ' ' || line[i] == '\t' {
			continue
		}
		if i == 0 || line[i-1] == ' ' || line[i-1] == '\t' {
			out = append(out, place{"", i + 1})
		}
		out[len(out)-1].text += line[i : i+1]
	}
	if len(out) > 0 && out[0].text[0] == '#' {
		return nil
	}
	return out
}

// wantRuleLine is chapter 11's words on Parse.
func wantRuleLine(w []place) (api.Rule, api.Errno, int) {
	var r api.Rule
	if w[0].text == "default" && len(w) != 4 || w[0].text == "rule" && len(w) != 5 {
		return r, 22, 0
	}
	i := len(w) - 3
	if w[0].text == "rule" {
		r.Prefix = w[1].text
		if !listed(r.Prefix) {
			return r, 23, 1
		}
	}
	var e api.Errno
	if r.Every, e = wantNumber(w[i].text); e != 0 {
		return r, e, i
	}
	if r.Every == 0 {
		return r, 24, i
	}
	if r.Burst, e = wantNumber(w[i+1].text); e != 0 {
		return r, e, i + 1
	}
	if r.Burst == 0 {
		return r, 25, i + 1
	}
	if over(r.Every, r.Burst) {
		return r, 26, i + 1
	}
	kind := slices.Index([]string{"gcra", "bucket", "leaky"}, w[i+2].text)
	if kind < 0 {
		return r, 27, i + 2
	}
	r.Kind = uint8(kind + 1)
	return r, 0, 0
}

// wantLine is the chapter's words on one line, behind p: what p is then, and the
// error, and which word it is of.
func wantLine(p api.Policy, w []place) (api.Policy, api.Errno, int) {
	switch w[0].text {
	case "size":
		if len(w) != 2 {
			return p, 22, 0
		}
		if p.Most > 0 {
			return p, 28, 0
		}
		n, e := wantNumber(w[1].text)
		if e == 0 && (n == 0 || n > 1000000) {
			e = 29
		}
		p.Most = int(n)
		return p, e, 1
	case "default", "rule":
		r, e, i := wantRuleLine(w)
		if e != 0 {
			return p, e, i
		}
		for _, q := range p.Rules {
			if q.Prefix == r.Prefix {
				return p, 28, len(w) - 4
			}
		}
		if len(p.Rules) == 1000 {
			return p, 32, 0
		}
		p.Rules = append(p.Rules, r)
		return p, 0, 0
	}
	return p, 22, 0
}

// wantParse is the chapter's words on Parse, of texts that are split.
func wantParse(text string) (api.Policy, api.Errno, api.Place) {
	var p api.Policy
	for i, line := range strings.Split(text, "\n") {
		w := wantWords(line)
		if len(w) == 0 {
			continue
		}
		q, e, nth := wantLine(p, w)
		if e != 0 {
			return api.Policy{}, e, at(i+1, w[nth].col)
		}
		p = q
	}
	if p.Most == 0 {
		return api.Policy{}, 30, at(0, 0)
	}
	p = wantOrder(p)
	if len(p.Rules) == 0 || p.Rules[0].Prefix != "" {
		return api.Policy{}, 31, at(0, 0)
	}
	return p, 0, at(0, 0)
}

// checkRight: this is wrong with a policy; Print tells the same.
func checkRight(t *testing.T, p api.Policy, want api.Errno) {
	t.Helper()
	was := deep(p)
	if got := Right(p); got != want {
		t.Errorf("Right(%s) = %d, want %d", show(p), got, want)
	}
	if e := wantRight(p); e != want {
		t.Errorf("the chapter's words on %s tell %d, not %d", show(p), e, want)
	}
	checkPrinted(t, p)
	if !same(p, was) {
		t.Errorf("%s is %s now", show(was), show(p))
	}
}

// checkOrder: its rules are ordered as in the chapter, and it is as it was.
func checkOrder(t *testing.T, p api.Policy) {
	t.Helper()
	was := deep(p)
	want := wantOrder(p)
	got := Order(p)
	if !same(got, want) {
		t.Errorf("Order(%s) = %s, want %s", show(p), show(got), show(want))
	}
	if !same(p, was) {
		t.Errorf("Order(%s) has made it %s", show(was), show(p))
	}
	if again := Order(got); !same(again, got) {
		t.Errorf("Order(%s), which is in order, = %s", show(got), show(again))
	}
}

// checkParse: a text is of this policy, and has no error at no place.
func checkParse(t *testing.T, text string, want api.Policy) {
	t.Helper()
	p, e, q := Parse([]byte(text))
	if !same(p, want) || e != api.OK || q != at(0, 0) {
		t.Errorf("Parse(%.200q), of %d bytes, = %s, %d, %v, want %s", text, len(text), show(p), e, q, show(want))
	}
}

// checkFault: this error at this place, and a policy of noughts.
func checkFault(t *testing.T, text string, e api.Errno, line, col int) {
	t.Helper()
	p, f, q := Parse([]byte(text))
	if !none(p) || f != e || q != at(line, col) {
		t.Errorf("Parse(%.200q), of %d bytes, = %s, %d, %v, want %d, {%d %d}", text, len(text), show(p), f, q, e, line, col)
	}
}

// checkAll holds all that is told of a text against wantParse, and what is read
// against what is printed of it.
func checkAll(t *testing.T, text string) {
	t.Helper()
	b := []byte(text)
	p, e, q := Parse(b)
	want, f, w := wantParse(text)
	if !same(p, want) || e != f || q != w {
		t.Errorf("Parse(%.200q), of %d bytes, = %s, %d, %v, want %s, %d, %v", text, len(text), show(p), e, q, show(want), f, w)
	}
	if string(b) != text {
		t.Errorf("Parse(%.200q) has made it %.200q", text, b)
	}
	if e == api.OK {
		checkRight(t, p, 0)
		checkOrder(t, p)
		if !same(Order(p), p) {
			t.Errorf("Parse(%.200q) = %s, which is not in order", text, show(p))
		}
	}
}

// checkPrint: this is printed of a policy.
func checkPrint(t *testing.T, p api.Policy, want string) {
	t.Helper()
	text, e := Print(p)
	if string(text) != want || e != api.OK {
		t.Errorf("Print(%s) = %.200q, %d, want %.200q", show(p), text, e, want)
	}
}

// checkPrinted: what is printed of a policy that is right is read as Order of
// it, and printed so that it is read as the same again; of one that is not,
// there is Right's error and no text.
func checkPrinted(t *testing.T, p api.Policy) {
	t.Helper()
	text, e := Print(p)
	want := wantRight(p)
	if e != want || want != 0 && len(text) != 0 {
		t.Errorf("Print(%s) = %.200q, %d, want %d", show(p), text, e, want)
	}
	if want != 0 || e != 0 {
		return
	}
	read, f, q := wantParse(string(text))
	if !same(read, wantOrder(p)) || f != 0 || q != at(0, 0) {
		t.Errorf("Print(%s) = %.200q, which is of %s, %d, %v", show(p), text, show(read), f, q)
	}
	checkParse(t, string(text), wantOrder(p))
	checkPrint(t, read, string(text))
}

func TestExample(t *testing.T) {
	checkParse(t, "size 2\ndefault 10 5 gcra", policy(2, by("", 10, 5, 1)))
	checkParse(t, "size 2\ndefault 10 5 gcra\n", policy(2, by("", 10, 5, 1)))
	checkFault(t, "size 0", api.ErrMost, 1, 6)
}

func TestNumbersOfApi(t *testing.T) {
	if api.MaxMost != 1000000 || api.MaxRules != 1000 || api.MaxText != 1<<20 || api.MaxCap != maxCap || api.MaxKey != 128 {
		t.Error("the limits")
	}
	got := []api.Errno{
		api.OK, api.ErrDigit, api.ErrBig, api.ErrByte, api.ErrLong, api.ErrWord, api.ErrPrefix, api.ErrEvery, api.ErrBurst,
		api.ErrCap, api.ErrKind, api.ErrTwice, api.ErrMost, api.ErrSize, api.ErrDefault, api.ErrMany,
	}
	if !slices.Equal(got, []api.Errno{0, 10, 11, 20, 21, 22, 23, 24, 25, 26, 27, 28, 29, 30, 31, 32}) {
		t.Errorf("the errors are %d", got)
	}
}

func TestRight(t *testing.T) {
	checkRight(t, policy(1, of("")), 0)
	checkRight(t, policy(2, all("", "a", "b")...), 0)
	checkRight(t, policy(2, all("b", "a", "")...), 0)
	checkRight(t, policy(1000000, all("", "~", "!", "#", "default", "rule", "size", "0", long(128))...), 0)
	checkRight(t, policy(7, by("", maxCap, 1, 1), by("a", 1, maxCap, 2), by("b", 1<<31, 1<<31, 3)), 0)
	// Of an empty prefix alone, or not.
	checkRight(t, policy(1, by("", 1, 1, 3)), 0)
	checkRight(t, policy(1, by("", 1, 1, 3), by("a", 1, 1, 3)), 0)
}

func TestRightOfMost(t *testing.T) {
	rows := []struct {
		most int
		want api.Errno
	}{
		{0, 29}, {1, 0}, {2, 0}, {999999, 0}, {1000000, 0}, {1000001, 29}, {-1, 29}, {-2, 29}, {-1000000, 29}, {-999999, 29},
		{math.MaxInt64, 29}, {math.MinInt64, 29}, {math.MinInt64 + 1, 29}, {1 << 32, 29}, {1<<32 + 1, 29}, {-1 << 32, 29}, {1 - 1<<32, 29}, {1 << 62, 29},
	}
	for _, r := range rows {
		checkRight(t, policy(r.most, of("")), r.want)
		checkRight(t, policy(r.most, all("b", "", "a")...), r.want)
		if r.want != 0 {
			checkRight(t, policy(r.most), api.ErrMost)
			checkRight(t, policy(r.most, api.Rule{}), api.ErrMost)
		}
	}
	checkRight(t, api.Policy{}, api.ErrMost)
}

// TestRightOfMany: 1000 rules may be, the one with an empty prefix among them.
func TestRightOfMany(t *testing.T) {
	for _, n := range []int{998, 999, 1000, 1001, 1002, 2000, 5000} {
		want := api.OK
		if n > 1000 {
			want = api.ErrMany
		}
		keys := many(n - 1)
		checkRight(t, policy(3, all(append([]string{""}, keys...)...)...), want)
		checkRight(t, policy(3, all(append(keys, "")...)...), want)
		slices.Reverse(keys)
		checkRight(t, policy(3, all(append(keys, "")...)...), want)
		// However wrong they are.
		if want != 0 {
			checkRight(t, policy(3, make([]api.Rule, n)...), want)
			checkRight(t, policy(3, all(many(n)...)...), want)
			checkRight(t, policy(3, slices.Repeat(all(""), n)...), want)
		}
	}
	checkRight(t, policy(3, slices.Repeat(all(""), 1000)...), api.ErrTwice)
	checkRight(t, policy(3, make([]api.Rule, 1000)...), api.ErrEvery)
	checkRight(t, policy(3, all(many(1000)...)...), api.ErrDefault)
}

func TestRightOfNone(t *testing.T) {
	checkRight(t, api.Policy{Most: 1}, api.ErrDefault)
	checkRight(t, api.Policy{Most: 1, Rules: []api.Rule{}}, api.ErrDefault)
	checkRight(t, api.Policy{Most: 1000000, Rules: make([]api.Rule, 0, 9)}, api.ErrDefault)
}

// wrongs are rules with a prefix that are wrong, each with its error.
func wrongs() map[api.Errno]api.Rule {
	return map[api.Errno]api.Rule{
		api.ErrPrefix: by("a b", 10, 5, 1),
		api.ErrEvery:  by("w", 0, 5, 1),
		api.ErrBurst:  by("w", 10, 0, 1),
		api.ErrCap:    by("w", 2, maxCap, 1),
		api.ErrKind:   by("w", 10, 5, 4),
	}
}

// TestRightOfAWrongRule: at each place.
func TestRightOfAWrongRule(t *testing.T) {
	for e, w := range wrongs() {
		for n := range 9 {
			for i := range n + 1 {
				rules := all(append([]string{""}, many(n)...)...)
				checkRight(t, policy(1, slices.Insert(rules, i, w)...), e)
			}
		}
		rules := all(append(many(998), "")...)
		for _, i := range []int{0, 1, 500, 998, 999} {
			checkRight(t, policy(1, slices.Insert(slices.Clone(rules), i, w)...), e)
		}
	}
	for _, p := range []string{" ", "\x00", "\x7f", "\x80", "\xff", "a\n", long(129), "\u00e9"} {
		checkRight(t, policy(1, of(""), of(p)), api.ErrPrefix)
		checkRight(t, policy(1, of(p), of("")), api.ErrPrefix)
	}
	// The one with an empty prefix, too.
	checkRight(t, policy(1, by("", 0, 5, 1)), api.ErrEvery)
	checkRight(t, policy(1, by("", 10, 0, 1)), api.ErrBurst)
	checkRight(t, policy(1, by("", 1<<32, 1<<32, 1)), api.ErrCap)
	checkRight(t, policy(1, of("a"), by("", 10, 5, 0)), api.ErrKind)
}

// TestRightOfTwoWrongRules: the first one's error is told, whichever it is.
func TestRightOfTwoWrongRules(t *testing.T) {
	for e, w := range wrongs() {
		for _, v := range wrongs() {
			checkRight(t, policy(1, of(""), w, v), e)
			checkRight(t, policy(1, w, of("a"), v, of("")), e)
			checkRight(t, policy(1, of("z"), of("y"), w, of(""), of("x"), v), e)
			checkRight(t, policy(1, w, v), e)
		}
	}
}

func TestRightOfDefaults(t *testing.T) {
	checkRight(t, policy(1, of("a")), api.ErrDefault)
	checkRight(t, policy(1, all("a", "b", "c")...), api.ErrDefault)
	checkRight(t, policy(1, all("default", "rule")...), api.ErrDefault)
	checkRight(t, policy(1, all("", "b", "c")...), 0)
	checkRight(t, policy(1, all("a", "", "c")...), 0)
	checkRight(t, policy(1, all("a", "b", "")...), 0)
	checkRight(t, policy(1, all("", "")...), api.ErrTwice)
	checkRight(t, policy(1, all("", "a", "")...), api.ErrTwice)
	checkRight(t, policy(1, of(""), by("", 1, 1, 3)), api.ErrTwice)
	// Two of one prefix are told behind this.
	checkRight(t, policy(1, all("a", "a")...), api.ErrDefault)
}

// TestRightOfTwice: two of one prefix, wherever they stand.
func TestRightOfTwice(t *testing.T) {
	keys := append([]string{""}, many(8)...)
	for i := range keys {
		for j := range keys {
			for _, numbers := range []api.Rule{of(""), by("", 10, 6, 1), by("", 11, 5, 1), by("", 10, 5, 3)} {
				again := numbers
				again.Prefix = keys[i]
				checkRight(t, policy(1, slices.Insert(all(keys...), j, again)...), api.ErrTwice)
			}
		}
	}
	// Side by side, and far from each other, of many.
	keys = append(many(998), "")
	for _, i := range []int{0, 1, 499, 997, 998} {
		for _, j := range []int{0, 1, i, i + 1, 998, 999} {
			checkRight(t, policy(1, slices.Insert(all(keys...), j, of(keys[i]))...), api.ErrTwice)
		}
	}
	// Prefixes of which one begins another one are not the same.
	checkRight(t, policy(1, all("", "a", "aa", "aaa", "ab", "aab", "A")...), 0)
	checkRight(t, policy(1, of(""), of(long(128)), of(long(127)), of(long(126)+"l"), of(long(127)+"l")), 0)
	checkRight(t, policy(1, of(long(128)), of(""), of(long(128))), api.ErrTwice)
}

// TestRightOfTwoErrors: of several ones the first of the chapter's order. Each
// is put in alone, and with each others.
func TestRightOfTwoErrors(t *testing.T) {
	order := []api.Errno{api.ErrMost, api.ErrMany, api.ErrPrefix, api.ErrEvery, api.ErrBurst, api.ErrCap, api.ErrKind, api.ErrDefault, api.ErrTwice}
	for set := range 1 << len(order) {
		want := api.OK
		p := policy(2, all("a", "b", "c")...)
		for i, e := range order {
			if set>>i&1 == 0 {
				continue
			}
			if want == api.OK {
				want = e
			}
			p = broken(p, e)
		}
		if set>>7&1 == 0 {
			p.Rules = append(p.Rules, of(""))
		}
		checkRight(t, p, want)
	}
}

// broken is p with one error more.
func broken(p api.Policy, e api.Errno) api.Policy {
	switch e {
	case api.ErrMost:
		p.Most = 0
	case api.ErrMany:
		p.Rules = append(p.Rules, all(many(1001)...)...)
	case api.ErrTwice:
		p.Rules = append(p.Rules, of("c"))
	case api.ErrDefault:
	default:
		p.Rules = append(p.Rules, wrongs()[e])
	}
	return p
}

func TestOrder(t *testing.T) {
	check := func(rules []api.Rule, want ...api.Rule) {
		t.Helper()
		if got := Order(policy(3, rules...)); !same(got, policy(3, want...)) {
			t.Errorf("Order(%s) = %s", show(policy(3, rules...)), show(got))
		}
	}
	check(nil)
	check([]api.Rule{})
	check(all("a"), of("a"))
	check(all("", "a", "b"), of(""), of("a"), of("b"))
	check(all("b", "a", ""), of(""), of("a"), of("b"))
	check(all("b", "", "a"), of(""), of("a"), of("b"))
	check(all("ab", "a", "abc", "b", "aa", ""), of(""), of("a"), of("aa"), of("ab"), of("abc"), of("b"))
	check(all("a/", "a", "a!", "a0"), of("a"), of("a!"), of("a/"), of("a0"))
	check(all("a", "B", "A", "b"), of("A"), of("B"), of("a"), of("b"))
	check(all("10", "9", "1", "09"), of("09"), of("1"), of("10"), of("9"))
	// By bytes without a sign: those of 80 and above stand behind.
	check(all("\xff", "\x80", "\x7f", "a", "\x00", "a\x80", "a\x7f", ""), of(""), of("\x00"), of("a"), of("a\x7f"), of("a\x80"), of("\x7f"), of("\x80"), of("\xff"))
	check(all("\u4e16", "\u00e9", "z", "\xfe"), of("z"), of("\u00e9"), of("\u4e16"), of("\xfe"))
	// By prefixes alone, whatever else there is.
	check([]api.Rule{by("b", 1, 1, 1), by("a", 9, 9, 3)}, by("a", 9, 9, 3), by("b", 1, 1, 1))
	check([]api.Rule{by("b", 0, 0, 9), by("a", math.MaxUint64, 0, 0)}, by("a", math.MaxUint64, 0, 0), by("b", 0, 0, 9))
}

// TestOrderOfOnePrefix: those of one stay in their order.
func TestOrderOfOnePrefix(t *testing.T) {
	a, b, c := by("a", 3, 1, 1), by("a", 1, 2, 2), by("a", 2, 0, 0)
	x, y := by("", 2, 2, 2), by("", 1, 1, 1)
	for _, rules := range [][]api.Rule{
		{a, b, c, x, y}, {x, y, a, b, c}, {a, x, b, y, c}, {x, a, b, c, y}, {a, b, x, c, y},
	} {
		if got := Order(policy(0, rules...)); !same(got, policy(0, x, y, a, b, c)) {
			t.Errorf("Order(%s) = %s", show(policy(0, rules...)), show(got))
		}
	}
	if got := Order(policy(1, c, b, a, y, x)); !same(got, policy(1, y, x, c, b, a)) {
		t.Errorf("the other way round: %s", show(got))
	}
	// Enough of them for whatever is done to few ones not to be all.
	n := mixed(3000)
	for _, kinds := range []uint64{1, 2, 3, 10, 100} {
		var p api.Policy
		for i, x := range n {
			p.Rules = append(p.Rules, by(many(100)[x%kinds], uint64(i), x, uint8(x)))
		}
		checkOrder(t, p)
	}
}

// TestOrderOfAll: of some prefixes, in each order.
func TestOrderOfAll(t *testing.T) {
	prefixes := []string{"", "a", "ab", "b", "a\x80", "a"}
	for i := range 720 {
		left := slices.Clone(prefixes)
		var p api.Policy
		p.Most = i
		for k := len(left); k > 0; k-- {
			j := i % k
			i /= k
			r := of(left[j])
			r.Every = uint64(k)
			p.Rules = append(p.Rules, r)
			left = slices.Delete(left, j, j+1)
		}
		checkOrder(t, p)
	}
}

// TestOrderOfAnyPolicy: whatever is wrong with it.
func TestOrderOfAnyPolicy(t *testing.T) {
	for _, most := range []int{0, 1, -1, 1000001, math.MaxInt64, math.MinInt64} {
		checkOrder(t, policy(most))
		checkOrder(t, policy(most, of("")))
		checkOrder(t, policy(most, make([]api.Rule, 5)...))
		checkOrder(t, policy(most, all("b", "a")...))
		for _, w := range wrongs() {
			checkOrder(t, policy(most, of("x"), w, of("a"), w, of("")))
		}
	}
	keys := many(3000)
	slices.Reverse(keys)
	checkOrder(t, policy(1, all(keys...)...))
	checkOrder(t, policy(1, of(long(1<<16)+"b"), of(long(1<<16)+"a"), of(long(1<<16)), of("")))
}

// TestParseOfNoLines: neither `size` nor `default`; `size` is told first.
func TestParseOfNoLines(t *testing.T) {
	p, e, q := Parse(nil)
	if !none(p) || e != api.ErrSize || q != at(0, 0) {
		t.Errorf("Parse(nil) = %s, %d, %v", show(p), e, q)
	}
	for _, text := range []string{
		"", " ", "\t", " \t \t", "\n", "\n\n\n", " \n\t\n", strings.Repeat("\n", 5000),
		"#", "# size 2", "#size 2\n#default 10 5 gcra\n", " # x\n\n\t#\n", "#\n#\n", "##", "#rule a 10 5 gcra",
		strings.Repeat(" ", 1<<20), strings.Repeat("\n", 1<<20), strings.Repeat("#", 1<<20),
	} {
		checkFault(t, text, api.ErrSize, 0, 0)
	}
}

// TestParseOfSplit: its errors are told ahead of all others, with their place.
func TestParseOfSplit(t *testing.T) {
	for _, stray := range []string{"\x00", "\x08", "\x0b", "\r", "\x1f", "\x7f", "\x80", "\xff", "\u00e9"} {
		checkFault(t, stray, api.ErrByte, 1, 1)
		checkFault(t, "size 2\n"+stray, api.ErrByte, 2, 1)
		checkFault(t, "size 2\ndefault 10 5 gcra\n# "+stray+"\n", api.ErrByte, 3, 3)
		checkFault(t, "size 2\ndefault 10 5 gcra\nrule a"+stray+" 10 5 gcra\n", api.ErrByte, 3, 7)
		checkFault(t, "size 2"+stray+"\ndefault 10 5 gcra\n", api.ErrByte, 1, 7)
		// Behind lines that are wrong.
		checkFault(t, "size 0\nx\nrule\n"+stray, api.ErrByte, 4, 1)
		checkFault(t, "x y z\n\n  "+stray+stray+"\n"+stray, api.ErrByte, 3, 3)
	}
	checkFault(t, "size 2\r\ndefault 10 5 gcra\r\n", api.ErrByte, 1, 7)
	const most = 1 << 20
	right := "size 2\ndefault 10 5 gcra\n"
	for _, fill := range []string{" ", "\t", "\n", "#"} {
		for _, n := range []int{most - 1, most} {
			checkParse(t, right+strings.Repeat(fill, n-len(right)), policy(2, of("")))
			checkParse(t, strings.Repeat(fill, n-len(right)-1)+"\n"+right, policy(2, of("")))
		}
		checkFault(t, right+strings.Repeat(fill, most+1-len(right)), api.ErrLong, 0, 0)
		checkFault(t, strings.Repeat(fill, most-len(right))+"\n"+right, api.ErrLong, 0, 0)
		checkFault(t, "size 0\n"+strings.Repeat(fill, most), api.ErrLong, 0, 0)
		checkFault(t, "\xff"+strings.Repeat(fill, most), api.ErrLong, 0, 0)
		checkFault(t, strings.Repeat(fill, most)+"\xff", api.ErrLong, 0, 0)
	}
	checkFault(t, right+strings.Repeat(" ", most-1-len(right))+"\x00", api.ErrByte, 3, most-len(right))
	checkFault(t, strings.Repeat("x", most), api.ErrWord, 1, 1)
}

// TestSizeOfWords: there is one word more, and no other number of them.
func TestSizeOfWords(t *testing.T) {
	right := "default 10 5 gcra\n"
	checkParse(t, right+"size 2", policy(2, of("")))
	checkFault(t, right+"size", api.ErrWord, 2, 1)
	checkFault(t, right+" size ", api.ErrWord, 2, 2)
	checkFault(t, right+"size 2 3", api.ErrWord, 2, 1)
	checkFault(t, right+"\t\tsize 2 2", api.ErrWord, 2, 3)
	checkFault(t, right+"size 2 3 4", api.ErrWord, 2, 1)
	checkFault(t, right+"size 2 #", api.ErrWord, 2, 1)
	checkFault(t, right+"size 2 # two", api.ErrWord, 2, 1)
	checkFault(t, right+"size"+strings.Repeat(" 2", 5000), api.ErrWord, 2, 1)
	// Whatever the words are.
	checkFault(t, "size x y", api.ErrWord, 1, 1)
	checkFault(t, "size 0 0", api.ErrWord, 1, 1)
	checkFault(t, "size 10 5 gcra", api.ErrWord, 1, 1)
	checkFault(t, "size a 10 5 gcra", api.ErrWord, 1, 1)
	checkFault(t, "size size size", api.ErrWord, 1, 1)
}

// TestSizeTwice: at the second one's first word, ahead of what is wrong with its
// number, and behind what is wrong with how many words it has.
func TestSizeTwice(t *testing.T) {
	for _, other := range []string{"2", "3", "1", "1000000", "0", "x", "02", "1000001", "18446744073709551616", "-1"} {
		checkFault(t, "size 2\nsize "+other, api.ErrTwice, 2, 1)
		checkFault(t, "size 2\ndefault 10 5 gcra\n  size "+other+"\n", api.ErrTwice, 3, 3)
		checkFault(t, "# x\n size 2\n\n\tsize\t"+other+"\nx", api.ErrTwice, 4, 2)
	}
	checkFault(t, "size 2\nsize", api.ErrWord, 2, 1)
	checkFault(t, "size 2\nsize 2 2", api.ErrWord, 2, 1)
	checkFault(t, "size 2\nsize 2\nsize 2", api.ErrTwice, 2, 1)
	// The first one's error is told, if it has one.
	checkFault(t, "size 0\nsize 2", api.ErrMost, 1, 6)
	checkFault(t, "size x\nsize 2", api.ErrDigit, 1, 6)
	checkFault(t, "size\nsize 2", api.ErrWord, 1, 1)
	// One behind `#` is none.
	checkParse(t, "size 2\n#size 3\ndefault 10 5 gcra", policy(2, of("")))
}

func TestSizes(t *testing.T) {
	for _, n := range []int{1, 2, 9, 10, 255, 256, 65536, 999999, 1000000} {
		word := strconv.Itoa(n)
		checkParse(t, "size "+word+"\ndefault 10 5 gcra", policy(n, of("")))
		checkParse(t, "default 10 5 gcra\nsize "+word, policy(n, of("")))
		checkPrint(t, policy(n, of("")), "size "+word+"\ndefault 10 5 gcra\n")
	}
	rows := map[string]api.Errno{
		"0": 29, "1000001": 29, "1000002": 29, "4294967296": 29, "4294967297": 29, "9223372036854775807": 29, "9223372036854775808": 29,
		"9223372036854775809": 29, "18446744073709551615": 29, "18446744073709551616": 11, "18446744073709551617": 11,
		"18446744073709551618": 11, "36893488147419103233": 11, "99999999999999999999": 11, strings.Repeat("9", 5000): 11,
		"00": 10, "01": 10, "02": 10, "0001": 10, "01000001": 10, "018446744073709551616": 10, "x": 10, "2x": 10, "x2": 10, "-1": 10, "+1": 10, "1.0": 10,
		"1e3": 10, "0x1": 10, "1_000": 10, "1,000": 10, "#": 10, "#2": 10, "/": 10, ":": 10, "size": 10, "99999999999999999999999999x": 10,
	}
	for word, e := range rows {
		checkFault(t, "size "+word, e, 1, 6)
		checkFault(t, "size "+word+"\ndefault 10 5 gcra", e, 1, 6)
		checkFault(t, "default 10 5 gcra\n \tsize \t "+word+" \n", e, 2, 10)
	}
}

// TestRuleFaults: each of rule.Parse's errors, at the word that it tells.
func TestRuleFaults(t *testing.T) {
	rows := []struct {
		line string
		e    api.Errno
		col  int
	}{
		{"default", 22, 1}, {"default 10", 22, 1}, {"default 10 5", 22, 1}, {"default 10 5 gcra x", 22, 1}, {"default a 10 5 gcra", 22, 1},
		{"rule", 22, 1}, {"rule a", 22, 1}, {"rule a 10 5", 22, 1}, {"rule 10 5 gcra", 22, 1}, {"rule a 10 5 gcra x", 22, 1}, {"rule a 10 5 gcra #", 22, 1},
		{"default" + strings.Repeat(" 1", 5000), 22, 1},
		{"rule " + long(129) + " 10 5 gcra", 23, 6}, {"rule " + long(5000) + " 10 5 gcra", 23, 6},
		{"rule a x 5 gcra", 10, 8}, {"rule a 010 5 gcra", 10, 8}, {"rule a 18446744073709551616 5 gcra", 11, 8}, {"rule a 0 5 gcra", 24, 8},
		{"rule a 10 x gcra", 10, 11}, {"rule a 10 05 gcra", 10, 11}, {"rule a 10 18446744073709551616 gcra", 11, 11}, {"rule a 10 0 gcra", 25, 11},
		{"rule a 2 4611686018427387904 gcra", 26, 10}, {"rule a 4294967296 4294967296 gcra", 26, 19}, {"rule a 10 5 x", 27, 13}, {"rule a 10 5 Gcra", 27, 13},
		{"rule api/ 500 0 leaky", 25, 15},
		{"default x 5 gcra", 10, 9}, {"default 010 5 gcra", 10, 9}, {"default 18446744073709551616 5 gcra", 11, 9}, {"default 0 5 gcra", 24, 9},
		{"default 10 x gcra", 10, 12}, {"default 10 05 gcra", 10, 12}, {"default 10 18446744073709551616 gcra", 11, 12}, {"default 10 0 gcra", 25, 12},
		{"default 2 4611686018427387904 gcra", 26, 11}, {"default 10 5 x", 27, 14}, {"default 10 5 leak", 27, 14}, {"default 10 5 #", 27, 14},
		// Two errors in a line: the first word's.
		{"rule " + long(129) + " 0 0 x", 23, 6}, {"rule a 0 0 x", 24, 8}, {"rule a x y z", 10, 8}, {"rule a 10 0 x", 25, 11}, {"default 0 x y", 24, 9},
	}
	for _, r := range rows {
		checkFault(t, r.line, r.e, 1, r.col)
		checkFault(t, "size 2\ndefault 10 5 gcra\n"+r.line+"\n", r.e, 3, r.col)
		checkFault(t, "\n#\n\t "+r.line+" \nsize 0", r.e, 3, r.col+2)
		// With other blanks between the words.
		checkAll(t, "size 2\n"+strings.ReplaceAll(r.line, " ", "\t  "))
		checkAll(t, strings.ReplaceAll(r.line, " ", "   "))
	}
}

// TestDefaultTwice: at the second one's first word.
func TestDefaultTwice(t *testing.T) {
	for _, other := range []string{"10 5 gcra", "10 5 leaky", "11 5 gcra", "10 6 gcra", "1 1 bucket"} {
		checkFault(t, "size 2\ndefault 10 5 gcra\ndefault "+other, api.ErrTwice, 3, 1)
		checkFault(t, "default 10 5 gcra\n\n  default "+other, api.ErrTwice, 3, 3)
		checkFault(t, "default 10 5 gcra\nrule a 1 1 gcra\nsize 3\n\tdefault  "+other+"\nx", api.ErrTwice, 4, 2)
	}
	// What is wrong with it in itself is told ahead of that.
	checkFault(t, "default 10 5 gcra\ndefault", api.ErrWord, 2, 1)
	checkFault(t, "default 10 5 gcra\ndefault 10 5", api.ErrWord, 2, 1)
	checkFault(t, "default 10 5 gcra\ndefault x 5 gcra", api.ErrDigit, 2, 9)
	checkFault(t, "default 10 5 gcra\ndefault 0 5 gcra", api.ErrEvery, 2, 9)
	checkFault(t, "default 10 5 gcra\ndefault 10 0 gcra", api.ErrBurst, 2, 12)
	checkFault(t, "default 10 5 gcra\ndefault 10 5 x", api.ErrKind, 2, 14)
	checkFault(t, "default 0 5 gcra\ndefault 10 5 gcra", api.ErrEvery, 1, 9)
}

// TestRuleTwice: at the second one's prefix.
func TestRuleTwice(t *testing.T) {
	for _, other := range []string{"10 5 gcra", "10 5 leaky", "11 5 gcra", "10 6 gcra", "1 1 bucket"} {
		for _, p := range []string{"a", "api/", "#", "size", "default", "rule", "0", "~", long(128)} {
			first := "rule " + p + " 10 5 gcra\n"
			checkFault(t, first+"rule "+p+" "+other, api.ErrTwice, 2, 6)
			checkFault(t, "size 2\ndefault 10 5 gcra\n"+first+"  rule \t"+p+" "+other, api.ErrTwice, 4, 9)
			checkFault(t, first+"rule a1 1 1 gcra\nsize 2\nrule a2 1 1 gcra\n\trule   "+p+"\t"+other+"\nx", api.ErrTwice, 5, 9)
		}
	}
	first := "size 2\ndefault 10 5 gcra\nrule a 10 5 gcra\n"
	checkFault(t, first+"rule a 10 5", api.ErrWord, 4, 1)
	checkFault(t, first+"rule a x 5 gcra", api.ErrDigit, 4, 8)
	checkFault(t, first+"rule a 0 5 gcra", api.ErrEvery, 4, 8)
	checkFault(t, first+"rule a 10 0 gcra", api.ErrBurst, 4, 11)
	checkFault(t, first+"rule a 2 4611686018427387904 gcra", api.ErrCap, 4, 10)
	checkFault(t, first+"rule a 10 5 x", api.ErrKind, 4, 13)
	// Others that are much like it.
	checkParse(t, first+"rule A 10 5 gcra\nrule aa 10 5 gcra\nrule a# 10 5 gcra\n", policy(2, all("", "A", "a", "a#", "aa")...))
	// Several are twice: the first line's.
	checkFault(t, first+"rule b 1 1 gcra\nrule b 1 1 gcra\nrule a 1 1 gcra", api.ErrTwice, 5, 6)
}

// rules is a text of so many lines of `rule`, each with a prefix of its own.
func rules(n int) string {
	var b strings.Builder
	for _, k := range many(n) {
		b.WriteString("rule " + k + " 10 5 gcra\n")
	}
	return b.String()
}

// TestParseOfMany: 1000 rules may be, the one of `default` among them.
func TestParseOfMany(t *testing.T) {
	want := policy(2, all(append([]string{""}, many(999)...)...)...)
	checkParse(t, "size 2\ndefault 10 5 gcra\n"+rules(999), want)
	checkParse(t, rules(999)+"default 10 5 gcra\nsize 2", want)
	checkParse(t, rules(999)+"size 2\ndefault 10 5 gcra", want)
	checkFault(t, "size 2\n"+rules(1000), api.ErrDefault, 0, 0)
	// One more: at its first word.
	checkFault(t, "size 2\ndefault 10 5 gcra\n"+rules(1000), api.ErrMany, 1002, 1)
	checkFault(t, "size 2\ndefault 10 5 gcra\n"+rules(999)+"  rule x 1 1 gcra", api.ErrMany, 1002, 3)
	checkFault(t, rules(1000)+"\tdefault 10 5 gcra\nsize 2", api.ErrMany, 1001, 2)
	checkFault(t, rules(1001)+"size 0", api.ErrMany, 1001, 1)
	checkFault(t, rules(1000)+"#\n\nrule x 1 1 gcra", api.ErrMany, 1003, 1)
	checkFault(t, rules(3000), api.ErrMany, 1001, 1)
	// One more that is wrong in itself, or there already.
	for _, r := range []struct {
		line string
		e    api.Errno
		col  int
	}{
		{"rule x 10 5", 22, 1}, {"rule x x 5 gcra", 10, 8}, {"rule x 0 5 gcra", 24, 8}, {"rule x 10 0 gcra", 25, 11}, {"rule x 10 5 x", 27, 13},
		{"rule k0000000 10 5 gcra", 28, 6}, {"rule k0000500 1 1 leaky", 28, 6}, {"rule k0000999 1 1 leaky", 28, 6},
		{"default", 22, 1}, {"default x 5 gcra", 10, 9}, {"default 10 5 x", 27, 14}, {"default 10 5 gcra", 32, 1}, {"rule x 10 5 gcra", 32, 1},
		{"size 0", 29, 6}, {"x", 22, 1},
	} {
		checkFault(t, rules(1000)+r.line, r.e, 1001, r.col)
	}
	checkFault(t, "default 10 5 gcra\n"+rules(999)+"default 10 5 gcra", api.ErrTwice, 1001, 1)
	checkFault(t, "default 10 5 gcra\n"+rules(999)+"size 2\n default 1 1 gcra", api.ErrTwice, 1002, 2)
	// A line of `size` is no rule.
	checkParse(t, rules(500)+"size 2\n"+rules(999)[len(rules(500)):]+"default 10 5 gcra", want)
}

// TestFirstWords: any other one is none, whatever stands behind it.
func TestFirstWords(t *testing.T) {
	for _, word := range []string{
		"x", "Size", "SIZE", "siz", "sizes", "ize", "size2", "size#", "Default", "DEFAULT", "defaul", "defaults", "efault", "default10",
		"Rule", "RULE", "rul", "rules", "ule", "rule#", "most", "2", "0", "gcra", "~", "!", "\"size\"", "size:", "-", "//", ";", long(5000),
	} {
		for _, rest := range []string{"", " 2", " 10 5 gcra", " a 10 5 gcra", " size 2", " #", " x y z a b c"} {
			checkFault(t, word+rest, api.ErrWord, 1, 1)
			checkFault(t, "size 2\ndefault 10 5 gcra\n \t"+word+rest+"\n", api.ErrWord, 3, 3)
			checkFault(t, "size 2\n\n#\n"+word+rest+"\ndefault 10 5 gcra", api.ErrWord, 4, 1)
		}
	}
}

// TestWithout: what no line tells is wrong at no place, `size` first.
func TestWithout(t *testing.T) {
	checkFault(t, "", api.ErrSize, 0, 0)
	checkFault(t, "size 2", api.ErrDefault, 0, 0)
	checkFault(t, "size 2\n", api.ErrDefault, 0, 0)
	checkFault(t, "default 10 5 gcra", api.ErrSize, 0, 0)
	checkFault(t, "rule a 10 5 gcra", api.ErrSize, 0, 0)
	checkFault(t, "rule a 10 5 gcra\nrule b 10 5 gcra\n", api.ErrSize, 0, 0)
	checkFault(t, "rule a 10 5 gcra\ndefault 10 5 gcra\n", api.ErrSize, 0, 0)
	checkFault(t, "rule a 10 5 gcra\nsize 2\n", api.ErrDefault, 0, 0)
	checkFault(t, "size 2\nrule default 10 5 gcra\n", api.ErrDefault, 0, 0)
	checkFault(t, "#size 2\ndefault 10 5 gcra\n", api.ErrSize, 0, 0)
	checkFault(t, "size 2\n# default 10 5 gcra\n", api.ErrDefault, 0, 0)
	checkFault(t, rules(1000), api.ErrSize, 0, 0)
}

// TestTwoWrongLines: the first one's error is told, whichever it is, and ahead
// of what no line tells.
func TestTwoWrongLines(t *testing.T) {
	rows := []struct {
		line string
		e    api.Errno
		col  int
	}{
		{"x", 22, 1}, {"size", 22, 1}, {"size x", 10, 6}, {"size 18446744073709551616", 11, 6}, {"size 0", 29, 6},
		{"default", 22, 1}, {"default 0 5 gcra", 24, 9}, {"rule a 10 0 gcra", 25, 11}, {"rule a 10 5 x", 27, 13},
		{"rule b 10 5 gcra", 28, 6}, {"default 1 1 gcra", 28, 1}, {"rule " + long(129) + " 10 5 gcra", 23, 6},
		{"rule a 2 4611686018427387904 gcra", 26, 10},
	}
	for _, r := range rows {
		for _, s := range rows {
			checkFault(t, "rule b 1 1 gcra\ndefault 1 1 gcra\n"+r.line+"\n"+s.line, r.e, 3, r.col)
			checkFault(t, "default 1 1 gcra\nrule b 1 1 gcra\n"+r.line+"\nsize 2\nrule c 1 1 gcra\n"+s.line+"\n", r.e, 3, r.col)
		}
	}
}

// TestParseInOrder: the rules that are told are, however the lines are.
func TestParseInOrder(t *testing.T) {
	lines := []string{"size 7", "default 10 5 gcra", "rule a 1 2 bucket", "rule ab 3 4 leaky", "rule b 5 6 gcra"}
	want := policy(7, by("", 10, 5, 1), by("a", 1, 2, 2), by("ab", 3, 4, 3), by("b", 5, 6, 1))
	for i := range 120 {
		left := slices.Clone(lines)
		text := ""
		for k := len(left); k > 0; k-- {
			j := i % k
			i /= k
			text += left[j] + "\n"
			left = slices.Delete(left, j, j+1)
		}
		checkParse(t, text, want)
		checkParse(t, text[:len(text)-1], want)
		checkAll(t, text)
		checkAll(t, text+text)
	}
}

// TestBlanks: blanks, tabs, empty lines, and such as begin with `#`, ahead of,
// between and behind the others.
func TestBlanks(t *testing.T) {
	want := policy(7, by("", 10, 5, 1), by("a", 1, 2, 2), by("b#", 5, 6, 3))
	lines := []string{"rule b# 5 6 leaky", "size 7", "rule a 1 2 bucket", "default 10 5 gcra"}
	gaps := []string{"", " ", "\t", " \t ", "\n", "\n\n", " \n\t\n", "#\n", "# size 3\n", " #x\n\n\t# \t y\n", "##\n#rule a 1 2 bucket\n\n"}
	for _, ahead := range gaps {
		for _, between := range gaps {
			for _, behind := range gaps {
				text := ahead + strings.Join(lines, "\n"+between) + "\n" + behind
				checkParse(t, text, want)
				checkParse(t, strings.ReplaceAll(text, " ", " \t "), want)
				checkParse(t, strings.ReplaceAll(text, " ", "\t"), want)
				checkParse(t, strings.ReplaceAll(text, "\n", " \t\n"), want)
			}
		}
	}
}

// TestHash: anywhere else than ahead of a line it is a byte as any other.
func TestHash(t *testing.T) {
	right := "size 2\ndefault 10 5 gcra\n"
	checkParse(t, right+"rule # 10 5 gcra", policy(2, of(""), of("#")))
	checkParse(t, right+"rule #a 10 5 gcra\nrule a# 10 5 gcra\n", policy(2, of(""), of("#a"), of("a#")))
	checkFault(t, right+"rule a 10 5 gcra # x", api.ErrWord, 3, 1)
	checkFault(t, right+"rule a 10 5 gcra#", api.ErrKind, 3, 13)
	checkFault(t, right+"rule a 10# 5 gcra", api.ErrDigit, 3, 8)
	checkFault(t, "size #2", api.ErrDigit, 1, 6)
	checkFault(t, "size# 2", api.ErrWord, 1, 1)
	checkFault(t, "size 2 #", api.ErrWord, 1, 1)
}

func TestPrint(t *testing.T) {
	checkPrint(t, policy(1, of("")), "size 1\ndefault 10 5 gcra\n")
	checkPrint(t, policy(1000000, by("", 1, 1, 2)), "size 1000000\ndefault 1 1 bucket\n")
	checkPrint(t, policy(2, by("b", 1, 2, 2), by("", 10, 5, 1), by("a", 500, 20, 3)), "size 2\ndefault 10 5 gcra\nrule a 500 20 leaky\nrule b 1 2 bucket\n")
	checkPrint(t, policy(9, all("#", "default", "", "size", "rule")...), "size 9\ndefault 10 5 gcra\nrule # 10 5 gcra\nrule default 10 5 gcra\nrule rule 10 5 gcra\nrule size 10 5 gcra\n")
	checkPrint(t, policy(3, by("", maxCap, 1, 3), by(long(128), 1, maxCap, 1)), "size 3\ndefault 4611686018427387904 1 leaky\nrule "+long(128)+" 1 4611686018427387904 gcra\n")
	checkPrint(t, policy(2, append(all(many(999)...), of(""))...), "size 2\ndefault 10 5 gcra\n"+rules(999))
}

func TestPrintOfWhatIsNotRight(t *testing.T) {
	check := func(p api.Policy, want api.Errno) {
		t.Helper()
		if text, e := Print(p); len(text) != 0 || e != want {
			t.Errorf("Print(%s) = %.200q, %d, want %d", show(p), text, e, want)
		}
	}
	check(api.Policy{}, api.ErrMost)
	check(policy(0, of("")), api.ErrMost)
	check(policy(-1, of("")), api.ErrMost)
	check(policy(1000001, of("")), api.ErrMost)
	check(policy(1, all(append(many(1000), "")...)...), api.ErrMany)
	for e, w := range wrongs() {
		check(policy(1, of(""), w), e)
		check(policy(1, w, of("")), e)
		check(policy(0, w, of("")), api.ErrMost)
	}
	check(policy(1), api.ErrDefault)
	check(policy(1, of("a")), api.ErrDefault)
	check(policy(1, all("", "a", "b", "a")...), api.ErrTwice)
	check(policy(1, of(""), by("", 1, 1, 2)), api.ErrTwice)
}

// TestPrintedIsRead: of many policies, right ones and others.
func TestPrintedIsRead(t *testing.T) {
	n := mixed(60000)
	told := map[api.Errno]int{}
	for i := 0; i+60 <= len(n); i += 12 {
		x := n[i : i+60]
		p := policy(int(x[0] % 1000010))
		for ; len(p.Rules) < int(x[1]%9); x = x[5:] {
			p.Rules = append(p.Rules, by(prefixOf(x[1]), x[2]%1000+x[2]%41, x[3]%(1<<58)+1, uint8(x[4]%40%3+1)))
		}
		if x[2]%3 > 0 {
			p.Rules = append(p.Rules, by("", x[3]%9+1, x[4]%9+1, uint8(x[5]%61%4)))
		}
		if x[6]%7 == 0 && len(p.Rules) > 0 {
			p.Rules = append(p.Rules, by(p.Rules[x[7]%uint64(len(p.Rules))].Prefix, 7, 7, 1))
		}
		e := wantRight(p)
		checkRight(t, p, e)
		checkOrder(t, p)
		told[e]++
	}
	for _, e := range []api.Errno{0, 23, 24, 26, 27, 28, 29, 31} {
		if told[e] < 20 {
			t.Errorf("%d is told of %d policies", e, told[e])
		}
	}
}

// prefixOf is a prefix for a number: few are not right, and some are the same.
func prefixOf(x uint64) string {
	const some = "abcdefgh#~!/.0123"
	if x%101 == 100 {
		return "a\x7f"
	}
	out := some[x%uint64(len(some)):][:1]
	for x %= 5000; x > 0; x /= uint64(len(some)) {
		out += some[x%uint64(len(some)):][:1]
	}
	return out
}

// TestPrintedIsReadOfMany: of policies that are right, of many rules.
func TestPrintedIsReadOfMany(t *testing.T) {
	for i, x := range mixed(60) {
		keys := many(i * 16)
		p := policy(int(x%1000000) + 1)
		for j, k := range keys {
			p.Rules = append(p.Rules, by(keys[len(keys)-1-j][j%5:], x%1000+1, uint64(len(k)+j), uint8((i+j)%3+1)))
		}
		p.Rules = slices.Insert(p.Rules, len(keys)/2, by("", 3, 3, 3))
		checkRight(t, p, wantRight(p))
		slices.SortFunc(p.Rules, func(a, b api.Rule) int { return strings.Compare(b.Prefix, a.Prefix) })
		p.Rules = slices.CompactFunc(p.Rules, func(a, b api.Rule) bool { return a.Prefix == b.Prefix })
		checkRight(t, p, 0)
	}
}

// TestParseOfMixed: lines as they come, and words as they come.
func TestParseOfMixed(t *testing.T) {
	lines := []string{
		"size 2", "default 10 5 gcra", "rule a 1 1 gcra", "rule b 2 2 leaky", "rule ab 3 3 bucket", "rule # 3 3 bucket", "", " ", "# x", "\t#", " rule c 1 1 gcra ", "rule\td 1  1\tgcra",
		"size 0", "rule a 0 1 gcra", "default 1 1 x", "x", "size 3", "rule a 2 2 gcra",
	}
	some := []string{"size", "rule", "default", "rule", "a", "b", "1", "10", "0", "x", "gcra", "leaky", "#", "2", " ", "\t", "4611686018427387904"}
	n := mixed(60000)
	for i := 0; i+12 <= len(n); i += 6 {
		var text []string
		for _, x := range n[i : i+int(n[i]/3%12)] {
			text = append(text, lines[x/5%uint64(len(lines))])
		}
		checkAll(t, strings.Join(text, "\n"))
		var words []string
		for _, x := range n[i : i+int(n[i]/3%12)] {
			words = append(words, some[x/7%uint64(len(some))])
			if x/11%4 == 0 {
				words = append(words, "\n")
			}
		}
		checkAll(t, strings.Join(words, " "))
		checkAll(t, "size 2\n"+strings.Join(words, " ")+"\ndefault 10 5 gcra")
	}
}

// TestAnyBytes: whatever a call is handed, it ends, and does not panic; with an
// error there is no policy.
func TestAnyBytes(t *testing.T) {
	n := mixed(200000)
	for i := 0; i+20 <= len(n); i += 10 {
		var b []byte
		for _, x := range n[i : i+20] {
			b = append(b, byte(x), " \n#sdr02"[x%8])
		}
		for _, text := range [][]byte{b, b[:len(b)/2], bytes.ToValidUTF8(b, []byte{' '})} {
			p, e, q := Parse(text)
			if e == api.OK || !none(p) || q.Line < 0 || q.Col < 0 || (q.Line == 0) != (q.Col == 0) {
				t.Errorf("Parse(%q) = %s, %d, %v", text, show(p), e, q)
			}
		}
	}
	right := "size 2\n\tdefault 10 5 gcra\n# x\nrule a 1 1 leaky\n"
	for i := range right {
		// A byte less, another one, one more, and an end.
		for c := range 256 {
			one := string([]byte{byte(c)})
			for _, text := range []string{right[:i] + one + right[i+1:], right[:i] + one + right[i:]} {
				if c == '\t' || c == '\n' || c >= 0x20 && c <= 0x7e {
					checkAll(t, text)
				} else {
					checkFault(t, text, api.ErrByte, strings.Count(right[:i], "\n")+1, i-strings.LastIndex(right[:i], "\n"))
				}
			}
		}
		checkAll(t, right[:i]+right[i+1:])
		checkAll(t, right[:i])
		checkAll(t, right[i:])
	}
}

// TestNoPolicyBesideAnError: however much was right ahead of it.
func TestNoPolicyBesideAnError(t *testing.T) {
	ahead := "size 2\ndefault 10 5 gcra\nrule a 1 1 leaky\n"
	for _, line := range []string{"x", "size 2", "default 10 5 gcra", "rule a 1 1 leaky", "rule b 0 1 leaky", "rule", "\xff", strings.Repeat(" ", 1<<20)} {
		p, e, _ := Parse([]byte(ahead + line))
		if e == api.OK || p.Most != 0 || len(p.Rules) != 0 {
			t.Errorf("Parse of what is right and %.40q = %s, %d", line, show(p), e)
		}
	}
	for _, text := range []string{"size 2\nrule a 1 1 leaky", "default 10 5 gcra\nrule a 1 1 leaky"} {
		if p, e, q := Parse([]byte(text)); e == api.OK || p.Most != 0 || len(p.Rules) != 0 || q != at(0, 0) {
			t.Errorf("Parse(%q) = %s, %d, %v", text, show(p), e, q)
		}
	}
}

// TestParseOwnsItsMemory: what is read stays when the text changes, and when
// another answer does.
func TestParseOwnsItsMemory(t *testing.T) {
	text := []byte("size 2\nrule b 1 1 leaky\nrule api/ 500 20 leaky\ndefault 10 5 gcra\n")
	kept := string(text)
	want := policy(2, of(""), by("api/", 500, 20, 3), by("b", 1, 1, 3))
	one, _, _ := Parse(text)
	other, _, _ := Parse(text)
	if string(text) != kept {
		t.Fatalf("the text is %q", text)
	}
	for i := range text {
		text[i] = 'z'
	}
	if !same(one, want) || !same(other, want) {
		t.Errorf("behind the text's change: %s, %s", show(one), show(other))
	}
	spoil(one.Rules)
	if !same(other, want) {
		t.Errorf("one answer's change is seen in the other one: %s", show(other))
	}
	checkParse(t, kept, want)
}

// spoil changes a list, and what lies behind its length.
func spoil(rules []api.Rule) {
	rules = rules[:cap(rules)]
	for i := range rules {
		rules[i] = by("spoiled", 9, 9, 9)
	}
}

// TestOrderOwnsItsMemory: neither the list nor the bytes of the prefixes are
// those that were handed in, or of another answer.
func TestOrderOwnsItsMemory(t *testing.T) {
	for _, rules := range [][]api.Rule{all("b", "", "a"), all("", "a", "b"), all("a"), all("", "")} {
		p := policy(2, rules...)
		was := deep(p)
		want := wantOrder(p)
		one, other := Order(p), Order(p)
		spoil(one.Rules)
		if !same(p, was) || !same(other, want) {
			t.Errorf("one answer's change is seen: %s, %s", show(p), show(other))
		}
		spoil(p.Rules)
		if !same(other, want) {
			t.Errorf("behind the list's change: %s", show(other))
		}
	}
	b := []byte("api/")
	p := policy(2, of(unsafe.String(&b[0], len(b))), of(""))
	ordered := Order(p)
	text, e := Print(p)
	copy(b, "xxxx")
	if !same(ordered, policy(2, of(""), of("api/"))) || string(text) != "size 2\ndefault 10 5 gcra\nrule api/ 10 5 gcra\n" || e != api.OK {
		t.Errorf("behind the prefix's change: %s, %q, %d", show(ordered), text, e)
	}
}

func TestPrintOwnsItsMemory(t *testing.T) {
	p := policy(2, all("b", "", "a")...)
	const want = "size 2\ndefault 10 5 gcra\nrule a 10 5 gcra\nrule b 10 5 gcra\n"
	one, _ := Print(p)
	other, _ := Print(p)
	spoil(p.Rules)
	if string(one) != want {
		t.Errorf("behind the list's change: %q", one)
	}
	one = one[:cap(one)]
	for i := range one {
		one[i] = 'x'
	}
	if string(other) != want {
		t.Errorf("one answer's change is seen in the other one: %q", other)
	}
	checkPrint(t, policy(2, all("b", "", "a")...), want)
}

// TestBehindAList: what lies behind its length is neither read, nor written, nor
// handed out; nothing ahead of it is changed.
func TestBehindAList(t *testing.T) {
	memory := []api.Rule{of("b"), of("a"), of(""), of("b"), by("w", 0, 0, 0), of("")}
	kept := slices.Clone(memory)
	for from := range len(memory) + 1 {
		for to := from; to <= len(memory); to++ {
			p := policy(2, memory[from:to]...)
			checkRight(t, p, wantRight(p))
			checkOrder(t, p)
			got := Order(p).Rules
			for _, r := range got[len(got):cap(got)] {
				if r != (api.Rule{}) {
					t.Errorf("behind Order(%s) there is %v", show(p), r)
				}
			}
			if !slices.Equal(memory, kept) {
				t.Fatalf("the memory is %v", memory)
			}
		}
	}
	checkRight(t, policy(2, memory[:3]...), 0)
	checkRight(t, policy(2, memory[:4]...), api.ErrTwice)
	full := append(all(many(999)...), of(""), of("x"))
	checkRight(t, policy(2, full[:1000]...), 0)
	checkRight(t, policy(2, full...), api.ErrMany)
}

func TestBehindAText(t *testing.T) {
	text := []byte("size 21\ndefault 10 55 gcra\nrule a 1 1 leaky\nrule b\xff\n")
	kept := bytes.Clone(text)
	rows := []struct {
		to   int
		e    api.Errno
		want api.Policy
	}{
		{0, 30, api.Policy{}}, {3, 22, api.Policy{}}, {4, 22, api.Policy{}}, {6, 31, api.Policy{}}, {26, 0, policy(21, by("", 10, 55, 1))},
		{25, 27, api.Policy{}}, {28, 22, api.Policy{}}, {43, 0, policy(21, by("", 10, 55, 1), by("a", 1, 1, 3))}, {42, 27, api.Policy{}}, {51, 20, api.Policy{}},
	}
	for _, r := range rows {
		if p, e, _ := Parse(text[:r.to]); !same(p, r.want) || e != r.e {
			t.Errorf("Parse(%q) = %s, %d, want %s, %d", text[:r.to], show(p), e, show(r.want), r.e)
		}
	}
	for i := range 50 {
		checkAll(t, string(text[:i]))
		p, e, q := Parse(text[:i])
		alone, f, w := Parse(slices.Clip(bytes.Clone(text[:i])))
		if !same(p, alone) || e != f || q != w {
			t.Errorf("Parse(%q) = %s, %d, %v, and alone %s, %d, %v", text[:i], show(p), e, q, show(alone), f, w)
		}
	}
	if !bytes.Equal(text, kept) {
		t.Errorf("the text is %q", text)
	}
}

// TestEmptyLists: a list that is nil and one that is empty are the same thing.
func TestEmptyLists(t *testing.T) {
	for _, rules := range [][]api.Rule{nil, {}, make([]api.Rule, 0, 5), all("a", "")[:0]} {
		p := api.Policy{Most: 5, Rules: rules}
		text, f := Print(p)
		if e, q := Right(p), Order(p); e != api.ErrDefault || q.Most != 5 || len(q.Rules) != 0 || len(text) != 0 || f != e {
			t.Errorf("of no rules: %d, %s, %q, %d", e, show(q), text, f)
		}
	}
	for _, text := range [][]byte{nil, {}, make([]byte, 0, 5), []byte("size 2")[:0]} {
		if p, e, q := Parse(text); !none(p) || e != api.ErrSize || q != at(0, 0) {
			t.Errorf("of no text: %s, %d, %v", show(p), e, q)
		}
	}
}

// TestAgain: what is told hangs on nothing that was told ahead of it.
func TestAgain(t *testing.T) {
	for range 3 {
		checkParse(t, "size 2\ndefault 10 5 gcra", policy(2, of("")))
		checkFault(t, "size 0", api.ErrMost, 1, 6)
		checkFault(t, "default 10 5 gcra", api.ErrSize, 0, 0)
		checkFault(t, "size 2", api.ErrDefault, 0, 0)
		checkRight(t, policy(2, all("", "a")...), 0)
		checkRight(t, policy(2, all("", "a", "a")...), api.ErrTwice)
		checkPrint(t, policy(2, of("")), "size 2\ndefault 10 5 gcra\n")
	}
}

// TestWrong: what is wrong panics as a fault of its word; what holds does not.
func TestWrong(t *testing.T) {
	r := reader{line: []api.Word{{Text: "a", Line: 3, Col: 4}, {Text: "b", Line: 3, Col: 9}}}
	defer func() {
		if f, is := recover().(fault); !is || f != (fault{api.ErrKind, at(3, 9)}) {
			t.Errorf("what was wrong panicked with %v", f)
		}
	}()
	r.need(true, api.ErrWord, 0)
	r.need(false, api.ErrKind, 1)
	t.Error("what was wrong did not panic")
}
