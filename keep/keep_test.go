package keep

import (
	"fmt"
	"math"
	"reflect"
	"slices"
	"strings"
	"testing"
	"unsafe"

	"toller/api"
	"toller/kernel"
	"toller/key"
	"toller/past"
	"toller/rule"
	"toller/table"
)

const end = 1<<64 - 1

// dice tells numbers below a bound, always the same ones of one seed.
func dice(seed int) func(below uint64) uint64 {
	x := 88172645463325252 + uint64(seed)*0x9e3779b97f4a7c15
	return func(below uint64) uint64 {
		x ^= x << 13
		x ^= x >> 7
		x ^= x << 17
		return (x >> 7) % below
	}
}

// three are the kernels.
func three() []uint8 {
	return []uint8{api.Gcra, api.Bucket, api.Leaky}
}

// long is a text of so many bytes.
func long(n int) string {
	return strings.Repeat("k", n)
}

// by is a rule of these numbers for all keys.
func by(every, burst uint64, kind uint8) api.Rule {
	return api.Rule{Every: every, Burst: burst, Kind: kind}
}

// of is a rule of a prefix, too.
func of(prefix string, every, burst uint64, kind uint8) api.Rule {
	return api.Rule{Prefix: prefix, Every: every, Burst: burst, Kind: kind}
}

// policy is one of these rules.
func policy(most int, l ...api.Rule) api.Policy {
	return api.Policy{Most: most, Rules: l}
}

// state is one that is so full.
func state(kind uint8, now, cap, fill uint64) api.State {
	s, e := kernel.Of(kind, now, cap, fill)
	if e != api.OK {
		panic(e)
	}
	return s
}

// full is a slot that is so full at now, by its rule's kernel.
func full(k string, r api.Rule, now, fill uint64) api.Slot {
	return api.Slot{Key: k, Rule: r, State: state(r.Kind, now, r.Every*r.Burst, fill)}
}

// keysOf are the keys of these.
func keysOf(l []api.Slot) []string {
	var out []string
	for _, s := range l {
		out = append(out, s.Key)
	}
	return out
}

// many are n slots by rules of 10 and 5, in turn by each of the kernels, their
// keys rising.
func many(n int) []api.Slot {
	var out []api.Slot
	for i := range n {
		out = append(out, full(fmt.Sprintf("k%07d", i), of("k", 10, 5, three()[i%3]), 0, uint64(i%50)+1))
	}
	return out
}

// tableOf is a table of these.
func tableOf(t *testing.T, most int, clock uint64, l ...api.Slot) *table.Table {
	t.Helper()
	w, e := table.Of(most, clock, l)
	if e != api.OK || w == nil {
		t.Fatalf("table.Of(%d, %d, %.300q) = %v, %v", most, clock, fmt.Sprint(l), w, e)
	}
	return w
}

// report is what a table tells of itself.
type report struct {
	Clock   uint64
	Active  int
	Slots   []api.Slot
	Entries []api.Entry
}

func told(w *table.Table) report {
	return report{w.Clock(), w.Active(), append([]api.Slot{}, w.Slots()...), append([]api.Entry{}, w.Entries()...)}
}

// checkStill: a table tells what it told.
func checkStill(t *testing.T, w *table.Table, before report) {
	t.Helper()
	if after := told(w); !reflect.DeepEqual(after, before) {
		t.Errorf("the table tells %.300q, and told %.300q", fmt.Sprint(after), fmt.Sprint(before))
	}
}

// checkAlike: two tables tell the same of all but kernels, prefixes, and how many
// may be.
func checkAlike(t *testing.T, a, b *table.Table) {
	t.Helper()
	if a.Clock() != b.Clock() || a.Active() != b.Active() || !slices.Equal(a.Entries(), b.Entries()) {
		t.Errorf("one table tells %.300q, and the other one %.300q", fmt.Sprint(told(a)), fmt.Sprint(told(b)))
	}
}

// checkKeep: just these stay, and so many do not; the table that was handed in is
// as it was. Told is the table that is kept.
func checkKeep(t *testing.T, w *table.Table, p api.Policy, gone int, want ...api.Slot) *table.Table {
	t.Helper()
	before := told(w)
	kept, n, e := Keep(w, p)
	if e != api.OK || n != gone || kept == nil {
		t.Fatalf("Keep(%.300q, %.300q) = %v, %d, %v, want a table, %d, OK", fmt.Sprint(before), fmt.Sprint(p), kept, n, e, gone)
	}
	if kept == w {
		t.Fatalf("Keep(%.300q, %.300q) tells the table that it was handed", fmt.Sprint(before), fmt.Sprint(p))
	}
	if kept.Clock() != before.Clock || kept.Active() != len(want) || !slices.Equal(kept.Slots(), want) {
		t.Fatalf("Keep(%.300q, %.300q) keeps %.300q, want %.300q", fmt.Sprint(before), fmt.Sprint(p), fmt.Sprint(told(kept)), fmt.Sprint(want))
	}
	checkStill(t, w, before)
	checkUntil(t, before.Entries, kept.Entries())
	return kept
}

// checkUntil: who stays is active until the same time as he was.
func checkUntil(t *testing.T, before, after []api.Entry) {
	t.Helper()
	for _, e := range after {
		if !slices.Contains(before, e) {
			t.Errorf("%v is kept, of %.300q", e, fmt.Sprint(before))
		}
	}
}

// checkFails: nothing is kept, but that error told, and the table is as it was.
func checkFails(t *testing.T, w *table.Table, p api.Policy, want api.Errno) {
	t.Helper()
	before := told(w)
	kept, n, e := Keep(w, p)
	if kept != nil || n != 0 || e != want {
		t.Errorf("Keep(%.300q, %.300q) = %v, %d, %v, want none, 0, %v", fmt.Sprint(before), fmt.Sprint(p), kept, n, e, want)
	}
	checkStill(t, w, before)
}

// checkLost: these do not stay.
func checkLost(t *testing.T, w *table.Table, p api.Policy, want ...string) {
	t.Helper()
	before := told(w)
	if got := Lost(w, p); !slices.Equal(got, want) {
		t.Errorf("Lost(%.300q, %.300q) = %.300q, want %.300q", fmt.Sprint(before), fmt.Sprint(p), got, want)
	}
	checkStill(t, w, before)
}

// checkBoth: those whose keys are named stay, each by the rule behind its key, and
// all others are lost.
func checkBoth(t *testing.T, w *table.Table, p api.Policy, stay map[string]api.Rule) *table.Table {
	t.Helper()
	var want []api.Slot
	var lost []string
	for _, s := range w.Slots() {
		r, is := stay[s.Key]
		if !is {
			lost = append(lost, s.Key)
			continue
		}
		cap := s.Rule.Every * s.Rule.Burst
		want = append(want, full(s.Key, r, w.Clock(), kernel.Fill(s.State, w.Clock(), cap)))
	}
	if len(want) != len(stay) {
		t.Fatalf("%v should stay, of %v", stay, w.Slots())
	}
	checkLost(t, w, p, lost...)
	return checkKeep(t, w, p, len(lost), want...)
}

func checkCode(t *testing.T, w *table.Table, k string, r api.Rule, n uint64, want uint8) {
	t.Helper()
	if got := w.Charge(k, r, n); got.Code != want {
		t.Errorf("Charge(%.40q, %v, %d) = %+v, want the code %d", k, r, n, got, want)
	}
}

// checkMost: so many may be active in a table, and no more.
func checkMost(t *testing.T, w *table.Table, most int) {
	t.Helper()
	for i := w.Active(); i < most; i++ {
		checkCode(t, w, fmt.Sprint("new", i), by(1, 1000, api.Leaky), 1000, api.Admit)
	}
	checkCode(t, w, "one more", by(1, 1000, api.Leaky), 1, api.Bad)
	checkCode(t, w, "one/more", by(1, 1000, api.Leaky), 1, api.Overloaded)
	if w.Active() != most {
		t.Errorf("%d are active, want %d", w.Active(), most)
	}
}

func TestExample(t *testing.T) {
	for _, from := range three() {
		w := table.New(1)
		checkCode(t, w, "a", by(10, 2, from), 1, api.Admit)
		for _, to := range three() {
			checkBoth(t, w, policy(1, by(10, 2, to)), map[string]api.Rule{"a": by(10, 2, to)})
			checkBoth(t, w, policy(1, by(10, 3, to)), nil)
			checkBoth(t, w, policy(1, by(11, 2, to)), nil)
		}
	}
}

// TestSame: Every and Burst count, and nothing else does.
func TestSame(t *testing.T) {
	one := of("api/", 10, 20, api.Gcra)
	rows := []struct {
		a, b api.Rule
		want bool
	}{
		{one, one, true},
		{one, of("api", 10, 20, api.Gcra), true}, {one, of("", 10, 20, api.Gcra), true}, {one, of("x", 10, 20, api.Gcra), true},
		{one, of("api/", 10, 20, api.Bucket), true}, {one, of("api/", 10, 20, api.Leaky), true}, {one, of("x", 10, 20, api.Leaky), true},
		{one, of("api/", 11, 20, api.Gcra), false}, {one, of("api/", 9, 20, api.Gcra), false}, {one, of("api/", 0, 20, api.Gcra), false},
		{one, of("api/", 10, 21, api.Gcra), false}, {one, of("api/", 10, 19, api.Gcra), false}, {one, of("api/", 10, 0, api.Gcra), false},
		{one, of("api/", 11, 21, api.Gcra), false}, {one, of("api/", 9, 21, api.Gcra), false},
		// The same cap, the same sum, the same last bytes of a number.
		{one, of("api/", 20, 10, api.Gcra), false}, {one, of("api/", 5, 40, api.Gcra), false}, {one, of("api/", 200, 1, api.Gcra), false},
		{one, of("api/", 1, 29, api.Gcra), false}, {one, of("api/", 10+256, 20, api.Gcra), false}, {one, of("api/", 10, 20+1<<32, api.Gcra), false},
		{one, of("api/", 10+1<<63, 20, api.Gcra), false}, {one, of("api/", 10, 20+1<<63, api.Gcra), false},
		// Whether a rule is right isn't asked.
		{one, of("\n", 10, 20, 0), true}, {one, of(long(129), 10, 20, 255), true},
		{api.Rule{}, api.Rule{}, true}, {api.Rule{}, of("x", 0, 0, 3), true}, {api.Rule{}, one, false},
		{of("a", end, end, 4), of("b", end, end, 5), true}, {by(end, end, 1), by(end, end-1, 1), false}, {by(end, end, 1), by(end-1, end, 1), false},
		{by(0, 5, 1), by(5, 0, 1), false}, {by(0, 5, 1), by(0, 6, 1), false}, {by(1<<32, 1<<32, 1), by(1<<33, 1<<33, 1), false},
	}
	for _, r := range rows {
		if got := Same(r.a, r.b); got != r.want {
			t.Errorf("Same(%v, %v) = %v", r.a, r.b, got)
		}
		if got := Same(r.b, r.a); got != r.want {
			t.Errorf("Same(%v, %v) = %v", r.b, r.a, got)
		}
	}
}

// TestMost: a table of Most is told of a Most from 1 to 1000000, and none of any
// other one, whether anyone stays or not.
func TestMost(t *testing.T) {
	r := by(10, 5, api.Leaky)
	tables := map[string]*table.Table{
		"none": nil, "empty": table.New(3), "stays": tableOf(t, 3, 7, full("a", r, 7, 20)),
		"goes": tableOf(t, 3, 7, full("a", by(10, 6, 1), 7, 20)),
	}
	for name, w := range tables {
		for _, most := range []int{math.MinInt, -1000000, -2, -1, 0, 1000001, 1000002, 2000000, 1 << 32, 1<<32 + 1, math.MaxInt} {
			checkFails(t, w, policy(most, r), api.ErrMost)
			checkFails(t, w, policy(most), api.ErrMost)
		}
		var stay []api.Slot
		gone := 0
		switch name {
		case "stays":
			stay = append(stay, full("a", r, 7, 20))
		case "goes":
			gone = 1
		}
		for _, most := range []int{1, 2, 3, 4, 1000} {
			checkMost(t, checkKeep(t, w, policy(most, r), gone, stay...), most)
		}
		for _, most := range []int{999999, 1000000} {
			checkKeep(t, w, policy(most, r), gone, stay...)
		}
	}
}

// TestManyStay: 1000000 may stay, and no more may be.
func TestManyStay(t *testing.T) {
	w := table.New(api.MaxMost)
	r := by(10, 5, api.Leaky)
	for i := range api.MaxMost {
		if a := w.Charge(fmt.Sprint("k", i), r, 1); a.Code != api.Admit {
			t.Fatalf("the key %d is told %+v", i, a)
		}
	}
	kept, n, e := Keep(w, policy(api.MaxMost, by(10, 5, api.Gcra)))
	if e != api.OK || n != 0 || kept.Active() != api.MaxMost {
		t.Fatalf("Keep = %v, %d, %v", kept.Active(), n, e)
	}
	checkCode(t, kept, "x", r, 1, api.Overloaded)
	checkCode(t, kept, "k999999", r, 4, api.Admit)
	checkCode(t, kept, "k999999", r, 1, api.Deny)
	kept, n, e = Keep(w, policy(api.MaxMost-1, r))
	if kept != nil || n != 0 || e != api.ErrFull {
		t.Errorf("Keep of one more than Most = %v, %d, %v", kept, n, e)
	}
	// One of them does not stay: the others have a place.
	kept, n, e = Keep(w, policy(api.MaxMost-1, r, of("k999999", 10, 6, 1)))
	if e != api.OK || n != 1 || kept.Active() != api.MaxMost-1 {
		t.Errorf("Keep but of one = %v, %d, %v", kept.Active(), n, e)
	}
}

// TestFull: as many as Most may stay, and not one more; who does not stay takes no
// place.
func TestFull(t *testing.T) {
	for stay := range 6 {
		for gone := range 4 {
			l := many(stay)
			for i := range gone {
				l = append(l, full(fmt.Sprint("x", i), by(10, 5, api.Gcra), 0, 9))
			}
			w := tableOf(t, 20, 0, l...)
			for most := 1; most <= 7; most++ {
				// Some that go stand ahead of who stays, in one of these.
				p := policy(most, of("k", 10, 5, api.Bucket), of("x", 10, 4, api.Bucket))
				q := policy(most, of("k", 10, 5, api.Bucket))
				if most < stay {
					checkFails(t, w, p, api.ErrFull)
					checkFails(t, w, q, api.ErrFull)
					continue
				}
				var want []api.Slot
				for _, s := range l[:stay] {
					want = append(want, full(s.Key, p.Rules[0], 0, kernel.Fill(s.State, 0, 50)))
				}
				kept := checkKeep(t, w, p, gone, want...)
				checkKeep(t, w, q, gone, want...)
				checkMost(t, kept, most)
			}
		}
	}
}

// TestFullAhead: who goes takes no place, wherever his key stands.
func TestFullAhead(t *testing.T) {
	l := many(6)
	for i := range 1 << len(l) {
		p := policy(3, by(10, 5, api.Leaky))
		var want []api.Slot
		for j, s := range l {
			if i>>j&1 == 0 {
				want = append(want, full(s.Key, p.Rules[0], 0, uint64(j)+1))
			} else {
				p.Rules = append(p.Rules, of(s.Key, 10, 6, api.Leaky))
			}
		}
		w := tableOf(t, 6, 0, l...)
		if len(want) > 3 {
			checkFails(t, w, p, api.ErrFull)
		} else {
			checkKeep(t, w, p, len(l)-len(want), want...)
		}
	}
}

// TestTwoErrors: where both apply the first one is told.
func TestTwoErrors(t *testing.T) {
	r := by(10, 5, api.Leaky)
	w := tableOf(t, 9, 5, full("a", r, 5, 1), full("b", r, 5, 50))
	for _, most := range []int{math.MinInt, -1, 0} {
		checkFails(t, w, policy(most, r), api.ErrMost)
	}
	checkFails(t, w, policy(1, r), api.ErrFull)
	checkKeep(t, w, policy(2, r), 0, w.Slots()...)
	// Neither of them is told by Lost, which does not ask for Most.
	for _, most := range []int{math.MinInt, -1, 0, 1, 2, 1000000, 1000001, math.MaxInt} {
		checkLost(t, w, policy(most, r))
		checkLost(t, w, policy(most, of("a", 10, 5, 1)), "b")
		checkLost(t, w, policy(most, by(5, 10, 1)), "a", "b")
		checkLost(t, w, policy(most), "a", "b")
		checkLost(t, nil, policy(most, r))
		checkLost(t, nil, policy(most))
	}
}

// TestFound: who stays does so by the rule of the longest prefix, and by no other
// one.
func TestFound(t *testing.T) {
	r := by(10, 5, api.Gcra)
	var l []api.Slot
	for i, k := range []string{"a", "api", "api/", "api/a", "api/a/b", "b", "~"} {
		l = append(l, full(k, r, 3, uint64(i)+1))
	}
	w := tableOf(t, 9, 3, l...)
	all, api1, apiA := by(10, 5, api.Leaky), of("api/", 10, 5, api.Bucket), of("api/a", 10, 5, api.Gcra)
	other := func(p string) api.Rule { return of(p, 10, 6, api.Gcra) }
	rows := []struct {
		rules []api.Rule
		stay  map[string]api.Rule
	}{
		{nil, nil},
		{[]api.Rule{}, nil},
		{[]api.Rule{of("x", 10, 5, 1)}, nil},
		{[]api.Rule{of("A", 10, 5, 1), of("apix", 10, 5, 1), of("api/a/b/", 10, 5, 1), of("/a", 10, 5, 1)}, nil},
		{[]api.Rule{all}, map[string]api.Rule{"a": all, "api": all, "api/": all, "api/a": all, "api/a/b": all, "b": all, "~": all}},
		{[]api.Rule{api1}, map[string]api.Rule{"api/": api1, "api/a": api1, "api/a/b": api1}},
		{[]api.Rule{apiA}, map[string]api.Rule{"api/a": apiA, "api/a/b": apiA}},
		{[]api.Rule{of("~", 10, 5, 2)}, map[string]api.Rule{"~": of("~", 10, 5, 2)}},
		{[]api.Rule{all, api1, apiA}, map[string]api.Rule{"a": all, "api": all, "api/": api1, "api/a": apiA, "api/a/b": apiA, "b": all, "~": all}},
		{[]api.Rule{apiA, api1, all}, map[string]api.Rule{"a": all, "api": all, "api/": api1, "api/a": apiA, "api/a/b": apiA, "b": all, "~": all}},
		// Of other numbers is the longest one alone, and no shorter one counts.
		{[]api.Rule{all, api1, other("api/a")}, map[string]api.Rule{"a": all, "api": all, "api/": api1, "b": all, "~": all}},
		{[]api.Rule{all, other("api/"), apiA}, map[string]api.Rule{"a": all, "api": all, "api/a": apiA, "api/a/b": apiA, "b": all, "~": all}},
		{[]api.Rule{other(""), api1, apiA}, map[string]api.Rule{"api/": api1, "api/a": apiA, "api/a/b": apiA}},
		{[]api.Rule{other(""), other("a"), other("api/a/b"), api1}, map[string]api.Rule{"api/": api1, "api/a": api1}},
		{[]api.Rule{other("")}, nil},
		{[]api.Rule{by(5, 10, 1)}, nil},
		{[]api.Rule{by(50, 1, 1)}, nil},
		// Of two with one prefix the first counts, whatever it is.
		{[]api.Rule{api1, of("api/", 10, 5, 3), other("api/")}, map[string]api.Rule{"api/": api1, "api/a": api1, "api/a/b": api1}},
		{[]api.Rule{other("api/"), api1}, nil},
		{[]api.Rule{other(""), all}, nil},
	}
	for _, row := range rows {
		checkBoth(t, w, policy(9, row.rules...), row.stay)
	}
}

// TestNotRight: by a rule that is not right nobody stays, though its numbers are
// the same, nor by a shorter one behind it.
func TestNotRight(t *testing.T) {
	all := by(10, 5, api.Leaky)
	w := tableOf(t, 9, 3, full("a", by(10, 5, 1), 3, 20), full("ab", by(10, 5, 2), 3, 30), full("b", by(10, 5, 3), 3, 40))
	for _, kind := range []uint8{0, 4, 5, 127, 128, 254, 255} {
		checkBoth(t, w, policy(9, by(10, 5, kind)), nil)
		checkBoth(t, w, policy(9, of("a", 10, 5, kind)), nil)
		checkBoth(t, w, policy(9, all, of("a", 10, 5, kind)), map[string]api.Rule{"b": all})
		checkBoth(t, w, policy(9, of("ab", 10, 5, kind), all), map[string]api.Rule{"a": all, "b": all})
		checkBoth(t, w, policy(9, of("ab", 10, 5, 2), by(10, 5, kind)), map[string]api.Rule{"ab": of("ab", 10, 5, 2)})
		// Nor counts one of the same prefix behind it.
		checkBoth(t, w, policy(9, by(10, 5, kind), all), nil)
		checkBoth(t, w, policy(9, all, by(10, 5, kind)), map[string]api.Rule{"a": all, "ab": all, "b": all})
		// Nobody takes a place by such a rule.
		checkKeep(t, w, policy(1, of("a", 10, 5, kind), all), 2, full("b", all, 3, 40))
	}
	for _, r := range []api.Rule{{}, by(0, 5, 1), by(10, 0, 1), by(0, 0, 1), by(end, 2, 1), by(end, end, 1), by(1<<63, 1, 1), by(1<<62, 2, 1)} {
		checkBoth(t, w, policy(9, r), nil)
		r.Prefix = "a"
		checkBoth(t, w, policy(9, all, r), map[string]api.Rule{"b": all})
	}
	// Prefixes with which no key begins are nobody's; that they are not right
	// changes nothing.
	odd := []api.Rule{of("a\n", 10, 5, 1), of("\x00", 10, 5, 1), of("a ", 10, 5, 1), of(long(129), 10, 5, 1), of("b\xff", 10, 5, 0), of("\u00e9", 0, 0, 0)}
	checkBoth(t, w, policy(9, odd...), nil)
	checkBoth(t, w, policy(9, append(odd, all)...), map[string]api.Rule{"a": all, "ab": all, "b": all})
}

// TestLongKeys: keys and prefixes may be as long as may be.
func TestLongKeys(t *testing.T) {
	r := by(10, 5, api.Gcra)
	w := tableOf(t, 9, 0, full(long(127), r, 0, 1), full(long(128), r, 0, 50))
	one, two := of(long(127), 10, 5, api.Leaky), of(long(128), 10, 5, api.Bucket)
	checkBoth(t, w, policy(9, one), map[string]api.Rule{long(127): one, long(128): one})
	checkBoth(t, w, policy(9, two), map[string]api.Rule{long(128): two})
	checkBoth(t, w, policy(9, two, one), map[string]api.Rule{long(127): one, long(128): two})
	checkBoth(t, w, policy(9, of(long(129), 10, 5, 1)), nil)
}

// clocks are times below 2^63.
func clocks() []uint64 {
	return []uint64{0, 1, 7, 1000000000, 1 << 40, 1 << 62, 1<<63 - 60, 1<<63 - 1}
}

// checkLater: two tables tell the same each time from now on until nobody is
// active.
func checkLater(t *testing.T, a, b *table.Table, long uint64) {
	t.Helper()
	for range long {
		checkAlike(t, a, b)
		a.Tick(a.Clock() + 1)
		b.Tick(b.Clock() + 1)
	}
	checkAlike(t, a, b)
	if a.Active() != 0 || b.Active() != 0 {
		t.Errorf("%v, %v are still active", a.Entries(), b.Entries())
	}
}

// TestEachToEach: from each kernel to each one, at each time and however full, who
// stays has the rule that was found, a State by its kernel, and is as full as he
// was, then and later.
func TestEachToEach(t *testing.T) {
	for _, from := range three() {
		for _, to := range three() {
			for _, now := range clocks() {
				for fill := uint64(1); fill <= 20; fill++ {
					checkEachToEach(t, of("a", 10, 2, from), of("", 10, 2, to), now, fill)
				}
			}
		}
	}
}

func checkEachToEach(t *testing.T, from, to api.Rule, now, fill uint64) {
	t.Helper()
	w := tableOf(t, 1, now, full("a", from, now, fill))
	kept := checkBoth(t, w, policy(1, to), map[string]api.Rule{"a": to})
	got := kept.Slots()[0]
	if got.State.Kind != to.Kind || got.Rule != to || kernel.Fill(got.State, now, 20) != fill {
		t.Errorf("%d full at %d by %v stays as %v", fill, now, from, got)
	}
	// An older State, too: it is how full it is at the clock that counts.
	for d := uint64(1); d < fill && now < 1<<63-d; d++ {
		old := tableOf(t, 1, now, full("a", from, now, fill))
		old.Tick(now + d)
		then := checkBoth(t, old, policy(1, to), map[string]api.Rule{"a": to}).Slots()[0]
		if then.State != state(to.Kind, now+d, 20, fill-d) {
			t.Errorf("%d full at %d by %v stays as %v at %d", fill, now, from, then, now+d)
		}
	}
	checkLater(t, w, kept, fill)
}

// TestJustDrained: who is drained is not there to stay, nor to be lost.
func TestJustDrained(t *testing.T) {
	for _, kind := range three() {
		r, o := by(10, 2, kind), by(10, 3, kind)
		w := tableOf(t, 3, 5, full("a", r, 5, 8), full("b", r, 5, 9))
		w.Tick(12)
		checkBoth(t, w, policy(2, r), map[string]api.Rule{"a": r, "b": r})
		checkBoth(t, w, policy(2, o), nil)
		w.Tick(13)
		checkBoth(t, w, policy(1, r), map[string]api.Rule{"b": r})
		checkLost(t, w, policy(1, o), "b")
		w.Tick(14)
		checkBoth(t, w, policy(1, r), nil)
		checkLost(t, w, policy(1, o))
		checkKeep(t, w, policy(1, o), 0)
	}
}

// TestGreatNumbers: at the greatest cap, at the latest time below 2^63.
func TestGreatNumbers(t *testing.T) {
	for _, now := range []uint64{0, 1 << 62, 1<<63 - 1} {
		for _, r := range []api.Rule{by(1, 1<<62, 1), by(1<<62, 1, 2), by(1<<31, 1<<31, 3)} {
			for _, fill := range []uint64{1, 2, 1 << 31, 1<<62 - 1, 1 << 62} {
				w := tableOf(t, 1, now, full("a", r, now, fill))
				for _, kind := range three() {
					to := by(r.Every, r.Burst, kind)
					kept := checkBoth(t, w, policy(1, to), map[string]api.Rule{"a": to})
					kept.Tick(now + fill - 1)
					if kept.Active() != 1 {
						t.Errorf("%d full at %d by %v is drained at %d", fill, now, to, kept.Clock())
					}
					kept.Tick(now + fill)
					if kept.Active() != 0 {
						t.Errorf("%d full at %d by %v is active at %d", fill, now, to, kept.Clock())
					}
					checkBoth(t, w, policy(1, by(r.Every+1, r.Burst, kind)), nil)
				}
			}
		}
	}
}

// TestMoved: it is the State's kernel that is left, whatever the rule's is.
func TestMoved(t *testing.T) {
	for _, from := range three() {
		for _, moved := range three() {
			for _, to := range three() {
				r, q := of("a", 10, 5, from), by(10, 5, to)
				w := tableOf(t, 3, 4, full("a", r, 4, 33), full("b", by(10, 4, 1), 4, 12))
				w.Tick(9)
				w.Move("a", moved)
				kept := checkKeep(t, w, policy(1, q), 1, full("a", q, 9, 28))
				checkLost(t, w, policy(1, q), "b")
				w.Tick(11)
				checkKeep(t, w, policy(1, q), 1, full("a", q, 11, 26))
				kept.Tick(36)
				checkKeep(t, kept, policy(1, r), 0, full("a", r, 36, 1))
			}
		}
	}
}

// TestStateToCome: the State of one that is of a time to come goes over as full as
// it is at the clock, as kernel.Migrate has it.
func TestStateToCome(t *testing.T) {
	r := by(10, 5, api.Leaky)
	for _, s := range []api.State{{Kind: api.Leaky, A: 8, B: 100}, {Kind: api.Bucket, A: 42, B: 100}} {
		for _, kind := range three() {
			to := by(10, 5, kind)
			w := tableOf(t, 1, 20, api.Slot{Key: "a", Rule: r, State: s})
			kept := checkKeep(t, w, policy(1, to), 0, full("a", to, 20, 8))
			kept.Tick(27)
			checkKeep(t, kept, policy(1, to), 0, full("a", to, 27, 1))
			kept.Tick(28)
			checkKeep(t, kept, policy(1, to), 0)
			checkKeep(t, w, policy(1, to), 0, full("a", to, 20, 8))
		}
	}
}

// TestLost: the keys of just those who do not stay, rising.
func TestLost(t *testing.T) {
	r, o := by(10, 5, api.Gcra), by(10, 6, api.Gcra)
	w := table.New(20)
	for i, k := range []string{"b", "a!", "ab", "a", "~", "A", "a0", "!", "B", "aa", "0"} {
		w.Charge(k, []api.Rule{r, o}[i%2], 2)
	}
	checkLost(t, w, policy(1, r), "!", "A", "a", "a!", "aa")
	checkLost(t, w, policy(1, o), "0", "B", "a0", "ab", "b", "~")
	checkLost(t, w, policy(1), "!", "0", "A", "B", "a", "a!", "a0", "aa", "ab", "b", "~")
	checkLost(t, w, policy(1, r, of("A", 10, 6, 3), of("a", 10, 6, 3)), "!", "a0", "ab")
	// None, where all stay.
	if got := Lost(w, policy(1, r, of("!", 10, 6, 3), of("A", 10, 6, 3), of("a", 10, 6, 3), of("a0", 10, 5, 3), of("ab", 10, 5, 3))); len(got) != 0 {
		t.Errorf("Lost = %q", got)
	}
}

// TestClock: the clock is the same, whoever stays, and goes on from there.
func TestClock(t *testing.T) {
	r := by(10, 5, api.Gcra)
	for _, now := range clocks() {
		empty := table.New(2)
		empty.Tick(now)
		for _, w := range []*table.Table{empty, tableOf(t, 2, now, full("a", r, now, 3))} {
			for _, p := range []api.Policy{policy(3, r), policy(3, by(10, 6, 1)), policy(1)} {
				kept, _, e := Keep(w, p)
				if e != api.OK || kept.Clock() != now {
					t.Fatalf("Keep at %d tells %v, and %d", now, e, kept.Clock())
				}
				if got := kept.Tick(now - min(now, 1)); got != now {
					t.Errorf("kept at %d, and it is %d", now, got)
				}
				if got := kept.Tick(now + 2); got != now+2 || w.Clock() != now {
					t.Errorf("kept at %d, and it is %d, and %d", now, got, w.Clock())
				}
			}
		}
	}
}

// TestClocksEnd: from 2^63 on nothing is promised of Keep, but it ends, and tells
// nothing beside an error; Lost tells what it tells at any time.
func TestClocksEnd(t *testing.T) {
	for _, now := range []uint64{1 << 63, end - 20, end - 5, end - 1, end} {
		for _, from := range three() {
			w := table.New(3)
			w.Tick(now)
			w.Charge("a", by(10, 2, from), 1)
			w.Charge("b", by(10, 2, 2), 2)
			w.Charge("c", by(10, 3, 3), 1)
			keys := keysOf(w.Slots())
			before := told(w)
			for _, to := range three() {
				for _, most := range []int{0, 1, 2, 3} {
					kept, n, e := Keep(w, policy(most, by(10, 2, to)))
					if (e == api.OK) != (kept != nil) || e != api.OK && n != 0 {
						t.Errorf("Keep at %d = %v, %d, %v", now, kept, n, e)
					}
				}
				checkLost(t, w, policy(1, by(10, 2, to)), slices.DeleteFunc(slices.Clone(keys), func(k string) bool { return k != "c" })...)
				checkLost(t, w, policy(1, by(10, 3, to)), slices.DeleteFunc(slices.Clone(keys), func(k string) bool { return k == "c" })...)
			}
			checkStill(t, w, before)
		}
	}
}

// TestNilTable: as one without slots, its clock at 0.
func TestNilTable(t *testing.T) {
	for _, p := range []api.Policy{policy(2), policy(2, by(10, 5, 1)), policy(2, api.Rule{}), {Most: 2, Rules: []api.Rule{}}} {
		kept := checkKeep(t, nil, p, 0)
		checkLost(t, nil, p)
		checkMost(t, kept, 2)
		kept.Tick(9)
		// Another one is new again.
		checkKeep(t, nil, p, 0)
	}
	for _, most := range []int{math.MinInt, -1, 0, 1000001, math.MaxInt} {
		checkFails(t, nil, policy(most, by(10, 5, 1)), api.ErrMost)
		checkFails(t, nil, policy(most), api.ErrMost)
	}
	checkFails(t, nil, api.Policy{}, api.ErrMost)
	checkLost(t, nil, api.Policy{})
}

// TestNoRules: without rules nobody stays.
func TestNoRules(t *testing.T) {
	l := many(5)
	w := tableOf(t, 9, 0, l...)
	for _, rules := range [][]api.Rule{nil, {}, make([]api.Rule, 0, 4)} {
		p := api.Policy{Most: 1, Rules: rules}
		checkLost(t, w, p, keysOf(l)...)
		checkKeep(t, w, p, 5)
		checkFails(t, w, api.Policy{Rules: rules}, api.ErrMost)
		checkKeep(t, table.New(1), p, 0)
		checkLost(t, table.New(1), p)
	}
	checkLost(t, w, api.Policy{}, keysOf(l)...)
	checkFails(t, w, api.Policy{}, api.ErrMost)
}

// TestTwoTables: whatever is done at the table that was handed in, or at one that
// is kept, changes nothing of the other ones.
func TestTwoTables(t *testing.T) {
	r, q := by(10, 5, api.Leaky), by(10, 5, api.Gcra)
	w := tableOf(t, 3, 2, full("a", r, 2, 11), full("b", r, 2, 22), full("c", by(10, 4, 1), 2, 33))
	tables := []*table.Table{w, checkKeep(t, w, policy(3, q), 1, full("a", q, 2, 11), full("b", q, 2, 22))}
	tables = append(tables, checkKeep(t, w, policy(3, q), 1, full("a", q, 2, 11), full("b", q, 2, 22)))
	tables = append(tables, checkKeep(t, tables[1], policy(3, r), 0, full("a", r, 2, 11), full("b", r, 2, 22)))
	roll := dice(5)
	for range 300 {
		i := roll(4)
		var before []report
		for _, one := range tables {
			before = append(before, told(one))
		}
		k := []string{"a", "b", "c", "d"}[roll(4)]
		switch one := tables[i]; roll(4) {
		case 0:
			one.Tick(one.Clock() + roll(4))
		case 1:
			one.Move(k, uint8(roll(4)))
		case 2:
			one.MoveAll(uint8(roll(4)))
		case 3:
			one.Charge(k, []api.Rule{r, q, by(10, 4, 1)}[roll(3)], roll(4))
		}
		for j, one := range tables {
			if uint64(j) != i {
				checkStill(t, one, before[j])
			}
		}
	}
}

// TestGoesOn: a table that is kept goes on as the one that was handed in would, if
// it were without those who are gone: whoever comes is told the same.
func TestGoesOn(t *testing.T) {
	for seed := range 200 {
		roll := dice(seed)
		w := table.New(4)
		w.Tick([]uint64{0, 77, 1 << 62, 1<<63 - 1000}[roll(4)])
		numbers := func(k string) (uint64, uint64) { return 3 + uint64(k[0]%2), 7 }
		charge := func(w *table.Table, k string, kind uint8, n uint64) api.Answer {
			every, burst := numbers(k)
			return w.Charge(k, by(every, burst, kind), n)
		}
		keys := []string{"a", "b", "c", "d", "e", "f"}
		for range 20 {
			charge(w, keys[roll(6)], three()[roll(3)], roll(5))
			w.Tick(w.Clock() + roll(6))
			w.Move(keys[roll(6)], three()[roll(3)])
		}
		kind := three()[roll(3)]
		p := policy(4, by(3, 7, kind))
		for _, k := range keys {
			if every, burst := numbers(k); every != 3 {
				p.Rules = append(p.Rules, of(k, every, burst, three()[roll(3)]))
			}
		}
		kept, n, e := Keep(w, p)
		if e != api.OK || n != 0 {
			t.Fatalf("Keep = %d, %v", n, e)
		}
		checkAlike(t, w, kept)
		for range 60 {
			k, step, cost := keys[roll(6)], roll(6), roll(6)
			a, b := charge(w, k, three()[roll(3)], cost), charge(kept, k, three()[roll(3)], cost)
			if !reflect.DeepEqual(a, b) {
				t.Fatalf("%q, %d at %d, is told %+v, and behind Keep %+v", k, cost, w.Clock(), a, b)
			}
			w.Tick(w.Clock() + step)
			kept.Tick(kept.Clock() + step)
			checkAlike(t, w, kept)
		}
	}
}

// wantRule is the chapter's words on the rule of a key: of all with whose prefix it
// begins one of the longest, and of these the first one.
func wantRule(l []api.Rule, k string) api.Rule {
	var out api.Rule
	at := -1
	for _, r := range l {
		if strings.HasPrefix(k, r.Prefix) && len(r.Prefix) > at {
			out, at = r, len(r.Prefix)
		}
	}
	return out
}

// wantKeep is the chapter's words on Keep: who stays, who doesn't, and the error.
func wantKeep(w *table.Table, p api.Policy) ([]api.Slot, []string, api.Errno) {
	var stay []api.Slot
	var lost []string
	for _, s := range w.Slots() {
		r := wantRule(p.Rules, s.Key)
		if rule.Right(r) != api.OK || r.Every != s.Rule.Every || r.Burst != s.Rule.Burst {
			lost = append(lost, s.Key)
			continue
		}
		s.State, _ = kernel.Migrate(s.State, r.Kind, w.Clock(), rule.Cap(r))
		s.Rule = r
		stay = append(stay, s)
	}
	switch {
	case p.Most < 1 || p.Most > 1000000:
		return stay, lost, api.ErrMost
	case len(stay) > p.Most:
		return stay, lost, api.ErrFull
	}
	return stay, lost, api.OK
}

// someRules are rules, some of one prefix, of other numbers, or wrong.
func someRules(roll func(uint64) uint64) []api.Rule {
	var out []api.Rule
	for range roll(7) {
		prefixes := []string{"", "", "a", "ab", "abc", "b", "b/", "c", "\n", "ab c"}
		r := of(prefixes[roll(10)], 10, 5, uint8(roll(3))+1)
		switch roll(8) {
		case 0:
			r.Every = []uint64{0, 5, 9, 11, 50, end}[roll(6)]
		case 1:
			r.Burst = []uint64{0, 4, 6, 10, 1, end}[roll(6)]
		case 2:
			r.Kind = []uint8{0, 4, 255}[roll(3)]
		}
		out = append(out, r)
	}
	return out
}

// TestByTheWords: of mixed tables and policies what the chapter's words tell, again
// and again.
func TestByTheWords(t *testing.T) {
	keys := []string{"a", "ab", "abc", "abcd", "b", "b/", "b/c", "c", "d"}
	seen := map[api.Errno]int{}
	parted := 0
	for seed := range 400 {
		roll := dice(seed)
		w := table.New(int(roll(9)) + 1)
		w.Tick([]uint64{0, 0, 5, 1 << 40, 1 << 62, 1<<63 - 2000}[roll(6)])
		for range 40 {
			for range 3 {
				w.Charge(keys[roll(9)], by(10, 5+roll(6)/5, uint8(roll(3))+1), roll(5))
			}
			w.Tick(w.Clock() + roll(12))
			w.Move(keys[roll(9)], uint8(roll(4)))
			p := policy(int(roll(8)), someRules(roll)...)
			stay, lost, e := wantKeep(w, p)
			checkLost(t, w, p, lost...)
			seen[e]++
			if e != api.OK {
				checkFails(t, w, p, e)
				continue
			}
			if len(stay) > 0 && len(lost) > 0 {
				parted++
			}
			kept := checkKeep(t, w, p, len(lost), stay...)
			if roll(4) == 0 {
				w = kept
			}
		}
	}
	if seen[api.OK] < 1000 || seen[api.ErrMost] < 1000 || seen[api.ErrFull] < 100 || parted < 1000 {
		t.Errorf("%v were told, and %d tables parted", seen, parted)
	}
}

// TestByWhatWas: how full who stays is hangs on what was admitted of him, and when,
// whatever he was handed over to.
func TestByWhatWas(t *testing.T) {
	keys := []string{"a", "b", "c", "d"}
	for seed := range 100 {
		roll := dice(seed)
		w := table.New(9)
		was := map[string][]api.Event{}
		burst := map[string]uint64{}
		for range 80 {
			w.Tick(w.Clock() + roll(9))
			k, n := keys[roll(4)], roll(5)
			// By a rule of its own, each has what it has from the beginning on.
			if burst[k] == 0 {
				burst[k] = 4 + roll(2)
			}
			before := past.Fill(was[k], w.Clock())
			if a := w.Charge(k, by(10, burst[k], three()[roll(3)]), n); a.Code == api.Admit {
				if before == 0 {
					was[k] = nil
				}
				was[k] = append(was[k], api.Event{At: w.Clock(), Weight: 10 * n})
			}
			if roll(3) > 0 {
				continue
			}
			p := policy(9)
			for _, k := range keys {
				b := burst[k]
				if roll(6) == 0 {
					b++
				}
				p.Rules = append(p.Rules, of(k, 10, b, three()[roll(3)]))
				if b != burst[k] {
					delete(was, k)
					burst[k] = b
				}
			}
			kept, _, e := Keep(w, p)
			if e != api.OK {
				t.Fatalf("Keep tells %v", e)
			}
			w = kept
			var want []api.Entry
			for _, k := range keys {
				if fill := past.Fill(was[k], w.Clock()); fill > 0 {
					want = append(want, api.Entry{Key: k, Until: w.Clock() + fill})
				}
			}
			if got := w.Entries(); !slices.Equal(got, want) {
				t.Fatalf("%v are kept at %d, want %v by %v", got, w.Clock(), want, was)
			}
		}
	}
}

// TestNobodyTellsThemApart: whatever kernels the old rules and the other ones name,
// the same stay, as full, and the same are lost.
func TestNobodyTellsThemApart(t *testing.T) {
	for seed := range 100 {
		roll, own := dice(seed), dice(seed+1000)
		tables := []*table.Table{table.New(4), table.New(4), table.New(4), table.New(4)}
		// The last one's kernels differ from key to key, and from time to time.
		kind := func(i int) uint8 {
			if i < 3 {
				return three()[i]
			}
			return three()[own(3)]
		}
		for range 60 {
			k, n, step, burst, keep := fmt.Sprint("k", roll(5)), roll(5), roll(8), 4+roll(8)/7, roll(4) == 0
			most, one := int(roll(6)), fmt.Sprint("k", roll(5))
			for i, w := range tables {
				w.Charge(k, by(10, burst, kind(i)), n)
				w.Tick(w.Clock() + step)
			}
			if keep {
				checkKeptAlike(t, tables, func(i int) api.Policy {
					return policy(most, by(10, 4, kind(i)), of(one, 10, 5, kind(i)))
				})
			}
			for i := range tables {
				checkAlike(t, tables[i], tables[0])
			}
		}
	}
}

// checkKeptAlike keeps each of the tables by its own policy: all of them are told
// the same. Those that are kept stand in their places.
func checkKeptAlike(t *testing.T, tables []*table.Table, by func(i int) api.Policy) {
	t.Helper()
	var lost []string
	var gone int
	var fault api.Errno
	for i, w := range tables {
		p := by(i)
		l := Lost(w, p)
		kept, n, e := Keep(w, p)
		if i == 0 {
			lost, gone, fault = l, n, e
		}
		if !slices.Equal(l, lost) || n != gone || e != fault {
			t.Fatalf("the table %d tells %q, %d, %v, and the first one %q, %d, %v", i, l, n, e, lost, gone, fault)
		}
		if e == api.OK {
			tables[i] = kept
		}
	}
}

// TestPolicyChangedBehind: the policy is not changed, nothing behind its rules is
// read or written, and what is done to it behind the call changes nothing.
func TestPolicyChangedBehind(t *testing.T) {
	slots := many(9)
	// The first one counts: if one ahead were read, or one behind, others would stay.
	memory := []api.Rule{by(10, 5, 1), of("k0000001", 10, 6, 2), of("k0000002", 10, 5, 3), of("k0000003", 10, 6, 1), of("k", 10, 6, 1), by(10, 5, 3), of("k000000", 10, 5, 2)}
	before := slices.Clone(memory)
	for i := range memory {
		for j := i; j <= len(memory); j++ {
			w := tableOf(t, 9, 0, slots...)
			p := policy(9, memory[i:j]...)
			stay, lost, e := wantKeep(w, policy(9, slices.Clone(memory[i:j])...))
			if e != api.OK {
				t.Fatalf("the words tell %v", e)
			}
			checkLost(t, w, p, lost...)
			kept := checkKeep(t, w, p, len(lost), stay...)
			if len(stay) > 1 {
				checkFails(t, w, policy(1, memory[i:j]...), api.ErrFull)
			}
			if !slices.Equal(memory, before) || p.Most != 9 || len(p.Rules) != j-i {
				t.Fatalf("the rules are %v, were %v", memory, before)
			}
			was := told(kept)
			clear(memory)
			checkStill(t, kept, was)
			copy(memory, before)
			kept.MoveAll(api.Bucket)
			kept.Charge("k0000004", by(10, 6, 1), 1)
			kept.Tick(5)
			if !slices.Equal(memory, before) {
				t.Fatalf("the rules are %v, were %v", memory, before)
			}
		}
	}
}

// TestToldIsACopy: what is done to a list of Lost is not told again, nor does it
// change a table.
func TestToldIsACopy(t *testing.T) {
	l := many(5)
	w := tableOf(t, 9, 0, l...)
	before := told(w)
	first := Lost(w, policy(1))
	for range 2 {
		keys := Lost(w, policy(1))
		for i := range keys {
			keys[i] = "x"
		}
		clear(keys[:cap(keys)])
		checkStill(t, w, before)
		checkLost(t, w, policy(1), keysOf(l)...)
	}
	if !slices.Equal(first, keysOf(l)) {
		t.Errorf("told was %q, and it is %q", keysOf(l), first)
	}
}

// raw is a text in memory that can be written.
func raw(s string) string {
	b := []byte(s)
	return unsafe.String(unsafe.SliceData(b), len(b))
}

// spoil writes over a text's bytes.
func spoil(s string) {
	b := unsafe.Slice(unsafe.StringData(s), len(s))
	for i := range b {
		b[i] = 'x'
	}
}

// TestOwnMemory: not even the bytes of a key or of a prefix are shared between the
// policy, the tables, and what is told.
func TestOwnMemory(t *testing.T) {
	r, o := by(10, 5, api.Leaky), by(10, 4, api.Leaky)
	w := tableOf(t, 5, 0, full("a", o, 0, 7), full("api/a", r, 0, 20), full("b", r, 0, 30))
	p := policy(3, of(raw("api/"), 10, 5, api.Gcra), of(raw("b"), 10, 5, api.Bucket))
	one := checkKeep(t, w, p, 1, full("api/a", p.Rules[0], 0, 20), full("b", p.Rules[1], 0, 30))
	lost := Lost(w, p)
	two := checkKeep(t, one, p, 0, one.Slots()...)
	spoil(p.Rules[0].Prefix)
	spoil(p.Rules[1].Prefix)
	want := []api.Slot{full("api/a", of("api/", 10, 5, api.Gcra), 0, 20), full("b", of("b", 10, 5, api.Bucket), 0, 30)}
	for _, s := range one.Slots() {
		spoil(s.Key)
		spoil(s.Rule.Prefix)
	}
	for _, kept := range []*table.Table{one, two} {
		if !slices.Equal(kept.Slots(), want) {
			t.Errorf("kept are %v, want %v", kept.Slots(), want)
		}
	}
	again := Lost(w, policy(3, r))
	for _, k := range lost {
		spoil(k)
	}
	if !slices.Equal(again, []string{"a"}) {
		t.Errorf("lost are %q", again)
	}
	if got := keysOf(w.Slots()); !slices.Equal(got, []string{"a", "api/a", "b"}) {
		t.Errorf("the keys are %q", got)
	}
}

// TestAsked: to be asked changes nothing, and what is told is told again.
func TestAsked(t *testing.T) {
	w := tableOf(t, 9, 0, many(9)...)
	w.Tick(3)
	before := told(w)
	p := policy(9, of("k", 10, 5, 3), of("k0000004", 10, 6, 3), of("k0000007", 5, 10, 3))
	kept, n, e := Keep(w, p)
	lost := Lost(w, p)
	for range 3 {
		other, m, f := Keep(w, p)
		if m != n || f != e || !reflect.DeepEqual(told(other), told(kept)) {
			t.Errorf("Keep tells %v, %d, %v, and told %v, %d, %v", told(other), m, f, told(kept), n, e)
		}
		if again := Lost(w, p); !slices.Equal(again, lost) {
			t.Errorf("Lost tells %q, and told %q", again, lost)
		}
		checkStill(t, w, before)
	}
}

// TestManyRules: of far more rules than a text may have, too.
func TestManyRules(t *testing.T) {
	const n = 20000
	p := policy(n)
	w := table.New(n)
	for i := range n {
		k := fmt.Sprintf("k%05d", i)
		p.Rules = append(p.Rules, of(k, 10, 5+uint64(i%2), three()[i%3]))
		checkCode(t, w, k+"/a", by(10, 5, three()[i%3]), 2, api.Admit)
	}
	kept, gone, e := Keep(w, p)
	if e != api.OK || gone != n/2 || kept.Active() != n/2 {
		t.Fatalf("Keep = %d, %d, %v", kept.Active(), gone, e)
	}
	for i, s := range kept.Slots() {
		if want := fmt.Sprintf("k%05d", 2*i); s.Rule != p.Rules[2*i] || s.Key != want+"/a" {
			t.Fatalf("%v is kept, want %q", s, want)
		}
	}
	lost := Lost(w, p)
	if len(lost) != n/2 || !key.Sorted(lost) {
		t.Errorf("%d are lost, sorted: %v", len(lost), key.Sorted(lost))
	}
}

// TestPart: each of the list is told on one side or the other, in order; of no
// list nothing is told.
func TestPart(t *testing.T) {
	half := func(n int) (string, bool) { return strings.Repeat("x", n/2), n%2 == 0 }
	even, odd := part([]int{4, 1, 2, 3, 0, 7, 2}, half)
	if !slices.Equal(even, []string{"xx", "x", "", "x"}) || !slices.Equal(odd, []int{1, 3, 7}) {
		t.Errorf("part = %q, %v", even, odd)
	}
	even, odd = part(nil, half)
	if len(even) != 0 || len(odd) != 0 {
		t.Errorf("part of none = %q, %v", even, odd)
	}
}
