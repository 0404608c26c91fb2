package enter

import (
	"fmt"
	"math"
	"math/big"
	"reflect"
	"slices"
	"strings"
	"testing"
	"unsafe"

	"toller/api"
	"toller/config"
	"toller/kernel"
	"toller/pack"
	"toller/past"
	"toller/table"
)

const end = 1<<64 - 1

// dice tells numbers below a bound, always the same ones of one seed.
func dice(seed int) func(below uint64) uint64 {
	x := 88172645463325252 + uint64(seed)*0x9e3779b97f4a7c15
	return func(below uint64) uint64 {
		x ^= x << 13
		x ^= x >> 7
		x ^= x << 17
		return (x >> 7) % below
	}
}

// three are the kernels.
func three() []uint8 {
	return []uint8{api.Gcra, api.Bucket, api.Leaky}
}

// long is a text of so many bytes.
func long(n int) string {
	return strings.Repeat("k", n)
}

// by is a rule of these numbers for all keys.
func by(every, burst uint64, kind uint8) api.Rule {
	return api.Rule{Every: every, Burst: burst, Kind: kind}
}

// of is a rule of a prefix, too.
func of(prefix string, every, burst uint64, kind uint8) api.Rule {
	return api.Rule{Prefix: prefix, Every: every, Burst: burst, Kind: kind}
}

// policy is one of these rules.
func policy(most int, l ...api.Rule) api.Policy {
	return api.Policy{Most: most, Rules: l}
}

// at is a snapshot of these at a clock.
func at(clock uint64, l ...api.Entry) api.Snap {
	return api.Snap{Clock: clock, Entries: l}
}

// till is an entry.
func till(k string, until uint64) api.Entry {
	return api.Entry{Key: k, Until: until}
}

// full is a slot that is so full at now, by its rule's kernel.
func full(k string, r api.Rule, now, fill uint64) api.Slot {
	s, e := kernel.Of(r.Kind, now, r.Every*r.Burst, fill)
	if e != api.OK {
		panic(e)
	}
	return api.Slot{Key: k, Rule: r, State: s}
}

// many are n entries of a clock, each a little fuller than the one ahead of it,
// from 1 to 50, their keys rising.
func many(n int, clock uint64) []api.Entry {
	var l []api.Entry
	for i := range n {
		l = append(l, till(fmt.Sprintf("k%07d", i), clock+uint64(i%50)+1))
	}
	return l
}

// show is a value as a text of no great length.
func show(x any) string {
	return fmt.Sprintf("%.300s", fmt.Sprintf("%+q", x))
}

// same says whether two snapshots are.
func same(a, b api.Snap) bool {
	return a.Clock == b.Clock && slices.Equal(a.Entries, b.Entries)
}

// tableOf is a table of these.
func tableOf(t *testing.T, most int, clock uint64, l ...api.Slot) *table.Table {
	t.Helper()
	w, e := table.Of(most, clock, l)
	if e != api.OK || w == nil {
		t.Fatalf("table.Of(%d, %d, %s) = %v, %v", most, clock, show(l), w, e)
	}
	return w
}

// report is what a table tells of itself.
type report struct {
	Clock   uint64
	Active  int
	Slots   []api.Slot
	Entries []api.Entry
}

func told(w *table.Table) report {
	return report{w.Clock(), w.Active(), append([]api.Slot{}, w.Slots()...), append([]api.Entry{}, w.Entries()...)}
}

// checkStill: a table tells what it told.
func checkStill(t *testing.T, w *table.Table, before report) {
	t.Helper()
	if after := told(w); !reflect.DeepEqual(after, before) {
		t.Errorf("the table tells %s, and told %s", show(after), show(before))
	}
}

// checkAlike: two tables tell the same of all but kernels, prefixes, and how many
// may be.
func checkAlike(t *testing.T, a, b *table.Table) {
	t.Helper()
	if a.Clock() != b.Clock() || a.Active() != b.Active() || !slices.Equal(a.Entries(), b.Entries()) {
		t.Fatalf("one table tells %s, and the other one %s", show(told(a)), show(told(b)))
	}
}

// given are a policy and a snapshot as they were handed in.
type given struct {
	most  int
	rules []api.Rule
	snap  api.Snap
}

func handed(p api.Policy, s api.Snap) given {
	return given{p.Most, slices.Clone(p.Rules), at(s.Clock, slices.Clone(s.Entries)...)}
}

// checkGiven: neither of them is changed.
func checkGiven(t *testing.T, p api.Policy, s api.Snap, before given) {
	t.Helper()
	if p.Most != before.most || !slices.Equal(p.Rules, before.rules) || !same(s, before.snap) {
		t.Fatalf("%s, %s are changed, of %s", show(p), show(s), show(before))
	}
}

// clocks are times at which who lets in may be, for a snapshot of that clock.
func clocks(clock uint64) []uint64 {
	return []uint64{0, clock - min(clock, 1), clock, clock + 1, clock + 2, clock + 9, 1 << 62, 1<<63 - 1, 1 << 63, end - 1, end}
}

// checkWrong: that is wrong with a snapshot, and no table is told at any clock.
func checkWrong(t *testing.T, p api.Policy, s api.Snap, want api.Errno) {
	t.Helper()
	before := handed(p, s)
	if e := Right(p, s); e != want {
		t.Fatalf("Right(%s, %s) = %v, want %v", show(p), show(s), e, want)
	}
	for _, clock := range clocks(s.Clock) {
		if w, e := Enter(p, clock, s); w != nil || e != want {
			t.Fatalf("Enter(%s, %d, %s) = %v, %v, want none, %v", show(p), clock, show(s), w, e, want)
		}
	}
	checkGiven(t, p, s, before)
}

// checkEnter: nothing is wrong with a snapshot, and just these are let in. Told is
// the table.
func checkEnter(t *testing.T, p api.Policy, clock uint64, s api.Snap, want ...api.Slot) *table.Table {
	t.Helper()
	before := handed(p, s)
	if e := Right(p, s); e != api.OK {
		t.Fatalf("Right(%s, %s) = %v, want OK", show(p), show(s), e)
	}
	w, e := Enter(p, clock, s)
	if e != api.OK || w == nil {
		t.Fatalf("Enter(%s, %d, %s) = %v, %v, want a table, OK", show(p), clock, show(s), w, e)
	}
	if w.Clock() != max(clock, s.Clock) || w.Active() != len(want) || !slices.Equal(w.Slots(), want) {
		t.Fatalf("Enter(%s, %d, %s) tells %s, want %s", show(p), clock, show(s), show(told(w)), show(want))
	}
	checkGiven(t, p, s, before)
	checkUntil(t, w, s)
	return w
}

// checkUntil: who is let in is active until the same time as he was.
func checkUntil(t *testing.T, w *table.Table, s api.Snap) {
	t.Helper()
	var want []api.Entry
	for _, x := range s.Entries {
		if x.Until > w.Clock() {
			want = append(want, x)
		}
	}
	if got := w.Entries(); !slices.Equal(got, want) {
		t.Fatalf("%s are let in at %d, want %s", show(got), w.Clock(), show(want))
	}
}

// checkRight: that is what is wrong with a snapshot; of one that is right all are
// let in at its clock and ahead of it, and leave as they came.
func checkRight(t *testing.T, p api.Policy, s api.Snap, want api.Errno) {
	t.Helper()
	if want != api.OK {
		checkWrong(t, p, s, want)
		return
	}
	for _, clock := range []uint64{0, s.Clock - min(s.Clock, 1), s.Clock} {
		w := checkEnter(t, p, clock, s, wantSlots(p, clock, s)...)
		if got := Leave(w); !same(got, s) {
			t.Fatalf("%s was let in, and %s leaves", show(s), show(got))
		}
	}
}

// checkLeave: that is a table's snapshot, and the table is as it was.
func checkLeave(t *testing.T, w *table.Table, want api.Snap) {
	t.Helper()
	before := told(w)
	if got := Leave(w); !same(got, want) {
		t.Fatalf("Leave tells %s, want %s", show(got), show(want))
	}
	checkStill(t, w, before)
}

// checkMost: so many may be active in a table, and no more.
func checkMost(t *testing.T, w *table.Table, most int) {
	t.Helper()
	for i := w.Active(); i < most; i++ {
		checkCode(t, w, fmt.Sprint("new", i), by(1, 1000, api.Leaky), 1000, api.Admit)
	}
	checkCode(t, w, "one/more", by(1, 1000, api.Leaky), 1, api.Overloaded)
	if w.Active() != most {
		t.Errorf("%d are active, want %d", w.Active(), most)
	}
}

func checkCode(t *testing.T, w *table.Table, k string, r api.Rule, n uint64, want uint8) {
	t.Helper()
	if got := w.Charge(k, r, n); got.Code != want {
		t.Fatalf("Charge(%.40q, %v, %d) = %+v, want the code %d", k, r, n, got, want)
	}
}

// may says whether a key may be, by the chapter's words on keys.
func may(k string) bool {
	for i := range len(k) {
		if k[i] < '!' || k[i] > '~' {
			return false
		}
	}
	return len(k) >= 1 && len(k) <= 128
}

// wantRule is the rule of a key: of all with whose prefix it begins the one of the
// longest.
func wantRule(l []api.Rule, k string) api.Rule {
	var out api.Rule
	at := -1
	for _, r := range l {
		if strings.HasPrefix(k, r.Prefix) && len(r.Prefix) > at {
			out, at = r, len(r.Prefix)
		}
	}
	return out
}

// whole is a number of any size.
func whole(n uint64) *big.Int {
	return new(big.Int).SetUint64(n)
}

// wantFill says whether an entry is as full as may be, by big numbers.
func wantFill(p api.Policy, s api.Snap, x api.Entry) bool {
	r := wantRule(p.Rules, x.Key)
	cap := new(big.Int).Mul(whole(r.Every), whole(r.Burst))
	fill := new(big.Int).Sub(whole(x.Until), whole(s.Clock))
	return fill.Sign() > 0 && fill.Cmp(cap) <= 0
}

// wantRight is what is wrong with a snapshot, by the chapter's words.
func wantRight(p api.Policy, s api.Snap) api.Errno {
	if e := config.Right(p); e != api.OK {
		return e
	}
	switch {
	case s.Clock>>63 == 1:
		return api.ErrBig
	case len(s.Entries) > p.Most:
		return api.ErrMany
	}
	for i := range s.Entries {
		if i > 0 && s.Entries[i-1].Key >= s.Entries[i].Key {
			return api.ErrOrder
		}
	}
	for _, x := range s.Entries {
		if !may(x.Key) {
			return api.ErrKey
		}
		if !wantFill(p, s, x) {
			return api.ErrFill
		}
	}
	return api.OK
}

// wantSlots are the slots of a snapshot that is right, by the chapter's words.
func wantSlots(p api.Policy, clock uint64, s api.Snap) []api.Slot {
	now := max(clock, s.Clock)
	var out []api.Slot
	for _, x := range s.Entries {
		if x.Until > now {
			out = append(out, full(x.Key, wantRule(p.Rules, x.Key), now, x.Until-now))
		}
	}
	return out
}

// TestExample is the chapter's, by each of the kernels.
func TestExample(t *testing.T) {
	for _, kind := range three() {
		w := tableOf(t, 1, 5, full("a", by(1, 10, kind), 5, 8))
		checkLeave(t, w, at(5, till("a", 13)))
		checkEnter(t, policy(1, by(1, 10, kind)), 0, Leave(w), full("a", by(1, 10, kind), 5, 8))
	}
}

// TestLeaveNobody: of a table without keys, and of none, its clock alone.
func TestLeaveNobody(t *testing.T) {
	checkLeave(t, nil, api.Snap{})
	w := table.New(3)
	checkLeave(t, w, api.Snap{})
	for _, now := range []uint64{1, 5, 1 << 40, 1<<63 - 1, 1 << 63, end} {
		w.Tick(now)
		checkLeave(t, w, at(now))
		checkLeave(t, nil, api.Snap{})
	}
}

// TestLeaveOne: until the same time at each clock, and not told from then on.
func TestLeaveOne(t *testing.T) {
	for _, kind := range three() {
		for _, now := range []uint64{0, 5, 1 << 62, 1<<63 - 1, 1 << 63, end - 30} {
			w := tableOf(t, 2, now, full("a", by(5, 4, kind), now, 20))
			for i := range uint64(20) {
				w.Tick(now + i)
				checkLeave(t, w, at(now+i, till("a", now+20)))
			}
			w.Tick(now + 20)
			checkLeave(t, w, at(now+20))
			w.Tick(now + 25)
			checkLeave(t, w, at(now+25))
		}
	}
}

// TestLeaveSeveral: keys rise, however they came, and who is drained is not told.
func TestLeaveSeveral(t *testing.T) {
	w := table.New(20)
	w.Tick(100)
	var want []api.Entry
	for i, k := range []string{"b", "a!", "ab", "a", "~", "A", "a0", "!", "B", "aa", "0"} {
		n := uint64(i%4) + 1
		checkCode(t, w, k, by(10, 5, three()[i%3]), n, api.Admit)
		want = append(want, till(k, 100+10*n))
	}
	slices.SortFunc(want, func(a, b api.Entry) int { return strings.Compare(a.Key, b.Key) })
	for now := uint64(100); now <= 141; now++ {
		w.Tick(now)
		w.MoveAll(three()[now%3])
		checkLeave(t, w, at(now, slices.DeleteFunc(slices.Clone(want), func(x api.Entry) bool { return x.Until <= now })...))
	}
	checkLeave(t, w, at(141))
}

// TestLeaveGreat: at the greatest cap, and where a time is beyond the end.
func TestLeaveGreat(t *testing.T) {
	for _, kind := range three() {
		r := by(1, 1<<62, kind)
		checkLeave(t, tableOf(t, 1, 0, full("a", r, 0, 1<<62)), at(0, till("a", 1<<62)))
		checkLeave(t, tableOf(t, 1, 1<<63-1, full("a", r, 1<<63-1, 1<<62)), at(1<<63-1, till("a", 1<<63+1<<62-1)))
		checkLeave(t, tableOf(t, 1, end-1, full("a", r, end-1, 5)), at(end-1, till("a", end)))
	}
}

// TestLeaveAgain: to be asked changes nothing, and what is told is told again.
func TestLeaveAgain(t *testing.T) {
	w := tableOf(t, 3, 5, full("a", by(5, 4, 1), 5, 20), full("b", by(5, 4, 2), 5, 1))
	for range 3 {
		checkLeave(t, w, at(5, till("a", 25), till("b", 6)))
	}
}

// wrongPolicies are some of each error of config.
func wrongPolicies() map[api.Errno][]api.Policy {
	r := by(10, 5, api.Gcra)
	more := policy(3, r)
	for i := range 1000 {
		more.Rules = append(more.Rules, of(fmt.Sprint("r", i), 10, 5, 1))
	}
	return map[api.Errno][]api.Policy{
		api.ErrMost:    {{}, policy(0, r), policy(-1, r), policy(1000001, r), policy(math.MinInt, r), policy(math.MaxInt, r), policy(1 << 32), policy(0, r, r)},
		api.ErrMany:    {more},
		api.ErrPrefix:  {policy(3, r, of("\n", 10, 5, 1)), policy(3, of(long(129), 10, 5, 1), r)},
		api.ErrEvery:   {policy(3, r, of("a", 0, 5, 1)), policy(3, by(0, 0, 0)), policy(3, of("b", 0, 5, 1), of("a", 10, 0, 1), r)},
		api.ErrBurst:   {policy(3, r, of("a", 10, 0, 1))},
		api.ErrCap:     {policy(3, r, of("a", 1<<31, 1<<31+1, 1)), policy(3, by(end, end, 1))},
		api.ErrKind:    {policy(3, r, of("a", 10, 5, 0)), policy(3, by(10, 5, 4)), policy(3, r, of("x", 10, 5, 255), of("x", 0, 5, 1))},
		api.ErrDefault: {policy(3), policy(3, of("a", 10, 5, 1)), policy(3, of("a", 10, 5, 1), of("a", 10, 5, 1))},
		api.ErrTwice:   {policy(3, r, r), policy(3, r, of("a", 10, 5, 1), of("b", 10, 5, 1), of("a", 10, 6, 1))},
	}
}

// wrongSnaps are some of each error of a snapshot, by three keys at most and a cap
// of 50.
func wrongSnaps() map[api.Errno][]api.Snap {
	return map[api.Errno][]api.Snap{
		api.ErrBig:   {at(1 << 63), at(1<<63+1, till("a", 1<<63+2)), at(end), at(end-1, till("a", end))},
		api.ErrMany:  {at(5, many(4, 5)...), at(0, many(5, 0)...), at(1<<63-1, many(100, 1<<63-1)...)},
		api.ErrOrder: {at(5, till("b", 9), till("a", 9)), at(5, till("a", 9), till("a", 9)), at(0, till("a", 9), till("c", 9), till("b", 9))},
		api.ErrKey:   {at(5, till("", 9)), at(5, till("a", 9), till("b\n", 9)), at(5, till("a", 9), till(long(129), 9))},
		api.ErrFill:  {at(5, till("a", 5)), at(5, till("a", 9), till("b", 56)), at(5, till("a", 9), till("b", 9), till("c", 0))},
	}
}

// TestPolicyAhead: what is wrong with the policy is told ahead of everything.
func TestPolicyAhead(t *testing.T) {
	good := []api.Snap{{}, at(5), at(5, till("a", 9)), at(1<<63-1, many(3, 1<<63-1)...)}
	for want, l := range wrongPolicies() {
		for _, p := range l {
			for _, s := range good {
				checkWrong(t, p, s, want)
			}
			for _, snaps := range wrongSnaps() {
				for _, s := range snaps {
					checkWrong(t, p, s, want)
				}
			}
		}
	}
}

// TestEachAlone: what is wrong with a snapshot, and nothing else.
func TestEachAlone(t *testing.T) {
	for want, l := range wrongSnaps() {
		for _, s := range l {
			for _, kind := range three() {
				checkWrong(t, policy(3, by(10, 5, kind)), s, want)
				checkWrong(t, policy(3, of("a", 5, 10, kind), of("x", 1, 1, 1), by(10, 5, kind)), s, want)
			}
		}
	}
}

// TestBig: a clock may be 2^63 - 1, and none that is above it.
func TestBig(t *testing.T) {
	for _, r := range []api.Rule{by(10, 5, 1), by(10, 5, 2), by(10, 5, 3)} {
		for _, clock := range []uint64{0, 1, 1 << 32, 1 << 62, 1<<63 - 2, 1<<63 - 1} {
			checkRight(t, policy(2, r), at(clock), api.OK)
			checkRight(t, policy(2, r), at(clock, till("a", clock+1)), api.OK)
			checkRight(t, policy(2, r), at(clock, till("a", clock+50), till("b", clock+1)), api.OK)
			checkRight(t, policy(2, r), at(clock, till("a", clock+51)), api.ErrFill)
		}
		for _, clock := range []uint64{1 << 63, 1<<63 + 1, 1<<63 + 1<<62, end - 50, end - 1, end} {
			checkRight(t, policy(2, r), at(clock), api.ErrBig)
			checkRight(t, policy(2, r), at(clock, till("a", clock+1)), api.ErrBig)
			checkRight(t, policy(2, r), at(clock, till("a", clock+50)), api.ErrBig)
			checkRight(t, policy(2, r), at(clock, till("a", 0)), api.ErrBig)
		}
	}
}

// TestMany: as many as Most may be let in, and not one more, whether or not they
// are drained by then.
func TestMany(t *testing.T) {
	r := by(10, 5, api.Leaky)
	for _, most := range []int{1, 2, 3, 7, 50} {
		for _, n := range []int{0, 1, most - 1, most} {
			s := at(5, many(n, 5)...)
			checkRight(t, policy(most, r), s, api.OK)
			w := checkEnter(t, policy(most, r), 0, s, wantSlots(policy(most, r), 0, s)...)
			checkMost(t, w, most)
		}
		for _, n := range []int{most + 1, most + 2, 2*most + 1} {
			checkWrong(t, policy(most, r), at(5, many(n, 5)...), api.ErrMany)
		}
	}
	// Who is drained at the clock counts, too.
	s := at(5, till("a", 6), till("b", 7), till("c", 50))
	if w, e := Enter(policy(2, r), 40, s); w != nil || e != api.ErrMany {
		t.Errorf("Enter of three for two = %v, %v", w, e)
	}
	checkMost(t, checkEnter(t, policy(3, r), 40, s, full("c", r, 40, 10)), 3)
}

// TestMostKeys: as many as may be at all, and one more.
func TestMostKeys(t *testing.T) {
	r := by(10, 5, api.Leaky)
	l := many(api.MaxMost+1, 5)
	p := policy(api.MaxMost, r)
	if e := Right(p, at(5, l...)); e != api.ErrMany {
		t.Errorf("Right of one more than 1000000 tells %v", e)
	}
	w, e := Enter(p, 5, at(5, l[:api.MaxMost]...))
	if e != api.OK || w.Active() != api.MaxMost {
		t.Fatalf("Enter of 1000000 = %v, %v", w.Active(), e)
	}
	checkCode(t, w, "x", r, 1, api.Overloaded)
	if s := Leave(w); !same(s, at(5, l[:api.MaxMost]...)) {
		t.Errorf("%d leave at %d", len(s.Entries), s.Clock)
	}
	p.Most--
	if w, e := Enter(p, 5, at(5, l[:api.MaxMost]...)); w != nil || e != api.ErrMany {
		t.Errorf("Enter of 1000000 for one fewer = %v, %v", w, e)
	}
}

// TestOrder: keys that fall, or are there twice, at each place.
func TestOrder(t *testing.T) {
	p := policy(9, by(10, 5, api.Bucket))
	rising := []string{"!", "A", "a", "a!", "aa", "ab", "b", "~"}
	entries := func(keys []string) api.Snap {
		s := at(5)
		for i, k := range keys {
			s.Entries = append(s.Entries, till(k, uint64(i)+6))
		}
		return s
	}
	checkRight(t, p, entries(rising), api.OK)
	for n := range len(rising) + 1 {
		checkRight(t, p, entries(rising[:n]), api.OK)
		checkRight(t, p, entries(rising[n:]), api.OK)
	}
	for i := range rising {
		twice := slices.Insert(slices.Clone(rising), i, rising[i])
		checkWrong(t, p, entries(twice), api.ErrOrder)
		for j := range rising {
			if i != j {
				fall := slices.Clone(rising)
				fall[i], fall[j] = fall[j], fall[i]
				checkWrong(t, p, entries(fall), api.ErrOrder)
			}
		}
	}
	slices.Reverse(rising)
	checkWrong(t, p, entries(rising), api.ErrOrder)
	for _, pair := range [][2]string{{"a", "a"}, {"b", "a"}, {"a", "A"}, {"ab", "a"}, {"b", "aa"}, {"a", "!"}, {"a/", "a!"}, {long(128), long(127)}, {long(128), long(128)}} {
		checkWrong(t, p, entries(pair[:]), api.ErrOrder)
		if pair[0] != pair[1] {
			checkRight(t, p, entries([]string{pair[1], pair[0]}), api.OK)
		}
	}
}

// TestKey: how long a key may be, and of which bytes, at each place.
func TestKey(t *testing.T) {
	p := policy(3, by(10, 5, api.Gcra))
	check := func(k string) {
		t.Helper()
		want := api.OK
		if !may(k) {
			want = api.ErrKey
		}
		checkRight(t, p, at(5, till(k, 9)), want)
	}
	for _, n := range []int{0, 1, 2, 127, 128, 129, 130, 255, 256, 257, 1 << 16, 1 << 20} {
		check(long(n))
	}
	for c := range 256 {
		b := string([]byte{byte(c)})
		for _, k := range []string{b, b + "a", "a" + b, "a" + b + "a", b + long(127), long(127) + b, long(60) + b + long(67)} {
			check(k)
		}
	}
	for _, k := range []string{"\u00e9", "a\u20ac", "\xff\xfe", "a b", "\x00", "\ufeffa"} {
		check(k)
	}
	for _, k := range []string{"", "\n", " a", "a\x7f", long(129), long(1000)} {
		// At the first, at a middle and at the last place, where keys rise.
		for _, l := range [][]string{{k, "~~"}, {k, "~~", "~~~"}, {"!", k}, {"!", k, "~~"}, {"!", "!!", k}} {
			s := at(5)
			for _, one := range l {
				s.Entries = append(s.Entries, till(one, 9))
			}
			checkWrong(t, p, s, wantRight(p, s))
		}
	}
}

// TestFill: from 1 to the cap, and the ends of all numbers, of one entry, and of
// the first, a middle and the last one.
func TestFill(t *testing.T) {
	for _, clock := range []uint64{0, 1, 5, 100, 1 << 62, 1<<63 - 1} {
		for _, r := range []api.Rule{by(1, 1, 1), by(10, 5, 1), by(10, 5, 2), by(10, 5, 3), by(1, 1<<62, 2), by(1<<62, 1, 3), by(1<<31, 1<<31, 1)} {
			cap := r.Every * r.Burst
			p := policy(3, r)
			for _, until := range []uint64{
				0, 1, clock - 2, clock - 1, clock, clock + 1, clock + 2, clock + cap - 1, clock + cap, clock + cap + 1, clock + cap + 2,
				clock + 1<<62, clock + 1<<62 + 1, clock + 1<<63, 1<<63 - 1, 1 << 63, end - 1, end,
			} {
				for _, s := range []api.Snap{
					at(clock, till("b", until)),
					at(clock, till("b", until), till("c", clock+1)),
					at(clock, till("a", clock+cap), till("b", until)),
					at(clock, till("a", clock+1), till("b", until), till("c", clock+cap)),
				} {
					want := api.OK
					if until <= clock || until-clock > cap {
						want = api.ErrFill
					}
					checkRight(t, p, s, want)
				}
			}
		}
	}
}

// TestFillOfItsRule: the cap is that of the longest prefix's rule, and of no other
// one; a key of none other has the default one's.
func TestFillOfItsRule(t *testing.T) {
	caps := map[string]uint64{"": 20, "a": 60, "ab": 40, "abc": 90, "b/": 1, "x": 1 << 62, long(128): 7}
	var rules []api.Rule
	for i, prefix := range []string{"abc", "", "b/", "a", "x", "ab", long(128)} {
		rules = append(rules, of(prefix, 1, caps[prefix], three()[i%3]))
	}
	rows := []struct{ k, prefix string }{
		{"A", ""}, {"b", ""}, {"!", ""}, {"ba", ""}, {long(127), ""}, {"k", ""},
		{"a", "a"}, {"aa", "a"}, {"aab", "a"}, {"a!", "a"}, {"aB", "a"}, {"ac", "a"},
		{"ab", "ab"}, {"aba", "ab"}, {"abb", "ab"}, {"ab/c", "ab"},
		{"abc", "abc"}, {"abcd", "abc"}, {"abc/", "abc"},
		{"b/", "b/"}, {"b/a", "b/"}, {"x", "x"}, {"xa", "x"}, {long(128), long(128)},
	}
	for range rules {
		rules = append(rules[1:], rules[0])
		p := policy(9, rules...)
		for _, row := range rows {
			cap := caps[row.prefix]
			rule := wantRule(rules, row.k)
			if rule.Prefix != row.prefix {
				t.Fatalf("the rule of %q is %v", row.k, rule)
			}
			for _, clock := range []uint64{0, 8, 1<<63 - 1} {
				checkEnter(t, p, 0, at(clock, till(row.k, clock+1)), full(row.k, rule, clock, 1))
				checkEnter(t, p, 0, at(clock, till(row.k, clock+cap)), full(row.k, rule, clock, cap))
				checkWrong(t, p, at(clock, till(row.k, clock+cap+1)), api.ErrFill)
				checkWrong(t, p, at(clock, till(row.k, clock)), api.ErrFill)
			}
		}
	}
}

// TestOrderOfErrors: of each two that apply the first one is told, wherever in the
// list they are.
func TestOrderOfErrors(t *testing.T) {
	p := policy(3, by(10, 5, api.Leaky))
	rows := []struct {
		s    api.Snap
		want api.Errno
	}{
		{at(1<<63, many(4, 1<<63)...), api.ErrBig},
		{at(1<<63, till("b", 1<<63+1), till("a", 1<<63+1)), api.ErrBig},
		{at(1<<63, till("", 1<<63+1)), api.ErrBig},
		{at(end, till("a", end)), api.ErrBig},
		{at(end, till("", 0), till("", 0), till("", 0), till("", 0)), api.ErrBig},
		{at(5, till("d", 9), till("c", 9), till("b", 9), till("a", 9)), api.ErrMany},
		{at(5, till("a", 9), till("a", 9), till("a", 9), till("a", 9)), api.ErrMany},
		{at(5, till("", 9), till("b", 9), till("c", 9), till("d", 9)), api.ErrMany},
		{at(5, till("a", 5), till("b", 9), till("c", 9), till("d", 9)), api.ErrMany},
		{at(5, till("", 5), till("", 0), till("\n", 5), till("", 99)), api.ErrMany},
		{at(5, till("a\n", 9), till("a", 9)), api.ErrOrder},
		{at(5, till("", 9), till("", 9)), api.ErrOrder},
		{at(5, till("", 9), till("b", 9), till("a", 9)), api.ErrOrder},
		{at(5, till(long(129), 9), till(long(128), 9)), api.ErrOrder},
		{at(5, till("a", 5), till("a", 5)), api.ErrOrder},
		{at(5, till("a", 99), till("c", 9), till("b", 9)), api.ErrOrder},
		{at(5, till("", 5), till("", 5), till("", 5)), api.ErrOrder},
		{at(5, till("", 5)), api.ErrKey},
		{at(5, till("", 0)), api.ErrKey},
		{at(5, till("a\n", 56)), api.ErrKey},
		{at(5, till(long(129), end)), api.ErrKey},
	}
	for _, row := range rows {
		checkWrong(t, p, row.s, row.want)
	}
}

// TestEntryByEntry: of a key that may not be and a fill that may not be, at each two
// places, the one that stands ahead is told; at one place the key.
func TestEntryByEntry(t *testing.T) {
	p := policy(5, by(10, 5, api.Bucket))
	for i := range 5 {
		for j := range 5 {
			for _, tail := range []string{" ", "\x00", "\xff", "\u00e9", long(128)} {
				for _, until := range []uint64{0, 6, 7, 58, end} {
					s := at(7)
					for n := range 5 {
						s.Entries = append(s.Entries, till(fmt.Sprint("k", n), 57))
					}
					s.Entries[i].Key += tail
					s.Entries[j].Until = until
					if i <= j {
						checkWrong(t, p, s, api.ErrKey)
					} else {
						checkWrong(t, p, s, api.ErrFill)
					}
				}
			}
		}
	}
}

// TestEnterByHand: at an earlier clock, at the same one, and at later ones.
func TestEnterByHand(t *testing.T) {
	r, q := by(10, 2, api.Leaky), of("b", 5, 3, api.Gcra)
	z := of("c/", 1, 100, api.Bucket)
	p := policy(4, r, q, z)
	s := at(100, till("a", 120), till("b", 101), till("ba", 115), till("c/d", 200))
	for _, clock := range []uint64{0, 1, 99, 100} {
		checkEnter(t, p, clock, s,
			api.Slot{Key: "a", Rule: r, State: api.State{Kind: api.Leaky, A: 20, B: 100}},
			api.Slot{Key: "b", Rule: q, State: api.State{Kind: api.Gcra, A: 101}},
			api.Slot{Key: "ba", Rule: q, State: api.State{Kind: api.Gcra, A: 115}},
			api.Slot{Key: "c/d", Rule: z, State: api.State{Kind: api.Bucket, A: 0, B: 100}})
	}
	checkEnter(t, p, 101, s,
		api.Slot{Key: "a", Rule: r, State: api.State{Kind: api.Leaky, A: 19, B: 101}},
		api.Slot{Key: "ba", Rule: q, State: api.State{Kind: api.Gcra, A: 115}},
		api.Slot{Key: "c/d", Rule: z, State: api.State{Kind: api.Bucket, A: 1, B: 101}})
	checkEnter(t, p, 119, s,
		api.Slot{Key: "a", Rule: r, State: api.State{Kind: api.Leaky, A: 1, B: 119}},
		api.Slot{Key: "c/d", Rule: z, State: api.State{Kind: api.Bucket, A: 19, B: 119}})
	checkEnter(t, p, 199, s, api.Slot{Key: "c/d", Rule: z, State: api.State{Kind: api.Bucket, A: 99, B: 199}})
	for _, clock := range []uint64{200, 201, 1 << 40, 1<<63 - 1, 1 << 63, end - 1, end} {
		checkEnter(t, p, clock, s)
	}
}

// TestEnterAtEachClock: by each kernel, around the snapshot's clock, around until
// when a key is active, and at the ends.
func TestEnterAtEachClock(t *testing.T) {
	for _, kind := range three() {
		for _, r := range []api.Rule{by(10, 5, kind), by(1, 1<<62, kind), by(1<<62, 1, kind)} {
			cap := r.Every * r.Burst
			for _, then := range []uint64{0, 1, 5, 1 << 62, 1<<63 - 1} {
				for _, fill := range []uint64{1, 2, cap / 2, cap - 1, cap} {
					s := at(then, till("a", then+fill), till("b", then+1), till("c", then+cap))
					p := policy(3, r)
					for _, clock := range append(clocks(then), then+fill-1, then+fill, then+fill+1, then+cap-1, then+cap, then+cap+1) {
						checkEnter(t, p, clock, s, wantSlots(p, clock, s)...)
					}
				}
			}
		}
	}
}

// TestEnterNobody: a table of Most without keys, its clock the later one.
func TestEnterNobody(t *testing.T) {
	for _, most := range []int{1, 2, 3, 50} {
		for _, then := range []uint64{0, 5, 1 << 62, 1<<63 - 1} {
			for _, clock := range clocks(then) {
				w := checkEnter(t, policy(most, by(10, 5, 1)), clock, at(then))
				checkLeave(t, w, at(max(clock, then)))
				// At the clocks' end nobody's time can be told any more.
				if clock < 1<<63 {
					checkMost(t, w, most)
				}
			}
		}
	}
	for _, most := range []int{999999, 1000000} {
		checkEnter(t, policy(most, by(10, 5, 1)), 7, api.Snap{})
	}
}

// TestClockGoesOn: from the table's clock on, and not back.
func TestClockGoesOn(t *testing.T) {
	r := by(10, 5, api.Gcra)
	for _, clock := range []uint64{0, 90, 100, 110} {
		now := max(clock, 100)
		w := checkEnter(t, policy(1, r), clock, at(100, till("a", 150)), full("a", r, now, 150-now))
		for _, earlier := range []uint64{0, 89, 90, 99, now - 1, now} {
			if got := w.Tick(earlier); got != now {
				t.Errorf("let in at %d, and at %d it is %d", now, earlier, got)
			}
		}
		w.Tick(149)
		checkLeave(t, w, at(149, till("a", 150)))
		w.Tick(150)
		checkLeave(t, w, at(150))
	}
}

// someRules are those of a policy that is right, their kernels as told.
func someRules(kind func() uint8) []api.Rule {
	return []api.Rule{by(3, 7, kind()), of("a", 10, 4, kind()), of("ab", 1, 30, kind()), of("b/", 7, 1, kind())}
}

// someKeys are those by which the rules are asked.
func someKeys() []string {
	return []string{"a", "aa", "ab", "ab/c", "abc", "b", "b/", "b/c", "c", "~"}
}

// charge charges a key by the policy's rule of it.
func charge(w *table.Table, p api.Policy, k string, n uint64) api.Answer {
	return w.Charge(k, wantRule(p.Rules, k), n)
}

// used is a table by a policy in which many came and went.
func used(p api.Policy, clock uint64, roll func(uint64) uint64) *table.Table {
	keys := someKeys()
	w := table.New(p.Most)
	w.Tick(clock)
	for range 30 {
		charge(w, p, keys[roll(10)], roll(5))
		charge(w, p, keys[roll(10)], roll(5))
		w.Tick(w.Clock() + roll(4))
		w.Move(keys[roll(10)], three()[roll(3)])
	}
	return w
}

// TestGoesOn: what is let in answers every call as the table that left does, now
// and later.
func TestGoesOn(t *testing.T) {
	entered := 0
	for seed := range 300 {
		roll := dice(seed)
		p := policy(int(roll(8))+1, someRules(func() uint8 { return three()[roll(3)] })...)
		w := used(p, []uint64{0, 77, 1 << 62, 1<<63 - 4000}[roll(4)], roll)
		s := Leave(w)
		// An earlier clock changes nothing; to a later one the table that left goes,
		// too.
		clock := []uint64{0, s.Clock - min(s.Clock, 3), s.Clock, s.Clock + 1, s.Clock + 5, s.Clock + 25}[roll(6)]
		w.Tick(clock)
		other := checkEnter(t, p, clock, s, wantSlots(p, clock, s)...)
		entered += other.Active()
		checkAlike(t, w, other)
		for range 80 {
			checkStep(t, w, other, p, roll)
		}
		later := w.Clock() + 100
		if w.Tick(later) != other.Tick(later) || w.Active() != 0 || other.Active() != 0 {
			t.Fatalf("%s and %s at %d", show(told(w)), show(told(other)), later)
		}
	}
	if entered < 500 {
		t.Errorf("only %d were let in", entered)
	}
}

// checkStep has two tables do one thing: they answer the same, and are the same.
func checkStep(t *testing.T, a, b *table.Table, p api.Policy, roll func(uint64) uint64) {
	t.Helper()
	keys := someKeys()
	k, n, kind, step := keys[roll(10)], roll(6), uint8(roll(4)), roll(5)
	var one, two any
	switch roll(8) {
	case 0:
		one, two = a.Move(k, kind), b.Move(k, kind)
	case 1:
		n, e := a.MoveAll(kind)
		m, f := b.MoveAll(kind)
		one, two = []any{n, e}, []any{m, f}
	case 2, 3, 4:
		one, two = a.Tick(a.Clock()+step), b.Tick(b.Clock()+step)
	default:
		one, two = charge(a, p, k, n), charge(b, p, k, n)
	}
	if !reflect.DeepEqual(one, two) {
		t.Fatalf("%q, %d, at %d is told %+v, and elsewhere %+v", k, n, a.Clock(), one, two)
	}
	checkAlike(t, a, b)
}

// TestBack: what is let in leaves as it came, where nothing is drained, and else
// without those who are; and it may enter again.
func TestBack(t *testing.T) {
	for seed := range 300 {
		roll := dice(seed)
		p := policy(10, someRules(func() uint8 { return three()[roll(3)] })...)
		s := Leave(used(p, roll(3)<<61, roll))
		for range 5 {
			checkRight(t, p, s, api.OK)
			b, e := pack.Encode(s)
			if e != api.OK {
				t.Fatalf("Encode(%s) tells %v", show(s), e)
			}
			back, e := pack.Decode(b)
			if e != api.OK {
				t.Fatalf("Decode(%s) tells %v", show(b), e)
			}
			clock := s.Clock + roll(8)
			w := checkEnter(t, p, clock, back, wantSlots(p, clock, s)...)
			s = Leave(w)
			if s.Clock != clock {
				t.Fatalf("let in at %d, and leaves at %d", clock, s.Clock)
			}
		}
	}
}

// TestByWhatWas: how full a key is hangs on what was admitted of it, and when,
// through however many tables it went.
func TestByWhatWas(t *testing.T) {
	keys := someKeys()
	for seed := range 100 {
		roll := dice(seed)
		p := policy(10, someRules(func() uint8 { return three()[roll(3)] })...)
		w := table.New(10)
		was := map[string][]api.Event{}
		for range 120 {
			w.Tick(w.Clock() + roll(6))
			k, n := keys[roll(10)], roll(5)
			r := wantRule(p.Rules, k)
			next, in := past.Decide(was[k], w.Clock(), r.Every*r.Burst, r.Every*n)
			if a := charge(w, p, k, n); (a.Code == api.Admit) != in {
				t.Fatalf("%q, %d at %d is told %+v by %v", k, n, w.Clock(), a, was[k])
			}
			was[k] = next
			if roll(3) > 0 {
				continue
			}
			other, e := Enter(p, w.Clock()+roll(4), Leave(w))
			if e != api.OK {
				t.Fatalf("Enter tells %v", e)
			}
			w = other
			var want []api.Entry
			for _, k := range keys {
				if fill := past.Fill(was[k], w.Clock()); fill > 0 {
					want = append(want, till(k, w.Clock()+fill))
				}
			}
			checkLeave(t, w, at(w.Clock(), want...))
		}
	}
}

// TestNobodyTellsThemApart: whatever kernels the rules here and there name, the same
// is told of all else.
func TestNobodyTellsThemApart(t *testing.T) {
	for seed := range 100 {
		roll := dice(seed)
		// The last one's kernels differ from rule to rule.
		kind := func(i int) uint8 {
			if i < 3 {
				return three()[i]
			}
			return three()[roll(3)]
		}
		var policies []api.Policy
		for i := range 4 {
			policies = append(policies, policy(4, someRules(func() uint8 { return kind(i) })...))
		}
		s := Leave(used(policies[roll(4)], 50, roll))
		clock := s.Clock + roll(5)
		var tables []*table.Table
		for _, p := range policies {
			tables = append(tables, checkEnter(t, p, clock, s, wantSlots(p, clock, s)...))
		}
		for range 60 {
			k, n, step := someKeys()[roll(10)], roll(6), roll(4)
			first := charge(tables[0], policies[0], k, n)
			for i := range tables[1:] {
				if a := charge(tables[i+1], policies[i+1], k, n); !reflect.DeepEqual(a, first) {
					t.Fatalf("%q, %d is told %+v, and by others %+v", k, n, first, a)
				}
			}
			for _, w := range tables {
				w.Tick(clock + step)
				checkAlike(t, tables[0], w)
			}
			clock += step
		}
	}
}

// somePolicy is one that is right but for once in some ten.
func somePolicy(roll func(uint64) uint64) api.Policy {
	p := policy(int(roll(6))+2, someRules(func() uint8 { return three()[roll(3)] })...)
	r := &p.Rules[roll(4)]
	switch roll(60) {
	case 0:
		p.Most = []int{0, -1, 1000001}[roll(3)]
	case 1:
		r.Prefix = []string{"a", "\n", "", long(129)}[roll(4)]
	case 2:
		r.Every = []uint64{0, end, 1 << 61}[roll(3)]
	case 3:
		r.Burst = []uint64{0, end, 1 << 62}[roll(3)]
	case 4:
		r.Kind = []uint8{0, 4, 255}[roll(3)]
	}
	return p
}

// someSnap is one that is often right by such a policy, or wrong in one way or
// in some.
func someSnap(p api.Policy, roll func(uint64) uint64) api.Snap {
	s := at([]uint64{0, 5, 1 << 40, 1 << 62, 1<<63 - 1}[roll(5)])
	for _, k := range someKeys() {
		r := wantRule(p.Rules, k)
		if roll(2) == 0 && r.Every > 0 && r.Burst > 0 {
			s.Entries = append(s.Entries, till(k, s.Clock+1+roll(max(r.Every*r.Burst, 1))))
		}
	}
	for roll(3) == 0 && len(s.Entries) > 0 {
		n := uint64(len(s.Entries))
		x := &s.Entries[roll(n)]
		switch roll(7) {
		case 0:
			s.Clock = []uint64{1 << 63, end, s.Clock + 1, s.Clock + 30}[roll(4)]
		case 1:
			*x = s.Entries[roll(n)]
		case 2:
			s.Entries = append(s.Entries, till("~~", s.Clock+1))
		case 3:
			x.Key += []string{" ", "\x7f", long(128), "x"}[roll(4)]
		case 4:
			x.Key = ""
		default:
			x.Until = []uint64{0, s.Clock, s.Clock - 1, s.Clock + 31, s.Clock + 41, end}[roll(6)]
		}
	}
	return s
}

// TestByTheWords: of mixed policies, snapshots and clocks what the chapter's words
// tell.
func TestByTheWords(t *testing.T) {
	seen := map[api.Errno]int{}
	drained := 0
	for seed := range 20000 {
		roll := dice(seed)
		p := somePolicy(roll)
		s := someSnap(p, roll)
		want := wantRight(p, s)
		seen[want]++
		if want != api.OK {
			checkWrong(t, p, s, want)
			continue
		}
		clock := []uint64{0, s.Clock - min(s.Clock, 1), s.Clock, s.Clock + 1, s.Clock + roll(40), end}[roll(6)]
		w := checkEnter(t, p, clock, s, wantSlots(p, clock, s)...)
		if n := w.Active(); n > 0 && n < len(s.Entries) {
			drained++
		}
	}
	for _, e := range []api.Errno{api.OK, api.ErrBig, api.ErrMany, api.ErrOrder, api.ErrKey, api.ErrFill} {
		if seen[e] < 200 {
			t.Errorf("%v was told %d times", e, seen[e])
		}
	}
	for _, e := range []api.Errno{api.ErrMost, api.ErrPrefix, api.ErrEvery, api.ErrBurst, api.ErrCap, api.ErrKind, api.ErrTwice, api.ErrDefault} {
		if seen[e] < 20 {
			t.Errorf("%v was told %d times", e, seen[e])
		}
	}
	if drained < 500 {
		t.Errorf("in %d tables some were drained", drained)
	}
}

// TestTables: whatever is done at the table that left, or at one that was let in,
// changes nothing of the other ones, nor of what was handed in.
func TestTables(t *testing.T) {
	roll := dice(7)
	p := policy(6, someRules(func() uint8 { return three()[roll(3)] })...)
	w := used(p, 20, roll)
	s := Leave(w)
	before := handed(p, s)
	tables := []*table.Table{w}
	for _, clock := range []uint64{0, s.Clock, s.Clock + 3} {
		tables = append(tables, checkEnter(t, p, clock, s, wantSlots(p, clock, s)...))
	}
	for range 400 {
		i := roll(4)
		var was []report
		for _, one := range tables {
			was = append(was, told(one))
		}
		one := tables[i]
		k := someKeys()[roll(10)]
		switch roll(5) {
		case 0:
			one.Tick(one.Clock() + roll(4))
		case 1:
			one.Move(k, uint8(roll(4)))
		case 2:
			one.MoveAll(uint8(roll(4)))
		default:
			charge(one, p, k, roll(5))
		}
		for j, other := range tables {
			if uint64(j) != i {
				checkStill(t, other, was[j])
			}
		}
		checkGiven(t, p, s, before)
	}
}

// TestBehindTheLength: what lies behind the length of a list is neither read nor
// written, and what is done to a list behind the call changes nothing.
func TestBehindTheLength(t *testing.T) {
	rules := []api.Rule{by(10, 5, 1), of("b", 10, 6, 2), of("b", 1, 1, 3), of("\n", 0, 0, 0), by(1, 1, 3)}
	entries := []api.Entry{till("a", 55), till("b", 50), till("ba", 65), till("c", 20), till("c", 20), till("", 0), till("a", 5)}
	wasRules, wasEntries := slices.Clone(rules), slices.Clone(entries)
	for i := range len(rules) + 1 {
		for j := range len(entries) + 1 {
			p, s := policy(4, rules[:i]...), at(5, entries[:j]...)
			if e, want := Right(p, s), wantRight(policy(4, slices.Clone(rules[:i])...), at(5, slices.Clone(entries[:j])...)); e != want {
				t.Fatalf("Right(%s, %s) = %v, want %v", show(p), show(s), e, want)
			}
			w, e := Enter(p, 8, s)
			if e == api.OK {
				before := told(w)
				want := wantSlots(p, 8, s)
				clear(rules)
				clear(entries)
				checkStill(t, w, before)
				if !slices.Equal(w.Slots(), want) {
					t.Fatalf("let in are %s, want %s", show(w.Slots()), show(want))
				}
				copy(rules, wasRules)
				copy(entries, wasEntries)
				w.Charge("d", by(10, 5, 1), 1)
				w.MoveAll(api.Bucket)
				w.Tick(60)
			}
			if !slices.Equal(rules, wasRules) || !slices.Equal(entries, wasEntries) {
				t.Fatalf("%s, %s are changed", show(rules), show(entries))
			}
		}
	}
	p, s := policy(4, rules[:2]...), at(5, entries[:4]...)
	checkEnter(t, p, 8, s, wantSlots(p, 8, s)...)
}

// TestLeftIsACopy: what is done to a snapshot is not told again, nor does it change
// a table; and what is done to the table doesn't change the snapshot.
func TestLeftIsACopy(t *testing.T) {
	p := policy(3, by(10, 5, api.Leaky))
	want := at(5, till("a", 55), till("b", 6), till("c", 20))
	w := checkEnter(t, p, 5, want, wantSlots(p, 5, want)...)
	first := Leave(w)
	for range 2 {
		s := Leave(w)
		s.Clock = 99
		for i := range s.Entries {
			s.Entries[i] = till("x", 1)
		}
		clear(s.Entries[:cap(s.Entries)])
		checkLeave(t, w, want)
	}
	w.Tick(30)
	w.Charge("b", p.Rules[0], 2)
	if !same(first, want) {
		t.Errorf("%s left, and it is %s", show(want), show(first))
	}
	checkLeave(t, w, at(30, till("a", 55), till("b", 50)))
}

// raw is a text in memory that can be written.
func raw(s string) string {
	b := []byte(s)
	return unsafe.String(unsafe.SliceData(b), len(b))
}

// spoil writes over a text's bytes.
func spoil(s string) {
	b := unsafe.Slice(unsafe.StringData(s), len(s))
	for i := range b {
		b[i] = 'x'
	}
}

// TestOwnMemory: not even the bytes of a key or of a prefix are shared between the
// policy, the snapshots and the tables.
func TestOwnMemory(t *testing.T) {
	p := policy(3, by(10, 5, api.Leaky), of(raw("b"), 10, 6, api.Gcra))
	s := at(5, till(raw("a"), 20), till(raw("bc"), 30))
	want := []api.Slot{full("a", by(10, 5, api.Leaky), 5, 15), full("bc", of("b", 10, 6, api.Gcra), 5, 25)}
	w := checkEnter(t, p, 5, s, want...)
	one, two := Leave(w), Leave(w)
	spoil(p.Rules[1].Prefix)
	for _, x := range s.Entries {
		spoil(x.Key)
	}
	for _, x := range one.Entries {
		spoil(x.Key)
	}
	if !slices.Equal(w.Slots(), want) {
		t.Errorf("let in are %s, want %s", show(w.Slots()), show(want))
	}
	if !same(two, at(5, till("a", 20), till("bc", 30))) {
		t.Errorf("%s left", show(two))
	}
	for _, x := range w.Slots() {
		spoil(x.Key)
		spoil(x.Rule.Prefix)
	}
	if !slices.Equal(w.Slots(), want) {
		t.Errorf("let in are %s, want %s", show(w.Slots()), show(want))
	}
}

// TestNilAndEmpty: a list that is nil is one that is empty.
func TestNilAndEmpty(t *testing.T) {
	for _, entries := range [][]api.Entry{nil, {}, make([]api.Entry, 0, 4)} {
		s := at(5, entries...)
		s.Entries = entries
		checkRight(t, policy(2, by(10, 5, 1)), s, api.OK)
		for _, rules := range [][]api.Rule{nil, {}, make([]api.Rule, 0, 4)} {
			checkWrong(t, api.Policy{Most: 2, Rules: rules}, s, api.ErrDefault)
			checkWrong(t, api.Policy{Rules: rules}, s, api.ErrMost)
		}
		checkWrong(t, policy(2, by(10, 5, 1)), api.Snap{Clock: 1 << 63, Entries: entries}, api.ErrBig)
	}
}

// TestManyRules: as many as may be, each of them asked of its own keys.
func TestManyRules(t *testing.T) {
	p := policy(1000, by(1, 1, 1))
	s := at(9)
	var want []api.Slot
	for i := range 999 {
		k := fmt.Sprintf("k%03d", i)
		r := of(k, 10, uint64(i)+1, three()[i%3])
		p.Rules = append(p.Rules, r)
		s.Entries = append(s.Entries, till(k+"/a", 9+10*(uint64(i)+1)))
		want = append(want, full(k+"/a", r, 9, 10*(uint64(i)+1)))
	}
	checkEnter(t, p, 9, s, want...)
	for _, i := range []int{0, 1, 500, 997, 998} {
		s.Entries[i].Until++
		checkWrong(t, p, s, api.ErrFill)
		s.Entries[i].Until--
	}
	p.Rules = append(p.Rules, of("z", 1, 1, 1))
	checkWrong(t, p, s, api.ErrMany)
}

// TestOtherRules: who left by other rules is let in just if he is no fuller than
// these allow, and is so full by them.
func TestOtherRules(t *testing.T) {
	w := tableOf(t, 3, 40, full("a", by(10, 5, api.Gcra), 40, 21), full("b", by(7, 9, api.Leaky), 40, 20))
	for _, kind := range three() {
		r := by(7, 3, kind)
		other := checkEnter(t, policy(2, r), 0, Leave(w), full("a", r, 40, 21), full("b", r, 40, 20))
		checkCode(t, other, "b", r, 1, api.Deny)
		other.Tick(46)
		checkCode(t, other, "b", r, 1, api.Admit)
		checkWrong(t, policy(2, by(10, 2, kind)), Leave(w), api.ErrFill)
		checkWrong(t, policy(2, r, of("b", 19, 1, kind)), Leave(w), api.ErrFill)
		checkWrong(t, policy(1, r), Leave(w), api.ErrMany)
	}
}

// TestActiveStops: nobody is told any more when that is asked.
func TestActiveStops(t *testing.T) {
	n := 0
	for s := range active(nil, 5, []api.Entry{till("a", 5), till("b", 9), till("c", 0), till("d", 9), till("e", 9)}) {
		n++
		if s.Key == "d" {
			break
		}
	}
	if n != 2 {
		t.Errorf("%d were told", n)
	}
}
