package table

import (
	"fmt"
	"math"
	"reflect"
	"slices"
	"strings"
	"testing"
	"unsafe"

	"toller/api"
	"toller/kernel"
	"toller/key"
	"toller/num"
	"toller/past"
	"toller/rule"
)

const end = 1<<64 - 1

// dice tells numbers below a bound, always the same ones of one seed.
func dice(seed int) func(below uint64) uint64 {
	x := 88172645463325252 + uint64(seed)*0x9e3779b97f4a7c15
	return func(below uint64) uint64 {
		x ^= x << 13
		x ^= x >> 7
		x ^= x << 17
		return (x >> 7) % below
	}
}

// three are the kernels.
func three() []uint8 {
	return []uint8{api.Gcra, api.Bucket, api.Leaky}
}

// none are kinds that no kernel has.
func none() []uint8 {
	return []uint8{0, 4, 5, 127, 128, 254, 255}
}

// long is a text of so many bytes.
func long(n int) string {
	return strings.Repeat("k", n)
}

// by is a rule of these numbers.
func by(every, burst uint64, kind uint8) api.Rule {
	return api.Rule{Every: every, Burst: burst, Kind: kind}
}

// of is a rule of a prefix, too.
func of(prefix string, every, burst uint64, kind uint8) api.Rule {
	return api.Rule{Prefix: prefix, Every: every, Burst: burst, Kind: kind}
}

// state is one that is so full.
func state(kind uint8, now, cap, fill uint64) api.State {
	s, e := kernel.Of(kind, now, cap, fill)
	if e != api.OK {
		panic(e)
	}
	return s
}

// full is a slot that is so full at now, by its rule's kernel.
func full(k string, r api.Rule, now, fill uint64) api.Slot {
	return api.Slot{Key: k, Rule: r, State: state(r.Kind, now, r.Every*r.Burst, fill)}
}

// keysOf are the keys of these.
func keysOf(l []api.Slot) []string {
	var out []string
	for _, s := range l {
		out = append(out, s.Key)
	}
	return out
}

// many are n slots of rules that differ, their keys rising.
func many(n int) []api.Slot {
	var out []api.Slot
	for i := range n {
		r := of("k", 10, uint64(i%7)+2, three()[i%3])
		out = append(out, full(fmt.Sprintf("k%07d", i), r, 0, uint64(i%20)+1))
	}
	return out
}

// tableOf is a table of these.
func tableOf(t *testing.T, most int, clock uint64, l ...api.Slot) *Table {
	t.Helper()
	w, e := Of(most, clock, l)
	if e != api.OK || w == nil {
		t.Fatalf("Of(%d, %d, %.300q) = %v, %v", most, clock, fmt.Sprint(l), w, e)
	}
	return w
}

// again is a table of what another one tells.
func again(t *testing.T, w *Table) *Table {
	t.Helper()
	return tableOf(t, w.most, w.Clock(), w.Slots()...)
}

func admit(limit, left, reset uint64) api.Answer {
	return api.Answer{Code: api.Admit, Limit: limit, Left: left, Reset: reset}
}

func deny(limit, left, reset uint64) api.Answer {
	return api.Answer{Code: api.Deny, Limit: limit, Left: left, Reset: reset}
}

func denyTill(limit, left, reset, after, nanos uint64) api.Answer {
	return api.Answer{Code: api.Deny, Limit: limit, Left: left, Reset: reset, After: after, Nanos: nanos, Retry: true}
}

func overloaded(limit uint64) api.Answer {
	return api.Answer{Code: api.Overloaded, Limit: limit}
}

func bad(e api.Errno) api.Answer {
	return api.Answer{Code: api.Bad, Error: e}
}

// alike says whether two answers are the same, neither with a Body.
func alike(a, b api.Answer) bool {
	if len(a.Body) != 0 || len(b.Body) != 0 {
		return false
	}
	a.Body, b.Body = nil, nil
	return reflect.DeepEqual(a, b)
}

func checkCharge(t *testing.T, w *Table, k string, r api.Rule, n uint64, want api.Answer) {
	t.Helper()
	if got := w.Charge(k, r, n); !alike(got, want) {
		t.Errorf("Charge(%.40q, %v, %d) = %+v, want %+v", k, r, n, got, want)
	}
}

func checkCode(t *testing.T, w *Table, k string, r api.Rule, n uint64, want uint8) {
	t.Helper()
	if got := w.Charge(k, r, n); got.Code != want {
		t.Errorf("Charge(%.40q, %v, %d) = %+v, want the code %d", k, r, n, got, want)
	}
}

func checkTick(t *testing.T, w *Table, now, want uint64) {
	t.Helper()
	if got := w.Tick(now); got != want {
		t.Errorf("Tick(%d) = %d, want %d", now, got, want)
	}
	if got := w.Clock(); got != want {
		t.Errorf("Clock = %d behind Tick(%d), want %d", got, now, want)
	}
}

func checkMove(t *testing.T, w *Table, k string, kind uint8, want api.Errno) {
	t.Helper()
	if got := w.Move(k, kind); got != want {
		t.Errorf("Move(%.40q, %d) = %v, want %v", k, kind, got, want)
	}
}

func checkMoveAll(t *testing.T, w *Table, kind uint8, want int, e api.Errno) {
	t.Helper()
	if got, is := w.MoveAll(kind); got != want || is != e {
		t.Errorf("MoveAll(%d) = %d, %v, want %d, %v", kind, got, is, want, e)
	}
}

// checkOf: of these there is no table, but that error.
func checkOf(t *testing.T, most int, clock uint64, l []api.Slot, want api.Errno) {
	t.Helper()
	w, e := Of(most, clock, l)
	if w != nil || e != want {
		t.Errorf("Of(%d, %d, %.300q) = %.300q, %v, want none, %v", most, clock, fmt.Sprint(l), fmt.Sprint(w), e, want)
	}
}

// checkSlots: these are active, and no others, by just these rules and states.
func checkSlots(t *testing.T, w *Table, want ...api.Slot) {
	t.Helper()
	if got := w.Slots(); !slices.Equal(got, want) {
		t.Errorf("Slots = %v, want %v", got, want)
	}
	checkActive(t, w, keysOf(want)...)
}

// checkEntries: until then these keys are active.
func checkEntries(t *testing.T, w *Table, want ...api.Entry) {
	t.Helper()
	if got := w.Entries(); !slices.Equal(got, want) {
		t.Errorf("Entries = %v, want %v", got, want)
	}
}

// checkActive: these keys are active, and no others.
func checkActive(t *testing.T, w *Table, want ...string) {
	t.Helper()
	if got := w.Active(); got != len(want) {
		t.Errorf("Active = %d, want %d: %.80q", got, len(want), want)
	}
	if got := keysOf(w.Slots()); !slices.Equal(got, want) {
		t.Errorf("Slots are of %.80q, want %.80q", got, want)
	}
	var keys []string
	for _, e := range w.Entries() {
		keys = append(keys, e.Key)
	}
	if !slices.Equal(keys, want) {
		t.Errorf("Entries are of %.80q, want %.80q", keys, want)
	}
	checkKept(t, w)
}

// checkKept: nothing is kept of who is not active, and whoever is drained next
// will be found.
func checkKept(t *testing.T, w *Table) {
	t.Helper()
	if w == nil {
		return
	}
	if len(w.slots) > w.most || len(w.slots) != len(w.queue) {
		t.Errorf("%d slots, %d in the queue, want %d at most", len(w.slots), len(w.queue), w.most)
	}
	for k, s := range w.slots {
		fill := kernel.Fill(s.State, w.clock, rule.Cap(s.Rule))
		if k != s.Key || w.queue[s.place] != s || fill == 0 || s.due > num.Add(w.clock, fill) {
			t.Errorf("%q is kept as %v, due at %d, %d full at %d", k, s.Slot, s.due, fill, w.clock)
		}
		if s.place > 0 && w.queue[(s.place-1)/2].due > s.due {
			t.Errorf("%q is due at %d, and stands behind one that is later", k, s.due)
		}
	}
	for _, s := range w.queue[len(w.queue):cap(w.queue)] {
		if s != nil {
			t.Errorf("the slot of %q is kept, and it is gone", s.Key)
		}
	}
}

// report is what a table tells of itself.
type report struct {
	Clock   uint64
	Active  int
	Slots   []api.Slot
	Entries []api.Entry
}

func told(w *Table) report {
	return report{w.Clock(), w.Active(), append([]api.Slot{}, w.Slots()...), append([]api.Entry{}, w.Entries()...)}
}

// checkStill: a table tells what it told.
func checkStill(t *testing.T, w *Table, before report) {
	t.Helper()
	if after := told(w); !reflect.DeepEqual(after, before) {
		t.Errorf("the table tells %+v, and told %+v", after, before)
	}
	checkKept(t, w)
}

// model is a table by the chapter's words: it loses no slot that is drained, but
// asks each one how full it is.
type model struct {
	most  int
	clock uint64
	slots map[string]api.Slot
}

func (m *model) fill(k string) uint64 {
	s, is := m.slots[k]
	if !is {
		return 0
	}
	return kernel.Fill(s.State, m.clock, rule.Cap(s.Rule))
}

func (m *model) active() []string {
	var out []string
	for k := range m.slots {
		if m.fill(k) != 0 {
			out = append(out, k)
		}
	}
	slices.Sort(out)
	return out
}

func (m *model) tick(now uint64) uint64 {
	m.clock = max(m.clock, now)
	return m.clock
}

func (m *model) charge(k string, r api.Rule, n uint64) api.Answer {
	if !key.Right(k) {
		return bad(api.ErrKey)
	}
	if e := rule.Right(r); e != api.OK {
		return bad(e)
	}
	if old := m.slots[k].Rule; m.fill(k) != 0 && (old.Every != r.Every || old.Burst != r.Burst) {
		delete(m.slots, k)
	}
	if m.fill(k) == 0 && len(m.active()) >= m.most {
		return overloaded(r.Burst)
	}
	cap, w := r.Every*r.Burst, num.Mul(n, r.Every)
	s := state(r.Kind, m.clock, cap, 0)
	if m.fill(k) != 0 {
		s = m.slots[k].State
	}
	a := deny(r.Burst, 0, 0)
	a.Nanos, a.Retry = kernel.Wait(s, m.clock, cap, w)
	a.After = num.Ceil(a.Nanos, api.Second)
	s, in := kernel.Decide(s, m.clock, cap, w)
	if in {
		a.Code = api.Admit
		m.slots[k] = api.Slot{Key: k, Rule: r, State: s}
	}
	a.Left = kernel.Left(s, m.clock, cap, r.Every)
	a.Reset = num.Ceil(kernel.Fill(s, m.clock, cap), api.Second)
	return a
}

func (m *model) move(k string, kind uint8) api.Errno {
	if !kernel.Right(kind) {
		return api.ErrKind
	}
	if m.fill(k) == 0 {
		return api.ErrAbsent
	}
	s := m.slots[k]
	s.State, _ = kernel.Migrate(s.State, kind, m.clock, rule.Cap(s.Rule))
	m.slots[k] = s
	return api.OK
}

func (m *model) moveAll(kind uint8) (int, api.Errno) {
	if !kernel.Right(kind) {
		return 0, api.ErrKind
	}
	l := m.active()
	for _, k := range l {
		m.move(k, kind)
	}
	return len(l), api.OK
}

func (m *model) told() report {
	out := report{m.clock, len(m.active()), []api.Slot{}, []api.Entry{}}
	for _, k := range m.active() {
		s := m.slots[k]
		out.Slots = append(out.Slots, s)
		out.Entries = append(out.Entries, api.Entry{Key: k, Until: kernel.Until(s.State, m.clock, rule.Cap(s.Rule))})
	}
	return out
}

func TestExample(t *testing.T) {
	w := New(1)
	r := by(10, 2, api.Gcra)
	checkCharge(t, w, "a", r, 2, admit(2, 0, 1))
	checkCharge(t, w, "b", r, 2, overloaded(2))
	checkCharge(t, w, "b", r, 1, overloaded(2))
}

// TestNewIsEmpty: without slots, the clock at 0.
func TestNewIsEmpty(t *testing.T) {
	for _, most := range []int{math.MinInt, -1, 0, 1, 2, 1000000, math.MaxInt} {
		w := New(most)
		if w == nil {
			t.Fatalf("New(%d) is none", most)
		}
		checkSlots(t, w)
		checkEntries(t, w)
		checkMove(t, w, "a", api.Leaky, api.ErrAbsent)
		checkMoveAll(t, w, api.Leaky, 0, api.OK)
		checkTick(t, w, 0, 0)
	}
}

// TestNewOfMost: below 1 is 1.
func TestNewOfMost(t *testing.T) {
	rows := []struct{ most, want int }{
		{math.MinInt, 1}, {-1000000, 1}, {-2, 1}, {-1, 1}, {0, 1}, {1, 1}, {2, 2}, {3, 3}, {1000, 1000},
	}
	for _, r := range rows {
		w := New(r.most)
		for i := range r.want {
			checkCode(t, w, fmt.Sprint("k", i), by(10, 2, three()[i%3]), 1, api.Admit)
		}
		checkCharge(t, w, "x", by(10, 2, api.Leaky), 1, overloaded(2))
		if w.Active() != r.want {
			t.Errorf("New(%d) has %d active, want %d", r.most, w.Active(), r.want)
		}
		checkKept(t, w)
	}
}

// TestNewOfMany: above 1000000 is 1000000.
func TestNewOfMany(t *testing.T) {
	for _, most := range []int{api.MaxMost, api.MaxMost + 1} {
		w := New(most)
		r := by(10, 2, api.Leaky)
		for i := range api.MaxMost {
			if a := w.Charge(fmt.Sprint("k", i), r, 1); a.Code != api.Admit {
				t.Fatalf("New(%d): the key %d is told %+v", most, i, a)
			}
		}
		checkCharge(t, w, "x", r, 1, overloaded(2))
		checkCode(t, w, "k999999", r, 1, api.Admit)
		if w.Active() != api.MaxMost {
			t.Errorf("New(%d) has %d active", most, w.Active())
		}
	}
	for most, want := range map[int]int{999999: 999999, 1000000: 1000000, 1000002: 1000000, 2000000: 1000000, math.MaxInt: 1000000} {
		if got := New(most).most; got != want {
			t.Errorf("New(%d) is of %d at most, want %d", most, got, want)
		}
	}
}

// TestOfMany: as many as may be, the most that may be, and one more.
func TestOfMany(t *testing.T) {
	l := many(api.MaxMost + 1)
	w := tableOf(t, api.MaxMost, 0, l[:api.MaxMost]...)
	if w.Active() != api.MaxMost || !slices.Equal(w.Slots(), l[:api.MaxMost]) {
		t.Errorf("%d are active", w.Active())
	}
	checkCharge(t, w, l[api.MaxMost].Key, l[api.MaxMost].Rule, 1, overloaded(l[api.MaxMost].Rule.Burst))
	checkOf(t, api.MaxMost, 0, l, api.ErrFull)
	checkOf(t, api.MaxMost+1, 0, l, api.ErrMost)
	checkOf(t, api.MaxMost+1, 0, nil, api.ErrMost)
}

func TestOfMost(t *testing.T) {
	one := full("a", by(10, 2, api.Gcra), 0, 5)
	for _, most := range []int{math.MinInt, -1000000, -1, 0, 1000001, 1000002, math.MaxInt} {
		checkOf(t, most, 0, nil, api.ErrMost)
		checkOf(t, most, 0, []api.Slot{}, api.ErrMost)
		checkOf(t, most, 0, []api.Slot{one}, api.ErrMost)
		checkOf(t, most, 9, []api.Slot{{}}, api.ErrMost)
	}
	for _, most := range []int{1, 2, 999999, 1000000} {
		checkSlots(t, tableOf(t, most, 0, one), one)
		checkSlots(t, tableOf(t, most, 9))
	}
}

// TestOfNone: an empty list is as none; the clock is that, whatever it is.
func TestOfNone(t *testing.T) {
	for _, clock := range []uint64{0, 1, 1 << 62, 1 << 63, end} {
		for _, l := range [][]api.Slot{nil, {}} {
			w, e := Of(1, clock, l)
			if e != api.OK || w == nil {
				t.Fatalf("Of(1, %d, none) = %v, %v", clock, w, e)
			}
			checkSlots(t, w)
			checkTick(t, w, 0, clock)
			checkCode(t, w, "a", by(10, 2, api.Leaky), 1, api.Admit)
			checkCharge(t, w, "b", by(10, 2, api.Leaky), 1, overloaded(2))
		}
	}
}

// TestOf: a table of some has just these, whatever kernels they are by, at that
// clock, and as many places as it should.
func TestOf(t *testing.T) {
	a := full("a", of("a", 10, 2, api.Gcra), 7, 20)
	b := full("b/x", of("", 5, 3, api.Bucket), 7, 1)
	c := full("c", of("other", 1, 9, api.Leaky), 7, 4)
	// The state's kernel needn't be the rule's, nor a schedule's B be 0.
	d := api.Slot{Key: "d", Rule: by(10, 2, api.Bucket), State: api.State{Kind: api.Gcra, A: 9, B: 77}}
	e := api.Slot{Key: long(128), Rule: of(long(128), 1, api.MaxCap, api.Gcra), State: state(api.Leaky, 3, api.MaxCap, api.MaxCap)}
	l := []api.Slot{a, b, c, d, e}
	w := tableOf(t, 6, 7, l...)
	checkSlots(t, w, l...)
	checkTick(t, w, 6, 7)
	checkEntries(t, w, api.Entry{Key: "a", Until: 27}, api.Entry{Key: "b/x", Until: 8}, api.Entry{Key: "c", Until: 11}, api.Entry{Key: "d", Until: 9}, api.Entry{Key: e.Key, Until: 3 + api.MaxCap})
	checkCode(t, w, "x", by(10, 2, api.Leaky), 1, api.Admit)
	checkCharge(t, w, "y", by(10, 2, api.Leaky), 1, overloaded(2))
	checkCharge(t, w, "a", a.Rule, 1, denyTill(2, 0, 1, 1, 10))
	checkTick(t, w, 8, 8)
	checkActive(t, w, "a", "c", "d", e.Key, "x")
	checkTick(t, w, 9, 9)
	checkActive(t, w, "a", "c", e.Key, "x")
	checkTick(t, w, 11, 11)
	checkActive(t, w, "a", e.Key, "x")
	checkTick(t, w, 16, 16)
	checkActive(t, w, "a", e.Key, "x")
	checkTick(t, w, 17, 17)
	checkActive(t, w, "a", e.Key)
	checkTick(t, w, 27, 27)
	checkActive(t, w, e.Key)
	checkTick(t, w, 2+api.MaxCap, 2+api.MaxCap)
	checkActive(t, w, e.Key)
	checkTick(t, w, 3+api.MaxCap, 3+api.MaxCap)
	checkActive(t, w)
}

// wrongSlots are slots that may not be at the clock 100, of each error at least
// one, but right in all else.
func wrongSlots() map[api.Errno][]api.Slot {
	r := of("k", 10, 2, api.Leaky)
	s := state(api.Leaky, 100, 20, 5)
	out := map[api.Errno][]api.Slot{}
	for _, k := range []string{"", " ", "a b", "a\n", "\x00", "\x20k", "k\x7f", "k\x80", "\u00e9", long(129), long(1000)} {
		out[api.ErrKey] = append(out[api.ErrKey], api.Slot{Key: k, Rule: r, State: s})
	}
	for e, l := range wrongRules() {
		for _, one := range l {
			out[e] = append(out[e], api.Slot{Key: "k", Rule: one, State: s})
		}
	}
	for _, kind := range none() {
		out[api.ErrKind] = append(out[api.ErrKind], api.Slot{Key: "k", Rule: r, State: api.State{Kind: kind, A: 5, B: 100}})
	}
	for _, one := range []api.State{
		{Kind: api.Leaky}, {Kind: api.Leaky, A: 0, B: 100}, {Kind: api.Leaky, A: 5, B: 95}, {Kind: api.Leaky, A: 20, B: 50},
		{Kind: api.Leaky, A: 21, B: 100}, {Kind: api.Leaky, A: 26, B: 95}, {Kind: api.Leaky, A: end, B: 100}, {Kind: api.Leaky, A: 21, B: 200},
		{Kind: api.Bucket, A: 20, B: 100}, {Kind: api.Bucket, A: 21, B: 100}, {Kind: api.Bucket, A: 15, B: 95}, {Kind: api.Bucket, A: 0, B: 80}, {Kind: api.Bucket, A: end, B: end},
		{Kind: api.Gcra}, {Kind: api.Gcra, A: 100}, {Kind: api.Gcra, A: 99}, {Kind: api.Gcra, A: 121}, {Kind: api.Gcra, A: end},
	} {
		out[api.ErrFill] = append(out[api.ErrFill], api.Slot{Key: "k", Rule: r, State: one})
	}
	return out
}

// wrongRules are rules that may not be, of each error at least one.
func wrongRules() map[api.Errno][]api.Rule {
	return map[api.Errno][]api.Rule{
		api.ErrPrefix: {of(" ", 10, 2, 3), of("k\x7f", 10, 2, 3), of(long(129), 10, 2, 3)},
		api.ErrEvery:  {by(0, 2, 3)},
		api.ErrBurst:  {by(10, 0, 3)},
		api.ErrCap:    {by(2, 1<<61+1, 3), by(1, 1<<62+1, 3), by(1<<32, 1<<32, 3), by(1<<63, 2, 3), by(end, end, 3)},
		api.ErrKind:   {by(10, 2, 0), by(10, 2, 4), by(10, 2, 255)},
	}
}

// TestOfOneWrong: each error, at the first, a middle and the last place.
func TestOfOneWrong(t *testing.T) {
	r := by(10, 2, api.Gcra)
	right := []api.Slot{full("a", r, 100, 1), full("b", r, 100, 20), full("x", r, 100, 7), full("y", r, 100, 9)}
	tableOf(t, 9, 100, right...)
	for e, l := range wrongSlots() {
		for _, s := range l {
			checkOf(t, 9, 100, []api.Slot{s}, e)
			checkOf(t, 1, 100, []api.Slot{s}, e)
			for at := range len(right) + 1 {
				checkOf(t, 9, 100, slices.Insert(slices.Clone(right), at, s), e)
			}
		}
	}
}

// TestOfFill: a FILL of 1 and of the rule's cap may be, of 0 and of one more may
// not; it is that of the clock.
func TestOfFill(t *testing.T) {
	for _, r := range []api.Rule{by(1, 1, 1), by(10, 2, 2), by(3, 7, 3), by(1, api.MaxCap, 1), by(api.MaxCap, 1, 2), by(1<<31, 1<<31, 3)} {
		cap := r.Every * r.Burst
		for _, now := range []uint64{0, 1, 100, 1 << 40, 1 << 63, end - api.MaxCap - 1} {
			for _, kind := range three() {
				slot := func(fill uint64) []api.Slot {
					return []api.Slot{{Key: "k", Rule: r, State: state(kind, now, cap, fill)}}
				}
				checkOf(t, 1, now, slot(0), api.ErrFill)
				for _, fill := range []uint64{1, cap/2 + 1, cap} {
					s := slot(fill)
					w := tableOf(t, 1, now, s...)
					checkSlots(t, w, s...)
					checkEntries(t, w, api.Entry{Key: "k", Until: now + fill})
					// Just till it is drained, and not from then on.
					checkSlots(t, tableOf(t, 1, now+fill-1, s...), s...)
					checkOf(t, 1, now+fill, s, api.ErrFill)
					checkOf(t, 1, end, s, api.ErrFill)
				}
				// A bucket holds no more than its cap, so that it is never fuller.
				if kind != api.Bucket {
					checkOf(t, 1, now, slot(cap+1), api.ErrFill)
					checkSlots(t, tableOf(t, 1, now+1, slot(cap+1)...), slot(cap+1)...)
				}
			}
		}
	}
}

// TestOfOrder: keys rise, byte by byte, and none is there twice.
func TestOfOrder(t *testing.T) {
	list := func(keys []string) []api.Slot {
		var out []api.Slot
		for _, k := range keys {
			out = append(out, full(k, by(10, 2, api.Leaky), 0, 5))
		}
		return out
	}
	for _, keys := range [][]string{
		{"b", "a"}, {"a", "a"}, {"a", "b", "a"}, {"a", "c", "b"}, {"b", "a", "c"}, {"a", "a", "b"}, {"a", "b", "b"},
		{"ab", "a"}, {"a", "B"}, {"a", "A"}, {"a", "~", "}"}, {"k9", "k10", "l"}, {"9", "10"}, {"aa", "b", "ab"}, {long(128), long(127)}, {"!", "!"},
	} {
		checkOf(t, 9, 0, list(keys), api.ErrOrder)
		// Were there too many, too.
		checkOf(t, 1, 0, list(keys), api.ErrOrder)
	}
	for _, keys := range [][]string{
		{"a", "b"}, {"a", "ab"}, {"B", "a"}, {"10", "9"}, {"a", "a!", "aa", "a~", "b"}, {long(127), long(128)}, {"!", "~"}, {"A", "AB", "B", "a"},
	} {
		checkActive(t, tableOf(t, 9, 0, list(keys)...), keys...)
	}
}

func TestOfFull(t *testing.T) {
	l := many(9)
	for n := range len(l) + 1 {
		for most := 1; most < 12; most++ {
			if n > most {
				checkOf(t, most, 0, l[:n], api.ErrFull)
				continue
			}
			checkSlots(t, tableOf(t, most, 0, l[:n]...), l[:n]...)
		}
	}
}

// TestOfTwoErrors: of one slot the first error that the chapter names, of two
// slots the first one's, and those of slots ahead of what their list lacks.
func TestOfTwoErrors(t *testing.T) {
	wrong := wrongSlots()
	right := full("k", by(10, 2, api.Gcra), 100, 5)
	for e, l := range wrong {
		for f, m := range wrong {
			one, other := l[0], m[len(m)-1]
			checkOf(t, 9, 100, []api.Slot{one, other}, e)
			checkOf(t, 1, 100, []api.Slot{right, one, right, other}, e)
			checkOf(t, 0, 100, []api.Slot{one, other}, api.ErrMost)
			checkOf(t, 1, 100, []api.Slot{right, right, other}, f)
		}
	}
	for _, k := range []string{"", "k"} {
		for _, r := range []api.Rule{{}, of("\n", 0, 0, 0), of("\n", 10, 2, 3), by(0, 0, 0), by(10, 0, 0), by(end, 2, 0), by(10, 2, 0), by(10, 2, 3)} {
			for _, kind := range []uint8{0, 1, 2, 3, 4} {
				for _, a := range []uint64{0, 1, 3, 100, 101, 500} {
					s := api.Slot{Key: k, Rule: r, State: api.State{Kind: kind, A: a, B: 100}}
					if e := wantSlot(s, 100); e != api.OK {
						checkOf(t, 9, 100, []api.Slot{s}, e)
					} else {
						checkSlots(t, tableOf(t, 9, 100, s), s)
					}
				}
			}
		}
	}
}

// wantSlot is the first error that the chapter names.
func wantSlot(s api.Slot, clock uint64) api.Errno {
	cap := s.Rule.Every * s.Rule.Burst
	switch {
	case !key.Right(s.Key):
		return api.ErrKey
	case rule.Right(s.Rule) != api.OK:
		return rule.Right(s.Rule)
	case s.State.Kind < 1 || s.State.Kind > 3:
		return api.ErrKind
	case kernel.Fill(s.State, clock, cap) == 0 || kernel.Fill(s.State, clock, cap) > cap:
		return api.ErrFill
	}
	return api.OK
}

// TestTick: the clock goes on, and not back, and is told in any case.
func TestTick(t *testing.T) {
	w := New(1)
	rows := []struct{ now, want uint64 }{
		{0, 0}, {1, 1}, {0, 1}, {1, 1}, {7, 7}, {6, 7}, {8, 8}, {1 << 62, 1 << 62}, {5, 1 << 62}, {1 << 63, 1 << 63},
		{1<<63 - 1, 1 << 63}, {end - 1, end - 1}, {0, end - 1}, {end, end}, {end - 1, end}, {0, end}, {end, end},
	}
	for _, r := range rows {
		checkTick(t, w, r.now, r.want)
	}
	w = tableOf(t, 1, 50)
	checkTick(t, w, 49, 50)
	checkTick(t, w, 50, 50)
	checkTick(t, w, 51, 51)
}

// TestNotBack: who would be active at an earlier time is not for a Tick to it.
func TestNotBack(t *testing.T) {
	for _, kind := range three() {
		r := by(10, 2, kind)
		w := New(1)
		checkTick(t, w, 100, 100)
		checkCharge(t, w, "a", r, 1, admit(2, 1, 1))
		before := told(w)
		for _, now := range []uint64{0, 1, 99, 100} {
			checkTick(t, w, now, 100)
			checkStill(t, w, before)
		}
		checkTick(t, w, 110, 110)
		checkTick(t, w, 105, 110)
		checkActive(t, w)
		checkCharge(t, w, "b", r, 2, admit(2, 0, 1))
	}
}

// TestBad: a key that is none, a rule that is wrong, and both; nothing changes,
// not even of a key that is active by another rule.
func TestBad(t *testing.T) {
	right := by(10, 2, api.Leaky)
	for _, w := range []*Table{New(1), New(3), tableOf(t, 1, 0, full("k", right, 0, 5)), nil} {
		before := told(w)
		for _, s := range wrongSlots()[api.ErrKey] {
			for _, n := range []uint64{0, 1, end} {
				checkCharge(t, w, s.Key, right, n, bad(api.ErrKey))
				for _, l := range wrongRules() {
					for _, r := range l {
						checkCharge(t, w, s.Key, r, n, bad(api.ErrKey))
					}
				}
			}
		}
		for e, l := range wrongRules() {
			for _, r := range l {
				for _, k := range []string{"k", "other"} {
					for _, n := range []uint64{0, 1, end} {
						checkCharge(t, w, k, r, n, bad(e))
					}
				}
			}
		}
		checkStill(t, w, before)
	}
}

// TestWrongKeyIsNotMoved: no key that is none is active.
func TestWrongKeyIsNotMoved(t *testing.T) {
	w := tableOf(t, 1, 0, full("k", by(10, 2, api.Leaky), 0, 5))
	before := told(w)
	for _, s := range wrongSlots()[api.ErrKey] {
		checkMove(t, w, s.Key, api.Gcra, api.ErrAbsent)
		checkMove(t, w, s.Key, 4, api.ErrKind)
	}
	checkStill(t, w, before)
}

// TestByHand: a count of nanoseconds, of a rule of Every 10 and Burst 5.
func TestByHand(t *testing.T) {
	for _, kind := range three() {
		r := by(10, 5, kind)
		w := New(1)
		checkCharge(t, w, "a", r, 2, admit(5, 3, 1)) // 20 full
		checkEntries(t, w, api.Entry{Key: "a", Until: 20})
		checkTick(t, w, 5, 5)                        // 15
		checkCharge(t, w, "a", r, 3, admit(5, 0, 1)) // 45
		checkEntries(t, w, api.Entry{Key: "a", Until: 50})
		checkCharge(t, w, "a", r, 1, denyTill(5, 0, 1, 1, 5))
		checkCharge(t, w, "a", r, 5, denyTill(5, 0, 1, 1, 45))
		checkCharge(t, w, "a", r, 6, deny(5, 0, 1))
		checkCharge(t, w, "a", r, 0, admit(5, 0, 1))
		checkTick(t, w, 9, 9) // 41
		checkCharge(t, w, "a", r, 1, denyTill(5, 0, 1, 1, 1))
		checkEntries(t, w, api.Entry{Key: "a", Until: 50})
		checkTick(t, w, 10, 10) // 40
		checkCharge(t, w, "a", r, 2, denyTill(5, 1, 1, 1, 10))
		checkCharge(t, w, "a", r, 1, admit(5, 0, 1)) // 50
		checkEntries(t, w, api.Entry{Key: "a", Until: 60})
		checkTick(t, w, 30, 30) // 30
		checkCharge(t, w, "a", r, 0, admit(5, 2, 1))
		checkCharge(t, w, "b", r, 0, overloaded(5))
		checkTick(t, w, 59, 59) // 1
		checkCharge(t, w, "b", r, 1, overloaded(5))
		checkCharge(t, w, "a", r, 5, denyTill(5, 4, 1, 1, 1))
		checkActive(t, w, "a")
		checkTick(t, w, 60, 60)
		checkActive(t, w)
		checkCharge(t, w, "b", r, 5, admit(5, 0, 1))
		checkCharge(t, w, "a", r, 1, overloaded(5))
		checkSlots(t, w, full("b", r, 60, 50))
	}
}

// TestSeconds: Reset and After are rounded up, each of its own nanoseconds.
func TestSeconds(t *testing.T) {
	rows := []struct{ nanos, want uint64 }{
		{1, 1}, {2, 1}, {999999998, 1}, {999999999, 1}, {1000000000, 1}, {1000000001, 2}, {1999999999, 2}, {2000000000, 2},
		{2000000001, 3}, {4999999999, 5}, {5000000000, 5}, {5000000001, 6}, {1 << 61, 2305843010},
		{1<<62 - 1, 4611686019}, {1 << 62, 4611686019}, {4611686018000000000, 4611686018}, {4611686018000000001, 4611686019},
	}
	for _, kind := range three() {
		r := by(1, api.MaxCap, kind)
		for _, row := range rows {
			w := New(1)
			checkCharge(t, w, "a", r, row.nanos, admit(r.Burst, r.Burst-row.nanos, row.want))
			checkEntries(t, w, api.Entry{Key: "a", Until: row.nanos})
			w = New(1)
			checkCharge(t, w, "a", r, api.MaxCap, admit(r.Burst, 0, 4611686019))
			checkCharge(t, w, "a", r, row.nanos, denyTill(r.Burst, 0, 4611686019, row.want, row.nanos))
			checkTick(t, w, row.nanos-1, row.nanos-1)
			checkCode(t, w, "a", r, row.nanos, api.Deny)
			checkTick(t, w, row.nanos, row.nanos)
			checkCode(t, w, "a", r, row.nanos, api.Admit)
		}
	}
}

// TestSecondsWithoutFill: of nothing there is nothing to wait for.
func TestSecondsWithoutFill(t *testing.T) {
	for _, kind := range three() {
		w := New(1)
		checkCharge(t, w, "a", by(10, 2, kind), 0, admit(2, 2, 0))
		checkCharge(t, w, "a", by(10, 2, kind), 3, deny(2, 2, 0))
		checkActive(t, w)
	}
}

// TestCosts: of 0, of what is left, of one more, and of more than may ever be.
func TestCosts(t *testing.T) {
	for _, kind := range three() {
		r := by(100, 7, kind)
		for taken := range uint64(8) {
			begin := func() *Table {
				w := New(1)
				checkCode(t, w, "a", r, taken, api.Admit)
				checkTick(t, w, 30, 30)
				return w
			}
			fill := num.Sub(taken*100, 30)
			left := (700 - fill) / 100
			reset := min(fill, 1)
			for n := range left + 1 {
				now := fill + 100*n
				checkCharge(t, begin(), "a", r, n, admit(7, (700-now)/100, min(now, 1)))
			}
			for n := left + 1; n <= 7; n++ {
				checkCharge(t, begin(), "a", r, n, denyTill(7, left, reset, 1, fill+100*n-700))
			}
			for _, n := range []uint64{8, 9, 1000, 1 << 32, 1 << 63, end/100 - 1, end / 100, end/100 + 1, end/100 + 2, end - 1, end} {
				checkCharge(t, begin(), "a", r, n, deny(7, left, reset))
			}
		}
	}
}

// TestWeightPastTheEnd: a weight stops at its end, and does not go round.
func TestWeightPastTheEnd(t *testing.T) {
	for _, kind := range three() {
		for shift := 1; shift <= 62; shift++ {
			r := by(1<<shift, 1<<(62-shift), kind)
			w := New(1)
			checkCharge(t, w, "a", r, 1, admit(r.Burst, r.Burst-1, num.Ceil(1<<shift, 1000000000)))
			checkTick(t, w, 1, 1)
			before := told(w)
			reset := num.Ceil(1<<shift-1, 1000000000)
			for _, n := range []uint64{1 << (64 - shift), 1<<(64-shift) + 1, 1 << 63, end, r.Burst + 1} {
				checkCharge(t, w, "a", r, n, deny(r.Burst, r.Burst-1, reset))
			}
			checkStill(t, w, before)
			v := New(1)
			for _, n := range []uint64{1 << (64 - shift), 1<<(64-shift) + 1, 1 << 63, end} {
				checkCharge(t, v, "a", r, n, deny(r.Burst, r.Burst, 0))
			}
			checkActive(t, v)
		}
	}
}

// TestGreatNumbers: as full as may be, by rules as great as may be.
func TestGreatNumbers(t *testing.T) {
	for _, kind := range three() {
		for _, r := range []api.Rule{by(1, api.MaxCap, kind), by(api.MaxCap, 1, kind), by(1<<31, 1<<31, kind)} {
			w := tableOf(t, 1, 1<<62)
			checkCharge(t, w, "a", r, r.Burst, admit(r.Burst, 0, 4611686019))
			checkEntries(t, w, api.Entry{Key: "a", Until: 1 << 63})
			checkCharge(t, w, "a", r, r.Burst, denyTill(r.Burst, 0, 4611686019, 4611686019, api.MaxCap))
			checkCharge(t, w, "a", r, r.Burst+1, deny(r.Burst, 0, 4611686019))
			checkTick(t, w, 1<<63-1, 1<<63-1)
			checkCharge(t, w, "a", r, r.Burst, denyTill(r.Burst, r.Burst-1, 1, 1, 1))
			checkCharge(t, w, "b", r, 1, overloaded(r.Burst))
			checkTick(t, w, 1<<63, 1<<63)
			checkActive(t, w)
			checkCharge(t, w, "b", r, r.Burst, admit(r.Burst, 0, 4611686019))
			checkEntries(t, w, api.Entry{Key: "b", Until: 1<<63 + 1<<62})
		}
	}
}

// TestDenyChangesNothing: of a key that is active, and of one that is not.
func TestDenyChangesNothing(t *testing.T) {
	for _, kind := range three() {
		r := of("a", 10, 5, kind)
		other := of("b", 10, 5, kind%3+1)
		w := New(3)
		checkCode(t, w, "a", r, 4, api.Admit)
		checkCode(t, w, "c", r, 1, api.Admit)
		checkTick(t, w, 3, 3)
		before := told(w)
		for range 3 {
			checkCharge(t, w, "a", r, 2, denyTill(5, 1, 1, 1, 7))
			checkCharge(t, w, "a", other, 2, denyTill(5, 1, 1, 1, 7))
			checkCharge(t, w, "a", other, 6, deny(5, 1, 1))
			checkCharge(t, w, "b", r, 6, deny(5, 5, 0))
			checkCharge(t, w, "b", r, end, deny(5, 5, 0))
			checkStill(t, w, before)
		}
		// What was denied takes no place.
		checkCode(t, w, "d", r, 1, api.Admit)
		checkCharge(t, w, "e", r, 6, overloaded(5))
	}
}

// TestAdmitChangesWhatItShould: the key's slot, and no other one.
func TestAdmitChangesWhatItShould(t *testing.T) {
	for _, kind := range three() {
		r, other := of("a", 10, 5, kind), of("b", 10, 5, kind%3+1)
		w := New(3)
		checkCode(t, w, "b", r, 1, api.Admit)
		checkSlots(t, w, full("b", r, 0, 10))
		checkTick(t, w, 2, 2)
		checkCode(t, w, "a", r, 2, api.Admit)
		checkSlots(t, w, full("a", r, 2, 20), full("b", r, 0, 10))
		checkTick(t, w, 5, 5)
		checkCode(t, w, "a", other, 1, api.Admit)
		// By the new rule, but by the kernel by which it was.
		moved := api.Slot{Key: "a", Rule: other, State: state(kind, 5, 50, 27)}
		checkSlots(t, w, moved, full("b", r, 0, 10))
		checkCode(t, w, "c", other, 3, api.Admit)
		checkSlots(t, w, moved, full("b", r, 0, 10), full("c", other, 5, 30))
	}
}

// TestNoughtKeepsNothing: a cost of 0 of a key that is not active is admitted,
// and it is not active, but an active one has the rule by which it came in.
func TestNoughtKeepsNothing(t *testing.T) {
	for _, kind := range three() {
		r, other := of("a", 10, 5, kind), of("b", 10, 5, kind%3+1)
		w := New(1)
		for _, k := range []string{"a", "b", "a"} {
			checkCharge(t, w, k, r, 0, admit(5, 5, 0))
			checkSlots(t, w)
			checkMove(t, w, k, api.Leaky, api.ErrAbsent)
		}
		checkCode(t, w, "a", r, 3, api.Admit)
		checkTick(t, w, 4, 4)
		checkCharge(t, w, "a", other, 0, admit(5, 2, 1))
		if got := w.Slots(); len(got) != 1 || got[0].Rule != other || got[0].State.Kind != kind {
			t.Errorf("Slots = %v, want the rule %v", got, other)
		}
		checkEntries(t, w, api.Entry{Key: "a", Until: 30})
		checkCharge(t, w, "b", r, 0, overloaded(5))
	}
}

// TestOtherPrefixOrKind: by a rule that differs in these alone a key is as full
// as it was, and stays by its kernel.
func TestOtherPrefixOrKind(t *testing.T) {
	for _, kind := range three() {
		for _, other := range three() {
			for _, prefix := range []string{"", "k", "k/", "x"} {
				r, two := of("k/", 10, 5, kind), of(prefix, 10, 5, other)
				w := New(1)
				checkCode(t, w, "k/a", r, 4, api.Admit)
				checkTick(t, w, 3, 3)
				checkCharge(t, w, "k/a", two, 2, denyTill(5, 1, 1, 1, 7))
				checkSlots(t, w, full("k/a", r, 0, 40))
				checkCharge(t, w, "k/a", two, 1, admit(5, 0, 1))
				checkSlots(t, w, api.Slot{Key: "k/a", Rule: two, State: state(kind, 3, 50, 47)})
				checkEntries(t, w, api.Entry{Key: "k/a", Until: 50})
			}
		}
	}
}

// TestOtherNumbers: by a rule of another Every or Burst a key begins again,
// whether it comes in or not.
func TestOtherNumbers(t *testing.T) {
	for _, kind := range three() {
		r := of("a", 10, 4, kind)
		for _, two := range []api.Rule{of("a", 10, 5, kind), of("a", 11, 4, kind), of("a", 20, 2, kind), of("a", 4, 10, kind), of("b", 5, 8, kind%3+1)} {
			begin := func() *Table {
				w := New(1)
				checkCode(t, w, "a", r, 4, api.Admit)
				checkTick(t, w, 3, 3)
				return w
			}
			cap := two.Every * two.Burst
			w := begin()
			checkCharge(t, w, "a", two, two.Burst, admit(two.Burst, 0, 1))
			checkSlots(t, w, full("a", two, 3, cap))
			w = begin()
			checkCharge(t, w, "a", two, two.Burst-1, admit(two.Burst, 1, 1))
			checkEntries(t, w, api.Entry{Key: "a", Until: 3 + cap - two.Every})
			// Not by the first one, either, by which it is no more.
			checkCharge(t, w, "a", r, 4, admit(4, 0, 1))
			checkSlots(t, w, full("a", r, 3, 40))
			// Denied, or of nothing, it is gone, and its place is free.
			w = begin()
			checkCharge(t, w, "a", two, two.Burst+1, deny(two.Burst, two.Burst, 0))
			checkSlots(t, w)
			checkCode(t, w, "b", r, 1, api.Admit)
			checkCharge(t, w, "a", two, 1, overloaded(two.Burst))
			w = begin()
			checkCharge(t, w, "a", two, 0, admit(two.Burst, two.Burst, 0))
			checkSlots(t, w)
			checkMove(t, w, "a", api.Gcra, api.ErrAbsent)
			// A key that is drained is not active by any rule.
			w = begin()
			checkTick(t, w, 40, 40)
			checkCharge(t, w, "a", two, two.Burst, admit(two.Burst, 0, 1))
			checkSlots(t, w, full("a", two, 40, cap))
		}
	}
}

// TestOtherNumbersOfTheOthers: only the key's own slot is gone.
func TestOtherNumbersOfTheOthers(t *testing.T) {
	r, two := by(10, 4, api.Gcra), by(10, 5, api.Leaky)
	w := New(3)
	for _, k := range []string{"a", "b", "c"} {
		checkCode(t, w, k, r, 4, api.Admit)
	}
	checkCharge(t, w, "b", two, 6, deny(5, 5, 0))
	checkSlots(t, w, full("a", r, 0, 40), full("c", r, 0, 40))
	checkCharge(t, w, "d", two, 5, admit(5, 0, 1))
	checkCharge(t, w, "b", two, 5, overloaded(5))
	checkSlots(t, w, full("a", r, 0, 40), full("c", r, 0, 40), full("d", two, 0, 50))
}

// TestOverloaded: just where the key is not active, and as many as may be are.
func TestOverloaded(t *testing.T) {
	for _, kind := range three() {
		r := by(10, 4, kind)
		for most := 1; most <= 4; most++ {
			w := New(most)
			keys := []string{"a", "b", "c", "d"}[:most]
			for i, k := range keys {
				checkCode(t, w, k, r, uint64(i)+1, api.Admit)
			}
			before := told(w)
			for _, n := range []uint64{0, 1, 4, 5, 100, end} {
				checkCharge(t, w, "x", r, n, overloaded(4))
				checkCharge(t, w, "x", of("p", 7, 9, kind), n, overloaded(9))
			}
			checkStill(t, w, before)
			for i, k := range keys {
				checkCharge(t, w, k, r, 5, deny(4, 3-uint64(i), 1))
				checkCharge(t, w, k, r, 0, admit(4, 3-uint64(i), 1))
				checkCharge(t, w, k, r, 3-uint64(i), admit(4, 0, 1))
				checkCharge(t, w, "x", r, 1, overloaded(4))
			}
			// Who goes over to another rule is not active, and there is a place.
			checkCharge(t, w, "a", by(10, 5, kind), 5, admit(5, 0, 1))
			checkCharge(t, w, "x", r, 1, overloaded(4))
		}
	}
}

// TestJustDrained: a key is there till the nanosecond in which it is drained, and
// then not; its place is free just then.
func TestJustDrained(t *testing.T) {
	for _, kind := range three() {
		r := by(10, 4, kind)
		for _, start := range []uint64{0, 1, 1000, 1 << 62, end - 1000} {
			w := tableOf(t, 2, start)
			checkCode(t, w, "a", r, 1, api.Admit)
			checkCode(t, w, "b", r, 4, api.Admit)
			for now := start; now < start+10; now++ {
				checkTick(t, w, now, now)
				checkActive(t, w, "a", "b")
				checkEntries(t, w, api.Entry{Key: "a", Until: start + 10}, api.Entry{Key: "b", Until: start + 40})
				checkCharge(t, w, "c", r, 1, overloaded(4))
			}
			checkTick(t, w, start+10, start+10)
			checkSlots(t, w, full("b", r, start, 40))
			checkMove(t, w, "a", kind, api.ErrAbsent)
			checkMoveAll(t, w, kind, 1, api.OK)
			checkCharge(t, w, "c", r, 4, admit(4, 0, 1))
			checkCharge(t, w, "a", r, 1, overloaded(4))
			checkTick(t, w, start+39, start+39)
			checkActive(t, w, "b", "c")
			checkTick(t, w, start+40, start+40)
			checkActive(t, w, "c")
			checkTick(t, w, start+49, start+49)
			checkActive(t, w, "c")
			checkTick(t, w, start+50, start+50)
			checkActive(t, w)
		}
	}
}

// TestDrainedInAnyOrder: whoever comes in when, each is lost just then.
func TestDrainedInAnyOrder(t *testing.T) {
	for seed := range 20 {
		roll := dice(seed)
		w := New(1000)
		until := map[string]uint64{}
		for i := range 60 {
			k, n := fmt.Sprint("k", roll(40)), roll(30)
			r := by(1, 1000, three()[i%3])
			if checkCode(t, w, k, r, n, api.Admit); n > 0 {
				until[k] = max(until[k], w.Clock()) + n
			}
			if w.Tick(w.Clock() + roll(2)); roll(5) == 0 {
				w.MoveAll(three()[roll(3)])
			}
		}
		for now := w.Clock(); w.Active() > 0; now++ {
			checkTick(t, w, now, now)
			var keys []string
			for k, u := range until {
				if u > now {
					keys = append(keys, k)
				}
			}
			slices.Sort(keys)
			checkActive(t, w, keys...)
		}
	}
}

// TestJustThen: who was told Nanos is admitted just then, and denied a nanosecond
// ahead; what is left is the most that is admitted at once.
func TestJustThen(t *testing.T) {
	for _, kind := range three() {
		for _, r := range []api.Rule{by(1, 9, kind), by(3, 4, kind), by(10, 2, kind), by(1000000007, 3, kind)} {
			for taken := range r.Burst + 1 {
				for passed := range uint64(12) {
					for n := range r.Burst + 2 {
						w := tableOf(t, 1, 5)
						checkCode(t, w, "a", r, taken, api.Admit)
						w.Tick(5 + passed)
						checkJustThen(t, w, "a", r, n)
					}
				}
			}
		}
	}
}

// checkJustThen asks tables of the same what would be told then.
func checkJustThen(t *testing.T, w *Table, k string, r api.Rule, n uint64) {
	t.Helper()
	clock := w.Clock()
	a := again(t, w).Charge(k, r, n)
	if a.Retry {
		ahead, then := again(t, w), again(t, w)
		ahead.Tick(clock + a.Nanos - 1)
		then.Tick(clock + a.Nanos)
		checkCode(t, ahead, k, r, n, api.Deny)
		checkCode(t, then, k, r, n, api.Admit)
	}
	if retry := a.Code == api.Deny && n <= r.Burst; a.Retry != retry {
		t.Errorf("%d of %v is told %+v, want Retry %v", n, r, a, retry)
	}
	if a.Code == api.Deny {
		if n <= a.Left {
			t.Errorf("%d of %v is told %+v", n, r, a)
		}
		checkCode(t, again(t, w), k, r, a.Left, api.Admit)
		checkCode(t, again(t, w), k, r, a.Left+1, api.Deny)
	}
	if a.Code == api.Admit {
		v := again(t, w)
		v.Charge(k, r, n)
		checkCode(t, again(t, v), k, r, a.Left, api.Admit)
		checkCode(t, again(t, v), k, r, a.Left+1, api.Deny)
	}
}

func TestMove(t *testing.T) {
	for _, from := range three() {
		for _, to := range three() {
			r := of("p", 10, 5, from)
			w := New(3)
			checkCode(t, w, "a", r, 4, api.Admit)
			checkCode(t, w, "b", r, 3, api.Admit)
			checkTick(t, w, 5, 5)
			before := told(w)
			checkMove(t, w, "c", to, api.ErrAbsent)
			checkMove(t, w, "", to, api.ErrAbsent)
			checkMove(t, w, "A", to, api.ErrAbsent)
			for _, kind := range none() {
				checkMove(t, w, "a", kind, api.ErrKind)
				checkMove(t, w, "c", kind, api.ErrKind)
				checkMoveAll(t, w, kind, 0, api.ErrKind)
			}
			checkStill(t, w, before)
			entries := w.Entries()
			checkMove(t, w, "a", to, api.OK)
			// Its rule is what it was, its kernel alone is another one.
			moved := api.Slot{Key: "a", Rule: r, State: state(to, 5, 50, 35)}
			checkSlots(t, w, moved, full("b", r, 0, 30))
			checkEntries(t, w, entries...)
			checkCharge(t, w, "a", r, 2, denyTill(5, 1, 1, 1, 5))
			checkCharge(t, w, "a", r, 1, admit(5, 0, 1))
			moved.State = state(to, 5, 50, 45)
			checkSlots(t, w, moved, full("b", r, 0, 30))
			checkTick(t, w, 29, 29)
			checkActive(t, w, "a", "b")
			checkTick(t, w, 49, 49)
			checkSlots(t, w, moved)
			checkTick(t, w, 50, 50)
			checkMove(t, w, "a", to, api.ErrAbsent)
			checkMove(t, w, "b", to, api.ErrAbsent)
			checkActive(t, w)
		}
	}
}

func TestMoveAll(t *testing.T) {
	for _, to := range three() {
		for n := range 7 {
			l := many(n)
			w := tableOf(t, 9, 0, l...)
			for now := uint64(0); w.Active() > 0; now++ {
				checkTick(t, w, now, now)
				v := again(t, w)
				var want []api.Slot
				for _, s := range w.Slots() {
					cap := rule.Cap(s.Rule)
					s.State = state(to, now, cap, kernel.Fill(s.State, now, cap))
					want = append(want, s)
				}
				entries := v.Entries()
				checkMoveAll(t, v, to, len(want), api.OK)
				checkSlots(t, v, want...)
				checkEntries(t, v, entries...)
				// Again, with nobody less.
				checkMoveAll(t, v, to, len(want), api.OK)
				checkSlots(t, v, want...)
				for range 9 {
					if v.Tick(v.Clock()+2) != w.Tick(v.Clock()) {
						t.Errorf("the clocks are %d, %d", v.Clock(), w.Clock())
					}
					checkEntries(t, v, w.Entries()...)
				}
				w = tableOf(t, 9, now, wantedAt(l, now+1)...)
			}
			checkMoveAll(t, w, to, 0, api.OK)
		}
	}
}

// wantedAt are those of these that are active at now.
func wantedAt(l []api.Slot, now uint64) []api.Slot {
	var out []api.Slot
	for _, s := range l {
		if kernel.Fill(s.State, now, rule.Cap(s.Rule)) > 0 {
			out = append(out, s)
		}
	}
	return out
}

// TestToldAsItIs: Active, Slots and Entries tell of the clock as it is then.
func TestToldAsItIs(t *testing.T) {
	l := many(40)
	w := tableOf(t, 40, 0, l...)
	for now := range uint64(23) {
		checkTick(t, w, now, now)
		want := wantedAt(l, now)
		checkSlots(t, w, want...)
		var entries []api.Entry
		for _, s := range want {
			entries = append(entries, api.Entry{Key: s.Key, Until: kernel.Fill(s.State, 0, rule.Cap(s.Rule))})
		}
		checkEntries(t, w, entries...)
		checkMoveAll(t, again(t, w), api.Gcra, len(want), api.OK)
	}
	checkActive(t, w)
}

// TestKeysRise: in whatever order they come in.
func TestKeysRise(t *testing.T) {
	keys := []string{"b", "a", "B", "~", "!", "10", "9", "a/b", "a", "a!", "ab", long(128), long(127), "A", "a/", "#"}
	want := slices.Compact(slices.Sorted(slices.Values(keys)))
	if !key.Sorted(want) {
		t.Fatal(want)
	}
	for seed := range 20 {
		w := New(100)
		roll := dice(seed)
		for i := range keys {
			j := int(roll(uint64(i) + 1))
			keys[i], keys[j] = keys[j], keys[i]
		}
		for i, k := range keys {
			checkCode(t, w, k, by(10, 5, three()[i%3]), 1+roll(2), api.Admit)
		}
		checkActive(t, w, want...)
	}
}

// TestRuleOfASlot: the last one by which it was admitted, or that Of was handed.
func TestRuleOfASlot(t *testing.T) {
	first := of("a", 10, 5, api.Gcra)
	w := tableOf(t, 1, 0, full("a", first, 0, 10))
	is := func(want api.Rule) {
		t.Helper()
		if l := w.Slots(); len(l) != 1 || l[0].Rule != want {
			t.Errorf("Slots = %v, want the rule %v", l, want)
		}
	}
	is(first)
	checkCode(t, w, "a", of("x", 10, 5, api.Leaky), 5, api.Deny)
	is(first)
	checkCode(t, w, "a", of("b", 10, 5, api.Leaky), 1, api.Admit)
	is(of("b", 10, 5, api.Leaky))
	checkMove(t, w, "a", api.Bucket, api.OK)
	is(of("b", 10, 5, api.Leaky))
	checkMoveAll(t, w, api.Gcra, 1, api.OK)
	is(of("b", 10, 5, api.Leaky))
	checkTick(t, w, 3, 3)
	checkCode(t, w, "a", of("", 10, 5, api.Bucket), 1, api.Admit)
	is(of("", 10, 5, api.Bucket))
	checkCode(t, w, "b", of("c", 10, 5, api.Leaky), 1, api.Overloaded)
	checkCode(t, w, "a", of("c", 10, 5, 4), 1, api.Bad)
	is(of("", 10, 5, api.Bucket))
	checkCode(t, w, "a", of("c", 10, 6, api.Leaky), 1, api.Admit)
	is(of("c", 10, 6, api.Leaky))
}

// TestNilTable: as New of 1, whose keys are never kept.
func TestNilTable(t *testing.T) {
	var w *Table
	for range 2 {
		checkTick(t, w, 0, 0)
		checkTick(t, w, 5, 0)
		checkTick(t, w, end, 0)
		checkSlots(t, w)
		checkEntries(t, w)
		for _, kind := range three() {
			r := by(10, 2, kind)
			checkCharge(t, w, "a", r, 2, admit(2, 0, 1))
			checkCharge(t, w, "a", r, 2, admit(2, 0, 1))
			checkCharge(t, w, "b", r, 1, admit(2, 1, 1))
			checkCharge(t, w, "b", r, 0, admit(2, 2, 0))
			checkCharge(t, w, "b", r, 3, deny(2, 2, 0))
			checkCharge(t, w, "b", r, end, deny(2, 2, 0))
			checkMove(t, w, "a", kind, api.ErrAbsent)
			checkMove(t, w, "", kind, api.ErrAbsent)
			checkMoveAll(t, w, kind, 0, api.OK)
		}
		for _, kind := range none() {
			checkMove(t, w, "a", kind, api.ErrKind)
			checkMoveAll(t, w, kind, 0, api.ErrKind)
		}
		checkCharge(t, w, "", by(0, 0, 0), 1, bad(api.ErrKey))
		checkCharge(t, w, "a", by(0, 0, 0), 1, bad(api.ErrEvery))
	}
}

// TestStateToCome: of a State that is of a time to come nothing drains till then,
// however often the clock goes on in between.
func TestStateToCome(t *testing.T) {
	r := by(10, 2, api.Gcra)
	for _, s := range []api.State{{Kind: api.Leaky, A: 5, B: 100}, {Kind: api.Bucket, A: 15, B: 100}} {
		l := api.Slot{Key: "k", Rule: r, State: s}
		for _, steps := range [][]uint64{
			{11, 14, 15, 16, 20, 50, 99, 100}, {15, 20, 25}, {99}, {100}, {101, 102, 103}, {104}, {11, 104}, {},
		} {
			w := tableOf(t, 1, 10, l)
			now := uint64(10)
			for _, now = range steps {
				checkTick(t, w, now, now)
				checkSlots(t, w, l)
				checkEntries(t, w, api.Entry{Key: "k", Until: now + 5 - num.Sub(now, 100)})
				checkCharge(t, w, "x", r, 0, overloaded(2))
			}
			v := again(t, w)
			checkTick(t, v, 105, 105)
			checkActive(t, v)
			checkCode(t, v, "x", r, 1, api.Admit)
			// Who comes in now is as full as he is now, and drains from now on.
			fill := 5 - num.Sub(now, 100)
			checkCode(t, w, "k", r, 1, api.Admit)
			checkSlots(t, w, api.Slot{Key: "k", Rule: r, State: state(s.Kind, now, 20, fill+10)})
			checkEntries(t, w, api.Entry{Key: "k", Until: now + fill + 10})
			checkTick(t, w, now+fill+9, now+fill+9)
			checkActive(t, w, "k")
			checkTick(t, w, now+fill+10, now+fill+10)
			checkActive(t, w)
		}
		w := tableOf(t, 1, 10, l)
		checkMove(t, w, "k", api.Gcra, api.OK)
		checkTick(t, w, 14, 14)
		checkActive(t, w, "k")
		checkTick(t, w, 15, 15)
		checkActive(t, w)
	}
}

// TestClocksEnd: at the end of the clock who is active is told by what the
// kernels tell.
func TestClocksEnd(t *testing.T) {
	r := by(10, 2, api.Gcra)
	a := api.Slot{Key: "a", Rule: r, State: api.State{Kind: api.Leaky, A: 5, B: end - 3}}
	b := api.Slot{Key: "b", Rule: r, State: api.State{Kind: api.Bucket, A: 2, B: end - 3}}
	c := api.Slot{Key: "c", Rule: r, State: api.State{Kind: api.Gcra, A: end}}
	begin := func() *Table {
		w := tableOf(t, 3, end-3, a, b, c)
		checkEntries(t, w, api.Entry{Key: "a", Until: end}, api.Entry{Key: "b", Until: end}, api.Entry{Key: "c", Until: end})
		checkTick(t, w, end-1, end-1)
		checkSlots(t, w, a, b, c)
		checkTick(t, w, end, end)
		checkSlots(t, w, a, b)
		checkEntries(t, w, api.Entry{Key: "a", Until: end}, api.Entry{Key: "b", Until: end})
		checkTick(t, w, end, end)
		return w
	}
	w := begin()
	checkCharge(t, w, "a", r, 1, admit(2, 0, 1))
	checkCharge(t, w, "a", r, 1, denyTill(2, 0, 1, 1, 2))
	// A schedule stops at the end: who goes over is drained.
	checkMove(t, w, "a", api.Gcra, api.OK)
	checkMove(t, w, "a", api.Gcra, api.ErrAbsent)
	checkSlots(t, w, b)
	w = begin()
	checkMoveAll(t, w, api.Gcra, 2, api.OK)
	checkMoveAll(t, w, api.Gcra, 0, api.OK)
	checkActive(t, w)
	w = New(1)
	checkTick(t, w, end, end)
	for range 3 {
		checkCharge(t, w, "a", r, 2, admit(2, 2, 0))
		checkActive(t, w)
	}
	checkCharge(t, w, "a", by(10, 2, api.Leaky), 2, admit(2, 0, 1))
	checkEntries(t, w, api.Entry{Key: "a", Until: end})
	checkCharge(t, w, "b", r, 2, overloaded(2))
}

// rules are such as differ in one thing or another, and some that are wrong.
func rules() []api.Rule {
	return []api.Rule{
		of("", 10, 4, 1), of("", 10, 4, 2), of("", 10, 4, 3), of("a", 10, 4, 1), of("a", 10, 4, 3), of("", 10, 5, 2),
		of("a", 3, 7, 3), of("a", 4, 7, 1), of("", 1000000001, 3, 2), of("k", 1000000001, 3, 3), of("", 1, 40, 1), of("", 1, 40, 2),
		of("", 0, 4, 1), of("", 10, 0, 1), of("", 10, 4, 0), of("\n", 10, 4, 1), of("", end, 2, 1),
	}
}

// checkModel: a table tells what the chapter's words do.
func checkModel(t *testing.T, w *Table, m *model) {
	t.Helper()
	got, want := told(w), m.told()
	if !reflect.DeepEqual(got, want) {
		t.Fatalf("the table tells %+v, want %+v", got, want)
	}
	if got.Active > m.most {
		t.Fatalf("%d are active, want %d at most", got.Active, m.most)
	}
	checkKept(t, w)
}

// script does mixed things with a table, and with the chapter's words.
func script(t *testing.T, w *Table, m *model, roll func(uint64) uint64, steps int) {
	t.Helper()
	keys := []string{"a", "b", "c", "d", "e", "f", "", "k k"}
	for range steps {
		k := keys[roll(uint64(len(keys)))]
		switch roll(12) {
		case 0, 1, 2:
			now := num.Add(m.clock, []uint64{0, 1, 2, 5, 10, 30, 1000000000}[roll(7)])
			if roll(6) == 0 {
				now = num.Sub(m.clock, roll(10))
			}
			if got, want := w.Tick(now), m.tick(now); got != want {
				t.Fatalf("Tick(%d) = %d, want %d", now, got, want)
			}
		case 3:
			kind := uint8(roll(5))
			if got, want := w.Move(k, kind), m.move(k, kind); got != want {
				t.Fatalf("Move(%q, %d) = %v, want %v", k, kind, got, want)
			}
		case 4:
			kind := uint8(roll(5))
			got, e := w.MoveAll(kind)
			if want, f := m.moveAll(kind); got != want || e != f {
				t.Fatalf("MoveAll(%d) = %d, %v, want %d, %v", kind, got, e, want, f)
			}
		default:
			r, n := rules()[roll(uint64(len(rules())))], roll(7)
			if roll(9) == 0 {
				n = []uint64{end, end/10 + 1, 1 << 63, 40}[roll(4)]
			}
			if got, want := w.Charge(k, r, n), m.charge(k, r, n); !alike(got, want) {
				t.Fatalf("Charge(%q, %v, %d) = %+v, want %+v", k, r, n, got, want)
			}
		}
		checkModel(t, w, m)
	}
}

// TestByTheWords: mixed scripts, from a new table on, are told what the chapter's
// words tell.
func TestByTheWords(t *testing.T) {
	for seed := range 300 {
		roll := dice(seed)
		most := int(roll(5)) + 1
		w, m := New(most), &model{most: most, slots: map[string]api.Slot{}}
		if seed%3 > 0 {
			start := []uint64{1, 1000, 1 << 62, 1 << 63, end - 1<<32, end - 100, end - 10, end}[roll(8)]
			w.Tick(start)
			m.tick(start)
		}
		script(t, w, m, roll, 80)
	}
}

// oddSlots are slots with any state that may be, some of a time to come.
func oddSlots(roll func(uint64) uint64, clock uint64) []api.Slot {
	var out []api.Slot
	for _, k := range []string{"a", "b", "c", "d"} {
		r := rules()[roll(12)]
		cap := rule.Cap(r)
		s := api.State{Kind: uint8(roll(3)) + 1, A: roll(cap + 3), B: num.Sub(clock+roll(60), roll(40))}
		if s.Kind == api.Gcra {
			s.A = num.Add(clock, s.A)
		}
		if fill := kernel.Fill(s, clock, cap); fill > 0 && fill <= cap {
			out = append(out, api.Slot{Key: k, Rule: r, State: s})
		}
	}
	return out
}

// TestByTheWordsOfSome: the same from slots on, with whatever states they have.
func TestByTheWordsOfSome(t *testing.T) {
	for seed := range 400 {
		roll := dice(seed)
		clock := []uint64{0, 5, 100, 1 << 40, 1 << 63, end - 200, end - 61}[roll(7)]
		l := oddSlots(roll, clock)
		most := len(l) + 1 - int(roll(2))
		if most == 0 {
			continue
		}
		w, m := tableOf(t, most, clock, l...), &model{most: most, clock: clock, slots: map[string]api.Slot{}}
		for _, s := range l {
			m.slots[s.Key] = s
		}
		checkModel(t, w, m)
		script(t, w, m, roll, 60)
		// A table of what is told goes on as the first one.
		script(t, again(t, w), m, roll, 20)
	}
}

// TestByWhatWas: what is told hangs on what was admitted of a key, and when,
// whatever its kernel; each is admitted just if it and its history conform.
func TestByWhatWas(t *testing.T) {
	type history struct {
		rule   api.Rule
		events []api.Event
	}
	for seed := range 150 {
		roll := dice(seed)
		w := New(3)
		was := map[string]history{}
		active := func() []string {
			var out []string
			for k, h := range was {
				if past.Fill(h.events, w.Clock()) > 0 {
					out = append(out, k)
				}
			}
			return out
		}
		for range 150 {
			w.Tick(w.Clock() + []uint64{0, 0, 1, 3, 10}[roll(5)])
			if roll(4) == 0 {
				w.Move([]string{"a", "b", "c", "d"}[roll(4)], uint8(roll(5)))
			}
			k, r, n := []string{"a", "b", "c", "d"}[roll(4)], rules()[roll(8)], roll(6)
			if roll(3) > 0 {
				r = rules()[roll(5)]
			}
			h := was[k]
			if h.rule.Every != r.Every || h.rule.Burst != r.Burst || past.Fill(h.events, w.Clock()) == 0 {
				h = history{rule: r}
				delete(was, k)
			}
			a := w.Charge(k, r, n)
			if len(h.events) == 0 && len(active()) >= 3 {
				if !alike(a, overloaded(r.Burst)) {
					t.Fatalf("%v is told %+v, and %q are active", h, a, active())
				}
				continue
			}
			cap, weight := r.Every*r.Burst, n*r.Every
			wait := num.Sub(past.Fill(h.events, w.Clock())+weight, cap)
			next, in := past.Decide(h.events, w.Clock(), cap, weight)
			h.events = next
			if in {
				was[k] = h
			}
			fill := past.Fill(next, w.Clock())
			want := admit(r.Burst, (cap-fill)/r.Every, (fill+999999999)/1000000000)
			if !in {
				want = deny(r.Burst, want.Left, want.Reset)
			}
			if !in && weight <= cap {
				want.Retry, want.Nanos, want.After = true, wait, (wait+999999999)/1000000000
			}
			if !alike(a, want) {
				t.Fatalf("Charge of %q, %d at %d, by %v, is told %+v, want %+v", k, n, w.Clock(), h, a, want)
			}
			for _, e := range w.Entries() {
				if fill := past.Fill(was[e.Key].events, w.Clock()); fill == 0 || e.Until != w.Clock()+fill {
					t.Fatalf("%v of %v, at %d", e, was[e.Key], w.Clock())
				}
			}
			if w.Active() != len(active()) {
				t.Fatalf("%d are active, want %q", w.Active(), active())
			}
		}
	}
}

// TestNobodyTellsThemApart: scripts that differ in kernels alone, and in who goes
// over to which, are told the same.
func TestNobodyTellsThemApart(t *testing.T) {
	for seed := range 60 {
		most := seed%4 + 1
		w := []*Table{New(most), New(most), New(most), New(most), New(most)}
		roll, own := dice(seed), dice(seed+1000)
		for range 200 {
			step, k := []uint64{0, 0, 1, 2, 7, 30, 1000000000}[roll(7)], fmt.Sprint("k", roll(6))
			every, burst, n := []uint64{3, 10, 1000000001}[roll(10)/4], 3+roll(10)/9, roll(5)
			var first api.Answer
			for i, one := range w {
				kind := uint8(i) + 1
				if i >= 3 {
					kind = uint8(own(3)) + 1
				}
				if i == 4 && own(3) == 0 {
					one.Move(fmt.Sprint("k", own(6)), uint8(own(3))+1)
				}
				if i == 4 && own(9) == 0 {
					one.MoveAll(uint8(own(3)) + 1)
				}
				one.Tick(one.Clock() + step)
				a := one.Charge(k, by(every, burst, kind), n)
				if i == 0 {
					first = a
				}
				if !alike(a, first) || one.Active() != w[0].Active() || !slices.Equal(one.Entries(), w[0].Entries()) {
					t.Fatalf("table %d tells %+v, %v, and the first one %+v, %v", i, a, one.Entries(), first, w[0].Entries())
				}
			}
		}
	}
}

// TestTwoTables: two tables know nothing of one another.
func TestTwoTables(t *testing.T) {
	l := many(4)
	a, b, c, d := New(2), New(3), tableOf(t, 5, 0, l...), tableOf(t, 5, 0, l...)
	models := []*model{{most: 2, slots: map[string]api.Slot{}}, {most: 3, slots: map[string]api.Slot{}}, {most: 5, slots: map[string]api.Slot{}}, {most: 5, slots: map[string]api.Slot{}}}
	for _, s := range l {
		models[2].slots[s.Key] = s
		models[3].slots[s.Key] = s
	}
	roll := dice(7)
	for range 100 {
		i := roll(4)
		script(t, []*Table{a, b, c, d}[i], models[i], roll, 3)
		for j, w := range []*Table{a, b, c, d} {
			checkModel(t, w, models[j])
		}
	}
	r := by(10, 2, api.Gcra)
	for _, w := range []*Table{New(1), New(1)} {
		checkCharge(t, w, "a", r, 2, admit(2, 0, 1))
		checkCharge(t, w, "b", r, 2, overloaded(2))
	}
}

// TestListChangedBehind: a table keeps nothing of the list that Of was handed,
// nor does it change what is told of it.
func TestListChangedBehind(t *testing.T) {
	memory := many(9)
	before := slices.Clone(memory)
	for i := range memory {
		for j := i; j <= len(memory); j++ {
			w := tableOf(t, 9, 0, memory[i:j]...)
			checkSlots(t, w, before[i:j]...)
			was := told(w)
			clear(memory)
			checkStill(t, w, was)
			copy(memory, before)
			w.MoveAll(api.Bucket)
			w.Charge("k0000004", by(10, 6, 1), 1)
			w.Charge("a", by(10, 6, 1), 1)
			w.Tick(5)
			if !slices.Equal(memory, before) {
				t.Fatalf("the list is %v, was %v", memory, before)
			}
		}
	}
	// Nor of one that is refused.
	for e, l := range wrongSlots() {
		list := append(slices.Clone(before[:2]), l...)
		same := slices.Clone(list)
		checkOf(t, 90, 0, list, wantList(list))
		if !slices.Equal(list, same) {
			t.Errorf("the list, refused by %v, is %v, was %v", e, list, same)
		}
	}
}

// wantList is the first error of these slots at 0.
func wantList(l []api.Slot) api.Errno {
	for _, s := range l {
		if e := wantSlot(s, 0); e != api.OK {
			return e
		}
	}
	return api.ErrOrder
}

// TestToldIsACopy: what is done to a list that was told is not told again, nor
// does what is told later change it.
func TestToldIsACopy(t *testing.T) {
	l := many(5)
	w := tableOf(t, 9, 0, l...)
	before := told(w)
	slots, entries := w.Slots(), w.Entries()
	for range 2 {
		s, e := w.Slots(), w.Entries()
		for i := range s {
			s[i], e[i] = api.Slot{Key: "x"}, api.Entry{Key: "x"}
		}
		// What lies behind is nobody's, either.
		clear(s[:cap(s)])
		clear(e[:cap(e)])
		checkStill(t, w, before)
	}
	w.MoveAll(api.Leaky)
	w.Charge("k0000002", by(1, 1, 1), 1)
	w.Tick(3)
	w.Tick(100)
	if !slices.Equal(slots, before.Slots) || !slices.Equal(entries, before.Entries) {
		t.Errorf("told was %v, %v, and it is %v, %v", before.Slots, before.Entries, slots, entries)
	}
}

// raw is a text in memory that can be written.
func raw(s string) ([]byte, string) {
	b := []byte(s)
	return b, unsafe.String(unsafe.SliceData(b), len(b))
}

// spoil writes over a text's bytes.
func spoil(s string) {
	b := unsafe.Slice(unsafe.StringData(s), len(s))
	for i := range b {
		b[i] = 'x'
	}
}

// TestOwnMemory: not even the bytes of a key or of a prefix are shared between
// what is handed in, what is kept, and what is told.
func TestOwnMemory(t *testing.T) {
	slot := func(k, prefix string) api.Slot {
		_, text := raw(k)
		_, front := raw(prefix)
		return full(text, of(front, 10, 5, api.Leaky), 0, 20)
	}
	handed := []api.Slot{slot("api/a", "api/"), slot("b", "b")}
	w := tableOf(t, 3, 0, handed...)
	for _, s := range handed {
		spoil(s.Key)
		spoil(s.Rule.Prefix)
	}
	checkSlots(t, w, slot("api/a", "api/"), slot("b", "b"))
	one := slot("c/c", "c")
	checkCode(t, w, one.Key, one.Rule, 2, api.Admit)
	spoil(one.Key)
	spoil(one.Rule.Prefix)
	two := slot("b", "bb")
	checkCode(t, w, two.Key, two.Rule, 1, api.Admit)
	spoil(two.Key)
	spoil(two.Rule.Prefix)
	_, k := raw("c/c")
	checkMove(t, w, k, api.Bucket, api.OK)
	spoil(k)
	for range 2 {
		checkActive(t, w, "api/a", "b", "c/c")
		var prefixes []string
		for _, s := range w.Slots() {
			prefixes = append(prefixes, strings.Clone(s.Rule.Prefix))
			spoil(s.Key)
			spoil(s.Rule.Prefix)
		}
		for _, e := range w.Entries() {
			spoil(e.Key)
		}
		if !slices.Equal(prefixes, []string{"api/", "bb", "c"}) {
			t.Errorf("the prefixes are %q", prefixes)
		}
	}
	checkCharge(t, w, "d", by(1, 1, 1), 1, overloaded(1))
	checkCode(t, w, "c/c", by(10, 5, 1), 3, api.Admit)
	checkCode(t, w, "b", by(10, 5, 1), 2, api.Admit)
	checkCode(t, w, "api/a", by(10, 5, 1), 3, api.Admit)
	checkTick(t, w, 49, 49)
	checkActive(t, w, "api/a", "b", "c/c")
	checkTick(t, w, 50, 50)
	checkActive(t, w)
}

// TestAsked: to be asked changes nothing, and what is told is told again.
func TestAsked(t *testing.T) {
	w := tableOf(t, 9, 3, wantedAt(many(9), 3)...)
	before := told(w)
	for range 3 {
		w.Clock()
		w.Active()
		w.Slots()
		w.Entries()
		w.Tick(3)
		checkStill(t, w, before)
	}
}

// TestActiveStops: who is active is told no further than is asked for.
func TestActiveStops(t *testing.T) {
	l := many(4)
	w := tableOf(t, 4, 0, l...)
	for most := 1; most <= 4; most++ {
		var seen []api.Slot
		for s := range w.active() {
			seen = append(seen, s)
			if len(seen) == most {
				break
			}
		}
		if !slices.Equal(seen, l[:most]) {
			t.Errorf("%v are active, want %v", seen, l[:most])
		}
	}
}

// TestManyAndLong: a clock that goes on often, and a key that comes often, look at
// few of many that are active; if they looked at all, this would not end in time.
func TestManyAndLong(t *testing.T) {
	const n = 100000
	w := New(n)
	r := by(1, 1<<40, api.Gcra)
	for i := range n {
		checkCode(t, w, fmt.Sprint("k", i), r, uint64(i)+1, api.Admit)
	}
	for i := range uint64(n) {
		checkCharge(t, w, "x", r, 1<<40, overloaded(1<<40))
		checkTick(t, w, i+1, i+1)
		// Just one is drained, and another one takes its place.
		checkCode(t, w, fmt.Sprint("n", i), r, n, api.Admit)
		if w.Active() != n {
			t.Fatalf("%d are active at %d", w.Active(), w.Clock())
		}
	}
	checkTick(t, w, 2*n-1, 2*n-1)
	checkActive(t, w, fmt.Sprint("n", n-1))
	checkTick(t, w, 2*n, 2*n)
	checkActive(t, w)
}
