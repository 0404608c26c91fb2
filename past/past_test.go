package past

import (
	"math/big"
	"slices"
	"testing"

	"toller/api"
	"toller/kernel"
)

const end = 1<<64 - 1

// mixed are n numbers of many lengths, always the same ones.
func mixed(n int) []uint64 {
	out := make([]uint64, n)
	x := uint64(88172645463325252)
	for i := range out {
		x ^= x << 13
		x ^= x >> 7
		x ^= x << 17
		out[i] = x >> (x % 64)
	}
	return out
}

// events are those of At and Weight by turns.
func events(n ...uint64) []api.Event {
	var out []api.Event
	for i := 0; i+1 < len(n); i += 2 {
		out = append(out, api.Event{At: n[i], Weight: n[i+1]})
	}
	return out
}

// histories are all of so many events, of those times and weights.
func histories(many int, times, weights []uint64) [][]api.Event {
	out := [][]api.Event{nil}
	for range many {
		var longer [][]api.Event
		for _, l := range out {
			for _, at := range times {
				for _, w := range weights {
					longer = append(longer, append(slices.Clone(l), api.Event{At: at, Weight: w}))
				}
			}
		}
		out = longer
	}
	return out
}

func whole(a uint64) *big.Int {
	return new(big.Int).SetUint64(a)
}

// less is a less b, or 0, if b is above a.
func less(a, b *big.Int) *big.Int {
	d := new(big.Int).Sub(a, b)
	if d.Sign() < 0 {
		return new(big.Int)
	}
	return d
}

// wantSum is the chapter's words on the SUM, by big numbers.
func wantSum(l []api.Event) *big.Int {
	sum := new(big.Int)
	for _, e := range l {
		sum.Add(sum, whole(e.Weight))
	}
	if !sum.IsUint64() {
		return whole(end)
	}
	return sum
}

// wantAbove is how much the SUM of l is above what passed since its first one.
func wantAbove(l []api.Event, now uint64) uint64 {
	return less(wantSum(l), less(whole(now), whole(l[0].At))).Uint64()
}

// wantFill is the chapter's words on Fill, by big numbers.
func wantFill(l []api.Event, now uint64) uint64 {
	var most uint64
	for i := range l {
		most = max(most, wantAbove(l[i:], now))
	}
	return most
}

// wantConforms is the chapter's words on Conforms, by big numbers.
func wantConforms(l []api.Event, cap uint64) bool {
	for i := range l {
		for j := i; j < len(l); j++ {
			if wantAbove(l[i:j+1], l[j].At) > cap {
				return false
			}
		}
	}
	return true
}

// tightest is the least cap by which l conforms: the greatest of what each part
// of it is above what passed.
func tightest(l []api.Event) uint64 {
	var most uint64
	for i := range l {
		for j := i; j < len(l); j++ {
			most = max(most, wantAbove(l[i:j+1], l[j].At))
		}
	}
	return most
}

func checkFill(t *testing.T, l []api.Event, now, want uint64) {
	t.Helper()
	if got := Fill(l, now); got != want {
		t.Errorf("Fill(%v, %d) = %d, want %d", l, now, got, want)
	}
}

func checkConforms(t *testing.T, l []api.Event, cap uint64, want bool) {
	t.Helper()
	if got := Conforms(l, cap); got != want {
		t.Errorf("Conforms(%v, %d) = %v", l, cap, got)
	}
}

// checkLeast: l conforms by cap, and not by one less.
func checkLeast(t *testing.T, l []api.Event, cap uint64) {
	t.Helper()
	checkConforms(t, l, cap, true)
	checkConforms(t, l, end, true)
	if cap > 0 {
		checkConforms(t, l, cap-1, false)
		checkConforms(t, l, 0, false)
	}
	if cap < end {
		checkConforms(t, l, cap+1, true)
	}
}

func checkDecide(t *testing.T, l []api.Event, now, cap, w uint64, want bool) {
	t.Helper()
	next := slices.Clone(l)
	if want {
		next = append(next, api.Event{At: now, Weight: w})
	}
	got, in := Decide(l, now, cap, w)
	if in != want || !slices.Equal(got, next) {
		t.Errorf("Decide(%v, %d, %d, %d) = %v, %v, want %v, %v", l, now, cap, w, got, in, next, want)
	}
}

func checkRises(t *testing.T, l []api.Event, want bool) {
	t.Helper()
	if got := Rises(l); got != want {
		t.Errorf("Rises(%v) = %v", l, got)
	}
}

func TestExamples(t *testing.T) {
	l := events(5, 8)
	checkFill(t, l, 8, 5)
	checkDecide(t, l, 8, 10, 6, false)
	checkDecide(t, l, 8, 10, 5, true)
	checkDecide(t, l, 9, 10, 6, true)
	checkLeast(t, events(5, 8, 8, 5), 10)
}

func TestNoEvents(t *testing.T) {
	for _, l := range [][]api.Event{nil, {}, events(5, 8)[:0]} {
		checkRises(t, l, true)
		for _, n := range []uint64{0, 1, 8, 1 << 63, end} {
			checkFill(t, l, n, 0)
			checkConforms(t, l, n, true)
			checkDecide(t, l, n, 0, 0, true)
			checkDecide(t, l, n, 0, 1, false)
			checkDecide(t, l, n, 10, 10, true)
			checkDecide(t, l, n, 10, 11, false)
			checkDecide(t, l, n, n, n, true)
			checkDecide(t, l, n, end, end, true)
			checkDecide(t, l, n, end-1, end, false)
		}
	}
}

func TestRises(t *testing.T) {
	rows := []struct {
		l    []api.Event
		want bool
	}{
		{events(0, 0), true},
		{events(5, 8), true},
		{events(end, end), true},
		{events(5, 8, 5, 8), true},
		{events(5, 8, 6, 1), true},
		{events(5, 8, 4, 9), false},
		{events(0, 9, 0, 1, 0, 5), true},
		{events(0, 1, end, 1), true},
		{events(end, 1, 0, 1), false},
		{events(end-1, 1, end, 1), true},
		{events(end, 1, end-1, 1), false},
		{events(1<<63-1, 1, 1<<63, 1), true},
		{events(1<<63, 1, 1<<63-1, 1), false},
		// Each place at which it may go back, the first and the last, too.
		{events(1, 0, 2, 0, 3, 0, 4, 0), true},
		{events(2, 0, 1, 0, 3, 0, 4, 0), false},
		{events(1, 0, 3, 0, 2, 0, 4, 0), false},
		{events(1, 0, 2, 0, 4, 0, 3, 0), false},
		// Later than the first one, but less than the one ahead of it.
		{events(1, 0, 9, 0, 5, 0), false},
		{events(1, 0, 1, 0, 2, 0, 2, 0), true},
	}
	for _, x := range rows {
		checkRises(t, x.l, x.want)
	}
	for _, l := range histories(4, []uint64{0, 1, end}, []uint64{7}) {
		checkRises(t, l, slices.IsSortedFunc(l, func(a, b api.Event) int {
			return whole(a.At).Cmp(whole(b.At))
		}))
	}
}

func TestFillOfOne(t *testing.T) {
	l := events(5, 8)
	// Behind the event, at it, and ahead of it: nothing has passed then.
	checkFill(t, l, 0, 8)
	checkFill(t, l, 4, 8)
	checkFill(t, l, 5, 8)
	checkFill(t, l, 6, 7)
	// What has passed is one less than the SUM, just it, and one more.
	checkFill(t, l, 12, 1)
	checkFill(t, l, 13, 0)
	checkFill(t, l, 14, 0)
	checkFill(t, l, end, 0)
	checkFill(t, events(5, 0), 0, 0)
	checkFill(t, events(5, 0), 5, 0)
	checkFill(t, events(5, 0), end, 0)
	checkFill(t, events(5, 1), 5, 1)
	checkFill(t, events(5, 1), 6, 0)
	checkFill(t, events(0, end), 0, end)
	checkFill(t, events(0, end), 1, end-1)
	checkFill(t, events(0, end), end-1, 1)
	checkFill(t, events(0, end), end, 0)
	checkFill(t, events(0, end-1), end, 0)
	checkFill(t, events(1, end), end, 1)
	checkFill(t, events(end, end), 0, end)
	checkFill(t, events(end, end), end, end)
	checkFill(t, events(end, 1), end-1, 1)
	checkFill(t, events(end-1, 1), end, 0)
}

// TestFillIsGreatest: whichever event it is that has the greatest, it is told.
func TestFillIsGreatest(t *testing.T) {
	// The first one's: all of it is still there.
	l := events(0, 9, 2, 3, 5, 4)
	checkFill(t, l, 5, 11)
	checkFill(t, l, 15, 1)
	checkFill(t, l, 16, 0)
	// The last one's: all ahead of it has gone.
	l = events(0, 3, 10, 2, 20, 7)
	checkFill(t, l, 20, 7)
	checkFill(t, l, 24, 3)
	checkFill(t, l, 27, 0)
	// The one's between: 12 less 5, where the first has 15 less 20, the last 4.
	l = events(0, 3, 15, 8, 18, 4)
	checkFill(t, l, 20, 7)
	checkFill(t, l, 26, 1)
	checkFill(t, l, 27, 0)
	// Events at one time are as one that weighs as much.
	l = events(5, 3, 5, 4, 5, 1)
	checkFill(t, l, 5, 8)
	checkFill(t, l, 8, 5)
	// What weighs nothing, ahead, between and behind.
	checkFill(t, events(0, 0, 5, 8, 6, 0, 7, 0), 8, 5)
	checkFill(t, events(0, 0, 5, 0), 5, 0)
	// Behind some of the events, and ahead of the other ones.
	checkFill(t, events(5, 8, 20, 3), 8, 8)
	checkFill(t, events(5, 8, 9, 3), 8, 8)
	checkFill(t, events(5, 8, 6, 3), 8, 8)
}

// TestFillGoingBack: times that don't rise are gone through all the same, and
// what passed is held from each event's own time.
func TestFillGoingBack(t *testing.T) {
	checkFill(t, events(9, 4, 5, 8), 9, 12)
	checkFill(t, events(9, 4, 5, 8), 10, 11)
	checkFill(t, events(9, 4, 5, 8), 20, 1)
	checkFill(t, events(9, 4, 5, 8), 21, 0)
	checkFill(t, events(end, 1, 0, 8), 8, 9)
	checkFill(t, events(end, 1, 0, 8), end, 9)
	checkFill(t, events(7, 1, 2, 6, 4, 1), 7, 8)
	checkFill(t, events(7, 0, 2, 6, 4, 1), 9, 5)
}

// TestSumStops: Weights that are more than 2^64 - 1 together are just that, and
// neither what they go round to nor what is above is held against what passed.
func TestSumStops(t *testing.T) {
	// Just the end together.
	checkFill(t, events(0, end-5, 0, 5), 0, end)
	checkFill(t, events(0, 5, 0, end-5), 3, end-3)
	checkFill(t, events(0, 1<<63, 0, 1<<63-1), 1, end-1)
	// One above it, and more.
	checkFill(t, events(0, end-5, 0, 6), 0, end)
	checkFill(t, events(0, end, 0, 1), 3, end-3)
	checkFill(t, events(0, 1, 0, end), 3, end-3)
	checkFill(t, events(0, 1<<63, 0, 1<<63), 1, end-1)
	checkFill(t, events(0, end, 0, end, 0, end), end, 0)
	checkFill(t, events(0, end, 0, end, 0, end), end-1, 1)
	// The first one's SUM would be greater, if it didn't stop: the last one's is.
	checkFill(t, events(0, 5, 3, end), 3, end)
	checkFill(t, events(0, 5, 3, end), 4, end-1)
	// 10 passed of the one, and 5 of the other one; both are at the end.
	checkFill(t, events(0, 9, 5, end), 10, end-5)
	checkLeast(t, events(0, 5, 3, end-1), end-1)
	checkLeast(t, events(0, 5, 10, end-4), end-4)
	// Both together, less the 10 that passed, would be more than the last one's
	// weight alone, if their SUM didn't stop.
	checkLeast(t, events(0, 12, 10, end-2), end-2)
	checkLeast(t, events(0, 1<<63, 0, 1<<63), end)
	checkLeast(t, events(0, 1<<63, 1, 1<<63), end-1)
	checkLeast(t, events(0, 1<<63, 2, 1<<63), end-2)
	checkDecide(t, events(0, 1<<63), 2, end-2, 1<<63, true)
	checkDecide(t, events(0, 1<<63), 2, end-3, 1<<63, false)
	checkDecide(t, events(0, end), 0, end, end, true)
	checkDecide(t, events(0, end), 0, end-1, 1, false)
	checkDecide(t, events(0, end-1), 0, end-1, 1, false)
}

func TestConforms(t *testing.T) {
	rows := []struct {
		l     []api.Event
		least uint64
	}{
		{events(5, 0), 0},
		{events(5, 1), 1},
		{events(5, 8), 8},
		{events(0, end), end},
		{events(end, end), end},
		{events(end, 0), 0},
		{events(5, 0, 5, 0), 0},
		{events(5, 8, 5, 2), 10},
		{events(5, 8, 6, 2), 9},
		{events(5, 8, 7, 2), 8},
		{events(5, 8, 13, 8), 8},
		{events(5, 8, 12, 8), 9},
		{events(5, 8, 14, 8), 8},
		{events(5, 8, 14, 9), 9},
		// The part that asks for most is the whole, a front, an end, one event,
		// and what lies between.
		{events(0, 4, 1, 4, 2, 4), 10},
		{events(0, 4, 1, 4, 9, 4), 7},
		{events(0, 4, 9, 4, 10, 4), 7},
		{events(0, 4, 9, 9, 20, 4), 9},
		{events(0, 2, 9, 5, 10, 5, 30, 2), 9},
		{events(0, 1, end, 1), 1},
		{events(0, end, end, 1), end},
		{events(0, end-1, end, end-1), end - 1},
		// Time that goes back: nothing passes then.
		{events(9, 4, 5, 8), 12},
		{events(9, 4, 5, 8, 9, 1), 13},
		{events(9, 4, 5, 8, 11, 1), 12},
		{events(end, 4, 0, 8), 12},
		{events(end, 4, 0, 8, end, 0), 12},
	}
	for _, x := range rows {
		checkLeast(t, x.l, x.least)
	}
}

func TestDecide(t *testing.T) {
	l := events(5, 8)
	// Just the cap together, and one more, with the clock ahead, at, and behind.
	checkDecide(t, l, 5, 10, 2, true)
	checkDecide(t, l, 5, 10, 3, false)
	checkDecide(t, l, 8, 10, 0, true)
	checkDecide(t, l, 13, 10, 10, true)
	checkDecide(t, l, 13, 10, 11, false)
	checkDecide(t, l, end, 10, 10, true)
	checkDecide(t, l, end, 10, 11, false)
	checkDecide(t, l, 0, 10, 2, true)
	checkDecide(t, l, 0, 10, 3, false)
	checkDecide(t, l, 0, 10, end, false)
	checkDecide(t, l, 8, end, end, true)
	// What was doesn't conform itself: nothing comes in, however late it is, and
	// though it weighs nothing.
	checkDecide(t, l, 5, 7, 0, false)
	checkDecide(t, l, 100, 7, 0, false)
	checkDecide(t, l, 100, 7, 1, false)
	checkDecide(t, l, end, 0, 0, false)
	checkDecide(t, l, 100, 8, 8, true)
	checkDecide(t, events(5, 4, 5, 4, 90, 1), 100, 7, 1, false)
	// By a cap of 0 just what weighs nothing comes in.
	checkDecide(t, events(5, 0), 5, 0, 0, true)
	checkDecide(t, events(5, 0), 5, 0, 1, false)
	checkDecide(t, events(5, 0), end, 0, 1, false)
	// Times that don't rise.
	checkDecide(t, events(9, 4, 5, 4), 7, 8, 0, true)
	checkDecide(t, events(9, 4, 5, 4), 7, 8, 1, false)
	checkDecide(t, events(9, 4, 5, 4), 10, 8, 1, true)
	checkDecide(t, events(9, 4, 5, 4), 10, 8, 2, false)
}

// TestDecideByConforms: what comes in is just what conforms behind what was.
func TestDecideByConforms(t *testing.T) {
	few := []uint64{0, 1, 3}
	for many := range 4 {
		for _, l := range histories(many, few, few) {
			for _, now := range []uint64{0, 1, 2, 5} {
				for _, cap := range []uint64{0, 1, 4} {
					for _, w := range []uint64{0, 1, 2, end} {
						next := append(slices.Clone(l), api.Event{At: now, Weight: w})
						checkDecide(t, l, now, cap, w, wantConforms(next, cap))
						checkConforms(t, next, cap, wantConforms(next, cap))
					}
				}
			}
		}
	}
}

func TestEdgesByBigNumbers(t *testing.T) {
	times := []uint64{0, 1, 5, 1 << 63, end - 1, end}
	weights := []uint64{0, 1, 8, 1 << 63, end - 1, end}
	for many := range 4 {
		for _, l := range histories(many, times, weights) {
			for _, now := range times {
				checkFill(t, l, now, wantFill(l, now))
			}
			checkLeast(t, l, tightest(l))
		}
	}
}

// lowest are so many of n's bits.
func lowest(n, bits uint64) uint64 {
	return n & (1<<bits - 1)
}

// mixedHistory is so many events of n, their times and weights of a few bits
// or many; its times rise if they are to.
func mixedHistory(n []uint64, many int, bits uint64, rise bool) []api.Event {
	l := events(n[:2*many]...)
	for i := range l {
		l[i].At = lowest(l[i].At, bits)
		l[i].Weight = lowest(l[i].Weight, bits)
	}
	if rise {
		slices.SortFunc(l, func(a, b api.Event) int { return whole(a.At).Cmp(whole(b.At)) })
	}
	return l
}

func TestMixedByBigNumbers(t *testing.T) {
	n := mixed(20000)
	for i := 0; i+40 < len(n); i += 40 {
		for _, bits := range []uint64{4, 8, 32, 63, 64} {
			l := mixedHistory(n[i:], i/40%13, bits, i/40%2 == 0)
			now, w := lowest(n[i+38], bits), lowest(n[i+39], bits)
			checkFill(t, l, now, wantFill(l, now))
			checkLeast(t, l, tightest(l))
			next := append(slices.Clone(l), api.Event{At: now, Weight: w})
			least := tightest(next)
			checkDecide(t, l, now, least, w, true)
			if least > 0 {
				checkDecide(t, l, now, least-1, w, false)
			}
		}
	}
}

// TestParts: of what conforms each front, each end, what lies between, and what
// is left when one is taken out conforms, by a greater cap, too.
func TestParts(t *testing.T) {
	checkParts(t, events(0, 4, 1, 4, 2, 4, 9, 0, 10, 3))
	checkParts(t, events(9, 4, 5, 8, 11, 1))
	checkParts(t, events(0, end, 3, 5, 1, end))
	n := mixed(4000)
	for i := 0; i+20 < len(n); i += 20 {
		checkParts(t, mixedHistory(n[i:], i/20%8, 5, i/20%2 == 0))
		checkParts(t, mixedHistory(n[i:], i/20%8, 64, i/20%2 == 0))
	}
}

func checkParts(t *testing.T, l []api.Event) {
	t.Helper()
	cap := tightest(l)
	checkLeast(t, l, cap)
	more := cap + (end-cap)/2
	for i := range len(l) + 1 {
		for j := i; j <= len(l); j++ {
			checkConforms(t, l[i:j], cap, true)
			checkConforms(t, l[i:j], more, true)
			rest := slices.Concat(l[:i], l[j:])
			checkConforms(t, rest, cap, true)
			checkConforms(t, rest, more, true)
		}
	}
}

// TestAsTheKernels: while time rises and nothing stops at the end, what was
// decides as each kernel does, and has a key just as full.
func TestAsTheKernels(t *testing.T) {
	n := mixed(6000)
	for _, cap := range []uint64{0, 1, 10, 40} {
		for _, kind := range []uint8{api.Gcra, api.Bucket, api.Leaky} {
			for i := 0; i+80 <= len(n); i += 80 {
				checkAsKernel(t, n[i:i+80], kind, cap)
			}
		}
	}
}

func checkAsKernel(t *testing.T, n []uint64, kind uint8, cap uint64) {
	t.Helper()
	var now uint64
	var l []api.Event
	s, e := kernel.Of(kind, now, cap, 0)
	if e != api.OK {
		t.Fatalf("kernel.Of(%d): error %d", kind, e)
	}
	for i := 0; i < len(n); i += 2 {
		now += n[i] % 12
		w := n[i+1] % 14
		var in, may bool
		s, in = kernel.Decide(s, now, cap, w)
		l, may = Decide(l, now, cap, w)
		if in != may || kernel.Fill(s, now, cap) != Fill(l, now) {
			t.Fatalf("%d of %v at %d, cap %d: %v, %d full; kernel %d: %v, %d full", w, l, now, cap, may, Fill(l, now), kind, in, kernel.Fill(s, now, cap))
		}
		if !Rises(l) || !Conforms(l, cap) {
			t.Fatalf("%v was let in by a cap of %d", l, cap)
		}
	}
}

// TestLeavesWhatItIsHanded: neither the events handed in nor what lies ahead of
// them and behind their length is changed, or told.
func TestLeavesWhatItIsHanded(t *testing.T) {
	memory := events(7, end, 5, 8, 8, 1, 3, end, 1, end)
	before := slices.Clone(memory)
	l := memory[1:3]
	checkRises(t, l, true)
	checkFill(t, l, 8, 6)
	checkLeast(t, l, 8)
	checkDecide(t, l, 8, 10, 4, true)
	checkDecide(t, l, 8, 10, 5, false)
	checkDecide(t, memory[1:1], 8, 10, 10, true)
	checkDecide(t, memory[1:1], 8, 10, 11, false)
	if !slices.Equal(memory, before) {
		t.Errorf("the memory is %v, was %v", memory, before)
	}
}

// TestDecideTellsNewMemory: what is told shares nothing with what was handed in
// nor with what another call told, and has nothing behind its length.
func TestDecideTellsNewMemory(t *testing.T) {
	for many := range 5 {
		for _, w := range []uint64{0, 11} {
			memory := events(1, 1, 2, 2, 3, 3, 4, 0, 9, 9, 9, 9)
			before := slices.Clone(memory)
			l := memory[:many]
			got, in := Decide(l, 5, 10, w)
			again, _ := Decide(l, 5, 10, w)
			kept := slices.Clone(again)
			if in != (w == 0) {
				t.Errorf("Decide(%v, 5, 10, %d): %v", l, w, in)
			}
			for i, e := range got[len(got):cap(got)] {
				if e != (api.Event{}) {
					t.Errorf("Decide(%v, 5, 10, %d): %v lies %d behind what is told", l, w, e, i)
				}
			}
			overwrite(got[:cap(got)])
			if !slices.Equal(memory, before) {
				t.Errorf("what is told (%v) shares memory with what was handed in", in)
			}
			if !slices.Equal(again, kept) {
				t.Errorf("what is told (%v) shares memory with what was told", in)
			}
			kept = slices.Clone(again)
			overwrite(memory)
			if !slices.Equal(again, kept) {
				t.Errorf("what was handed in shares memory with what is told (%v)", in)
			}
		}
	}
}

func overwrite(l []api.Event) {
	for i := range l {
		l[i] = api.Event{At: 77, Weight: 77}
	}
}

// TestSuffixes: from the last one on, each with its SUM, and no further than
// they are asked for.
func TestSuffixes(t *testing.T) {
	l := events(1, 5, 3, end-6, 2, 4)
	want := events(2, 4, 3, end-2, 1, end)
	var got []api.Event
	for e, sum := range suffixes(l) {
		got = append(got, api.Event{At: e.At, Weight: sum})
	}
	if !slices.Equal(got, want) {
		t.Errorf("suffixes(%v) are %v, want %v", l, got, want)
	}
	for most := 1; most <= len(l); most++ {
		seen := 0
		for range suffixes(l) {
			seen++
			if seen == most {
				break
			}
		}
		if seen != most {
			t.Errorf("%d suffixes, want %d", seen, most)
		}
	}
	for e, sum := range suffixes(nil) {
		t.Errorf("a suffix of none: %v, %d", e, sum)
	}
}
