package leaky

import (
	"math/big"
	"testing"

	"toller/api"
)

const end = 1<<64 - 1

// edges are numbers at which a sum, a difference, or the top bit changes.
func edges() []uint64 {
	return []uint64{0, 1, 2, 5, 8, 10, 1 << 32, 1 << 62, 1<<63 - 1, 1 << 63, end - 8, end - 1, end}
}

// kinds are the three kernels', none's, and others that no kernel has.
func kinds() []uint8 {
	return []uint8{api.Leaky, 0, api.Gcra, api.Bucket, 4, 255}
}

// mixed are n numbers of many lengths, always the same ones.
func mixed(n int) []uint64 {
	out := make([]uint64, n)
	x := uint64(88172645463325252)
	for i := range out {
		x ^= x << 13
		x ^= x >> 7
		x ^= x << 17
		out[i] = x >> (x % 64)
	}
	return out
}

func whole(a uint64) *big.Int {
	return new(big.Int).SetUint64(a)
}

// less is a less b, or 0, if b is above a.
func less(a, b *big.Int) *big.Int {
	d := new(big.Int).Sub(a, b)
	if d.Sign() < 0 {
		return new(big.Int)
	}
	return d
}

// wantFill is the chapter's words on Fill, by big numbers.
func wantFill(s api.State, now uint64) *big.Int {
	return less(whole(s.A), less(whole(now), whole(s.B)))
}

// wantDecide is the chapter's words on Decide, by big numbers.
func wantDecide(s api.State, now, cap, w uint64) (api.State, bool) {
	both := new(big.Int).Add(wantFill(s, now), whole(w))
	if both.Cmp(whole(cap)) > 0 {
		return s, false
	}
	return api.State{Kind: 3, A: both.Uint64(), B: now}, true
}

func checkFill(t *testing.T, s api.State, now, cap, want uint64) {
	t.Helper()
	if got := Fill(s, now, cap); got != want {
		t.Errorf("Fill(%v, %d, %d) = %d, want %d", s, now, cap, got, want)
	}
}

// checkIn: w comes in, and the meter is then so full at now.
func checkIn(t *testing.T, s api.State, now, cap, w, full uint64) {
	t.Helper()
	want := api.State{Kind: 3, A: full, B: now}
	if got, is := Decide(s, now, cap, w); got != want || !is {
		t.Errorf("Decide(%v, %d, %d, %d) = %v, %v, want %v, true", s, now, cap, w, got, is, want)
	}
}

// checkOut: w doesn't come in, and the state stays as it was.
func checkOut(t *testing.T, s api.State, now, cap, w uint64) {
	t.Helper()
	if got, is := Decide(s, now, cap, w); got != s || is {
		t.Errorf("Decide(%v, %d, %d, %d) = %v, %v, want %v, false", s, now, cap, w, got, is, s)
	}
}

// checkByBigNumbers holds all that is told of a state against the chapter's
// words.
func checkByBigNumbers(t *testing.T, s api.State, now, cap, w uint64) {
	t.Helper()
	checkFill(t, s, now, cap, wantFill(s, now).Uint64())
	want, wantIs := wantDecide(s, now, cap, w)
	if got, is := Decide(s, now, cap, w); got != want || is != wantIs {
		t.Errorf("Decide(%v, %d, %d, %d) = %v, %v, want %v, %v", s, now, cap, w, got, is, want, wantIs)
	}
}

func TestExamples(t *testing.T) {
	s := Of(5, 10, 8)
	if want := (api.State{Kind: 3, A: 8, B: 5}); s != want {
		t.Errorf("Of(5, 10, 8) = %v, want %v", s, want)
	}
	checkFill(t, s, 8, 10, 5)
	checkOut(t, s, 8, 10, 6)
}

// TestOf: the numbers are kept as they are, and cap is not looked at.
func TestOf(t *testing.T) {
	for _, now := range edges() {
		for _, cap := range edges() {
			for _, fill := range edges() {
				want := api.State{Kind: api.Leaky, A: fill, B: now}
				if got := Of(now, cap, fill); got != want {
					t.Errorf("Of(%d, %d, %d) = %v, want %v", now, cap, fill, got, want)
				}
			}
		}
	}
}

func TestFill(t *testing.T) {
	rows := []struct{ a, b, now, want uint64 }{
		{8, 5, 5, 8},
		{8, 5, 6, 7},
		{8, 5, 8, 5},
		// Empty just then, a nanosecond ahead of it, and from then on.
		{8, 5, 12, 1},
		{8, 5, 13, 0},
		{8, 5, 14, 0},
		{8, 5, end, 0},
		{0, 5, 5, 0},
		{0, 5, 6, 0},
		{1, 5, 5, 1},
		{1, 5, 6, 0},
		// Ahead of B nothing has leaked, and nothing comes back.
		{8, 5, 4, 8},
		{8, 5, 0, 8},
		{0, 5, 0, 0},
		{8, end, 0, 8},
		{8, end, end - 1, 8},
		{8, end, end, 8},
		{end, end, 0, end},
		{end, 0, 0, end},
		{end, 0, 1, end - 1},
		{end, 0, end - 1, 1},
		{end, 0, end, 0},
		{end - 1, 0, end, 0},
		{end, 1, end, 1},
		{1 << 63, 0, 1<<63 - 1, 1},
		{1 << 63, 0, 1 << 63, 0},
		{8, end - 8, end - 1, 1},
		{8, end - 8, end, 0},
	}
	for _, x := range rows {
		s := api.State{Kind: api.Leaky, A: x.a, B: x.b}
		// A meter that is over the cap, or whose cap is 0, is as full.
		for _, cap := range edges() {
			checkFill(t, s, x.now, cap, x.want)
		}
	}
}

func TestDecideAtTheCap(t *testing.T) {
	s := api.State{Kind: api.Leaky, A: 8, B: 5}
	// At 8 it is 5 full: 5 more are just the cap, and 6 are one too many.
	checkIn(t, s, 8, 10, 1, 6)
	checkIn(t, s, 8, 10, 4, 9)
	checkIn(t, s, 8, 10, 5, 10)
	checkOut(t, s, 8, 10, 6)
	checkOut(t, s, 8, 10, end)
	// Empty just then, and a nanosecond ahead of it.
	checkOut(t, s, 12, 10, 10)
	checkIn(t, s, 12, 10, 9, 10)
	checkIn(t, s, 13, 10, 10, 10)
	checkIn(t, s, 14, 10, 10, 10)
	checkOut(t, s, 13, 10, 11)
	checkOut(t, s, end, 10, 11)
}

// TestDecideAheadOfItsTime: nothing has leaked, and what comes in is kept as
// of now.
func TestDecideAheadOfItsTime(t *testing.T) {
	s := api.State{Kind: api.Leaky, A: 8, B: 5}
	checkIn(t, s, 4, 10, 2, 10)
	checkOut(t, s, 4, 10, 3)
	checkIn(t, s, 0, 10, 1, 9)
	checkOut(t, s, 0, 10, 3)
	checkIn(t, api.State{Kind: api.Leaky, A: 8, B: end}, 0, 10, 2, 10)
	checkOut(t, api.State{Kind: api.Leaky, A: 8, B: end}, 0, 10, 3)
}

// TestDecideOfNothing: a w of 0 comes in wherever the meter is no more than
// full, and is out where it is over.
func TestDecideOfNothing(t *testing.T) {
	s := api.State{Kind: api.Leaky, A: 8, B: 5}
	checkIn(t, s, 5, 10, 0, 8)
	checkIn(t, s, 5, 8, 0, 8)
	checkOut(t, s, 5, 7, 0)
	checkIn(t, s, 6, 7, 0, 7)
	checkIn(t, s, 13, 10, 0, 0)
	checkIn(t, api.State{}, 0, 0, 0, 0)
}

func TestDecideOfCapNought(t *testing.T) {
	s := api.State{Kind: api.Leaky, A: 1, B: 5}
	checkOut(t, s, 5, 0, 0)
	checkOut(t, s, 5, 0, 1)
	checkIn(t, s, 6, 0, 0, 0)
	checkOut(t, s, 6, 0, 1)
	checkOut(t, s, 6, 0, end)
}

// TestDecideAtTheEnd: more than 2^64 - 1 together is more than any cap, and
// what the sum goes round to is not held against it.
func TestDecideAtTheEnd(t *testing.T) {
	s := api.State{Kind: api.Leaky, A: 8, B: 5}
	checkIn(t, s, 5, end, end-8, end)
	checkOut(t, s, 5, end, end-7)
	checkOut(t, s, 5, end, end)
	checkOut(t, s, 5, 0, end-7)
	checkIn(t, s, 13, end, end, end)
	full := api.State{Kind: api.Leaky, A: end, B: 0}
	checkIn(t, full, 0, end, 0, end)
	checkOut(t, full, 0, end, 1)
	checkIn(t, full, 1, end, 1, end)
	checkOut(t, full, 0, end, end)
	checkOut(t, full, 0, end-1, 0)
	checkOut(t, full, end-1, end, end)
	checkIn(t, full, end, end, end, end)
	half := api.State{Kind: api.Leaky, A: 1 << 63, B: end}
	checkOut(t, half, 0, end, 1<<63)
	checkIn(t, half, end, end, 1<<63-1, end)
}

// TestKindIsNotLookedAt: of whatever Kind a state is it is read as a meter;
// what comes in is Leaky, and where nothing comes in the Kind stays.
func TestKindIsNotLookedAt(t *testing.T) {
	for _, k := range kinds() {
		s := api.State{Kind: k, A: 8, B: 5}
		checkFill(t, s, 8, 10, 5)
		checkFill(t, s, 13, 10, 0)
		checkIn(t, s, 8, 10, 5, 10)
		checkIn(t, s, 8, 10, 0, 5)
		checkOut(t, s, 8, 10, 6)
		checkOut(t, s, 8, 4, 0)
		checkOut(t, api.State{Kind: k, A: end, B: end}, 0, 10, end)
	}
}

// TestLeaksOneEachNanosecond goes on nanosecond by nanosecond: a level that
// is counted down by hand is what the meter tells, and so is what comes in.
func TestLeaksOneEachNanosecond(t *testing.T) {
	for cap := range uint64(12) {
		s, level := Of(0, cap, 0), uint64(0)
		for now, w := range mixed(3000) {
			if now > 0 && level > 0 {
				level--
			}
			checkFill(t, s, uint64(now), cap, level)
			w %= 5
			next, is := Decide(s, uint64(now), cap, w)
			if is != (level+w <= cap) {
				t.Fatalf("cap %d, at %d: %d into %d is %v", cap, now, w, level, is)
			}
			if is {
				level += w
			}
			s = next
		}
	}
}

// TestWhatLeaksIsNotThere: who is too much by d comes in d nanoseconds later,
// and not a nanosecond ahead.
func TestWhatLeaksIsNotThere(t *testing.T) {
	const cap, at = 10, 5
	for fill := uint64(1); fill <= cap; fill++ {
		for w := cap - fill + 1; w <= cap; w++ {
			s := Of(at, cap, fill)
			d := fill + w - cap
			checkOut(t, s, at, cap, w)
			checkOut(t, s, at+d-1, cap, w)
			checkIn(t, s, at+d, cap, w, cap)
		}
	}
}

func TestEdgesByBigNumbers(t *testing.T) {
	for i, a := range edges() {
		for _, b := range edges() {
			for _, now := range edges() {
				for _, cap := range edges() {
					for _, w := range edges() {
						k := kinds()[i%len(kinds())]
						checkByBigNumbers(t, api.State{Kind: k, A: a, B: b}, now, cap, w)
					}
				}
			}
		}
	}
}

func TestMixedByBigNumbers(t *testing.T) {
	n := mixed(50000)
	for i := 0; i+5 <= len(n); i += 5 {
		s := api.State{Kind: uint8(n[i]), A: n[i], B: n[i+1]}
		now, cap, w := n[i+2], n[i+3], n[i+4]
		checkByBigNumbers(t, s, now, cap, w)
		// Just then, and a nanosecond to each side: where these go round they
		// are other times and other caps.
		for d := range uint64(3) {
			checkByBigNumbers(t, s, s.A+s.B+d-1, cap, w)
			checkByBigNumbers(t, s, s.B+d-1, cap, w)
			checkByBigNumbers(t, s, now, Fill(s, now, cap)+w+d-1, w)
		}
	}
}
