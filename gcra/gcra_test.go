package gcra

import (
	"math/big"
	"testing"

	"toller/api"
	"toller/bucket"
	"toller/leaky"
)

const end = 1<<64 - 1

// edges are numbers at which a sum, a difference, or the top bit changes.
func edges() []uint64 {
	return []uint64{0, 1, 2, 5, 8, 10, 1 << 32, 1 << 62, 1<<63 - 1, 1 << 63, end - 8, end - 1, end}
}

// kinds are the three kernels', none's, and others that no kernel has.
func kinds() []uint8 {
	return []uint8{api.Gcra, 0, api.Bucket, api.Leaky, 4, 255}
}

// mixed are n numbers of many lengths, always the same ones.
func mixed(n int) []uint64 {
	out := make([]uint64, n)
	x := uint64(88172645463325252)
	for i := range out {
		x ^= x << 13
		x ^= x >> 7
		x ^= x << 17
		out[i] = x >> (x % 64)
	}
	return out
}

func whole(a uint64) *big.Int {
	return new(big.Int).SetUint64(a)
}

// sum is a and b together, or the end, if they are above.
func sum(a, b *big.Int) uint64 {
	n := new(big.Int).Add(a, b)
	if !n.IsUint64() {
		return end
	}
	return n.Uint64()
}

// wantFill is the chapter's words on Fill, by big numbers.
func wantFill(s api.State, now uint64) uint64 {
	d := new(big.Int).Sub(whole(s.A), whole(now))
	if d.Sign() < 0 {
		return 0
	}
	return d.Uint64()
}

// wantDecide is the chapter's words on Decide, by big numbers.
func wantDecide(s api.State, now, cap, w uint64) (api.State, bool) {
	then := whole(now)
	if whole(s.A).Cmp(then) > 0 {
		then = whole(s.A)
	}
	n := new(big.Int).Sub(then, whole(now))
	if n.Add(n, whole(w)).Cmp(whole(cap)) > 0 {
		return s, false
	}
	return api.State{Kind: 1, A: sum(then, whole(w))}, true
}

func checkOf(t *testing.T, now, cap, fill, a uint64) {
	t.Helper()
	want := api.State{Kind: 1, A: a}
	if got := Of(now, cap, fill); got != want {
		t.Errorf("Of(%d, %d, %d) = %v, want %v", now, cap, fill, got, want)
	}
}

func checkFill(t *testing.T, s api.State, now, cap, want uint64) {
	t.Helper()
	if got := Fill(s, now, cap); got != want {
		t.Errorf("Fill(%v, %d, %d) = %d, want %d", s, now, cap, got, want)
	}
}

// checkIn: w comes in, and the next one would come at a.
func checkIn(t *testing.T, s api.State, now, cap, w, a uint64) {
	t.Helper()
	want := api.State{Kind: 1, A: a}
	if got, is := Decide(s, now, cap, w); got != want || !is {
		t.Errorf("Decide(%v, %d, %d, %d) = %v, %v, want %v, true", s, now, cap, w, got, is, want)
	}
}

// checkOut: w doesn't come in, and the state stays as it was.
func checkOut(t *testing.T, s api.State, now, cap, w uint64) {
	t.Helper()
	if got, is := Decide(s, now, cap, w); got != s || is {
		t.Errorf("Decide(%v, %d, %d, %d) = %v, %v, want %v, false", s, now, cap, w, got, is, s)
	}
}

// checkByBigNumbers holds all that is told of a state against the chapter's
// words.
func checkByBigNumbers(t *testing.T, s api.State, now, cap, w uint64) {
	t.Helper()
	checkFill(t, s, now, cap, wantFill(s, now))
	want, wantIs := wantDecide(s, now, cap, w)
	if got, is := Decide(s, now, cap, w); got != want || is != wantIs {
		t.Errorf("Decide(%v, %d, %d, %d) = %v, %v, want %v, %v", s, now, cap, w, got, is, want, wantIs)
	}
}

func TestExamples(t *testing.T) {
	checkOf(t, 5, 10, 8, 13)
	s := Of(5, 10, 8)
	checkFill(t, s, 8, 10, 5)
	checkOut(t, s, 8, 10, 6)
}

func TestOf(t *testing.T) {
	rows := []struct{ now, cap, fill, a uint64 }{
		{5, 10, 0, 5},
		{5, 10, 1, 6},
		{5, 10, 10, 15},
		// The cap is not looked at.
		{5, 10, 11, 16},
		{5, 0, 0, 5},
		{5, 0, 8, 13},
		{5, end, 8, 13},
		{0, 10, 0, 0},
		{0, 10, 8, 8},
		{0, 0, 0, 0},
		// Just 2^64 - 1 together, one less, and one and more above.
		{end - 8, 10, 7, end - 1},
		{end - 8, 10, 8, end},
		{end - 8, 10, 9, end},
		{end - 8, 10, end, end},
		{8, 10, end - 8, end},
		{9, 10, end - 8, end},
		{end, 10, 0, end},
		{end, 10, 1, end},
		{0, 10, end, end},
		{1, 10, end, end},
		{end, end, end, end},
		{1 << 63, 10, 1<<63 - 1, end},
		{1 << 63, 10, 1 << 63, end},
	}
	for _, x := range rows {
		checkOf(t, x.now, x.cap, x.fill, x.a)
	}
}

func TestOfByBigNumbers(t *testing.T) {
	for _, now := range edges() {
		for _, cap := range edges() {
			for _, fill := range edges() {
				checkOf(t, now, cap, fill, sum(whole(now), whole(fill)))
				// What a schedule is made of is what it tells, but for what
				// is above the end of time.
				checkFill(t, Of(now, cap, fill), now, cap, min(fill, end-now))
			}
		}
	}
}

func TestFill(t *testing.T) {
	rows := []struct{ a, now, cap, want uint64 }{
		{13, 5, 10, 8},
		{13, 6, 10, 7},
		{13, 8, 10, 5},
		// A just a nanosecond later than now, just now, and ahead of it.
		{13, 12, 10, 1},
		{13, 13, 10, 0},
		{13, 14, 10, 0},
		{13, 1 << 40, 10, 0},
		{13, end, 10, 0},
		// Above the cap: it is not looked at.
		{13, 2, 10, 11},
		{13, 0, 10, 13},
		{13, 8, 0, 5},
		{13, 8, 4, 5},
		{13, 8, end, 5},
		{0, 0, 10, 0},
		{0, 1, 10, 0},
		{0, end, 10, 0},
		{1, 0, 10, 1},
		{end, 0, 10, end},
		{end, 0, end, end},
		{end, 1, 10, end - 1},
		{end, end - 1, 10, 1},
		{end, end, 10, 0},
		{end, end, end, 0},
		{end - 1, end, 10, 0},
		{1 << 63, 1<<63 - 1, 10, 1},
		{1<<63 - 1, 1 << 63, 10, 0},
	}
	for _, x := range rows {
		checkFill(t, api.State{Kind: api.Gcra, A: x.a}, x.now, x.cap, x.want)
	}
}

func TestDecideUpToTheCap(t *testing.T) {
	s := api.State{Kind: api.Gcra, A: 13}
	// At 8 it is 5 full: 5 may come in, and 6 are one too many.
	checkIn(t, s, 8, 10, 1, 14)
	checkIn(t, s, 8, 10, 4, 17)
	checkIn(t, s, 8, 10, 5, 18)
	checkOut(t, s, 8, 10, 6)
	checkOut(t, s, 8, 10, end)
	// The same by other caps: just as much, and one less.
	checkIn(t, s, 8, 11, 6, 19)
	checkIn(t, s, 8, end, 6, 19)
	checkOut(t, s, 8, 9, 5)
	// And at other times: a nanosecond later, and one ahead.
	checkIn(t, s, 9, 10, 6, 19)
	checkOut(t, s, 7, 10, 5)
}

// TestWhoComesLate: an A that is ahead of now is as now.
func TestWhoComesLate(t *testing.T) {
	s := api.State{Kind: api.Gcra, A: 13}
	// A nanosecond ahead of A, just then, and later.
	checkIn(t, s, 12, 10, 9, 22)
	checkOut(t, s, 12, 10, 10)
	checkIn(t, s, 13, 10, 10, 23)
	checkOut(t, s, 13, 10, 11)
	checkIn(t, s, 14, 10, 10, 24)
	checkOut(t, s, 14, 10, 11)
	checkIn(t, s, 14, 10, 3, 17)
	checkIn(t, s, 1000, 10, 10, 1010)
	checkOut(t, s, 1000, 10, 11)
	// However late he comes is as if he came now.
	for _, now := range edges() {
		for _, a := range edges() {
			if a > now {
				continue
			}
			for _, cap := range edges() {
				for _, w := range edges() {
					late, is := Decide(api.State{Kind: api.Gcra, A: a}, now, cap, w)
					just, want := Decide(api.State{Kind: api.Gcra, A: now}, now, cap, w)
					if is != want || is && late != just {
						t.Errorf("at %d, cap %d, w %d: late %v, %v, just %v, %v", now, cap, w, late, is, just, want)
					}
				}
			}
		}
	}
}

// TestDecideAboveTheCap: what is fuller than the cap lets nothing in, not even
// a w of 0, till it is down to it.
func TestDecideAboveTheCap(t *testing.T) {
	s := Of(5, 10, 18)
	checkFill(t, s, 5, 10, 18)
	for _, now := range []uint64{0, 5, 11, 12} {
		checkOut(t, s, now, 10, 0)
		checkOut(t, s, now, 10, 1)
		checkOut(t, s, now, 10, end)
	}
	checkIn(t, s, 13, 10, 0, 23)
	checkOut(t, s, 13, 10, 1)
	checkIn(t, s, 14, 10, 1, 24)
}

// TestDecideOfNothing: a w of 0 comes in unless the state is above its cap,
// and moves the schedule on to now where it lay behind.
func TestDecideOfNothing(t *testing.T) {
	s := api.State{Kind: api.Gcra, A: 13}
	checkIn(t, s, 8, 10, 0, 13)
	checkIn(t, s, 8, 5, 0, 13)
	checkOut(t, s, 8, 4, 0)
	checkIn(t, s, 12, 10, 0, 13)
	checkIn(t, s, 13, 10, 0, 13)
	checkIn(t, s, 14, 10, 0, 14)
	checkIn(t, s, end, 10, 0, end)
	checkIn(t, api.State{}, 0, 0, 0, 0)
	checkIn(t, api.State{}, 7, 0, 0, 7)
	checkIn(t, api.State{A: end}, 0, end, 0, end)
	checkOut(t, api.State{A: end}, 0, end-1, 0)
}

func TestDecideOfCapNought(t *testing.T) {
	s := api.State{Kind: api.Gcra, A: 13}
	checkOut(t, s, 12, 0, 0)
	checkOut(t, s, 12, 0, 1)
	for _, now := range []uint64{13, 14, 1 << 63, end} {
		checkIn(t, s, now, 0, 0, now)
		checkOut(t, s, now, 0, 1)
		checkOut(t, s, now, 0, end)
	}
}

// TestDecideIsWhole: more than 2^64 - 1 together is more than any cap, and
// neither what the sum goes round to nor where it stops is held against it.
func TestDecideIsWhole(t *testing.T) {
	s := api.State{Kind: api.Gcra, A: 13}
	checkIn(t, s, 8, end, end-5, end)
	checkOut(t, s, 8, end, end-4)
	checkOut(t, s, 8, end, end-3)
	checkOut(t, s, 8, end, end)
	checkOut(t, s, 8, 10, end-4)
	checkIn(t, s, 8, end-1, end-6, end)
	checkOut(t, s, 8, end-1, end-5)
	full := api.State{Kind: api.Gcra, A: end}
	checkIn(t, full, 0, end, 0, end)
	checkOut(t, full, 0, end, 1)
	checkOut(t, full, 0, end, 2)
	checkOut(t, full, 0, end, end)
	checkIn(t, full, 1, end, 1, end)
	checkOut(t, full, 1, end, 2)
	half := api.State{Kind: api.Gcra, A: 1 << 63}
	checkIn(t, half, 0, end, 1<<63-1, end)
	checkOut(t, half, 0, end, 1<<63)
	checkIn(t, half, 1, end, 1<<63, end)
}

// TestDecideAtTheEndOfTime: what is kept of THEN and w stops at the end, and
// doesn't go round to a schedule that lies far behind.
func TestDecideAtTheEndOfTime(t *testing.T) {
	s := api.State{Kind: api.Gcra, A: end - 8}
	checkIn(t, s, end-10, 10, 7, end-1)
	checkIn(t, s, end-10, 10, 8, end)
	checkOut(t, s, end-10, 10, 9)
	checkIn(t, s, end-10, 20, 9, end)
	checkIn(t, s, end-10, 20, 18, end)
	checkOut(t, s, end-10, 20, 19)
	// The same by a THEN that is now.
	checkIn(t, s, end-8, 10, 7, end-1)
	checkIn(t, s, end-8, 10, 8, end)
	checkIn(t, s, end-8, 10, 9, end)
	checkIn(t, s, end-4, 10, 10, end)
	checkOut(t, s, end-4, 10, 11)
	checkIn(t, s, end, 10, 0, end)
	checkIn(t, s, end, 10, 10, end)
	checkOut(t, s, end, 10, 11)
	last := api.State{Kind: api.Gcra, A: end}
	checkIn(t, last, end, end, end, end)
	checkIn(t, last, end, end-1, end-1, end)
	checkOut(t, last, end, end-1, end)
	checkIn(t, last, end, 0, 0, end)
	checkIn(t, api.State{}, end, end, end, end)
	checkIn(t, api.State{}, 0, end, end, end)
	checkIn(t, api.State{}, 1, end, end, end)
}

// TestKindAndBAreNotLookedAt: of whatever Kind and B a state is it is read as
// a schedule; where something comes in it is one, and where nothing does it
// stays as it was.
func TestKindAndBAreNotLookedAt(t *testing.T) {
	for _, k := range kinds() {
		for _, b := range edges() {
			s := api.State{Kind: k, A: 13, B: b}
			checkFill(t, s, 8, 10, 5)
			checkFill(t, s, 13, 10, 0)
			checkFill(t, s, 14, 10, 0)
			checkIn(t, s, 8, 10, 5, 18)
			checkIn(t, s, 8, 10, 0, 13)
			checkIn(t, s, 14, 10, 10, 24)
			checkIn(t, s, 14, 10, 0, 14)
			checkOut(t, s, 8, 10, 6)
			checkOut(t, s, 2, 10, 0)
			// An A that is ahead of now stays so where nothing comes in.
			checkOut(t, s, 14, 10, 11)
			checkOut(t, s, end, 10, end)
			checkOut(t, api.State{Kind: k, A: end, B: b}, 0, 10, 0)
		}
	}
}

// TestJustThen: who is d above the cap comes in d nanoseconds later, and not a
// nanosecond ahead.
func TestJustThen(t *testing.T) {
	const cap, at = 10, 5
	for fill := uint64(1); fill <= cap; fill++ {
		for w := cap - fill + 1; w <= cap; w++ {
			s := Of(at, cap, fill)
			d := fill + w - cap
			checkOut(t, s, at, cap, w)
			checkOut(t, s, at+d-1, cap, w)
			checkIn(t, s, at+d, cap, w, at+d+cap)
		}
	}
}

// TestNanosecondByNanosecond: what is counted down and up by hand is how full
// the schedule is, and what may come in.
func TestNanosecondByNanosecond(t *testing.T) {
	for cap := range uint64(12) {
		s, count := Of(0, cap, cap), cap
		for now, w := range mixed(3000) {
			if now > 0 && count > 0 {
				count--
			}
			checkFill(t, s, uint64(now), cap, count)
			w %= 5
			next, is := Decide(s, uint64(now), cap, w)
			if is != (count+w <= cap) {
				t.Fatalf("cap %d, at %d: %d above %d is %v", cap, now, w, count, is)
			}
			if is {
				count += w
			}
			s = next
		}
	}
}

// TestAsTheOthers: a schedule, a meter and a bucket that begin alike, up to
// the cap, tell the same Fill and decide the same while the clock doesn't go
// back, and nothing lies above the end of time.
func TestAsTheOthers(t *testing.T) {
	n := mixed(20000)
	for _, cap := range []uint64{0, 1, 10, 1000, 1 << 40, 1 << 62} {
		g, m, b := Of(0, cap, cap/3), leaky.Of(0, cap, cap/3), bucket.Of(0, cap, cap/3)
		now := uint64(0)
		for i := 0; i+2 <= len(n) && now < 1<<62; i += 2 {
			now += n[i] >> 16
			w := n[i+1] % (cap/2 + 2)
			f := Fill(g, now, cap)
			if fm, fb := leaky.Fill(m, now, cap), bucket.Fill(b, now, cap); f != fm || f != fb {
				t.Fatalf("cap %d, at %d: Fill %d, a meter's %d, a bucket's %d", cap, now, f, fm, fb)
			}
			var inG, inM, inB bool
			g, inG = Decide(g, now, cap, w)
			m, inM = leaky.Decide(m, now, cap, w)
			b, inB = bucket.Decide(b, now, cap, w)
			if inG != inM || inG != inB {
				t.Fatalf("cap %d, at %d: %d is %v, by a meter %v, by a bucket %v", cap, now, w, inG, inM, inB)
			}
		}
	}
}

func TestEdgesByBigNumbers(t *testing.T) {
	for i, a := range edges() {
		for j, b := range edges() {
			k := kinds()[(i+j)%len(kinds())]
			for _, now := range edges() {
				for _, cap := range edges() {
					for _, w := range edges() {
						checkByBigNumbers(t, api.State{Kind: k, A: a, B: b}, now, cap, w)
					}
				}
			}
		}
	}
}

func TestMixedByBigNumbers(t *testing.T) {
	n := mixed(50000)
	for i := 0; i+5 <= len(n); i += 5 {
		s := api.State{Kind: uint8(n[i]), A: n[i], B: n[i+1]}
		now, cap, w := n[i+2], n[i+3], n[i+4]
		checkByBigNumbers(t, s, now, cap, w)
		// Just then, and a nanosecond to each side: where these go round they
		// are other times, other caps and other weights.
		for d := range uint64(3) {
			checkByBigNumbers(t, s, s.A+d-1, cap, w)
			checkByBigNumbers(t, s, s.A+w-cap+d-1, cap, w)
			checkByBigNumbers(t, s, now, Fill(s, now, cap)+w+d-1, w)
			checkByBigNumbers(t, s, now, cap, cap-Fill(s, now, cap)+d-1)
		}
	}
}
