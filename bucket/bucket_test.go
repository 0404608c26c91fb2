package bucket

import (
	"math/big"
	"testing"

	"toller/api"
	"toller/leaky"
)

const end = 1<<64 - 1

// edges are numbers at which a sum, a difference, or the top bit changes.
func edges() []uint64 {
	return []uint64{0, 1, 2, 5, 8, 10, 1 << 32, 1 << 62, 1<<63 - 1, 1 << 63, end - 8, end - 1, end}
}

// kinds are the three kernels', none's, and others that no kernel has.
func kinds() []uint8 {
	return []uint8{api.Bucket, 0, api.Gcra, api.Leaky, 4, 255}
}

// mixed are n numbers of many lengths, always the same ones.
func mixed(n int) []uint64 {
	out := make([]uint64, n)
	x := uint64(88172645463325252)
	for i := range out {
		x ^= x << 13
		x ^= x >> 7
		x ^= x << 17
		out[i] = x >> (x % 64)
	}
	return out
}

func whole(a uint64) *big.Int {
	return new(big.Int).SetUint64(a)
}

// less is a less b, or 0, if b is above a.
func less(a, b *big.Int) *big.Int {
	d := new(big.Int).Sub(a, b)
	if d.Sign() < 0 {
		return new(big.Int)
	}
	return d
}

// wantTokens is the chapter's words on TOKENS, by big numbers.
func wantTokens(s api.State, now, cap uint64) *big.Int {
	n := new(big.Int).Add(whole(s.A), less(whole(now), whole(s.B)))
	if n.Cmp(whole(cap)) > 0 {
		return whole(cap)
	}
	return n
}

// wantFill is the chapter's words on Fill, by big numbers.
func wantFill(s api.State, now, cap uint64) *big.Int {
	return new(big.Int).Sub(whole(cap), wantTokens(s, now, cap))
}

// wantDecide is the chapter's words on Decide, by big numbers.
func wantDecide(s api.State, now, cap, w uint64) (api.State, bool) {
	n := wantTokens(s, now, cap)
	if whole(w).Cmp(n) > 0 {
		return s, false
	}
	return api.State{Kind: 2, A: n.Sub(n, whole(w)).Uint64(), B: now}, true
}

func checkOf(t *testing.T, now, cap, fill, tokens uint64) {
	t.Helper()
	want := api.State{Kind: 2, A: tokens, B: now}
	if got := Of(now, cap, fill); got != want {
		t.Errorf("Of(%d, %d, %d) = %v, want %v", now, cap, fill, got, want)
	}
}

func checkFill(t *testing.T, s api.State, now, cap, want uint64) {
	t.Helper()
	if got := Fill(s, now, cap); got != want {
		t.Errorf("Fill(%v, %d, %d) = %d, want %d", s, now, cap, got, want)
	}
}

// checkIn: w comes in, and so many tokens are left at now.
func checkIn(t *testing.T, s api.State, now, cap, w, left uint64) {
	t.Helper()
	want := api.State{Kind: 2, A: left, B: now}
	if got, is := Decide(s, now, cap, w); got != want || !is {
		t.Errorf("Decide(%v, %d, %d, %d) = %v, %v, want %v, true", s, now, cap, w, got, is, want)
	}
}

// checkOut: w doesn't come in, and the state stays as it was.
func checkOut(t *testing.T, s api.State, now, cap, w uint64) {
	t.Helper()
	if got, is := Decide(s, now, cap, w); got != s || is {
		t.Errorf("Decide(%v, %d, %d, %d) = %v, %v, want %v, false", s, now, cap, w, got, is, s)
	}
}

// checkByBigNumbers holds all that is told of a state against the chapter's
// words.
func checkByBigNumbers(t *testing.T, s api.State, now, cap, w uint64) {
	t.Helper()
	checkFill(t, s, now, cap, wantFill(s, now, cap).Uint64())
	want, wantIs := wantDecide(s, now, cap, w)
	if got, is := Decide(s, now, cap, w); got != want || is != wantIs {
		t.Errorf("Decide(%v, %d, %d, %d) = %v, %v, want %v, %v", s, now, cap, w, got, is, want, wantIs)
	}
}

func TestExamples(t *testing.T) {
	checkOf(t, 5, 10, 8, 2)
	s := Of(5, 10, 8)
	checkFill(t, s, 8, 10, 5)
	checkOut(t, s, 8, 10, 6)
}

func TestOf(t *testing.T) {
	rows := []struct{ now, cap, fill, tokens uint64 }{
		{5, 10, 0, 10},
		{5, 10, 1, 9},
		{5, 10, 9, 1},
		{5, 10, 10, 0},
		// What is fuller than cap has no tokens, and not some that go round.
		{5, 10, 11, 0},
		{5, 10, end, 0},
		{5, 0, 0, 0},
		{5, 0, 1, 0},
		{5, 0, end, 0},
		{0, 10, 8, 2},
		{end, 10, 8, 2},
		{5, end, 0, end},
		{5, end, 1, end - 1},
		{5, end, end - 1, 1},
		{5, end, end, 0},
		{5, end - 1, end, 0},
		{end, end, end, 0},
		{end, end, 0, end},
		{5, 1 << 63, 1<<63 - 1, 1},
		{5, 1<<63 - 1, 1 << 63, 0},
	}
	for _, x := range rows {
		checkOf(t, x.now, x.cap, x.fill, x.tokens)
	}
}

func TestOfByBigNumbers(t *testing.T) {
	for _, now := range edges() {
		for _, cap := range edges() {
			for _, fill := range edges() {
				checkOf(t, now, cap, fill, less(whole(cap), whole(fill)).Uint64())
				// What a bucket is made of is what it tells, up to its cap.
				checkFill(t, Of(now, cap, fill), now, cap, min(fill, cap))
			}
		}
	}
}

func TestFill(t *testing.T) {
	rows := []struct{ a, b, now, cap, want uint64 }{
		{2, 5, 5, 10, 8},
		{2, 5, 6, 10, 7},
		{2, 5, 8, 10, 5},
		// All tokens there just then, a nanosecond ahead of it, and from then
		// on.
		{2, 5, 12, 10, 1},
		{2, 5, 13, 10, 0},
		{2, 5, 14, 10, 0},
		{2, 5, 1 << 40, 10, 0},
		{2, 5, end, 10, 0},
		{0, 5, 5, 10, 10},
		{0, 5, 6, 10, 9},
		{0, 5, 14, 10, 1},
		{0, 5, 15, 10, 0},
		{10, 5, 5, 10, 0},
		{10, 5, 6, 10, 0},
		{10, 5, end, 10, 0},
		// Ahead of B none has come in, and none is gone.
		{2, 5, 4, 10, 8},
		{2, 5, 0, 10, 8},
		{0, 5, 0, 10, 10},
		{10, 5, 0, 10, 0},
		{2, end, 0, 10, 8},
		{2, end, end - 1, 10, 8},
		{2, end, end, 10, 8},
		{end, end, 0, end, 0},
		// More tokens than the cap are as many as the cap.
		{11, 5, 5, 10, 0},
		{11, 5, 4, 10, 0},
		{11, 5, 6, 10, 0},
		{end, 5, 5, 10, 0},
		{end, 5, 6, 10, 0},
		{end, 5, 17, 10, 0},
		// Nothing is ever in a bucket of no cap.
		{0, 5, 5, 0, 0},
		{0, 5, 4, 0, 0},
		{0, 5, 6, 0, 0},
		{2, 5, 5, 0, 0},
		{end, 0, end, 0, 0},
		// Just 2^64 - 1 together, one less, and one and more above.
		{1, 0, end - 2, end, 1},
		{1, 0, end - 1, end, 0},
		{1, 0, end, end, 0},
		{2, 0, end, end, 0},
		{end, 0, 1, end, 0},
		{end, 0, 2, end, 0},
		{end, 0, end, end, 0},
		{1, 0, end, 10, 0},
		{1 << 63, 0, 1 << 63, end, 0},
		{1 << 63, 0, 1<<63 - 1, end, 0},
		{1 << 63, 0, 1<<63 - 2, end, 1},
		{0, 0, 0, end, end},
		{0, 0, 1, end, end - 1},
		{0, 0, end, end, 0},
		{0, 0, end - 1, end, 1},
		{0, 1, end, end, 1},
		{0, end, 0, end, end},
	}
	for _, x := range rows {
		checkFill(t, api.State{Kind: api.Bucket, A: x.a, B: x.b}, x.now, x.cap, x.want)
	}
}

func TestDecideOfAsManyAsThereAre(t *testing.T) {
	s := api.State{Kind: api.Bucket, A: 2, B: 5}
	// At 8 there are 5 tokens: 5 may come in, and 6 are one too many.
	checkIn(t, s, 8, 10, 1, 4)
	checkIn(t, s, 8, 10, 4, 1)
	checkIn(t, s, 8, 10, 5, 0)
	checkOut(t, s, 8, 10, 6)
	checkOut(t, s, 8, 10, end)
	// All are there just then, and a nanosecond ahead of it one is not.
	checkIn(t, s, 12, 10, 9, 0)
	checkOut(t, s, 12, 10, 10)
	checkIn(t, s, 13, 10, 10, 0)
	checkIn(t, s, 14, 10, 10, 0)
	checkIn(t, s, 14, 10, 9, 1)
	checkOut(t, s, 13, 10, 11)
	checkOut(t, s, 14, 10, 11)
	checkOut(t, s, end, 10, 11)
	checkIn(t, s, end, 10, 10, 0)
}

// TestDecideAheadOfItsTime: none has come in, and what is left is kept as of
// now.
func TestDecideAheadOfItsTime(t *testing.T) {
	s := api.State{Kind: api.Bucket, A: 2, B: 5}
	checkIn(t, s, 4, 10, 2, 0)
	checkOut(t, s, 4, 10, 3)
	checkIn(t, s, 0, 10, 1, 1)
	checkOut(t, s, 0, 10, 3)
	late := api.State{Kind: api.Bucket, A: 2, B: end}
	checkIn(t, late, 0, 10, 2, 0)
	checkOut(t, late, 0, 10, 3)
	checkIn(t, late, end-1, 10, 1, 1)
}

// TestDecideAboveTheCap: more tokens than the cap are as many as the cap, and
// no more than these are kept.
func TestDecideAboveTheCap(t *testing.T) {
	for _, a := range []uint64{10, 11, 1 << 63, end} {
		s := api.State{Kind: api.Bucket, A: a, B: 5}
		for _, now := range []uint64{0, 4, 5, 6, 1 << 40, end} {
			checkIn(t, s, now, 10, 0, 10)
			checkIn(t, s, now, 10, 3, 7)
			checkIn(t, s, now, 10, 10, 0)
			checkOut(t, s, now, 10, 11)
		}
	}
}

// TestDecideOfNothing: a w of 0 always comes in, and what is kept is as of
// now.
func TestDecideOfNothing(t *testing.T) {
	s := api.State{Kind: api.Bucket, A: 2, B: 5}
	checkIn(t, s, 5, 10, 0, 2)
	checkIn(t, s, 4, 10, 0, 2)
	checkIn(t, s, 8, 10, 0, 5)
	checkIn(t, s, 13, 10, 0, 10)
	checkIn(t, s, 14, 10, 0, 10)
	checkIn(t, s, 5, 1, 0, 1)
	checkIn(t, api.State{Kind: api.Bucket, A: 0, B: 5}, 5, 10, 0, 0)
	checkIn(t, api.State{}, 0, 0, 0, 0)
}

func TestDecideOfCapNought(t *testing.T) {
	for _, a := range []uint64{0, 1, end} {
		s := api.State{Kind: api.Bucket, A: a, B: 5}
		for _, now := range []uint64{0, 5, 6, end} {
			checkIn(t, s, now, 0, 0, 0)
			checkOut(t, s, now, 0, 1)
			checkOut(t, s, now, 0, end)
		}
	}
}

// TestDecideAtTheEnd: more than 2^64 - 1 together is more than any cap, and
// what the sum goes round to is not what there is.
func TestDecideAtTheEnd(t *testing.T) {
	s := api.State{Kind: api.Bucket, A: 2, B: 0}
	checkIn(t, s, end-2, end, end, 0)
	checkIn(t, s, end-1, end, end, 0)
	checkIn(t, s, end, end, end, 0)
	checkIn(t, s, end, end, 1, end-1)
	checkOut(t, s, end-3, end, end)
	checkIn(t, s, end-3, end, end-1, 0)
	checkIn(t, s, end, 10, 10, 0)
	checkOut(t, s, end, 10, 11)
	full := api.State{Kind: api.Bucket, A: end, B: 0}
	checkIn(t, full, 0, end, end, 0)
	checkIn(t, full, 1, end, end, 0)
	checkIn(t, full, end, end, end, 0)
	checkIn(t, full, end, end, 0, end)
	checkOut(t, full, end, end-1, end)
	checkIn(t, full, end, end-1, end-1, 0)
	late := api.State{Kind: api.Bucket, A: end, B: end}
	checkIn(t, late, 0, end, end, 0)
	checkIn(t, late, end, end, end, 0)
	empty := api.State{Kind: api.Bucket, A: 0, B: end}
	checkOut(t, empty, end, end, 1)
	checkOut(t, empty, 0, end, 1)
	half := api.State{Kind: api.Bucket, A: 1 << 63, B: 0}
	checkIn(t, half, 1<<63, end, end, 0)
	checkIn(t, half, 1<<63-1, end, end, 0)
	checkOut(t, half, 1<<63-2, end, end)
}

// TestKindIsNotLookedAt: of whatever Kind a state is it is read as a bucket;
// where something comes in it is one, and where nothing does it stays.
func TestKindIsNotLookedAt(t *testing.T) {
	for _, k := range kinds() {
		s := api.State{Kind: k, A: 2, B: 5}
		checkFill(t, s, 8, 10, 5)
		checkFill(t, s, 13, 10, 0)
		checkIn(t, s, 8, 10, 5, 0)
		checkIn(t, s, 8, 10, 0, 5)
		checkOut(t, s, 8, 10, 6)
		checkOut(t, s, 4, 10, 3)
		// Numbers that are above cap stay so where nothing comes in.
		checkOut(t, api.State{Kind: k, A: end, B: end}, 0, 10, 11)
		checkOut(t, api.State{Kind: k, A: 11, B: 5}, end, 10, end)
	}
}

// TestWhatIsFullStaysFull: from when all tokens are there on, they are, at
// whatever time and after however many w of 0.
func TestWhatIsFullStaysFull(t *testing.T) {
	for _, cap := range edges() {
		for _, at := range edges() {
			s := Of(at, cap, 0)
			for _, now := range edges() {
				checkFill(t, s, now, cap, 0)
				checkIn(t, s, now, cap, 0, cap)
				checkIn(t, s, now, cap, cap, 0)
				s, _ = Decide(s, now, cap, 0)
			}
		}
	}
}

// TestOneComesInEachNanosecond goes on nanosecond by nanosecond: tokens that
// are counted up by hand are what the bucket has, and what may come in.
func TestOneComesInEachNanosecond(t *testing.T) {
	for cap := range uint64(12) {
		s, count := Of(0, cap, cap), uint64(0)
		for now, w := range mixed(3000) {
			if now > 0 && count < cap {
				count++
			}
			checkFill(t, s, uint64(now), cap, cap-count)
			w %= 5
			next, is := Decide(s, uint64(now), cap, w)
			if is != (w <= count) {
				t.Fatalf("cap %d, at %d: %d of %d is %v", cap, now, w, count, is)
			}
			if is {
				count -= w
			}
			s = next
		}
	}
}

// TestJustThen: who lacks d tokens comes in d nanoseconds later, and not a
// nanosecond ahead.
func TestJustThen(t *testing.T) {
	const cap, at = 10, 5
	for fill := uint64(1); fill <= cap; fill++ {
		for w := cap - fill + 1; w <= cap; w++ {
			s := Of(at, cap, fill)
			d := fill + w - cap
			checkOut(t, s, at, cap, w)
			checkOut(t, s, at+d-1, cap, w)
			checkIn(t, s, at+d, cap, w, 0)
		}
	}
}

// TestAsAMeter: a bucket and a meter that begin alike, up to the cap, tell the
// same Fill and decide the same while the clock doesn't go back.
func TestAsAMeter(t *testing.T) {
	n := mixed(20000)
	for _, cap := range []uint64{0, 1, 10, 1000, 1 << 62, end} {
		fill := cap / 3
		b, m, now := Of(0, cap, fill), leaky.Of(0, cap, fill), uint64(0)
		for i := 0; i+2 <= len(n) && now < 1<<62; i += 2 {
			now += n[i] >> 16
			w := n[i+1] % (cap/2 + 2)
			if f := leaky.Fill(m, now, cap); Fill(b, now, cap) != f {
				t.Fatalf("cap %d, at %d: Fill %d, a meter's %d", cap, now, Fill(b, now, cap), f)
			}
			var inB, inM bool
			b, inB = Decide(b, now, cap, w)
			m, inM = leaky.Decide(m, now, cap, w)
			if inB != inM {
				t.Fatalf("cap %d, at %d: %d is %v, by a meter %v", cap, now, w, inB, inM)
			}
		}
	}
}

func TestEdgesByBigNumbers(t *testing.T) {
	for i, a := range edges() {
		for _, b := range edges() {
			for _, now := range edges() {
				for _, cap := range edges() {
					for _, w := range edges() {
						k := kinds()[i%len(kinds())]
						checkByBigNumbers(t, api.State{Kind: k, A: a, B: b}, now, cap, w)
					}
				}
			}
		}
	}
}

func TestMixedByBigNumbers(t *testing.T) {
	n := mixed(50000)
	for i := 0; i+5 <= len(n); i += 5 {
		s := api.State{Kind: uint8(n[i]), A: n[i], B: n[i+1]}
		now, cap, w := n[i+2], n[i+3], n[i+4]
		checkByBigNumbers(t, s, now, cap, w)
		// Just then, and a nanosecond to each side: where these go round they
		// are other times, other caps and other weights.
		for d := range uint64(3) {
			checkByBigNumbers(t, s, s.B+cap-s.A+d-1, cap, w)
			checkByBigNumbers(t, s, s.B+d-1, cap, w)
			checkByBigNumbers(t, s, now, s.A+now-s.B+d-1, w)
			checkByBigNumbers(t, s, now, cap, cap-Fill(s, now, cap)+d-1)
		}
	}
}
