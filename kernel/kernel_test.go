package kernel

import (
	"math/big"
	"testing"

	"toller/api"
)

const end = 1<<64 - 1

// edges are numbers at which a sum, a difference, or the top bit changes.
func edges() []uint64 {
	return []uint64{0, 1, 2, 5, 8, 10, 1 << 62, 1<<63 - 1, 1 << 63, end - 8, end - 1, end}
}

// three are the kinds that are.
func three() []uint8 {
	return []uint8{api.Gcra, api.Bucket, api.Leaky}
}

// none are kinds that no kernel has, on both sides of those that are.
func none() []uint8 {
	return []uint8{0, 4, 255}
}

func kinds() []uint8 {
	return append(three(), none()...)
}

// mixed are n numbers of many lengths, always the same ones.
func mixed(n int) []uint64 {
	out := make([]uint64, n)
	x := uint64(88172645463325252)
	for i := range out {
		x ^= x << 13
		x ^= x >> 7
		x ^= x << 17
		out[i] = x >> (x % 64)
	}
	return out
}

func whole(a uint64) *big.Int {
	return new(big.Int).SetUint64(a)
}

func together(a, b *big.Int) *big.Int {
	return new(big.Int).Add(a, b)
}

// less is a less b, or 0, if b is above a.
func less(a, b *big.Int) *big.Int {
	d := new(big.Int).Sub(a, b)
	if d.Sign() < 0 {
		return new(big.Int)
	}
	return d
}

// stopped is n, or the end, if it is above.
func stopped(n *big.Int) uint64 {
	if !n.IsUint64() {
		return end
	}
	return n.Uint64()
}

// wantTokens is chapter 5's words on TOKENS, by big numbers.
func wantTokens(s api.State, now, cap uint64) *big.Int {
	n := together(whole(s.A), less(whole(now), whole(s.B)))
	if n.Cmp(whole(cap)) > 0 {
		return whole(cap)
	}
	return n
}

// wantFill is the words of chapters 4 to 6 on Fill, by big numbers.
func wantFill(s api.State, now, cap uint64) *big.Int {
	switch s.Kind {
	case 1:
		return less(whole(s.A), whole(now))
	case 2:
		return less(whole(cap), wantTokens(s, now, cap))
	case 3:
		return less(whole(s.A), less(whole(now), whole(s.B)))
	}
	return new(big.Int)
}

// wantOf is the words of chapters 4 to 6 on Of, by big numbers.
func wantOf(kind uint8, now, cap, fill uint64) (api.State, api.Errno) {
	switch kind {
	case 1:
		return api.State{Kind: 1, A: stopped(together(whole(now), whole(fill)))}, 0
	case 2:
		return api.State{Kind: 2, A: less(whole(cap), whole(fill)).Uint64(), B: now}, 0
	case 3:
		return api.State{Kind: 3, A: fill, B: now}, 0
	}
	return api.State{}, 27
}

// wantDecide is the words of chapters 4 to 6 on Decide, by big numbers.
func wantDecide(s api.State, now, cap, w uint64) (api.State, bool) {
	both := together(wantFill(s, now, cap), whole(w))
	if both.Cmp(whole(cap)) > 0 {
		return s, false
	}
	switch s.Kind {
	case 1:
		return api.State{Kind: 1, A: stopped(together(whole(max(s.A, now)), whole(w)))}, true
	case 2:
		return api.State{Kind: 2, A: less(wantTokens(s, now, cap), whole(w)).Uint64(), B: now}, true
	case 3:
		return api.State{Kind: 3, A: both.Uint64(), B: now}, true
	}
	return s, false
}

// wantUntil is the chapter's words on Until, by big numbers.
func wantUntil(s api.State, now, cap uint64) uint64 {
	f := wantFill(s, now, cap)
	if f.Sign() == 0 {
		return 0
	}
	return stopped(together(whole(now), f))
}

// wantLeft is the chapter's words on Left, by big numbers.
func wantLeft(s api.State, now, cap, every uint64) uint64 {
	if every == 0 {
		return end
	}
	n := less(whole(cap), wantFill(s, now, cap))
	return n.Div(n, whole(every)).Uint64()
}

// wantWait is the chapter's words on Wait, by big numbers.
func wantWait(s api.State, now, cap, w uint64) (uint64, bool) {
	both := together(wantFill(s, now, cap), whole(w))
	if w > cap || both.Cmp(whole(cap)) <= 0 {
		return 0, false
	}
	return less(both, whole(cap)).Uint64(), true
}

// wantMigrate is the chapter's words on Migrate, by big numbers.
func wantMigrate(s api.State, kind uint8, now, cap uint64) (api.State, api.Errno) {
	if kind < 1 || kind > 3 || s.Kind < 1 || s.Kind > 3 {
		return api.State{}, 27
	}
	return wantOf(kind, now, cap, wantFill(s, now, cap).Uint64())
}

func checkOf(t *testing.T, kind uint8, now, cap, fill uint64, want api.State, wantErr api.Errno) {
	t.Helper()
	if got, e := Of(kind, now, cap, fill); got != want || e != wantErr {
		t.Errorf("Of(%d, %d, %d, %d) = %v, %d, want %v, %d", kind, now, cap, fill, got, e, want, wantErr)
	}
}

func checkFill(t *testing.T, s api.State, now, cap, want uint64) {
	t.Helper()
	if got := Fill(s, now, cap); got != want {
		t.Errorf("Fill(%v, %d, %d) = %d, want %d", s, now, cap, got, want)
	}
}

func checkDecide(t *testing.T, s api.State, now, cap, w uint64, want api.State, wantIn bool) {
	t.Helper()
	if got, in := Decide(s, now, cap, w); got != want || in != wantIn {
		t.Errorf("Decide(%v, %d, %d, %d) = %v, %v, want %v, %v", s, now, cap, w, got, in, want, wantIn)
	}
}

func checkUntil(t *testing.T, s api.State, now, cap, want uint64) {
	t.Helper()
	if got := Until(s, now, cap); got != want {
		t.Errorf("Until(%v, %d, %d) = %d, want %d", s, now, cap, got, want)
	}
}

func checkLeft(t *testing.T, s api.State, now, cap, every, want uint64) {
	t.Helper()
	if got := Left(s, now, cap, every); got != want {
		t.Errorf("Left(%v, %d, %d, %d) = %d, want %d", s, now, cap, every, got, want)
	}
}

func checkWait(t *testing.T, s api.State, now, cap, w, want uint64, wantIs bool) {
	t.Helper()
	if got, is := Wait(s, now, cap, w); got != want || is != wantIs {
		t.Errorf("Wait(%v, %d, %d, %d) = %d, %v, want %d, %v", s, now, cap, w, got, is, want, wantIs)
	}
}

func checkMigrate(t *testing.T, s api.State, kind uint8, now, cap uint64, want api.State, wantErr api.Errno) {
	t.Helper()
	if got, e := Migrate(s, kind, now, cap); got != want || e != wantErr {
		t.Errorf("Migrate(%v, %d, %d, %d) = %v, %d, want %v, %d", s, kind, now, cap, got, e, want, wantErr)
	}
}

// checkByBigNumbers holds all that is told of a state, of a w that is every,
// too, against the chapters' words.
func checkByBigNumbers(t *testing.T, s api.State, now, cap, w uint64) {
	t.Helper()
	checkFill(t, s, now, cap, wantFill(s, now, cap).Uint64())
	next, in := wantDecide(s, now, cap, w)
	checkDecide(t, s, now, cap, w, next, in)
	checkUntil(t, s, now, cap, wantUntil(s, now, cap))
	checkLeft(t, s, now, cap, w, wantLeft(s, now, cap, w))
	wait, may := wantWait(s, now, cap, w)
	checkWait(t, s, now, cap, w, wait, may)
}

// checkOverByBigNumbers holds a state that goes over to each kind, and to none,
// against the chapter's words.
func checkOverByBigNumbers(t *testing.T, s api.State, now, cap uint64) {
	t.Helper()
	for _, k := range kinds() {
		want, e := wantMigrate(s, k, now, cap)
		checkMigrate(t, s, k, now, cap, want, e)
	}
}

// of is a state of a kind that is.
func of(t *testing.T, kind uint8, now, cap, fill uint64) api.State {
	t.Helper()
	s, e := Of(kind, now, cap, fill)
	if e != api.OK {
		t.Fatalf("Of(%d, %d, %d, %d): error %d", kind, now, cap, fill, e)
	}
	return s
}

// over is s by another kernel that is.
func over(t *testing.T, s api.State, kind uint8, now, cap uint64) api.State {
	t.Helper()
	out, e := Migrate(s, kind, now, cap)
	if e != api.OK {
		t.Fatalf("Migrate(%v, %d, %d, %d): error %d", s, kind, now, cap, e)
	}
	return out
}

// decide is what is kept of s behind a w that must, or must not, come in.
func decide(t *testing.T, s api.State, now, cap, w uint64, want bool) api.State {
	t.Helper()
	next, in := Decide(s, now, cap, w)
	if in != want {
		t.Fatalf("Decide(%v, %d, %d, %d): %v, want %v", s, now, cap, w, in, want)
	}
	return next
}

func TestExamples(t *testing.T) {
	s := api.State{Kind: api.Leaky, A: 8, B: 5}
	checkMigrate(t, s, api.Gcra, 8, 10, api.State{Kind: api.Gcra, A: 13}, api.OK)
	// The same of what Of tells: a Leaky that was 8 full at 5.
	checkMigrate(t, of(t, api.Leaky, 5, 10, 8), api.Gcra, 8, 10, api.State{Kind: 1, A: 13}, 0)
}

func TestRight(t *testing.T) {
	for k := range 256 {
		want := k == 1 || k == 2 || k == 3
		if got := Right(uint8(k)); got != want {
			t.Errorf("Right(%d) = %v, want %v", k, got, want)
		}
	}
}

func TestOf(t *testing.T) {
	checkOf(t, api.Gcra, 5, 10, 8, api.State{Kind: 1, A: 13}, 0)
	checkOf(t, api.Bucket, 5, 10, 8, api.State{Kind: 2, A: 2, B: 5}, 0)
	checkOf(t, api.Leaky, 5, 10, 8, api.State{Kind: 3, A: 8, B: 5}, 0)
	for _, k := range kinds() {
		for _, now := range edges() {
			for _, cap := range edges() {
				for _, fill := range edges() {
					want, e := wantOf(k, now, cap, fill)
					checkOf(t, k, now, cap, fill, want, e)
				}
			}
		}
	}
}

// TestNoKernel: a kind that is none is told by ErrKind, and a state of such a
// kind is empty, lets nothing in, and stays as it is.
func TestNoKernel(t *testing.T) {
	for k := range 256 {
		kind := uint8(k)
		if k >= 1 && k <= 3 {
			continue
		}
		checkOf(t, kind, 5, 10, 8, api.State{}, api.ErrKind)
		checkOf(t, kind, 0, 0, 0, api.State{}, api.ErrKind)
		checkOf(t, kind, end, end, end, api.State{}, api.ErrKind)
		for _, a := range []uint64{0, 8, end} {
			checkNoKernel(t, api.State{Kind: kind, A: a, B: 5})
			checkNoKernel(t, api.State{Kind: kind, A: a, B: end})
		}
	}
}

func checkNoKernel(t *testing.T, s api.State) {
	t.Helper()
	for _, now := range []uint64{0, 5, 8, end} {
		for _, cap := range []uint64{0, 10, end} {
			checkFill(t, s, now, cap, 0)
			checkUntil(t, s, now, cap, 0)
			checkLeft(t, s, now, cap, 1, cap)
			checkLeft(t, s, now, cap, 0, end)
			for _, w := range []uint64{0, 1, cap, end} {
				checkDecide(t, s, now, cap, w, s, false)
				checkWait(t, s, now, cap, w, 0, false)
			}
			// Whether it would go over to a kernel, to none, or to itself.
			for _, k := range append(kinds(), s.Kind) {
				checkMigrate(t, s, k, now, cap, api.State{}, api.ErrKind)
			}
		}
	}
}

// TestMigrateToNone: who would go over to no kernel is told so, whatever he is.
func TestMigrateToNone(t *testing.T) {
	for k := range 256 {
		if k >= 1 && k <= 3 {
			continue
		}
		for _, from := range three() {
			for _, n := range []uint64{0, 8, end} {
				s := api.State{Kind: from, A: n, B: 5}
				checkMigrate(t, s, uint8(k), 8, 10, api.State{}, api.ErrKind)
				checkMigrate(t, s, uint8(k), n, n, api.State{}, api.ErrKind)
			}
		}
	}
}

// sames are states of the three kinds that are so full at now.
func sames(t *testing.T, now, cap, fill uint64) []api.State {
	t.Helper()
	var out []api.State
	for _, k := range three() {
		out = append(out, of(t, k, now, cap, fill))
	}
	return out
}

func TestFill(t *testing.T) {
	for _, s := range sames(t, 5, 10, 8) {
		checkFill(t, s, 5, 10, 8)
		checkFill(t, s, 8, 10, 5)
		checkFill(t, s, 12, 10, 1)
		checkFill(t, s, 13, 10, 0)
		checkFill(t, s, 14, 10, 0)
		checkFill(t, s, end, 10, 0)
	}
	// The same numbers by each kernel, so that none stands for another.
	checkFill(t, api.State{Kind: api.Gcra, A: 8, B: 5}, 6, 10, 2)
	checkFill(t, api.State{Kind: api.Bucket, A: 8, B: 5}, 6, 10, 1)
	checkFill(t, api.State{Kind: api.Leaky, A: 8, B: 5}, 6, 10, 7)
}

func TestDecide(t *testing.T) {
	rows := []struct{ s, want api.State }{
		{api.State{Kind: api.Gcra, A: 13}, api.State{Kind: 1, A: 18}},
		{api.State{Kind: api.Bucket, A: 2, B: 5}, api.State{Kind: 2, A: 0, B: 8}},
		{api.State{Kind: api.Leaky, A: 8, B: 5}, api.State{Kind: 3, A: 10, B: 8}},
	}
	for _, x := range rows {
		checkDecide(t, x.s, 8, 10, 5, x.want, true)
		checkDecide(t, x.s, 8, 10, 6, x.s, false)
		checkDecide(t, x.s, 8, 10, end, x.s, false)
		checkDecide(t, x.s, 8, 9, 6, x.s, false)
	}
}

func TestUntil(t *testing.T) {
	for _, s := range sames(t, 5, 10, 8) {
		// A Fill of 8, of 5, of 1, and of 0, and 0 from then on.
		checkUntil(t, s, 5, 10, 13)
		checkUntil(t, s, 8, 10, 13)
		checkUntil(t, s, 12, 10, 13)
		checkUntil(t, s, 13, 10, 0)
		checkUntil(t, s, 14, 10, 0)
		checkUntil(t, s, end, 10, 0)
	}
	for _, s := range sames(t, 0, 10, 0) {
		checkUntil(t, s, 0, 10, 0)
		checkUntil(t, s, end, 10, 0)
	}
	for _, s := range sames(t, 0, 10, 1) {
		checkUntil(t, s, 0, 10, 1)
		checkUntil(t, s, 1, 10, 0)
	}
	for _, s := range sames(t, 0, end, end) {
		checkUntil(t, s, 0, end, end)
		checkUntil(t, s, 1, end, end)
		checkUntil(t, s, end-1, end, end)
		checkUntil(t, s, end, end, 0)
	}
	for _, s := range sames(t, end-8, 10, 8) {
		checkUntil(t, s, end-8, 10, end)
		checkUntil(t, s, end-1, 10, end)
		checkUntil(t, s, end, 10, 0)
	}
	for _, s := range sames(t, end-8, 10, 7) {
		checkUntil(t, s, end-8, 10, end-1)
	}
	// One and more above the end of time together.
	for _, s := range sames(t, end-8, 10, 9) {
		checkUntil(t, s, end-8, 10, end)
	}
	for _, s := range sames(t, end-8, end, end) {
		checkUntil(t, s, end-8, end, end)
	}
	// A time of arrival has no later time than the end, and is empty then.
	for _, s := range sames(t, end, 10, 1)[1:] {
		checkUntil(t, s, end, 10, end)
	}
	checkUntil(t, api.State{Kind: api.Bucket}, 5, 0, 0)
	checkUntil(t, api.State{Kind: api.Leaky, A: 8, B: 5}, 5, 0, 13)
	checkUntil(t, api.State{Kind: api.Gcra, A: 13}, 5, 0, 13)
}

// TestUntilThen: a state is not empty just until when it is told, and empty
// then.
func TestUntilThen(t *testing.T) {
	for fill := range uint64(12) {
		for _, s := range sames(t, 7, 11, fill) {
			for now := uint64(7); now < 7+fill; now++ {
				u := Until(s, now, 11)
				if u <= now || Fill(s, u-1, 11) != 1 || Fill(s, u, 11) != 0 {
					t.Errorf("Until(%v, %d, 11) = %d: then it is %d full, and %d ahead of it", s, now, u, Fill(s, u, 11), Fill(s, u-1, 11))
				}
			}
			checkUntil(t, s, 7+fill, 11, 0)
		}
	}
}

func TestLeft(t *testing.T) {
	for _, s := range sames(t, 5, 10, 8) {
		// At 8 it is 5 full, and 5 are left.
		checkLeft(t, s, 8, 10, 0, end)
		checkLeft(t, s, 8, 10, 1, 5)
		checkLeft(t, s, 8, 10, 2, 2)
		checkLeft(t, s, 8, 10, 3, 1)
		checkLeft(t, s, 8, 10, 5, 1)
		checkLeft(t, s, 8, 10, 6, 0)
		checkLeft(t, s, 8, 10, end, 0)
		// Nothing leaks further than to 0.
		checkLeft(t, s, 12, 10, 1, 9)
		checkLeft(t, s, 13, 10, 1, 10)
		checkLeft(t, s, 14, 10, 1, 10)
		checkLeft(t, s, end, 10, 10, 1)
		checkLeft(t, s, end, 10, 11, 0)
	}
	// Just as full as cap: none, but for those that weigh nothing.
	for _, s := range sames(t, 5, 10, 10) {
		checkLeft(t, s, 5, 10, 1, 0)
		checkLeft(t, s, 5, 10, 0, end)
		checkLeft(t, s, 6, 10, 1, 1)
		checkLeft(t, s, 6, 10, 2, 0)
	}
	// Fuller than cap is as cap: what is less than 0 is 0.
	for _, s := range sames(t, 5, 10, 18) {
		checkLeft(t, s, 5, 10, 1, 0)
		checkLeft(t, s, 5, 10, 0, end)
		checkLeft(t, s, 5, 10, end, 0)
	}
	for _, s := range sames(t, 5, 0, 0) {
		checkLeft(t, s, 5, 0, 1, 0)
		checkLeft(t, s, 5, 0, 0, end)
		checkLeft(t, s, 5, 0, end, 0)
	}
	for _, s := range sames(t, 0, end, 0) {
		checkLeft(t, s, 0, end, 1, end)
		checkLeft(t, s, 0, end, end-1, 1)
		checkLeft(t, s, 0, end, end, 1)
		checkLeft(t, s, 0, end, 0, end)
	}
	for _, s := range sames(t, 0, end, 1) {
		checkLeft(t, s, 0, end, 1, end-1)
		checkLeft(t, s, 0, end, end-1, 1)
		checkLeft(t, s, 0, end, end, 0)
	}
}

// TestAsManyAsAreLeft: as many as are left come in at once, one by one and all
// together, and not one more.
func TestAsManyAsAreLeft(t *testing.T) {
	const cap, at = 12, 5
	for fill := range uint64(cap + 1) {
		for every := uint64(1); every <= cap+1; every++ {
			for _, s := range sames(t, at, cap, fill) {
				for now := uint64(at); now < at+cap+2; now++ {
					checkLeftComeIn(t, s, now, cap, every)
				}
			}
		}
	}
}

func checkLeftComeIn(t *testing.T, s api.State, now, cap, every uint64) {
	t.Helper()
	left := Left(s, now, cap, every)
	decide(t, s, now, cap, left*every, true)
	decide(t, s, now, cap, (left+1)*every, false)
	for range left {
		s = decide(t, s, now, cap, every, true)
	}
	decide(t, s, now, cap, every, false)
	checkLeft(t, s, now, cap, every, 0)
}

func TestWait(t *testing.T) {
	for _, s := range sames(t, 5, 10, 8) {
		// At 8 it is 5 full: together just the cap, one more, and more.
		checkWait(t, s, 8, 10, 0, 0, false)
		checkWait(t, s, 8, 10, 4, 0, false)
		checkWait(t, s, 8, 10, 5, 0, false)
		checkWait(t, s, 8, 10, 6, 1, true)
		checkWait(t, s, 8, 10, 7, 2, true)
		// Just the cap, and one more.
		checkWait(t, s, 8, 10, 10, 5, true)
		checkWait(t, s, 8, 10, 11, 0, false)
		checkWait(t, s, 8, 10, end, 0, false)
		checkWait(t, s, 12, 10, 10, 1, true)
		checkWait(t, s, 13, 10, 10, 0, false)
		checkWait(t, s, 13, 10, 11, 0, false)
		checkWait(t, s, end, 10, 10, 0, false)
	}
	// Just as full as cap.
	for _, s := range sames(t, 5, 10, 10) {
		checkWait(t, s, 5, 10, 0, 0, false)
		checkWait(t, s, 5, 10, 1, 1, true)
		checkWait(t, s, 5, 10, 10, 10, true)
		checkWait(t, s, 5, 10, 11, 0, false)
	}
	// Fuller than cap, which a bucket never is: even what weighs nothing waits.
	for _, s := range []api.State{{Kind: api.Gcra, A: 23}, {Kind: api.Leaky, A: 18, B: 5}} {
		checkWait(t, s, 5, 10, 0, 8, true)
		checkWait(t, s, 5, 10, 10, 18, true)
		checkWait(t, s, 5, 10, 11, 0, false)
		checkWait(t, s, 5, 0, 0, 18, true)
		checkWait(t, s, 5, 0, 1, 0, false)
		checkWait(t, s, 13, 10, 0, 0, false)
	}
	for _, s := range sames(t, 5, 0, 0) {
		checkWait(t, s, 5, 0, 0, 0, false)
		checkWait(t, s, 5, 0, 1, 0, false)
		checkWait(t, s, 5, 0, end, 0, false)
	}
}

// TestWaitIsWhole: more than 2^64 - 1 together is more than any cap, and
// neither what the sum goes round to nor where it stops is held against it.
func TestWaitIsWhole(t *testing.T) {
	for _, s := range sames(t, 0, end, 8) {
		checkWait(t, s, 0, end, end-8, 0, false)
		checkWait(t, s, 0, end, end-7, 1, true)
		checkWait(t, s, 0, end, end-6, 2, true)
		checkWait(t, s, 0, end, end-1, 7, true)
		checkWait(t, s, 0, end, end, 8, true)
		checkWait(t, s, 7, end, end, 1, true)
		checkWait(t, s, 8, end, end, 0, false)
	}
	for _, s := range sames(t, 0, end, end) {
		checkWait(t, s, 0, end, 0, 0, false)
		checkWait(t, s, 0, end, 1, 1, true)
		checkWait(t, s, 0, end, 2, 2, true)
		checkWait(t, s, 0, end, end, end, true)
		checkWait(t, s, 1, end, 1, 0, false)
		checkWait(t, s, end, end, end, 0, false)
	}
	for _, s := range sames(t, 0, end, 1<<63) {
		checkWait(t, s, 0, end, 1<<63-1, 0, false)
		checkWait(t, s, 0, end, 1<<63, 1, true)
	}
	for _, s := range sames(t, 0, 1<<63, 1<<63) {
		checkWait(t, s, 0, 1<<63, 1<<63, 1<<63, true)
		checkWait(t, s, 0, 1<<63, 1<<63-1, 1<<63-1, true)
		checkWait(t, s, 0, 1<<63, 1<<63+1, 0, false)
	}
	for _, s := range []api.State{{Kind: api.Gcra, A: end}, {Kind: api.Leaky, A: end}} {
		checkWait(t, s, 0, 0, 0, end, true)
		checkWait(t, s, 0, 0, 1, 0, false)
		checkWait(t, s, 0, end-1, end-1, end, true)
		checkWait(t, s, 0, end-1, 0, 1, true)
		checkWait(t, s, 0, end-1, end, 0, false)
	}
}

// TestJustThen: who waits as long as he is told comes in just then, and not a
// nanosecond ahead; who is told nothing comes in now, or never.
func TestJustThen(t *testing.T) {
	const cap, at = 10, 5
	for fill := range uint64(cap + 4) {
		for w := range uint64(cap + 3) {
			for _, s := range sames(t, at, cap, fill) {
				for now := uint64(at); now < at+cap+6; now++ {
					checkJustThen(t, s, now, cap, w)
				}
			}
		}
	}
}

func checkJustThen(t *testing.T, s api.State, now, cap, w uint64) {
	t.Helper()
	d, may := Wait(s, now, cap, w)
	if !may {
		decide(t, s, now, cap, w, w <= cap)
		decide(t, s, now+1000, cap, w, w <= cap)
		return
	}
	for ahead := range d {
		decide(t, s, now+ahead, cap, w, false)
		checkWait(t, s, now+ahead, cap, w, d-ahead, true)
	}
	decide(t, s, now+d, cap, w, true)
	checkWait(t, s, now+d, cap, w, 0, false)
}

// TestJustThenOfGreatNumbers: the same up to the end of time.
func TestJustThenOfGreatNumbers(t *testing.T) {
	n := mixed(12000)
	for i := 0; i+4 <= len(n); i += 4 {
		cap, now := n[i]%api.MaxCap+1, n[i+3]>>2
		fill, w := n[i+1]%(cap+1), n[i+2]%(cap+1)
		for _, s := range sames(t, now, cap, fill) {
			d, may := Wait(s, now, cap, w)
			decide(t, s, now, cap, w, !may)
			decide(t, s, now+d, cap, w, true)
			if may {
				decide(t, s, now+d-1, cap, w, false)
			}
		}
	}
	for _, cap := range []uint64{1, 8, 1 << 62, end - 1} {
		for _, s := range sames(t, end-cap, cap, cap) {
			checkWait(t, s, end-cap, cap, cap, cap, true)
			decide(t, s, end-1, cap, cap, false)
			decide(t, s, end, cap, cap, true)
		}
	}
}

func TestMigrate(t *testing.T) {
	from := []api.State{{Kind: api.Gcra, A: 13}, {Kind: api.Bucket, A: 2, B: 5}, {Kind: api.Leaky, A: 8, B: 5}}
	for _, s := range from {
		checkMigrate(t, s, api.Gcra, 8, 10, api.State{Kind: 1, A: 13}, 0)
		checkMigrate(t, s, api.Bucket, 8, 10, api.State{Kind: 2, A: 5, B: 8}, 0)
		checkMigrate(t, s, api.Leaky, 8, 10, api.State{Kind: 3, A: 5, B: 8}, 0)
		// A Fill of 1, and of 0.
		checkMigrate(t, s, api.Gcra, 12, 10, api.State{Kind: 1, A: 13}, 0)
		checkMigrate(t, s, api.Bucket, 12, 10, api.State{Kind: 2, A: 9, B: 12}, 0)
		checkMigrate(t, s, api.Leaky, 12, 10, api.State{Kind: 3, A: 1, B: 12}, 0)
		checkMigrate(t, s, api.Gcra, 20, 10, api.State{Kind: 1, A: 20}, 0)
		checkMigrate(t, s, api.Bucket, 20, 10, api.State{Kind: 2, A: 10, B: 20}, 0)
		checkMigrate(t, s, api.Leaky, 20, 10, api.State{Kind: 3, A: 0, B: 20}, 0)
	}
	// Fuller than cap, into a bucket, which holds no more than cap, and back.
	s := api.State{Kind: api.Leaky, A: 18, B: 5}
	checkMigrate(t, s, api.Gcra, 5, 10, api.State{Kind: 1, A: 23}, 0)
	checkMigrate(t, s, api.Leaky, 6, 10, api.State{Kind: 3, A: 17, B: 6}, 0)
	checkMigrate(t, s, api.Bucket, 5, 10, api.State{Kind: 2, A: 0, B: 5}, 0)
	checkMigrate(t, api.State{Kind: 2, A: 0, B: 5}, api.Leaky, 5, 10, api.State{Kind: 3, A: 10, B: 5}, 0)
	// At the end of time.
	for _, s := range sames(t, end-8, 10, 8) {
		checkMigrate(t, s, api.Gcra, end-8, 10, api.State{Kind: 1, A: end}, 0)
		checkMigrate(t, s, api.Bucket, end-3, 10, api.State{Kind: 2, A: 7, B: end - 3}, 0)
		checkMigrate(t, s, api.Leaky, end, 10, api.State{Kind: 3, A: 0, B: end}, 0)
	}
	checkMigrate(t, api.State{Kind: 3, A: 9, B: end - 8}, api.Gcra, end-8, 10, api.State{Kind: 1, A: end}, 0)
}

// TestOverAndBack: who goes over to another kernel, and back, is as full as he
// was, then and later.
func TestOverAndBack(t *testing.T) {
	const cap, at = 10, 5
	for fill := range uint64(cap + 1) {
		for i, s := range sames(t, at, cap, fill) {
			for _, k := range three() {
				for now := uint64(at); now < at+cap+2; now++ {
					there := over(t, s, k, now, cap)
					back := over(t, there, three()[i], now, cap)
					if there.Kind != k || back.Kind != s.Kind {
						t.Errorf("%v at %d over to %d is %v, and back %v", s, now, k, there, back)
					}
					for later := now; later < now+cap+2; later++ {
						checkFill(t, there, later, cap, Fill(s, later, cap))
						checkFill(t, back, later, cap, Fill(s, later, cap))
					}
				}
			}
		}
	}
}

// TestAllTellTheSame: three states that begin alike, and one that goes over
// from one kernel to another between, tell the same of all while the clock
// doesn't go back, and nothing lies above the end of time.
func TestAllTellTheSame(t *testing.T) {
	for _, cap := range []uint64{0, 1, 2, 10, 1000, 1 << 40, api.MaxCap} {
		for _, step := range []uint64{2, cap/4 + 2, cap + 2} {
			checkAllTellTheSame(t, 0, 1<<62, cap, step)
			last := uint64(end - cap)
			checkAllTellTheSame(t, last-min(50, last/step)*step, last, cap, step)
		}
	}
}

// checkAllTellTheSame goes on from start till stop by steps below step.
func checkAllTellTheSame(t *testing.T, start, stop, cap, step uint64) {
	t.Helper()
	n := mixed(3000)
	all := append(sames(t, start, cap, cap/3), of(t, api.Gcra, start, cap, cap/3))
	now := start
	for i := 0; i+4 <= len(n); i += 4 {
		if step > stop-now {
			return
		}
		now += n[i] % step
		w, every := n[i+1]%(cap/2+2), n[i+2]%(cap+2)
		all[3] = over(t, all[3], three()[n[i+3]%3], now, cap)
		for _, s := range all[1:] {
			checkAlike(t, all[0], s, now, cap, w, every)
		}
		for j, s := range all {
			all[j], _ = Decide(s, now, cap, w)
		}
	}
}

// checkAlike: what is told of a is told of b.
func checkAlike(t *testing.T, a, b api.State, now, cap, w, every uint64) {
	t.Helper()
	checkFill(t, b, now, cap, Fill(a, now, cap))
	checkUntil(t, b, now, cap, Until(a, now, cap))
	checkLeft(t, b, now, cap, every, Left(a, now, cap, every))
	d, may := Wait(a, now, cap, w)
	checkWait(t, b, now, cap, w, d, may)
	_, inA := Decide(a, now, cap, w)
	kept, inB := Decide(b, now, cap, w)
	if inA != inB || kept.Kind != b.Kind {
		t.Errorf("Decide at %d, cap %d, w %d: %v is %v, %v is %v, %v", now, cap, w, a, inA, b, kept, inB)
	}
}

// TestCountedByHand: a count that goes down by one each nanosecond, and up by
// what comes in, is how full each state is, and tells what else is told.
func TestCountedByHand(t *testing.T) {
	for cap := range uint64(9) {
		for _, s := range sames(t, 0, cap, cap) {
			count := cap
			for i, n := range mixed(2000) {
				now, w := uint64(i), n%(cap+3)
				if now > 0 && count > 0 {
					count--
				}
				checkFill(t, s, now, cap, count)
				checkLeft(t, s, now, cap, 1, cap-count)
				checkLeft(t, s, now, cap, 3, (cap-count)/3)
				may := w <= cap && count+w > cap
				if may {
					checkWait(t, s, now, cap, w, count+w-cap, true)
				} else {
					checkWait(t, s, now, cap, w, 0, false)
				}
				s = decide(t, s, now, cap, w, count+w <= cap)
				if count+w <= cap {
					count += w
				}
			}
		}
	}
}

func TestEdgesByBigNumbers(t *testing.T) {
	for _, k := range kinds() {
		for _, a := range edges() {
			for _, b := range edges() {
				s := api.State{Kind: k, A: a, B: b}
				for _, now := range edges() {
					for _, cap := range []uint64{0, 1, 10, 1 << 63, end - 1, end} {
						checkOverByBigNumbers(t, s, now, cap)
						for _, w := range []uint64{0, 1, 8, 1 << 63, end} {
							checkByBigNumbers(t, s, now, cap, w)
						}
					}
				}
			}
		}
	}
}

func TestMixedByBigNumbers(t *testing.T) {
	n := mixed(15000)
	for i := 0; i+5 <= len(n); i += 5 {
		now, cap, w := n[i+2], n[i+3], n[i+4]
		for _, k := range kinds() {
			s := api.State{Kind: k, A: n[i], B: n[i+1]}
			checkByBigNumbers(t, s, now, cap, w)
			checkOverByBigNumbers(t, s, now, cap)
			// Just then, and a nanosecond to each side: where these go round
			// they are other times, other caps and other weights.
			for d := range uint64(3) {
				checkByBigNumbers(t, s, now, Fill(s, now, cap)+w+d-1, w)
				checkByBigNumbers(t, s, now, cap, cap-Fill(s, now, cap)+d-1)
				checkByBigNumbers(t, s, now, cap, cap+d-1)
				checkByBigNumbers(t, s, end-Fill(s, now, cap)+d-1, cap, w)
			}
		}
	}
}
