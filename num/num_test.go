package num

import (
	"math"
	"math/big"
	"slices"
	"testing"
)

// edges are numbers at which a half, a carry, or the top bit changes.
func edges() []uint64 {
	return []uint64{
		0, 1, 2, 3, 5, 7, 10,
		1<<31 - 1, 1 << 31,
		1<<32 - 1, 1 << 32, 1<<32 + 1,
		1 << 62, 1<<63 - 1, 1 << 63, 1<<63 + 1,
		end - 1<<32, end - 5, end - 2, end - 1, end,
	}
}

// mixed are n numbers of many lengths, always the same ones.
func mixed(n int) []uint64 {
	out := make([]uint64, n)
	x := uint64(88172645463325252)
	for i := range out {
		x ^= x << 13
		x ^= x >> 7
		x ^= x << 17
		out[i] = x >> (x % 64)
	}
	return out
}

func whole(a uint64) *big.Int {
	return new(big.Int).SetUint64(a)
}

// stopped is n, or the end, if it is above, or 0, if it is below 0.
func stopped(n *big.Int) uint64 {
	if n.Sign() < 0 {
		return 0
	}
	if !n.IsUint64() {
		return end
	}
	return n.Uint64()
}

func wantSum(a ...uint64) uint64 {
	sum := new(big.Int)
	for _, x := range a {
		sum.Add(sum, whole(x))
	}
	return stopped(sum)
}

// wantQuotients are the quotient rounded down and rounded up, or the end.
func wantQuotients(a, b uint64) (uint64, uint64) {
	if b == 0 {
		return end, end
	}
	q, r := new(big.Int).QuoRem(whole(a), whole(b), new(big.Int))
	up := new(big.Int).Add(q, big.NewInt(int64(r.Sign())))
	return stopped(q), stopped(up)
}

func checkAdd(t *testing.T, a ...uint64) {
	t.Helper()
	if got, want := Add(a...), wantSum(a...); got != want {
		t.Errorf("Add(%d) = %d, want %d", a, got, want)
	}
}

func checkPair(t *testing.T, a, b uint64) {
	t.Helper()
	checkAdd(t, a, b)
	if got, want := Mul(a, b), stopped(new(big.Int).Mul(whole(a), whole(b))); got != want {
		t.Errorf("Mul(%d, %d) = %d, want %d", a, b, got, want)
	}
	if got, want := Sub(a, b), stopped(new(big.Int).Sub(whole(a), whole(b))); got != want {
		t.Errorf("Sub(%d, %d) = %d, want %d", a, b, got, want)
	}
	down, up := wantQuotients(a, b)
	if got := Div(a, b); got != down {
		t.Errorf("Div(%d, %d) = %d, want %d", a, b, got, down)
	}
	if got := Ceil(a, b); got != up {
		t.Errorf("Ceil(%d, %d) = %d, want %d", a, b, got, up)
	}
}

func checkFits(t *testing.T, a, b, c uint64) {
	t.Helper()
	want := new(big.Int).Add(whole(a), whole(b)).Cmp(whole(c)) <= 0
	if got := Fits(a, b, c); got != want {
		t.Errorf("Fits(%d, %d, %d) = %v", a, b, c, got)
	}
}

func TestExamples(t *testing.T) {
	if got := Add(end, 5); got != end {
		t.Errorf("Add(2^64 - 1, 5) = %d", got)
	}
	if got := Ceil(7, 2); got != 4 {
		t.Errorf("Ceil(7, 2) = %d", got)
	}
}

func TestAdd(t *testing.T) {
	rows := []struct {
		a    []uint64
		want uint64
	}{
		{nil, 0},
		{[]uint64{}, 0},
		{[]uint64{0}, 0},
		{[]uint64{7}, 7},
		{[]uint64{end}, end},
		{[]uint64{2, 3}, 5},
		{[]uint64{1, 2, 3, 4}, 10},
		{[]uint64{end - 1, 1}, end},
		{[]uint64{end, 0}, end},
		{[]uint64{0, end}, end},
		{[]uint64{end, 1}, end},
		{[]uint64{1, end}, end},
		{[]uint64{end, end}, end},
		{[]uint64{1 << 63, 1 << 63}, end},
		{[]uint64{1 << 63, 1<<63 - 1}, end},
		{[]uint64{1 << 63, 1<<63 - 2}, end - 1},
		// Once above, it stays at the end, whatever comes behind.
		{[]uint64{end, 1, 0}, end},
		{[]uint64{end, 1, 5}, end},
		{[]uint64{1 << 63, 1 << 63, 1 << 63, 7}, end},
		{[]uint64{end, end, end, end}, end},
	}
	for _, x := range rows {
		if got := Add(x.a...); got != x.want {
			t.Errorf("Add(%d) = %d, want %d", x.a, got, x.want)
		}
	}
	if got := Add(); got != 0 {
		t.Errorf("Add() = %d", got)
	}
}

func TestAddLeavesItsList(t *testing.T) {
	memory := []uint64{1, end, 3, 1000, 2000}
	before := slices.Clone(memory)
	if got := Add(memory[:1]...); got != 1 {
		t.Errorf("Add of a list's first = %d", got)
	}
	if got := Add(memory[:3]...); got != end {
		t.Errorf("Add of a list's three = %d", got)
	}
	if !slices.Equal(memory, before) {
		t.Errorf("the list is %d, was %d", memory, before)
	}
}

func TestMul(t *testing.T) {
	rows := []struct{ a, b, want uint64 }{
		{0, 0, 0},
		{0, end, 0},
		{end, 0, 0},
		{6, 7, 42},
		{1, end, end},
		{end, 1, end},
		{1<<32 - 1, 1<<32 + 1, end},
		{1 << 32, 1<<32 - 1, end - 1<<32 + 1},
		{1 << 32, 1 << 32, end},
		{1 << 63, 1, 1 << 63},
		{1 << 63, 2, end},
		{1 << 63, 3, end},
		{3, 1 << 63, end},
		{end, 2, end},
		{end, end, end},
	}
	for _, x := range rows {
		if got := Mul(x.a, x.b); got != x.want {
			t.Errorf("Mul(%d, %d) = %d, want %d", x.a, x.b, got, x.want)
		}
	}
}

func TestSub(t *testing.T) {
	rows := []struct{ a, b, want uint64 }{
		{0, 0, 0},
		{5, 3, 2},
		{5, 5, 0},
		{3, 5, 0},
		{5, 6, 0},
		{5, 0, 5},
		{0, 1, 0},
		{0, end, 0},
		{end, 0, end},
		{end, 1, end - 1},
		{end, end, 0},
		{end - 1, end, 0},
		{1, 1 << 63, 0},
		{1 << 63, 1, 1<<63 - 1},
	}
	for _, x := range rows {
		if got := Sub(x.a, x.b); got != x.want {
			t.Errorf("Sub(%d, %d) = %d, want %d", x.a, x.b, got, x.want)
		}
	}
}

func TestDivAndCeil(t *testing.T) {
	rows := []struct{ a, b, down, up uint64 }{
		{0, 5, 0, 0},
		{6, 2, 3, 3},
		{7, 2, 3, 4},
		{8, 3, 2, 3},
		{1, 2, 0, 1},
		{5, 5, 1, 1},
		{5, 6, 0, 1},
		{6, 5, 1, 2},
		{1, end, 0, 1},
		{end - 1, end, 0, 1},
		{end, 1, end, end},
		{end, 2, 1<<63 - 1, 1 << 63},
		{end, 1 << 63, 1, 2},
		{end, end - 1, 1, 2},
		{end, end, 1, 1},
		{0, 0, end, end},
		{1, 0, end, end},
		{7, 0, end, end},
		{end, 0, end, end},
	}
	for _, x := range rows {
		if got := Div(x.a, x.b); got != x.down {
			t.Errorf("Div(%d, %d) = %d, want %d", x.a, x.b, got, x.down)
		}
		if got := Ceil(x.a, x.b); got != x.up {
			t.Errorf("Ceil(%d, %d) = %d, want %d", x.a, x.b, got, x.up)
		}
	}
}

func TestClamp(t *testing.T) {
	rows := []struct {
		t    int64
		want uint64
	}{
		{0, 0},
		{1, 1},
		{1000000000, 1000000000},
		{math.MaxInt64 - 1, 1<<63 - 2},
		{math.MaxInt64, 1<<63 - 1},
		{-1, 0},
		{-4, 0},
		{math.MinInt64 + 1, 0},
		{math.MinInt64, 0},
	}
	for _, x := range rows {
		if got := Clamp(x.t); got != x.want {
			t.Errorf("Clamp(%d) = %d, want %d", x.t, got, x.want)
		}
	}
}

func TestFits(t *testing.T) {
	rows := []struct {
		a, b, c uint64
		want    bool
	}{
		{0, 0, 0, true},
		{2, 3, 5, true},
		{2, 3, 6, true},
		{2, 3, 4, false},
		{0, 1, 0, false},
		{1, 0, 0, false},
		{end, 0, end, true},
		{0, end, end, true},
		{end - 5, 5, end, true},
		{end, 0, end - 1, false},
		// Above the end together: no c is enough, the end neither, and what
		// the sum goes round to is not held against c.
		{end, 1, 0, false},
		{end, 1, end, false},
		{1, end, end, false},
		{end - 5, 6, end, false},
		{1 << 63, 1 << 63, 0, false},
		{1 << 63, 1 << 63, end, false},
		{end, end, end, false},
		{end, end, end - 1, false},
	}
	for _, x := range rows {
		if got := Fits(x.a, x.b, x.c); got != x.want {
			t.Errorf("Fits(%d, %d, %d) = %v", x.a, x.b, x.c, got)
		}
	}
}

// TestQuotientOfSmallKind goes through every quotient of a kind whose end is
// 255, and some of the other kinds.
func TestQuotientOfSmallKind(t *testing.T) {
	for a := range 256 {
		if q, left := quotient(uint8(a), 0); q != 255 || left != 0 {
			t.Errorf("quotient(%d, 0) = %d, %d", a, q, left)
		}
		for b := 1; b < 256; b++ {
			q, left := quotient(uint8(a), uint8(b))
			if int(q)*b+int(left) != a || int(left) >= b {
				t.Errorf("quotient(%d, %d) = %d, %d", a, b, q, left)
			}
		}
	}
	if q, left := quotient(uint16(9), 0); q != 1<<16-1 || left != 0 {
		t.Errorf("quotient of 16 bits by 0 = %d, %d", q, left)
	}
	if q, left := quotient(uint32(9), 0); q != 1<<32-1 || left != 0 {
		t.Errorf("quotient of 32 bits by 0 = %d, %d", q, left)
	}
}

func TestEdgesByBigNumbers(t *testing.T) {
	checkAdd(t)
	for _, a := range edges() {
		checkAdd(t, a)
		for _, b := range edges() {
			checkPair(t, a, b)
			for _, c := range edges() {
				checkAdd(t, a, b, c)
				checkFits(t, a, b, c)
			}
		}
	}
}

func TestMixedByBigNumbers(t *testing.T) {
	n := mixed(30000)
	for i := 0; i+3 <= len(n); i += 3 {
		a, b, c := n[i], n[i+1], n[i+2]
		checkPair(t, a, b)
		checkAdd(t, a, b, c)
		checkAdd(t, n[i:min(i+i%9, len(n))]...)
		checkFits(t, a, b, c)
		// The edge itself, and one to each side of it.
		checkFits(t, a, b, a+b-1)
		checkFits(t, a, b, a+b)
		checkFits(t, a, b, a+b+1)
	}
}
