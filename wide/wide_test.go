package wide

import (
	"math/big"
	"testing"
)

const end = 1<<64 - 1

// edges are numbers at which a half, a carry, or the top bit changes.
func edges() []uint64 {
	return []uint64{
		0, 1, 2, 3, 6, 10,
		1<<31 - 1, 1 << 31,
		1<<32 - 1, 1 << 32, 1<<32 + 1,
		1<<63 - 1, 1 << 63, 1<<63 + 1,
		end - 1<<32, end - 1<<32 + 1,
		end - 1, end,
	}
}

// mixed are n numbers of many lengths, always the same ones.
func mixed(n int) []uint64 {
	out := make([]uint64, n)
	x := uint64(88172645463325252)
	for i := range out {
		x ^= x << 13
		x ^= x >> 7
		x ^= x << 17
		out[i] = x >> (x % 64)
	}
	return out
}

func one(a uint64) *big.Int {
	return new(big.Int).SetUint64(a)
}

func two(h, l uint64) *big.Int {
	n := new(big.Int).Lsh(one(h), 64)
	return n.Add(n, one(l))
}

func checkMul(t *testing.T, a, b uint64) {
	t.Helper()
	h, l := Mul(a, b)
	want := new(big.Int).Mul(one(a), one(b))
	if two(h, l).Cmp(want) != 0 {
		t.Errorf("Mul(%d, %d) = %d, %d, want %d in all", a, b, h, l, want)
	}
}

func checkAdd(t *testing.T, ah, al, bh, bl uint64) {
	t.Helper()
	h, l, over := Add(ah, al, bh, bl)
	want := new(big.Int).Add(two(ah, al), two(bh, bl))
	limit := new(big.Int).Lsh(big.NewInt(1), 128)
	wantOver := want.Cmp(limit) >= 0
	want.Mod(want, limit)
	if two(h, l).Cmp(want) != 0 || over != wantOver {
		t.Errorf("Add(%d, %d, %d, %d) = %d, %d, %v, want %d in all, %v", ah, al, bh, bl, h, l, over, want, wantOver)
	}
}

func checkLess(t *testing.T, ah, al, bh, bl uint64) {
	t.Helper()
	want := two(ah, al).Cmp(two(bh, bl)) < 0
	if got := Less(ah, al, bh, bl); got != want {
		t.Errorf("Less(%d, %d, %d, %d) = %v", ah, al, bh, bl, got)
	}
}

func checkDiv(t *testing.T, h, l, d uint64) {
	t.Helper()
	q, r, ok := Div(h, l, d)
	if h >= d {
		if q != 0 || r != 0 || ok {
			t.Errorf("Div(%d, %d, %d) = %d, %d, %v, want 0, 0, false", h, l, d, q, r, ok)
		}
		return
	}
	wantQ, wantR := new(big.Int).QuoRem(two(h, l), one(d), new(big.Int))
	if one(q).Cmp(wantQ) != 0 || one(r).Cmp(wantR) != 0 || !ok {
		t.Errorf("Div(%d, %d, %d) = %d, %d, %v, want %d, %d, true", h, l, d, q, r, ok, wantQ, wantR)
	}
}

func checkMulDiv(t *testing.T, a, b, d uint64) {
	t.Helper()
	q, ok := MulDiv(a, b, d)
	want, wantOK := new(big.Int), false
	if d != 0 {
		want.Quo(want.Mul(one(a), one(b)), one(d))
		wantOK = want.IsUint64()
	}
	if !wantOK {
		want.SetUint64(0)
	}
	if one(q).Cmp(want) != 0 || ok != wantOK {
		t.Errorf("MulDiv(%d, %d, %d) = %d, %v, want %d, %v", a, b, d, q, ok, want, wantOK)
	}
}

// checkTogether: quotient times divisor, and what is left, is what was divided.
func checkTogether(t *testing.T, h, l, d uint64) {
	t.Helper()
	q, r, ok := Div(h, l, d)
	if !ok {
		return
	}
	ph, pl := Mul(q, d)
	gotH, gotL, over := Add(ph, pl, 0, r)
	if gotH != h || gotL != l || over || !Less(0, r, 0, d) {
		t.Errorf("Div(%d, %d, %d) = %d, %d, together %d, %d, %v", h, l, d, q, r, gotH, gotL, over)
	}
}

func TestExamples(t *testing.T) {
	if h, l := Mul(1<<63, 6); h != 3 || l != 0 {
		t.Errorf("Mul(2^63, 6) = %d, %d", h, l)
	}
	if q, r, ok := Div(3, 0, 6); q != 1<<63 || r != 0 || !ok {
		t.Errorf("Div(3, 0, 6) = %d, %d, %v", q, r, ok)
	}
}

func TestMul(t *testing.T) {
	rows := []struct{ a, b, h, l uint64 }{
		{0, 0, 0, 0},
		{0, end, 0, 0},
		{1, end, 0, end},
		{6, 7, 0, 42},
		{1 << 32, 1 << 32, 1, 0},
		{1<<32 - 1, 1<<32 + 1, 0, end},
		{2, 1 << 63, 1, 0},
		{end, end, end - 1, 1},
	}
	for _, x := range rows {
		if h, l := Mul(x.a, x.b); h != x.h || l != x.l {
			t.Errorf("Mul(%d, %d) = %d, %d, want %d, %d", x.a, x.b, h, l, x.h, x.l)
		}
	}
}

func TestAdd(t *testing.T) {
	rows := []struct {
		ah, al, bh, bl, h, l uint64
		over                 bool
	}{
		{0, 0, 0, 0, 0, 0, false},
		{1, 2, 3, 4, 4, 6, false},
		{0, end, 0, 1, 1, 0, false},
		{0, end, 0, end, 1, end - 1, false},
		{end, end, 0, 0, end, end, false},
		{end, end - 1, 0, 1, end, end, false},
		{end, end, 0, 1, 0, 0, true},
		{1 << 63, 0, 1 << 63, 0, 0, 0, true},
		{end, 1, 0, end, 0, 0, true},
		{end, 0, end, end, end - 1, end, true},
		{end, end, end, end, end, end - 1, true},
	}
	for _, x := range rows {
		if h, l, over := Add(x.ah, x.al, x.bh, x.bl); h != x.h || l != x.l || over != x.over {
			t.Errorf("Add(%d, %d, %d, %d) = %d, %d, %v, want %d, %d, %v", x.ah, x.al, x.bh, x.bl, h, l, over, x.h, x.l, x.over)
		}
	}
}

func TestLess(t *testing.T) {
	rows := []struct {
		ah, al, bh, bl uint64
		want           bool
	}{
		{0, 0, 0, 0, false},
		{0, 5, 1, 0, true},
		{1, 0, 0, 5, false},
		{0, 4, 0, 5, true},
		{0, 5, 0, 4, false},
		{7, 5, 7, 5, false},
		{7, end, 8, 0, true},
		{8, 0, 7, end, false},
		{end, end - 1, end, end, true},
		{end, end, end, end, false},
		{0, 0, 1 << 63, 0, true},
	}
	for _, x := range rows {
		if got := Less(x.ah, x.al, x.bh, x.bl); got != x.want {
			t.Errorf("Less(%d, %d, %d, %d) = %v", x.ah, x.al, x.bh, x.bl, got)
		}
	}
}

func TestDiv(t *testing.T) {
	rows := []struct {
		h, l, d, q, r uint64
		ok            bool
	}{
		{0, 42, 6, 7, 0, true},
		{0, 43, 6, 7, 1, true},
		{0, 5, 6, 0, 5, true},
		{0, end, 1, end, 0, true},
		{0, 0, end, 0, 0, true},
		{1, 0, 2, 1 << 63, 0, true},
		{5, end, 6, end, 5, true},
		{end - 1, end, end, end, end - 1, true},
		{end - 1, 1, end, end, 0, true},
		{1<<63 - 1, end, 1 << 63, end, 1<<63 - 1, true},
		{0, 0, 0, 0, 0, false},
		{0, 5, 0, 0, 0, false},
		{end, end, 0, 0, 0, false},
		{1, 0, 1, 0, 0, false},
		{6, 0, 6, 0, 0, false},
		{7, 1, 6, 0, 0, false},
		{end, end, end, 0, 0, false},
		{end, 0, end - 1, 0, 0, false},
	}
	for _, x := range rows {
		if q, r, ok := Div(x.h, x.l, x.d); q != x.q || r != x.r || ok != x.ok {
			t.Errorf("Div(%d, %d, %d) = %d, %d, %v, want %d, %d, %v", x.h, x.l, x.d, q, r, ok, x.q, x.r, x.ok)
		}
	}
}

func TestMulDiv(t *testing.T) {
	rows := []struct {
		a, b, d, q uint64
		ok         bool
	}{
		{6, 7, 2, 21, true},
		{7, 7, 2, 24, true},
		{0, end, 3, 0, true},
		{1 << 63, 6, 3 << 62, 4, true},
		{end, end, end, end, true},
		{end, 1, 1, end, true},
		{1 << 32, 1 << 32, 2, 1 << 63, true},
		{1 << 32, 1 << 32, 1, 0, false},
		{end, end, end - 1, 0, false},
		{end, 2, 1, 0, false},
		{6, 7, 0, 0, false},
		{0, 0, 0, 0, false},
		{end, end, 0, 0, false},
	}
	for _, x := range rows {
		if q, ok := MulDiv(x.a, x.b, x.d); q != x.q || ok != x.ok {
			t.Errorf("MulDiv(%d, %d, %d) = %d, %v, want %d, %v", x.a, x.b, x.d, q, ok, x.q, x.ok)
		}
	}
}

func TestEdgesByBigNumbers(t *testing.T) {
	for _, a := range edges() {
		for _, b := range edges() {
			checkMul(t, a, b)
			for _, c := range edges() {
				checkDiv(t, a, b, c)
				checkMulDiv(t, a, b, c)
				checkTogether(t, a, b, c)
				for _, d := range edges() {
					checkAdd(t, a, b, c, d)
					checkLess(t, a, b, c, d)
				}
			}
		}
	}
}

func TestMixedByBigNumbers(t *testing.T) {
	n := mixed(40000)
	for i := 0; i+4 <= len(n); i += 4 {
		a, b, c, d := n[i], n[i+1], n[i+2], n[i+3]
		checkMul(t, a, b)
		checkAdd(t, a, b, c, d)
		checkLess(t, a, b, c, d)
		checkLess(t, a, b, a, d)
		checkDiv(t, a, b, c)
		checkMulDiv(t, a, b, c)
		checkTogether(t, a, b, c)
		if c != 0 {
			checkDiv(t, a%c, b, c)
			checkTogether(t, a%c, b, c)
		}
	}
}
