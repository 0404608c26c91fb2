package digit

import (
	"math/big"
	"strconv"
	"strings"
	"testing"

	"toller/api"
)

// powers are the powers of ten below 2^64, from 1 on.
func powers() []uint64 {
	out := make([]uint64, 0, most)
	p := uint64(1)
	for range most {
		out = append(out, p)
		p *= 10
	}
	return out
}

// edges are numbers at which a width, a half, or the top bit changes.
func edges() []uint64 {
	out := []uint64{
		0, 1<<31 - 1, 1 << 31, 1<<32 - 1, 1 << 32,
		1 << 62, 1<<63 - 1, 1 << 63, end / 10, end/10 + 1, end - 1, end,
	}
	for _, p := range powers() {
		for d := uint64(1); d <= 9; d++ {
			if p <= end/d {
				out = append(out, d*p-1, d*p, d*p+1)
			}
		}
	}
	return out
}

// mixed are n numbers of many lengths, always the same ones.
func mixed(n int) []uint64 {
	out := make([]uint64, n)
	x := uint64(88172645463325252)
	for i := range out {
		x ^= x << 13
		x ^= x >> 7
		x ^= x << 17
		out[i] = x >> (x % 64)
	}
	return out
}

func checkParse(t *testing.T, s string, want uint64, wantErr api.Errno) {
	t.Helper()
	if n, e := Parse(s); n != want || e != wantErr {
		t.Errorf("Parse(%.40q), of %d bytes, = %d, %d, want %d, %d", s, len(s), n, e, want, wantErr)
	}
}

// checkNumber: n's digits are those that the library prints, as many as
// Width tells, and Parse reads them.
func checkNumber(t *testing.T, n uint64) {
	t.Helper()
	want := strconv.FormatUint(n, 10)
	if got := Print(n); got != want {
		t.Errorf("Print(%d) = %q", n, got)
	}
	if got := Width(n); got != len(want) {
		t.Errorf("Width(%d) = %d, want %d", n, got, len(want))
	}
	checkParse(t, Print(n), n, api.OK)
	checkParse(t, want, n, api.OK)
}

// wantParse is the chapter's words on Parse, by big numbers.
func wantParse(s string) (uint64, api.Errno) {
	if strings.Trim(s, "0123456789") != "" || s == "" {
		return 0, api.ErrDigit
	}
	if strings.HasPrefix(s, "0") && s != "0" {
		return 0, api.ErrDigit
	}
	n, _ := new(big.Int).SetString(s, 10)
	if !n.IsUint64() {
		return 0, api.ErrBig
	}
	return n.Uint64(), api.OK
}

func TestExamples(t *testing.T) {
	checkParse(t, "18446744073709551615", 1<<64-1, api.OK)
	checkParse(t, "07", 0, api.ErrDigit)
}

func TestErrorsAreTheirNumbers(t *testing.T) {
	if _, e := Parse("x"); e != 10 {
		t.Errorf("a wrong byte is told as %d", e)
	}
	if _, e := Parse("18446744073709551616"); e != 11 {
		t.Errorf("2^64 is told as %d", e)
	}
}

func TestParseReadsNumbers(t *testing.T) {
	rows := []struct {
		s    string
		want uint64
	}{
		{"0", 0},
		{"1", 1},
		{"7", 7},
		{"9", 9},
		{"10", 10},
		{"42", 42},
		{"100", 100},
		{"1000000000", 1000000000},
		{"1020304050607080900", 1020304050607080900},
		{"4611686018427387904", 1 << 62},
		{"9223372036854775807", 1<<63 - 1},
		{"9223372036854775808", 1 << 63},
		{"9999999999999999999", 9999999999999999999},
		{"10000000000000000000", 10000000000000000000},
		{"18446744073709551609", end - 6},
		{"18446744073709551614", end - 1},
		{"18446744073709551615", end},
	}
	for _, x := range rows {
		checkParse(t, x.s, x.want, api.OK)
	}
}

func TestParseOfNoDigits(t *testing.T) {
	rows := []string{
		"", " ", "-", "+", "x", "-1", "+1", " 1", "1 ", "1\n", "\t1", "1 2",
		"1_000", "1,000", "1.0", "1e3", "0x1f", "a1", "1a", "1a2", "/", ":",
		"1/", "1:", "\x00", "1\x00", "\x001", "\xff", "1\xff", "\xb1",
		// Digits of other scripts, and a space that is none of ASCII's.
		"\u00b2", "\u0663", "\uff11", "1\u00a0",
	}
	for _, s := range rows {
		checkParse(t, s, 0, api.ErrDigit)
	}
}

// TestParseOfEachByteAtEachPlace: only the bytes 0 to 9 are digits, wherever
// they stand, and however long the text is.
func TestParseOfEachByteAtEachPlace(t *testing.T) {
	for _, long := range []int{1, 2, 3, 19, 20, 21, 22, 40} {
		for at := range long {
			for c := range 256 {
				text := []byte(strings.Repeat("1", long))
				text[at] = byte(c)
				s := string(text)
				if c < '0' || c > '9' {
					checkParse(t, s, 0, api.ErrDigit)
					continue
				}
				want, wantErr := wantParse(s)
				checkParse(t, s, want, wantErr)
			}
		}
	}
}

func TestParseOfZeroAhead(t *testing.T) {
	checkParse(t, "0", 0, api.OK)
	rows := []string{
		"00", "01", "07", "09", "000", "0000", "010", "001", "0x", "0 ",
		"018446744073709551615", "00000000000000000001",
		"000000000000000000000", strings.Repeat("0", 1000),
	}
	for _, s := range rows {
		checkParse(t, s, 0, api.ErrDigit)
	}
	for _, n := range edges() {
		checkParse(t, "0"+strconv.FormatUint(n, 10), 0, api.ErrDigit)
	}
}

func TestParseOfTooGreat(t *testing.T) {
	rows := []string{
		"18446744073709551616",
		"18446744073709551617",
		"18446744073709551619",
		"18446744073709551620",
		"18446744073709551625",
		"18446744073709551700",
		"18446744073709552000",
		"18500000000000000000",
		"19000000000000000000",
		"20000000000000000000",
		// These go round to small numbers at 64 bits.
		"36893488147419103232",
		"55340232221128654849",
		"99999999999999999999",
		"100000000000000000000",
		"184467440737095516150",
		"184467440737095516160",
		"340282366920938463463374607431768211456",
		strings.Repeat("9", 1000),
		"1" + strings.Repeat("0", 100000),
	}
	for _, s := range rows {
		checkParse(t, s, 0, api.ErrBig)
	}
}

// TestParseTellsDigitAheadOfBig: where both apply, the chapter names ErrDigit
// first, be the wrong byte far behind the place where the number is too great.
func TestParseTellsDigitAheadOfBig(t *testing.T) {
	rows := []string{
		"18446744073709551616x",
		"x18446744073709551616",
		"99999999999999999999 ",
		"9999999999999999999x",
		"99999999999999999999-",
		"018446744073709551616",
		"099999999999999999999999",
		"000000000000000000000000",
		strings.Repeat("9", 100000) + "x",
		strings.Repeat("9", 500) + "x" + strings.Repeat("9", 500),
		"0" + strings.Repeat("9", 1000),
	}
	for _, s := range rows {
		checkParse(t, s, 0, api.ErrDigit)
	}
}

// TestParseAroundTheEnd goes through the numbers on both sides of 2^64.
func TestParseAroundTheEnd(t *testing.T) {
	n := new(big.Int).SetUint64(end - 2000)
	for range 4000 {
		s := n.String()
		want, wantErr := wantParse(s)
		checkParse(t, s, want, wantErr)
		n.Add(n, big.NewInt(1))
	}
}

func TestPrint(t *testing.T) {
	rows := []struct {
		n    uint64
		want string
	}{
		{0, "0"},
		{1, "1"},
		{9, "9"},
		{10, "10"},
		{105, "105"},
		{1000000000, "1000000000"},
		{1234567890, "1234567890"},
		{9999999999999999999, "9999999999999999999"},
		{10000000000000000000, "10000000000000000000"},
		{end - 1, "18446744073709551614"},
		{end, "18446744073709551615"},
	}
	for _, x := range rows {
		if got := Print(x.n); got != x.want {
			t.Errorf("Print(%d) = %q, want %q", x.n, got, x.want)
		}
	}
}

// TestWidth: at each power of ten there is one digit more.
func TestWidth(t *testing.T) {
	if got := Width(0); got != 1 {
		t.Errorf("Width(0) = %d", got)
	}
	for i, p := range powers() {
		if got := Width(p); got != i+1 {
			t.Errorf("Width(%d) = %d, want %d", p, got, i+1)
		}
		if got := Width(p + 1); got != i+1 {
			t.Errorf("Width(%d) = %d, want %d", p+1, got, i+1)
		}
		if got := Width(p - 1); got != max(i, 1) {
			t.Errorf("Width(%d) = %d, want %d", p-1, got, max(i, 1))
		}
	}
	if got := Width(end); got != 20 {
		t.Errorf("Width(2^64 - 1) = %d", got)
	}
}

func TestPrintedIsRead(t *testing.T) {
	for n := range uint64(20000) {
		checkNumber(t, n)
	}
	for _, n := range edges() {
		checkNumber(t, n)
	}
	for _, n := range mixed(20000) {
		checkNumber(t, n)
	}
}

// TestReadIsPrinted: no other text is read as a number than the one that is
// printed of it.
func TestReadIsPrinted(t *testing.T) {
	const bytes = "0159/:x"
	texts := []string{""}
	for range 5 {
		var longer []string
		for _, s := range texts {
			for _, c := range bytes {
				longer = append(longer, s+string(c))
			}
		}
		for _, s := range longer {
			want, wantErr := wantParse(s)
			checkParse(t, s, want, wantErr)
			if n, e := Parse(s); e == api.OK && Print(n) != s {
				t.Errorf("Parse(%q) = %d, printed as %q", s, n, Print(n))
			}
		}
		texts = longer
	}
}

// TestPrintSharesNothing: what was printed stays, whatever is printed next.
func TestPrintSharesNothing(t *testing.T) {
	first := Print(1234567890)
	Print(end)
	Print(0)
	if first != "1234567890" {
		t.Errorf("what was printed became %q", first)
	}
}
