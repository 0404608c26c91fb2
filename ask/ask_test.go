package ask

import (
	"bytes"
	"fmt"
	"math/big"
	"regexp"
	"slices"
	"strconv"
	"strings"
	"testing"
	"unsafe"

	"toller/api"
	"toller/digit"
	"toller/key"
)

const end = 1<<64 - 1

// dice tells numbers below a bound, always the same ones of one seed.
func dice(seed int) func(below uint64) uint64 {
	x := 88172645463325252 + uint64(seed)*0x9e3779b97f4a7c15
	return func(below uint64) uint64 {
		x ^= x << 13
		x ^= x >> 7
		x ^= x << 17
		return (x >> 7) % below
	}
}

// long is a text of so many bytes.
func long(n int) string {
	return strings.Repeat("k", n)
}

// with is a text with another byte at a place.
func with(s string, at int, c byte) string {
	return s[:at] + string([]byte{c}) + s[at+1:]
}

// show is a value as a text of no great length.
func show(x any) string {
	return fmt.Sprintf("%.300s", fmt.Sprintf("%+q", x))
}

// may says whether a key may be, by bytes that are listed.
func may(k string) bool {
	const all = "!\"#$%&'()*+,-./0123456789:;<=>?@" +
		"ABCDEFGHIJKLMNOPQRSTUVWXYZ[\\]^_`abcdefghijklmnopqrstuvwxyz{|}~"
	for i := range len(k) {
		if strings.IndexByte(all, k[i]) < 0 {
			return false
		}
	}
	return len(k) >= 1 && len(k) <= 128
}

// cases are keys, the ones that may be and the ones that may not.
func cases() (right, wrong []string) {
	right = []string{
		"a", "7", "!", "~", "-", "CHECK", "api/a", "a\\b", "\"", "0", "18446744073709551616",
		"default", "a,b;c=d", "#", long(2), long(127), long(128),
	}
	wrong = []string{
		"", "\t", "\n", "\r", "\x00", "\x01", "\x1f", "\x7f", "\x80", "\xa0", "\xff", "a\tb", "\ta",
		"a\n", "a\x00", "\x00a", "\u00e9", "a\u00a0b", "\u2003", "\ufeffa",
		long(129), long(130), long(256), long(384), long(4096), long(1 << 20),
	}
	return right, wrong
}

// costs are the ones that are numbers, by what they are.
func costs() map[string]uint64 {
	return map[string]uint64{
		"0": 0, "1": 1, "7": 7, "9": 9, "10": 10, "11": 11, "99": 99, "100": 100, "1000000000": 1000000000,
		"4294967295": 1<<32 - 1, "4294967296": 1 << 32,
		"4611686018427387904": 1 << 62, "9223372036854775807": 1<<63 - 1, "9223372036854775808": 1 << 63,
		"9999999999999999999": 9999999999999999999, "10000000000000000000": 10000000000000000000,
		"18446744073709551609": end - 6, "18446744073709551614": end - 1, "18446744073709551615": end,
	}
}

// wrongCosts are the ones that are none, by what is wrong.
func wrongCosts() map[api.Errno][]string {
	nines, ones := strings.Repeat("9", 5000), strings.Repeat("1", 5000)
	return map[api.Errno][]string{
		api.ErrDigit: {
			"", "x", "-", "+", "-1", "+1", "-0", "00", "01", "07", "007", "0x1f", "1e3", "1.0", "1_000", "1,000",
			"\t", "\t1", "1\t", "1\n", "\n1", "1\r\n", "\x00", "1\x00", "\x001", "\xff", "1\xff", "a", "1a", "a1", "1a2",
			"/", ":", "\u0663", "\uff11", "\u00b2", "1\u00a0", "018446744073709551615", "018446744073709551616",
			"1844674407370955161x", "x8446744073709551616", "18446744073709551616x", "-18446744073709551616",
			nines + "x", "x" + nines, "0" + ones, ones + "\n", "9999x9999999999999999999999",
		},
		api.ErrBig: {
			"18446744073709551616", "18446744073709551617", "18446744073709551620", "18446744073709551700",
			"18446744073709552000", "19000000000000000000", "20000000000000000000", "36893488147419103232",
			"99999999999999999999", "100000000000000000000", "184467440737095516150", "340282366920938463463374607431768211456",
			nines, ones,
		},
	}
}

// noRequests are bytes that are no request.
func noRequests() []string {
	return []string{
		"", " ", "  ", "   ", "a", "7", "C", "CHECK", "CHECK ", "CHECK a", "CHECK 7", "CHECKa7",
		// Other letters, a byte more, a byte fewer, another one.
		"check a 7", "Check a 7", "cHECK a 7", "CHECk a 7", "CHEcK a 7", "CHECK\x00 a 7", "CHECKS a 7", "CHECKK a 7",
		"XCHECK a 7", "CCHECK a 7", "CHEC a 7", "HECK a 7", "CHCK a 7", "CHEKC a 7", "CHEXK a 7", "\uff23HECK a 7",
		"CHECKCHECK a 7", "TICK a 7", "a 7", "\x00CHECK a 7", "\ufeffCHECK a 7", "\"CHECK\" a 7",
		// A blank ahead, behind, two of them, and none.
		" CHECK a 7", "  CHECK a 7", " CHECK  a", "CHECK  a 7", "CHECK a  7", "CHECK a 7 ", "CHECK a 7  ", "CHECK   ",
		"CHECK  a  7", "CHECKa 7", "CHECK a7", "CHECK a 7 \n", "CHECK a  ", "CHECK  7 ",
		// Other bytes in its place.
		"CHECK\ta 7", "CHECK a\t7", "CHECK\ta\t7", "CHECK\na 7", "CHECK a\n7", "CHECK\x00a 7", "CHECK a\x007",
		"CHECK\ra 7", "CHECK a\r\n7", "CHECK_a 7", "CHECK a_7", "CHECK\u00a0a 7", "CHECK a\u00a07", "CHECK\u2003a 7", "CHECK,a 7",
		"\tCHECK a", "CHECK\t a", "CHECK \ta",
		// More parts than three.
		"CHECK a 7 8", "CHECK a b 7", "CHECK a 7 8 9", "CHECK CHECK a 7", "CHECK a 7 CHECK a 7", "CHECK 7 a b",
		"CHECK a 7 x", "CHECK a 7 \xff", "CHECK a 7\n CHECK b 7", "CHECK a 7;CHECK b 7",
		strings.Repeat(" ", 1<<16), "CHECK" + strings.Repeat(" ", 1<<16), strings.Repeat("CHECK a 7 ", 1000), long(1 << 16),
		"CHECK " + long(1<<16), "CHECK " + long(128) + " " + strings.Repeat("1", 5000) + " ",
	}
}

// checkParse: bytes tell a key, a cost and an error, and stay what they are.
func checkParse(t *testing.T, s, k string, n uint64, e api.Errno) {
	t.Helper()
	b := []byte(s)
	gotK, gotN, gotE := Parse(b)
	if gotK != k || gotN != n || gotE != e {
		t.Errorf("Parse(%s) = %s, %d, %d, want %s, %d, %d", show(s), show(gotK), gotN, gotE, show(k), n, e)
	}
	if string(b) != s {
		t.Errorf("Parse(%s) left %s", show(s), show(b))
	}
}

// checkNot: bytes tell an error, and nothing beside it.
func checkNot(t *testing.T, s string, e api.Errno) {
	t.Helper()
	checkParse(t, s, "", 0, e)
}

// checkRead: bytes tell a key and a cost, of which these bytes are printed.
func checkRead(t *testing.T, s, k string, n uint64) {
	t.Helper()
	checkParse(t, s, k, n, api.OK)
	if b, e := Print(k, n); string(b) != s || e != api.OK {
		t.Errorf("Print(%s, %d) = %s, %d, want %s", show(k), n, show(b), e, show(s))
	}
}

// checkNoPrint: of a key nothing is printed.
func checkNoPrint(t *testing.T, k string, n uint64) {
	t.Helper()
	if b, e := Print(k, n); len(b) != 0 || e != api.ErrKey {
		t.Errorf("Print(%s, %d) = %s, %d, want ErrKey", show(k), n, show(b), e)
	}
}

// request is what three parts are, by the chapter's words.
var request = regexp.MustCompile(`\A\x43\x48\x45\x43\x4b\x20([^\x20]*)\x20([^\x20]*)\z`)

// wantCost is a cost, by big numbers.
func wantCost(s string) (uint64, api.Errno) {
	if s == "" || strings.Trim(s, "0123456789") != "" || strings.HasPrefix(s, "0") && s != "0" {
		return 0, api.ErrDigit
	}
	n, _ := new(big.Int).SetString(s, 10)
	if !n.IsUint64() {
		return 0, api.ErrBig
	}
	return n.Uint64(), api.OK
}

// wantParse is what is asked, by the chapter's words.
func wantParse(s string) (string, uint64, api.Errno) {
	m := request.FindSubmatch([]byte(s))
	if m == nil {
		return "", 0, api.ErrAsk
	}
	if !may(string(m[1])) {
		return "", 0, api.ErrKey
	}
	n, e := wantCost(string(m[2]))
	if e != api.OK {
		return "", 0, e
	}
	return string(m[1]), n, api.OK
}

// checkWords: bytes tell what the chapter's words say, and where they tell a
// key and a cost, these are printed as those bytes.
func checkWords(t *testing.T, s string) api.Errno {
	t.Helper()
	k, n, e := wantParse(s)
	if e != api.OK {
		checkNot(t, s, e)
		return e
	}
	checkRead(t, s, k, n)
	return e
}

func TestExamples(t *testing.T) {
	checkRead(t, "CHECK a 7", "a", 7)
	checkNot(t, "CHECK a", api.ErrAsk)
}

func TestErrorsAreTheirNumbers(t *testing.T) {
	for s, want := range map[string]api.Errno{
		"CHECK a": 13, "CHECK  7": 12, "CHECK a x": 10, "CHECK a 18446744073709551616": 11, "CHECK a 7": 0,
	} {
		if _, _, e := Parse([]byte(s)); e != want {
			t.Errorf("Parse(%q) tells %d, want %d", s, e, want)
		}
	}
	if _, e := Print("", 7); e != 12 {
		t.Errorf("Print of an empty key tells %d", e)
	}
	if _, e := Print("a", 7); e != 0 {
		t.Errorf("Print of a tells %d", e)
	}
}

func TestParseOfNothing(t *testing.T) {
	for _, b := range [][]byte{nil, {}, make([]byte, 0, 9), []byte("CHECK a 7")[:0]} {
		if k, n, e := Parse(b); k != "" || n != 0 || e != api.ErrAsk {
			t.Errorf("Parse(%#v) = %q, %d, %d", b, k, n, e)
		}
	}
}

// TestParseOfEachFront: what a request begins with is none, but where it ends
// in the cost.
func TestParseOfEachFront(t *testing.T) {
	for _, k := range []string{"a", "api/a", "CHECK", long(128)} {
		for _, cost := range []string{"0", "7", "1234", "18446744073709551615"} {
			whole := "CHECK " + k + " " + cost
			ahead := len(whole) - len(cost)
			for i := range len(whole) + 1 {
				switch {
				case i < ahead:
					checkNot(t, whole[:i], api.ErrAsk)
				case i == ahead:
					checkNot(t, whole[:i], api.ErrDigit)
				default:
					n, err := strconv.ParseUint(whole[ahead:i], 10, 64)
					if err != nil {
						t.Fatal(err)
					}
					checkRead(t, whole[:i], k, n)
				}
			}
			// Nor is what is left of it behind a byte, but for itself.
			for i := 1; i <= len(whole); i++ {
				checkNot(t, whole[i:], api.ErrAsk)
			}
		}
	}
}

func TestParseOfNoRequest(t *testing.T) {
	for _, s := range noRequests() {
		checkNot(t, s, api.ErrAsk)
	}
}

// TestParseOfTheWord: no other byte may stand in it, nor one more.
func TestParseOfTheWord(t *testing.T) {
	const word, rest = "CHECK", " a 7"
	for i := range word {
		checkNot(t, word[:i]+word[i+1:]+rest, api.ErrAsk)
		for c := range 256 {
			if byte(c) != word[i] {
				checkNot(t, with(word, i, byte(c))+rest, api.ErrAsk)
			}
		}
	}
	for i := range len(word) + 1 {
		for c := range 256 {
			checkNot(t, word[:i]+string([]byte{byte(c)})+word[i:]+rest, api.ErrAsk)
		}
	}
	// In all mixes of great and small letters.
	for mix := 1; mix < 1<<len(word); mix++ {
		b := []byte(word)
		for i := range b {
			b[i] |= byte(mix>>i&1) * 0x20
		}
		checkNot(t, string(b)+rest, api.ErrAsk)
	}
}

// TestParseOfOtherBlanks: but for 20 no byte stands for one, the first or the
// second, and one of 20 more is one too many.
func TestParseOfOtherBlanks(t *testing.T) {
	const whole = "CHECK api/a 7"
	for _, at := range []int{5, 11} {
		for c := range 256 {
			if c != ' ' {
				checkNot(t, with(whole, at, byte(c)), api.ErrAsk)
			}
		}
	}
	for i := range len(whole) + 1 {
		checkNot(t, whole[:i]+" "+whole[i:], api.ErrAsk)
		checkNot(t, whole[:i]+"  "+whole[i:], api.ErrAsk)
	}
	for _, at := range []int{5, 11} {
		checkNot(t, whole[:at]+whole[at+1:], api.ErrAsk)
	}
	checkNot(t, "CHECKapi/a7", api.ErrAsk)
}

func TestParseOfEmptyParts(t *testing.T) {
	checkNot(t, "CHECK  7", api.ErrKey)
	checkNot(t, "CHECK a ", api.ErrDigit)
	checkNot(t, "CHECK  ", api.ErrKey)
	checkNot(t, "  ", api.ErrAsk)
	checkNot(t, " a 7", api.ErrAsk)
}

func TestParseOfKeys(t *testing.T) {
	right, wrong := cases()
	for _, k := range right {
		checkRead(t, "CHECK "+k+" 7", k, 7)
	}
	for _, k := range wrong {
		checkNot(t, "CHECK "+k+" 7", api.ErrKey)
	}
}

// TestParseOfEachByteOfAKey: each byte is in it or may not be, wherever it
// stands, but for a blank, which ends it.
func TestParseOfEachByteOfAKey(t *testing.T) {
	for _, size := range []int{1, 2, 3, 64, 127, 128} {
		for _, at := range []int{0, size / 2, size - 1} {
			for c := range 256 {
				k := with(long(size), at, byte(c))
				switch {
				case c == ' ':
					checkNot(t, "CHECK "+k+" 7", api.ErrAsk)
				case c >= 0x21 && c <= 0x7e:
					checkRead(t, "CHECK "+k+" 7", k, 7)
				default:
					checkNot(t, "CHECK "+k+" 7", api.ErrKey)
				}
			}
		}
	}
}

func TestParseOfEachLengthOfAKey(t *testing.T) {
	for n := 1; n <= 300; n++ {
		if n <= 128 {
			checkRead(t, "CHECK "+long(n)+" 7", long(n), 7)
		} else {
			checkNot(t, "CHECK "+long(n)+" 7", api.ErrKey)
		}
	}
}

func TestParseOfCosts(t *testing.T) {
	for _, k := range []string{"a", "7", long(128)} {
		for s, n := range costs() {
			checkRead(t, "CHECK "+k+" "+s, k, n)
		}
		for e, l := range wrongCosts() {
			for _, s := range l {
				checkNot(t, "CHECK "+k+" "+s, e)
			}
		}
	}
}

// TestParseOfEachByteOfACost: only digits are in it, and no 0 ahead of others.
func TestParseOfEachByteOfACost(t *testing.T) {
	for _, size := range []int{1, 2, 3, 19, 20, 21, 40} {
		for at := range size {
			for c := range 256 {
				checkWords(t, "CHECK a "+with(strings.Repeat("1", size), at, byte(c)))
			}
		}
	}
}

// TestErrorsOfACostAreDigits: what a cost tells is what digit.Parse does.
func TestErrorsOfACostAreDigits(t *testing.T) {
	roll := dice(1)
	for range 20000 {
		s := ""
		for range roll(24) {
			s += string("0123456789999x\t-"[roll(16)])
		}
		n, e := digit.Parse(s)
		k := ""
		if e == api.OK {
			k = "a"
		}
		checkParse(t, "CHECK a "+s, k, n, e)
	}
}

// TestOrderOfErrors: what is no request is told ahead of a key that is none,
// and that ahead of a cost that is none.
func TestOrderOfErrors(t *testing.T) {
	right, wrong := cases()
	for _, k := range wrong {
		for _, l := range wrongCosts() {
			for _, s := range l {
				checkNot(t, "CHECK "+k+" "+s, api.ErrKey)
				if len(k)+len(s) < 5000 {
					checkNoRequest(t, k, s)
				}
			}
		}
		for s := range costs() {
			checkNot(t, "CHECK "+k+" "+s, api.ErrKey)
			checkNoRequest(t, k, s)
		}
	}
	for _, k := range right {
		for e, l := range wrongCosts() {
			for _, s := range l {
				checkNot(t, "CHECK "+k+" "+s, e)
				checkNoRequest(t, k, s)
			}
		}
	}
}

// checkNoRequest: these two parts don't count where there is no request.
func checkNoRequest(t *testing.T, k, s string) {
	t.Helper()
	for _, x := range []string{
		"check " + k + " " + s, " CHECK " + k + " " + s, "CHECK  " + k + " " + s, "CHECK " + k + "  " + s,
		"CHECK " + k + " " + s + " ", "CHECK " + k + " " + s + " 7", "CHECK " + k + s, "CHECK\t" + k + " " + s, "CHEC " + k + " " + s,
	} {
		checkNot(t, x, api.ErrAsk)
	}
}

func TestPrint(t *testing.T) {
	right, wrong := cases()
	numbers := map[uint64]string{
		0: "0", 1: "1", 9: "9", 10: "10", 99: "99", 100: "100", 1 << 62: "4611686018427387904",
		1 << 63: "9223372036854775808", end - 1: "18446744073709551614", end: "18446744073709551615",
	}
	for n, s := range numbers {
		for _, k := range right {
			checkRead(t, "CHECK "+k+" "+s, k, n)
		}
		for _, k := range append(wrong, " ", "a b", " a", "a ", "a 7", "CHECK a", "CHECK a 7") {
			checkNoPrint(t, k, n)
		}
	}
}

// TestPrintByteByByte: nothing stands ahead of what is printed, nor behind it.
func TestPrintByteByByte(t *testing.T) {
	b, e := Print("a/", 10)
	want := []byte{0x43, 0x48, 0x45, 0x43, 0x4b, 0x20, 0x61, 0x2f, 0x20, 0x31, 0x30}
	if !slices.Equal(b, want) || e != api.OK {
		t.Errorf("Print(a/, 10) = %x, %d, want %x", b, e, want)
	}
}

func TestPrintOfEachByte(t *testing.T) {
	for _, size := range []int{1, 2, 3, 128} {
		for _, at := range []int{0, size / 2, size - 1} {
			for c := range 256 {
				k := with(long(size), at, byte(c))
				if c >= 0x21 && c <= 0x7e {
					checkRead(t, "CHECK "+k+" 0", k, 0)
				} else {
					checkNoPrint(t, k, 0)
				}
			}
		}
	}
}

// TestPrintedIsRead: of what is printed the same key and the same cost are
// told, whatever they are.
func TestPrintedIsRead(t *testing.T) {
	roll := dice(2)
	for range 20000 {
		b := make([]byte, 1+roll(128))
		for i := range b {
			b[i] = byte(0x21 + roll(0x7e-0x21+1))
		}
		k, n := string(b), roll(1<<57)<<7>>roll(64)
		text, e := Print(k, n)
		if e != api.OK {
			t.Fatalf("Print(%q, %d) tells %d", k, n, e)
		}
		checkRead(t, string(text), k, n)
	}
}

// one is one of these texts.
func one(l []string, roll func(uint64) uint64) string {
	return l[roll(uint64(len(l)))]
}

// broken is a text with some bytes put in, or others, or its end cut off.
func broken(s string, roll func(uint64) uint64) string {
	const some = " \t\n\x00CHECKa07\xff"
	b := []byte(s)
	for range roll(4) {
		at := int(roll(uint64(len(b) + 1)))
		c := some[roll(uint64(len(some)))]
		switch roll(3) {
		case 0:
			b = slices.Insert(b, at, c)
		case 1:
			b = b[:at]
		default:
			if at < len(b) {
				b[at] = c
			}
		}
	}
	return string(b)
}

// TestByTheWords: mixed requests, whole and broken, against a second reading
// of the chapter. Each error is met often.
func TestByTheWords(t *testing.T) {
	roll := dice(3)
	right, wrong := cases()
	// But for the last one, which is so long that many of it are slow.
	wrong = wrong[:len(wrong)-1]
	none := wrongCosts()
	met := map[api.Errno]int{}
	for range 50000 {
		k, cost := one(right, roll), strconv.FormatUint(roll(1<<57)<<7>>roll(64), 10)
		switch roll(6) {
		case 0:
			k = one(wrong, roll)
		case 1:
			cost = one(none[api.ErrDigit], roll)
		case 2:
			cost = one(none[api.ErrBig], roll)
		case 3:
			k, cost = one(wrong, roll), one(none[api.ErrDigit], roll)
		}
		s := "CHECK " + k + " " + cost
		if roll(3) == 0 {
			s = broken(s, roll)
		}
		met[checkWords(t, s)]++
	}
	for _, e := range []api.Errno{api.OK, api.ErrAsk, api.ErrKey, api.ErrDigit, api.ErrBig} {
		if met[e] < 500 {
			t.Errorf("%d is met %d times only", e, met[e])
		}
	}
}

// TestAllShort: all short texts of some bytes, behind what a request begins
// with and without it.
func TestAllShort(t *testing.T) {
	const alphabet = " a0\t1"
	var walk func(s string)
	walk = func(s string) {
		for _, front := range []string{"", "CHECK", "CHECK ", "CHECK a", "CHECK a "} {
			checkWords(t, front+s)
		}
		if len(s) < 6 {
			for _, c := range alphabet {
				walk(s + string(c))
			}
		}
	}
	walk("")
}

// TestEveryByteOfARequest: each byte in each other's place, each one put in
// at each place, and each one gone.
func TestEveryByteOfARequest(t *testing.T) {
	for _, whole := range []string{"CHECK a 7", "CHECK api/a 18446744073709551615", "CHECK CHECK 0"} {
		for i := range len(whole) + 1 {
			for c := range 256 {
				checkWords(t, whole[:i]+string([]byte{byte(c)})+whole[i:])
				if i < len(whole) {
					checkWords(t, with(whole, i, byte(c)))
				}
			}
			if i < len(whole) {
				checkWords(t, whole[:i]+whole[i+1:])
			}
		}
	}
}

// TestKeysAreKeys: the key that is read is one by package key, and what is
// not one is not read.
func TestKeysAreKeys(t *testing.T) {
	right, wrong := cases()
	for _, k := range append(right, wrong...) {
		_, _, e := Parse([]byte("CHECK " + k + " 1"))
		if key.Right(k) != (e == api.OK) {
			t.Errorf("%s: %d", show(k), e)
		}
	}
}

// TestBehindTheLength: what lies there is not read, nor written.
func TestBehindTheLength(t *testing.T) {
	texts := []string{"", "CHECK", "CHECK a", "CHECK a ", "CHECK a 7", "CHECK  7", "CHECK a x", "check", "CHECK a 18446744073709551616"}
	behind := []string{"", " ", "7", " 7", " a 7", "x", "\x00", " 8 9", strings.Repeat("9", 40)}
	for _, s := range texts {
		for _, more := range behind {
			b := []byte(s + more)
			k, n, e := Parse(b[:len(s)])
			wantK, wantN, wantE := wantParse(s)
			if k != wantK || n != wantN || e != wantE {
				t.Errorf("Parse(%q), ahead of %q, = %q, %d, %d", s, more, k, n, e)
			}
			if string(b) != s+more {
				t.Errorf("Parse(%q), ahead of %q, left %q", s, more, b)
			}
		}
	}
}

// TestChangedBehindParse: a key that was told stays what it is, whatever the
// bytes become.
func TestChangedBehindParse(t *testing.T) {
	for _, k := range []string{"a", "ab", "api/a", long(128)} {
		b := []byte("CHECK " + k + " 7")
		got, _, e := Parse(b)
		clear(b)
		if got != k || e != api.OK {
			t.Errorf("%q became %q, %d", k, got, e)
		}
	}
}

// raw is a text in memory of its own.
func raw(s string) string {
	return string(append(make([]byte, 0, len(s)+1), s...))
}

// spoil changes a text's bytes, which none but a test may.
func spoil(s string) {
	b := unsafe.Slice(unsafe.StringData(s), len(s))
	for i := range b {
		b[i] ^= 1
	}
}

// TestOwnMemory: what is told shares no memory with what was handed in, nor
// with what another call tells.
func TestOwnMemory(t *testing.T) {
	for _, k := range []string{"a", "7", "ab", "api/a", long(128)} {
		b := []byte("CHECK " + k + " 7")
		one, _, _ := Parse(b)
		two, _, _ := Parse(b)
		spoil(one)
		three, n, e := Parse(b)
		if two != k || three != k || n != 7 || e != api.OK || string(b) != "CHECK "+k+" 7" {
			t.Errorf("behind a change of %q: %q, %q, %d, %d, %q", k, two, three, n, e, b)
		}
	}
}

// TestPrintedIsNew: bytes that were printed, changed, change nothing that is
// printed later, nor the key.
func TestPrintedIsNew(t *testing.T) {
	for _, k := range []string{"a", "ab", long(128)} {
		handed := raw(k)
		want := "CHECK " + k + " 7"
		one, _ := Print(handed, 7)
		two, _ := Print(handed, 7)
		clear(one)
		one = append(one, "behind it"...)
		three, e := Print(handed, 7)
		if string(two) != want || string(three) != want || e != api.OK || handed != k {
			t.Errorf("behind a change: %q, %q, %d, %q", two, three, e, handed)
		}
		clear(one[:cap(one)])
		for _, b := range [][]byte{two, three} {
			behind := append(b, "x"...)
			clear(behind)
		}
		four, _ := Print(handed, 7)
		if len(k) > 1 {
			spoil(handed)
		}
		if string(four) != want {
			t.Errorf("%q became %q", want, four)
		}
	}
}

// TestAgain: a call tells the same however often, and whatever was asked
// between.
func TestAgain(t *testing.T) {
	texts := []string{"CHECK a 7", "CHECK a", "CHECK  7", "CHECK a x", "CHECK b 18446744073709551616", "CHECK b 9"}
	for range 3 {
		for _, s := range texts {
			checkWords(t, s)
			checkNoPrint(t, "", 7)
		}
	}
}

// TestVeryLong: whatever is handed in, a call ends.
func TestVeryLong(t *testing.T) {
	const size = 1 << 22
	k, nines, blanks := long(size), strings.Repeat("9", size), strings.Repeat(" ", size)
	checkNot(t, k, api.ErrAsk)
	checkNot(t, blanks, api.ErrAsk)
	checkNot(t, "CHECK"+blanks, api.ErrAsk)
	checkNot(t, "CHECK a "+blanks, api.ErrAsk)
	checkNot(t, "CHECK "+k+" 7", api.ErrKey)
	checkNot(t, "CHECK "+k+" "+nines, api.ErrKey)
	checkNot(t, "CHECK a "+nines, api.ErrBig)
	checkNot(t, "CHECK a "+nines+"x", api.ErrDigit)
	checkNot(t, "CHECK a "+nines+"x ", api.ErrAsk)
	checkNoPrint(t, k, 7)
	if b, e := Print(string(bytes.Repeat([]byte{0}, size)), 7); len(b) != 0 || e != api.ErrKey {
		t.Errorf("a key of noughts: %d bytes, %d", len(b), e)
	}
}
