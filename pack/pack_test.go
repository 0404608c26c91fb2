package pack

import (
	"bytes"
	"encoding/binary"
	"fmt"
	"runtime"
	"slices"
	"strings"
	"testing"
	"unsafe"

	"toller/api"
	"toller/key"
)

const end = 1<<64 - 1

// dice tells numbers below a bound, always the same ones of one seed.
func dice(seed int) func(below uint64) uint64 {
	x := 88172645463325252 + uint64(seed)*0x9e3779b97f4a7c15
	return func(below uint64) uint64 {
		x ^= x << 13
		x ^= x >> 7
		x ^= x << 17
		return (x >> 7) % below
	}
}

// edges are numbers at their ends, and each byte of one at its own.
func edges() []uint64 {
	l := []uint64{0, 1, 0x0102030405060708, 0xfffefdfcfbfaf9f8, end - 1, end}
	for i := range 64 {
		l = append(l, 1<<i-1, 1<<i, 1<<i+1)
	}
	for i := range 8 {
		l = append(l, 0xff<<(8*i), 0xab<<(8*i), end-0xff<<(8*i))
	}
	return l
}

// long is a text of so many bytes.
func long(n int) string {
	return strings.Repeat("k", n)
}

// of are entries of these keys, until 1, 2 and so on.
func of(keys ...string) []api.Entry {
	var l []api.Entry
	for i, k := range keys {
		l = append(l, api.Entry{Key: k, Until: uint64(i + 1)})
	}
	return l
}

// at is a snapshot of these at a clock.
func at(clock uint64, l ...api.Entry) api.Snap {
	return api.Snap{Clock: clock, Entries: l}
}

// many are n entries, their keys rising.
func many(n int) []api.Entry {
	var l []api.Entry
	for i := range n {
		l = append(l, api.Entry{Key: fmt.Sprintf("k%07d", i), Until: uint64(i) << 20})
	}
	return l
}

// same says whether two snapshots are.
func same(a, b api.Snap) bool {
	return a.Clock == b.Clock && slices.Equal(a.Entries, b.Entries)
}

// none says whether a snapshot is noughts.
func none(s api.Snap) bool {
	return s.Clock == 0 && len(s.Entries) == 0
}

// show is a value as a text of no great length.
func show(x any) string {
	return fmt.Sprintf("%.300s", fmt.Sprintf("%+q", x))
}

// eight is a number in eight bytes.
func eight(n uint64) string {
	return string(binary.BigEndian.AppendUint64(nil, n))
}

// four is a number in four bytes.
func four(n uint64) string {
	return string(binary.BigEndian.AppendUint32(nil, uint32(n)))
}

// front is what stands ahead of so many entries.
func front(clock, many uint64) string {
	return "\x54\x4c\x52\x31" + eight(clock) + four(many)
}

// entry is one as bytes, whatever its key.
func entry(k string, until uint64) string {
	return string([]byte{byte(len(k))}) + k + eight(until)
}

// bytesOf are a snapshot's, by the chapter's words, whether or not it may be.
func bytesOf(s api.Snap) string {
	text := front(s.Clock, uint64(len(s.Entries)))
	for _, x := range s.Entries {
		text += entry(x.Key, x.Until)
	}
	return text
}

// may says whether a key may be, by bytes that are listed.
func may(k string) bool {
	const all = "!\"#$%&'()*+,-./0123456789:;<=>?@" +
		"ABCDEFGHIJKLMNOPQRSTUVWXYZ[\\]^_`abcdefghijklmnopqrstuvwxyz{|}~"
	for i := range len(k) {
		if strings.IndexByte(all, k[i]) < 0 {
			return false
		}
	}
	return len(k) >= 1 && len(k) <= 128
}

// wantEncode is what is wrong with a snapshot, by the chapter's words.
func wantEncode(s api.Snap) api.Errno {
	wrong := func(x api.Entry) bool { return !may(x.Key) }
	if slices.ContainsFunc(s.Entries, wrong) {
		return api.ErrKey
	}
	for i := range s.Entries {
		if i > 0 && strings.Compare(s.Entries[i-1].Key, s.Entries[i].Key) >= 0 {
			return api.ErrOrder
		}
	}
	return api.OK
}

// wantDecode is what bytes tell, by the chapter's words: a number of bytes that
// are gone, and no reader.
func wantDecode(b string) (api.Snap, api.Errno) {
	if !strings.HasPrefix(b, "TLR1") {
		return api.Snap{}, api.ErrMagic
	}
	if len(b) < 16 {
		return api.Snap{}, api.ErrShort
	}
	s := api.Snap{Clock: binary.BigEndian.Uint64([]byte(b[4:12]))}
	gone := 16
	for i := range int(binary.BigEndian.Uint32([]byte(b[12:16]))) {
		if gone == len(b) || gone+9+int(b[gone]) > len(b) {
			return api.Snap{}, api.ErrShort
		}
		last := gone + 1 + int(b[gone])
		k := b[gone+1 : last]
		if !may(k) {
			return api.Snap{}, api.ErrKey
		}
		if i > 0 && s.Entries[i-1].Key >= k {
			return api.Snap{}, api.ErrOrder
		}
		s.Entries = append(s.Entries, api.Entry{Key: k, Until: binary.BigEndian.Uint64([]byte(b[last : last+8]))})
		gone = last + 8
	}
	if gone < len(b) {
		return api.Snap{}, api.ErrTail
	}
	return s, api.OK
}

// checkBytes: a snapshot is encoded to these bytes, which are as many as Size
// tells, and they are decoded to it.
func checkBytes(t *testing.T, s api.Snap, want string) {
	t.Helper()
	b, e := Encode(s)
	if e != api.OK || string(b) != want {
		t.Fatalf("Encode(%s) = %s, %v, want %s", show(s), show(b), e, show(want))
	}
	if n := Size(s); n != len(want) {
		t.Fatalf("Size(%s) = %d, want %d", show(s), n, len(want))
	}
	back, e := Decode(b)
	if e != api.OK || !same(back, s) {
		t.Fatalf("Decode(%s) = %s, %v, want %s", show(b), show(back), e, show(s))
	}
}

// checkNot: a snapshot is not encoded, but has a size.
func checkNot(t *testing.T, s api.Snap, want api.Errno) {
	t.Helper()
	if b, e := Encode(s); e != want || len(b) != 0 {
		t.Errorf("Encode(%s) = %s, %v, want %v", show(s), show(b), e, want)
	}
	n := 16
	for _, x := range s.Entries {
		n += len(x.Key) + 9
	}
	if got := Size(s); got != n {
		t.Errorf("Size(%s) = %d, want %d", show(s), got, n)
	}
}

// checkWrong: bytes are not decoded.
func checkWrong(t *testing.T, b string, want api.Errno) {
	t.Helper()
	if s, e := Decode([]byte(b)); e != want || !none(s) {
		t.Errorf("Decode(%s) = %s, %v, want %v", show(b), show(s), e, want)
	}
}

// checkDecode: bytes are decoded as the chapter's words tell, and if they are a
// snapshot's, then this one has these bytes and no others.
func checkDecode(t *testing.T, b string) api.Errno {
	t.Helper()
	want, wantE := wantDecode(b)
	s, e := Decode([]byte(b))
	if e != wantE || !same(s, want) {
		t.Fatalf("Decode(%s) = %s, %v, want %s, %v", show(b), show(s), e, show(want), wantE)
	}
	if e == api.OK {
		checkBytes(t, s, b)
	}
	return e
}

// TestExample is the chapter's.
func TestExample(t *testing.T) {
	checkBytes(t, at(1), "\x54\x4c\x52\x31\x00\x00\x00\x00\x00\x00\x00\x01\x00\x00\x00\x00")
}

// TestByHand: the bytes of no entries, of one, and of several, written out.
func TestByHand(t *testing.T) {
	checkBytes(t, api.Snap{}, "TLR1"+"\x00\x00\x00\x00\x00\x00\x00\x00"+"\x00\x00\x00\x00")
	checkBytes(t, at(0x0102030405060708), "TLR1"+"\x01\x02\x03\x04\x05\x06\x07\x08"+"\x00\x00\x00\x00")
	checkBytes(t, at(256, api.Entry{Key: "a", Until: 0x1112131415161718}),
		"TLR1"+"\x00\x00\x00\x00\x00\x00\x01\x00"+"\x00\x00\x00\x01"+
			"\x01"+"a"+"\x11\x12\x13\x14\x15\x16\x17\x18")
	checkBytes(t, at(end, api.Entry{Key: "!~"}, api.Entry{Key: "api/a", Until: end}, api.Entry{Key: "api/b", Until: 1 << 32}),
		"TLR1"+"\xff\xff\xff\xff\xff\xff\xff\xff"+"\x00\x00\x00\x03"+
			"\x02"+"!~"+"\x00\x00\x00\x00\x00\x00\x00\x00"+
			"\x05"+"api/a"+"\xff\xff\xff\xff\xff\xff\xff\xff"+
			"\x05"+"api/b"+"\x00\x00\x00\x01\x00\x00\x00\x00")
}

// TestNumbers: Clock and Until at their ends, on their own and beside each other.
func TestNumbers(t *testing.T) {
	for _, clock := range edges() {
		checkBytes(t, at(clock), "TLR1"+eight(clock)+"\x00\x00\x00\x00")
		for _, until := range edges() {
			checkBytes(t, at(clock, api.Entry{Key: "a", Until: until}, api.Entry{Key: "b", Until: clock}),
				"TLR1"+eight(clock)+"\x00\x00\x00\x02"+"\x01a"+eight(until)+"\x01b"+eight(clock))
		}
	}
}

// TestHowMany: the number of entries at the ends of its last bytes.
func TestHowMany(t *testing.T) {
	for _, x := range []struct {
		n    int
		want string
	}{
		{0, "\x00\x00\x00\x00"}, {1, "\x00\x00\x00\x01"}, {2, "\x00\x00\x00\x02"},
		{255, "\x00\x00\x00\xff"}, {256, "\x00\x00\x01\x00"}, {257, "\x00\x00\x01\x01"},
		{65535, "\x00\x00\xff\xff"}, {65536, "\x00\x01\x00\x00"}, {65537, "\x00\x01\x00\x01"},
		{0x012345, "\x00\x01\x23\x45"},
	} {
		l := many(x.n)
		var want strings.Builder
		want.WriteString("TLR1" + eight(7) + x.want)
		for _, y := range l {
			want.WriteString("\x08" + y.Key + eight(y.Until))
		}
		checkBytes(t, at(7, l...), want.String())
	}
}

// TestMostKeys: as many as may be active anywhere, there and back.
func TestMostKeys(t *testing.T) {
	s := at(3, many(api.MaxMost)...)
	b, e := Encode(s)
	if e != api.OK || len(b) != 16+api.MaxMost*17 || Size(s) != len(b) || string(b[:16]) != front(3, api.MaxMost) {
		t.Fatalf("Encode of %d entries = %d bytes, %v", api.MaxMost, len(b), e)
	}
	back, e := Decode(b)
	if e != api.OK || !same(back, s) {
		t.Errorf("Decode of %d entries = %s, %v", api.MaxMost, show(back), e)
	}
}

// TestLengths: keys of each length that may be, and of some that may not.
func TestLengths(t *testing.T) {
	for n := 1; n <= 128; n++ {
		checkBytes(t, at(0, api.Entry{Key: long(n), Until: 5}), front(0, 1)+string([]byte{byte(n)})+long(n)+eight(5))
		checkBytes(t, at(9, of("a", long(n), "l")...), front(9, 3)+entry("a", 1)+entry(long(n), 2)+entry("l", 3))
	}
	for _, n := range []int{0, 129, 130, 255, 256, 257, 300, 512, 1 << 20} {
		checkNot(t, at(0, of(long(n))...), api.ErrKey)
		checkNot(t, at(0, of("a", long(n), "l")...), api.ErrKey)
	}
	var all []string
	for n := 1; n <= 128; n++ {
		all = append(all, long(n))
	}
	s := at(1, of(all...)...)
	checkBytes(t, s, bytesOf(s))
}

// TestBytesOfKeys: each byte at the first, a middle and the last place of a key.
func TestBytesOfKeys(t *testing.T) {
	for c := range 256 {
		one := string([]byte{byte(c)})
		for _, k := range []string{one, one + "aa", "a" + one + "a", "aa" + one} {
			s := at(1, of(k)...)
			if c >= 0x21 && c <= 0x7e {
				checkBytes(t, s, front(1, 1)+entry(k, 1))
				continue
			}
			checkNot(t, s, api.ErrKey)
			checkWrong(t, bytesOf(s), api.ErrKey)
		}
	}
}

// list is how a list lies in memory.
type list struct {
	first       *api.Entry
	length, cap uint64
}

// fakes are so many entries, of which only the first one is there.
func fakes(first *api.Entry, n uint64) []api.Entry {
	l := list{first, n, n}
	return *(*[]api.Entry)(unsafe.Pointer(&l))
}

// TestMany: 2^32 entries are too many, whatever they are, and one less is not.
// None of too many is looked at: there is no memory behind the first one.
func TestMany(t *testing.T) {
	if unsafe.Sizeof(0) < 8 {
		t.Skip("no list is so long here")
	}
	for _, k := range []string{"", "a", "\x00"} {
		for _, n := range []uint64{1 << 32, 1<<32 + 1, 1 << 33, 3 << 32, 1 << 40} {
			first := api.Entry{Key: k}
			if b, e := Encode(api.Snap{Entries: fakes(&first, n)}); e != api.ErrMany || len(b) != 0 {
				t.Errorf("Encode of %d entries = %s, %v", n, show(b), e)
			}
		}
	}
	// The first one's key is told ahead of a look at those behind it.
	first := api.Entry{}
	for _, n := range []uint64{1<<32 - 1, 1<<32 - 2, 1 << 31} {
		if b, e := Encode(api.Snap{Entries: fakes(&first, n)}); e != api.ErrKey || len(b) != 0 {
			t.Errorf("Encode of %d entries = %s, %v", n, show(b), e)
		}
	}
}

// wrongs are keys that may not be.
func wrongs() []string {
	return []string{"", " ", "a b", "a\n", "\x7f", "\x80", "é", "\x00", "a\xff", long(129), long(255), long(256)}
}

// TestWrongKey: at each place a wrong key is told, also ahead of keys that do not
// rise, ahead of it and behind it.
func TestWrongKey(t *testing.T) {
	for _, k := range wrongs() {
		checkNot(t, at(1, of(k)...), api.ErrKey)
		for _, keys := range [][]string{{"a", "b", "c", "d"}, {"d", "c", "b", "a"}, {"a", "a", "a", "a"}, {"b", "a", "c", "d"}, {"a", "b", "d", "c"}} {
			for i := range keys {
				l := slices.Clone(keys)
				l[i] = k
				checkNot(t, at(1, of(l...)...), api.ErrKey)
				checkNot(t, at(1, of(slices.Insert(l, i, k)...)...), api.ErrKey)
			}
		}
	}
}

// pairs are keys of which the first is not less than the second.
func pairs() [][2]string {
	return [][2]string{
		{"b", "a"}, {"a", "a"}, {"ab", "a"}, {"a", "B"}, {"ab", "aa"}, {"b", "aa"}, {"~", "!"}, {"!!", "!"},
		{long(128), long(128)}, {long(128), long(127)}, {long(127) + "l", long(128)}, {"k~", long(128)},
	}
}

// TestOrder: keys that do not rise, at the first, a middle and the last place.
func TestOrder(t *testing.T) {
	for _, p := range pairs() {
		s := at(1, of(p[0], p[1])...)
		checkNot(t, s, api.ErrOrder)
		checkWrong(t, bytesOf(s), api.ErrOrder)
		if p[0] == p[1] {
			continue
		}
		s = at(1, of(p[1], p[0])...)
		checkBytes(t, s, bytesOf(s))
	}
	keys := []string{"a", "b", "c", "d", "e"}
	for i := range keys[1:] {
		twice := slices.Insert(slices.Clone(keys), i, keys[i])
		falls := slices.Clone(keys)
		falls[i], falls[i+1] = falls[i+1], falls[i]
		for _, l := range [][]string{twice, falls} {
			checkNot(t, at(1, of(l...)...), api.ErrOrder)
			checkWrong(t, bytesOf(at(1, of(l...)...)), api.ErrOrder)
		}
	}
	checkNot(t, at(1, of("a", "b", "c", "c")...), api.ErrOrder)
	checkNot(t, at(1, of("b", "c", "d", "a")...), api.ErrOrder)
	// Until when they are has nothing to do with their order.
	checkNot(t, at(1, api.Entry{Key: "a", Until: 1}, api.Entry{Key: "a", Until: 2}), api.ErrOrder)
	checkBytes(t, at(1, api.Entry{Key: "a", Until: 2}, api.Entry{Key: "b", Until: 1}), front(1, 2)+entry("a", 2)+entry("b", 1))
}

// TestMagic: what does not begin with the four is told ahead of all else.
func TestMagic(t *testing.T) {
	right := bytesOf(at(1, of("a", "b")...))
	for _, b := range []string{"", "T", "TL", "TLR", "TLR0", "TLR2", "TLr1", "tlr1", "1RLT", "\x00TLR1", " TLR1", "TLR\x001", "\x00\x00\x00\x00"} {
		checkWrong(t, b, api.ErrMagic)
		checkWrong(t, b+right[4:], api.ErrMagic)
		checkWrong(t, b+right[4:15], api.ErrMagic)
		checkWrong(t, b+right[4:len(right)-1], api.ErrMagic)
		checkWrong(t, b+right[4:]+"x", api.ErrMagic)
		checkWrong(t, b+eight(1)+four(2)+entry("", 1)+entry("a", 1), api.ErrMagic)
		checkWrong(t, b+eight(1)+four(2)+entry("b", 1)+entry("a", 1), api.ErrMagic)
	}
	for i := range 4 {
		for c := range 256 {
			b := []byte(right)
			b[i] = byte(c)
			if right[i] != byte(c) {
				checkWrong(t, string(b), api.ErrMagic)
				checkWrong(t, string(b[:4]), api.ErrMagic)
			}
		}
	}
	if s, e := Decode(nil); e != api.ErrMagic || !none(s) {
		t.Errorf("Decode(nil) = %s, %v", show(s), e)
	}
}

// TestFronts: whatever is right is not so without its last bytes, however many.
func TestFronts(t *testing.T) {
	for _, l := range [][]api.Entry{nil, of("a"), of("a", "b"), of(long(128)), of("a", long(128), "l"), many(20)} {
		b := bytesOf(at(end-1, l...))
		for n := range len(b) {
			want := api.ErrShort
			if n < 4 {
				want = api.ErrMagic
			}
			checkWrong(t, b[:n], want)
		}
		checkBytes(t, at(end-1, l...), b)
	}
}

// TestTail: bytes behind the last entry, one and many, of whatever kind.
func TestTail(t *testing.T) {
	for _, l := range [][]api.Entry{nil, of("a"), of("a", long(128)), many(300)} {
		b := bytesOf(at(5, l...))
		for c := range 256 {
			checkWrong(t, b+string([]byte{byte(c)}), api.ErrTail)
		}
		for _, more := range []string{entry("z", 1), entry("", 1), entry("a", 1), "TLR1", b, eight(0), long(1000), strings.Repeat("\x00", 1<<20)} {
			checkWrong(t, b+more, api.ErrTail)
		}
	}
}

// TestAnotherNumber: what is told of how many there are is more, or less, than
// there are.
func TestAnotherNumber(t *testing.T) {
	for _, n := range []int{0, 1, 2, 5, 255, 256, 257} {
		text := bytesOf(at(5, many(n)...))[16:]
		for told := range n {
			checkWrong(t, front(5, uint64(told))+text, api.ErrTail)
		}
		for _, told := range []int{n + 1, n + 2, n + 256, n + 1<<16, n + 1<<24, 1<<31 - 1, 1 << 31, 1<<32 - 1} {
			checkWrong(t, front(5, uint64(told))+text, api.ErrShort)
		}
		if _, e := Decode([]byte(front(5, uint64(n)) + text)); e != api.OK {
			t.Errorf("%d entries are told %v", n, e)
		}
	}
}

// taken is how many bytes of memory a call takes.
func taken(call func()) uint64 {
	var before, after runtime.MemStats
	runtime.ReadMemStats(&before)
	call()
	runtime.ReadMemStats(&after)
	return after.TotalAlloc - before.TotalAlloc
}

// TestMemory: the greatest number of entries takes no more memory than the bytes
// that are there are worth.
func TestMemory(t *testing.T) {
	for _, n := range []uint64{1 << 20, 1 << 24, 1 << 30, 1<<31 - 1, 1 << 31, 1<<32 - 1} {
		for _, behind := range []string{"", "\x01", "\x01a", entry("a", 1), entry("a", 1) + entry("b", 1), entry("", 1), long(200), strings.Repeat("\x00", 5000), bytesOf(at(1, many(500)...))[16:]} {
			b := []byte(front(1, n) + behind)
			if got := taken(func() { Decode(b) }); got > uint64(20*len(b)+5000) {
				t.Errorf("Decode of %d entries told, and %d bytes, takes %d of memory", n, len(b), got)
			}
		}
	}
}

// TestMemoryOfAll: a snapshot takes not much more memory than its own, there and
// back.
func TestMemoryOfAll(t *testing.T) {
	s := at(1, many(100000)...)
	b, _ := Encode(s)
	if got := taken(func() { Encode(s) }); got > uint64(8*len(b)) {
		t.Errorf("Encode of %d bytes takes %d of memory", len(b), got)
	}
	if got := taken(func() { Decode(b) }); got > uint64(8*len(b)) {
		t.Errorf("Decode of %d bytes takes %d of memory", len(b), got)
	}
	back, _ := Decode(b)
	if cap(back.Entries) > 2*len(back.Entries) || cap(b) > 2*len(b) {
		t.Errorf("told are %d entries in memory of %d, %d bytes in memory of %d", len(back.Entries), cap(back.Entries), len(b), cap(b))
	}
}

// TestEntryByEntry: what is wrong with an entry is told ahead of what is wrong
// with the ones behind it, and of what is left; within one, that it lacks bytes
// ahead of its key, and its key ahead of its order.
func TestEntryByEntry(t *testing.T) {
	right := entry("b", 1)
	fronts := [][]string{{"b"}, {"B", "b"}, {"!", "B", "b"}}
	ill := map[api.Errno][]string{
		api.ErrShort: {
			"", "\x00", "\x01", "\x80", "\xff", "\x00" + eight(0)[:7], "\x01c", "\x01c" + eight(0)[:7], "\x01a" + eight(0)[:7],
			"\x01 " + eight(0)[:7], "\x80" + long(128), "\x80" + long(135), "\x81" + long(136), "\xff" + long(262),
		},
		api.ErrKey:   {entry("", 1), entry(" ", 1), entry("c\x00", 1), entry("c\x7f", 2), entry("a ", 1), entry(long(129), 1), entry(long(255), 1)},
		api.ErrOrder: {entry("b", 1), entry("a", 1), entry("B", 1), entry("!", 1), entry("az", 1)},
	}
	for _, keys := range fronts {
		text, n := bytesOf(at(1, of(keys...)...))[16:], uint64(len(keys))
		for e, l := range ill {
			for _, x := range l {
				for _, told := range []uint64{n + 1, n + 2, 1<<32 - 1} {
					checkWrong(t, front(1, told)+text+x, e)
				}
				if e == api.ErrShort {
					// Bytes behind it would be its own.
					continue
				}
				for _, y := range slices.Concat(ill[api.ErrShort], ill[api.ErrKey], ill[api.ErrOrder], []string{right, "x"}) {
					checkWrong(t, front(1, n+1)+text+x+y, e)
					checkWrong(t, front(1, n+2)+text+x+y, e)
				}
			}
		}
	}
}

// TestFirstEntry: the first one has none ahead of it.
func TestFirstEntry(t *testing.T) {
	for _, k := range []string{"!", "!!", "a", "~", long(128)} {
		checkBytes(t, at(1, of(k)...), front(1, 1)+entry(k, 1))
	}
	for _, k := range wrongs() {
		if len(k) > 255 {
			continue
		}
		checkWrong(t, front(1, 1)+entry(k, 1), api.ErrKey)
		checkWrong(t, front(1, 1)+entry(k, 1)+"x", api.ErrKey)
		checkWrong(t, front(1, 2)+entry(k, 1), api.ErrKey)
		checkWrong(t, front(1, 1)+entry(k, 1)[:len(k)+8], api.ErrShort)
		checkWrong(t, front(1, 1)+entry(k, 1)[:len(k)], api.ErrShort)
	}
}

// TestEachByte: each byte of right bytes is each other one, and told as the
// chapter's words tell it; no other bytes are the same snapshot's.
func TestEachByte(t *testing.T) {
	for _, s := range []api.Snap{{}, at(1), at(1, of("a")...), at(1<<32+5, of("a", "b", "c")...), at(end, of("a", "aa", "b", "ba", long(9))...)} {
		right := bytesOf(s)
		for i := range len(right) {
			for c := range 256 {
				b := right[:i] + string([]byte{byte(c)}) + right[i+1:]
				checkDecode(t, b)
				if got, _ := Decode([]byte(b)); same(got, s) && b != right && !none(s) {
					t.Fatalf("Decode(%s) = Decode(%s)", show(b), show(right))
				}
			}
		}
	}
}

// TestAllShort: all texts of some bytes behind a head, as the words tell.
func TestAllShort(t *testing.T) {
	letters := []byte{0, 1, 2, 'a', 'b', ' '}
	var grow func(b []byte, left int)
	met := map[api.Errno]int{}
	for _, n := range []uint64{0, 1, 2} {
		grow = func(b []byte, left int) {
			met[checkDecode(t, front(0, n)+string(b))]++
			// Until is the same eight bytes behind each of these.
			met[checkDecode(t, front(0, n)+string(b)+eight(3))]++
			if left > 0 {
				for _, c := range letters {
					grow(append(b[:len(b):len(b)], c), left-1)
				}
			}
		}
		grow(nil, 5)
	}
	for _, e := range []api.Errno{api.OK, api.ErrShort, api.ErrKey, api.ErrTail} {
		if met[e] == 0 {
			t.Errorf("none of these is told %v", e)
		}
	}
}

// someKey is one that mostly may be.
func someKey(roll func(uint64) uint64) string {
	switch roll(40) {
	case 0:
		return wrongs()[roll(uint64(len(wrongs())))]
	case 1:
		return long(int(roll(130)))
	}
	k := make([]byte, roll(3)+1)
	for i := range k {
		k[i] = "!abcz~"[roll(6)]
	}
	return string(k)
}

// someSnap is one whose keys mostly rise.
func someSnap(roll func(uint64) uint64) api.Snap {
	s := at(edges()[roll(uint64(len(edges())))])
	var keys []string
	for range roll(8) {
		keys = append(keys, someKey(roll))
	}
	if roll(4) > 0 {
		slices.Sort(keys)
		keys = slices.Compact(keys)
	}
	for _, k := range keys {
		s.Entries = append(s.Entries, api.Entry{Key: k, Until: edges()[roll(uint64(len(edges())))]})
	}
	return s
}

// harm changes bytes here and there, or not.
func harm(b string, roll func(uint64) uint64) string {
	for range roll(4) {
		i := int(roll(uint64(len(b) + 1)))
		switch {
		case roll(3) == 0:
			b = b[:i]
		case roll(2) == 0:
			b = b[:i] + string([]byte{byte(roll(256))}) + b[i:]
		case i < len(b):
			b = b[:i] + string([]byte{byte(roll(256))}) + b[i+1:]
		}
	}
	return b
}

// TestByTheWords: mixed snapshots, and their bytes, harmed or not, against a
// second reading of the chapter; no two snapshots have the same bytes.
func TestByTheWords(t *testing.T) {
	roll := dice(1)
	met := map[api.Errno]int{}
	seen := map[string]api.Snap{}
	for range 40000 {
		s := someSnap(roll)
		e := wantEncode(s)
		met[e]++
		if e != api.OK {
			checkNot(t, s, e)
		} else {
			b := bytesOf(s)
			checkBytes(t, s, b)
			if other, is := seen[b]; is && !same(other, s) {
				t.Fatalf("%s and %s have the same bytes", show(s), show(other))
			}
			seen[b] = s
		}
		met[checkDecode(t, harm(bytesOf(s), roll))]++
	}
	for _, e := range []api.Errno{api.OK, api.ErrKey, api.ErrOrder, api.ErrMagic, api.ErrShort, api.ErrTail} {
		if met[e] < 100 {
			t.Errorf("%v is told %d times alone", e, met[e])
		}
	}
}

// TestNoTwoAlike: snapshots that differ in one thing have other bytes.
func TestNoTwoAlike(t *testing.T) {
	l := []api.Snap{
		{}, at(1), at(1 << 56), at(1 << 32), at(0, of("a")...), at(1, of("a")...), at(0, of("b")...), at(0, of("aa")...), at(0, of("a", "aa")...),
		at(0, of("a", "b")...), at(0, api.Entry{Key: "a"}), at(0, api.Entry{Key: "a", Until: 1 << 8}), at(0, api.Entry{Key: "a", Until: 'b' << 56}),
		at(0, api.Entry{Key: "ab"}), at(0, api.Entry{Key: "a", Until: 1}, api.Entry{Key: "b"}),
	}
	for i, a := range l {
		for j, b := range l {
			x, _ := Encode(a)
			y, _ := Encode(b)
			if bytes.Equal(x, y) != (i == j) {
				t.Errorf("%s has the bytes %s, and %s has %s", show(a), show(x), show(b), show(y))
			}
		}
	}
}

// TestOrderOfKey: what Encode takes for rising is what key.Sorted does, and
// Decode, too.
func TestOrderOfKey(t *testing.T) {
	l := []string{"!", "!!", "A", "a", "aa", "ab", "b", "~", "~~"}
	for _, a := range l {
		for _, b := range l {
			for _, c := range l {
				s := at(1, of(a, b, c)...)
				want := api.OK
				if !key.Sorted([]string{a, b, c}) {
					want = api.ErrOrder
				}
				_, e := Encode(s)
				_, f := Decode([]byte(bytesOf(s)))
				if e != want || f != want {
					t.Fatalf("%s is encoded to %v, decoded to %v, want %v", show(s), e, f, want)
				}
			}
		}
	}
}

// TestHandedInIsStill: no call changes what it is handed, nor reads or writes
// behind its length.
func TestHandedInIsStill(t *testing.T) {
	all := of("a", "b", "c", "a", "", "d")
	memory := slices.Clone(all)
	for i := range memory {
		for j := i; j <= len(memory); j++ {
			s := at(1, memory[i:j]...)
			e := wantEncode(at(1, slices.Clone(all[i:j])...))
			if e == api.OK {
				checkBytes(t, s, bytesOf(s))
			} else {
				checkNot(t, s, e)
			}
			if !slices.Equal(memory, all) {
				t.Fatalf("the entries are %s, were %s", show(memory), show(all))
			}
		}
	}
	text := bytesOf(at(1, of("a", "b")...)) + entry("c", 3)
	b := []byte(text)
	for n := range len(b) + 1 {
		want, wantE := wantDecode(text[:n])
		s, e := Decode(b[:n])
		if e != wantE || !same(s, want) || string(b) != text {
			t.Fatalf("Decode of the first %d bytes = %s, %v, want %s, %v", n, show(s), e, show(want), wantE)
		}
	}
}

// TestEncodedIsACopy: what is done to bytes that were told is not told again, nor
// does it change the snapshot; nor does what is done to the snapshot change them.
func TestEncodedIsACopy(t *testing.T) {
	s := at(1, of("a", "bb", "ccc")...)
	want := bytesOf(s)
	first, _ := Encode(s)
	for range 2 {
		b, _ := Encode(s)
		b = b[:cap(b)]
		for i := range b {
			b[i] = 'x'
		}
		checkBytes(t, s, want)
	}
	clear(s.Entries)
	if string(first) != want {
		t.Errorf("told was %s, and it is %s", show(want), show(first))
	}
}

// TestDecodedIsACopy: what is done to bytes behind Decode changes no snapshot that
// it told, nor the other way round.
func TestDecodedIsACopy(t *testing.T) {
	want := at(1, of("a", "bb", "ccc", long(128))...)
	text := bytesOf(want)
	b := []byte(text)
	first, _ := Decode(b)
	second, _ := Decode(b)
	for i := range second.Entries {
		second.Entries[i] = api.Entry{Key: "x"}
	}
	clear(second.Entries[:cap(second.Entries)])
	if string(b) != text || !same(first, want) {
		t.Errorf("the bytes are %s, the snapshot %s", show(b), show(first))
	}
	clear(b)
	if !same(first, want) {
		t.Errorf("told was %s, and it is %s", show(want), show(first))
	}
}

// raw is a text in memory that can be written.
func raw(s string) string {
	b := []byte(s)
	return unsafe.String(unsafe.SliceData(b), len(b))
}

// spoil writes over a text's bytes.
func spoil(s string) {
	b := unsafe.Slice(unsafe.StringData(s), len(s))
	for i := range b {
		b[i] = 'x'
	}
}

// TestOwnMemory: not even the bytes of a key are shared between what is handed in
// and what is told, nor between two that are told.
func TestOwnMemory(t *testing.T) {
	want := bytesOf(at(1, of("a", "bb", "ccc")...))
	s := at(1, of(raw("a"), raw("bb"), raw("ccc"))...)
	b, _ := Encode(s)
	for _, x := range s.Entries {
		spoil(x.Key)
	}
	if string(b) != want {
		t.Errorf("told was %s, and it is %s", show(want), show(b))
	}
	one, _ := Decode(b)
	two, _ := Decode(b)
	for _, x := range one.Entries {
		spoil(x.Key)
	}
	if string(b) != want {
		t.Errorf("the bytes were %s, and are %s", show(want), show(b))
	}
	checkBytes(t, two, want)
	checkBytes(t, at(1, of("a", "bb", "ccc")...), want)
}

// TestNilAndEmpty are the same thing.
func TestNilAndEmpty(t *testing.T) {
	for _, l := range [][]api.Entry{nil, {}, of("a")[:0]} {
		checkBytes(t, api.Snap{Clock: 5, Entries: l}, front(5, 0))
	}
	for _, b := range [][]byte{nil, {}, []byte("TLR1")[:0]} {
		if s, e := Decode(b); e != api.ErrMagic || !none(s) {
			t.Errorf("Decode(%q) = %s, %v", b, show(s), e)
		}
	}
}

// TestAgain: what is told is told again.
func TestAgain(t *testing.T) {
	s := at(7, many(30)...)
	b := bytesOf(s)
	for range 3 {
		checkBytes(t, s, b)
		checkWrong(t, b+"x", api.ErrTail)
		checkWrong(t, b[:len(b)-1], api.ErrShort)
		checkNot(t, at(7, of("b", "a")...), api.ErrOrder)
	}
}
