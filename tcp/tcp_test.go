package tcp_test

import (
	"bytes"
	"fmt"
	"math"
	"math/big"
	"math/rand"
	"slices"
	"testing"

	"packhorse/api"
	"packhorse/tcp"
)

var (
	here  = api.Ip{10, 0, 0, 1}
	there = api.Ip{10, 0, 0, 2}
)

// edges are numbers at which something goes around, or is no longer behind.
var edges = []uint32{
	0, 1, 2, 3, 65535, 65536, 1<<31 - 2, 1<<31 - 1, 1 << 31, 1<<31 + 1, 1<<31 + 2, math.MaxUint32 - 2, math.MaxUint32 - 1, math.MaxUint32,
}

// odd are numbers that have no room in two bytes, and those that look like others where only their lowest bits are taken.
var odd = []int{
	math.MinInt, math.MinInt + 7, -1 << 32, -1<<32 + 7, -65536, -65535, -65529, -7, -2, -1,
	65536, 65537, 65543, 1 << 20, 1 << 32, 1<<32 + 7, math.MaxInt - 1, math.MaxInt,
}

// noise is n bytes, the same at every run.
func noise(seed, n int) []byte {
	x := uint32(seed)*2654435761 + 12345
	b := make([]byte, n)
	for i := range b {
		x = x*1664525 + 1013904223
		b[i] = byte(x >> 16)
	}
	return b
}

// addresses are two of them, the same at every run.
func addresses(seed int) (api.Ip, api.Ip) {
	b := noise(seed, 8)
	return api.Ip(b[:4]), api.Ip(b[4:])
}

// added is what the words of bytes make, folded at every word; a last byte alone is a word's higher one.
func added(b []byte) int {
	s := 0
	for i, x := range b {
		w := int(x)
		if i%2 == 0 {
			w *= 256
		}
		if s += w; s > 0xffff {
			s -= 0xffff
		}
	}
	return s
}

// summed is what a segment of these bytes makes together with what is ahead of it.
func summed(src, dst api.Ip, b []byte) int {
	return added(slices.Concat(src[:], dst[:], []byte{0, 6, byte(len(b) / 256), byte(len(b))}, b))
}

// seal makes the sum of a segment right, worked out here.
func seal(src, dst api.Ip, b []byte) []byte {
	b[16], b[17] = 0, 0
	s := 0xffff - summed(src, dst, b)
	b[16], b[17] = byte(s/256), byte(s)
	return b
}

func two(n int) []byte { return []byte{byte(n / 256), byte(n % 256)} }

func four(n uint32) []byte {
	return []byte{byte(n / 16777216), byte(n / 65536), byte(n / 256), byte(n)}
}

// pair is a span's bytes.
func pair(from, to uint32) []byte { return slices.Concat(four(from), four(to)) }

// told are the options of a segment laid down by hand.
func told(s api.Seg) []byte {
	var b []byte
	if s.Mss != 0 {
		b = slices.Concat(b, []byte{2, 4}, two(s.Mss))
	}
	if s.Sacks {
		b = slices.Concat(b, []byte{4, 2})
	}
	if many := len(s.Got); many > 0 {
		b = slices.Concat(b, []byte{5, []byte{2, 10, 18, 26}[many]})
	}
	for _, x := range s.Got {
		b = slices.Concat(b, pair(x.From, x.To))
	}
	return slices.Concat(b, []byte{1, 1, 1}[:(4-len(b)%4)%4])
}

// built is a segment of any options, whose head says that it has so many units; its sum is right.
func built(src, dst api.Ip, s api.Seg, units int, options []byte) []byte {
	b := slices.Concat(
		two(s.From), two(s.To), four(s.Seq), four(s.Ack),
		[]byte{byte(units * 16), byte(s.Flags)}, two(s.Wnd), []byte{0, 0, 0, 0}, options, s.Data,
	)
	return seal(src, dst, b)
}

// withOptions is a segment with these options, a multiple of four.
func withOptions(s api.Seg, options ...byte) []byte {
	return built(here, there, s, 5+len(options)/4, options)
}

// laid is a segment that may be, laid down by hand.
func laid(src, dst api.Ip, s api.Seg) []byte {
	options := told(s)
	return built(src, dst, s, 5+len(options)/4, options)
}

// usual is a segment that may be.
func usual() api.Seg { return api.Seg{From: 5, To: 7, Seq: 100, Ack: 200, Flags: api.Ack, Wnd: 300} }

// wholly is a segment with all that there is.
func wholly() api.Seg {
	return api.Seg{
		From: 0x1234, To: 0x5678, Seq: 0x9abcdef0, Ack: 0x13579bdf, Flags: 31, Wnd: 0x2468, Mss: 0xace0, Sacks: true,
		Got:  []api.Span{{From: 0x01020304, To: 0x05060708}, {From: 0xfffffff0, To: 9}, {From: 11, To: 11}},
		Data: []byte("some bytes"),
	}
}

// heard is a segment as it is decoded: without Syn two things are not told.
func heard(s api.Seg) api.Seg {
	if s.Flags/2%2 == 0 {
		s.Mss, s.Sacks = 0, false
	}
	return s
}

// text is a segment as a text; nil and empty lists are alike (R2).
func text(s api.Seg) string {
	return fmt.Sprintf("from %d to %d seq %d ack %d flags %d wnd %d mss %d sacks %t got %v data %x",
		s.From, s.To, s.Seq, s.Ack, s.Flags, s.Wnd, s.Mss, s.Sacks, append([]api.Span{}, s.Got...), s.Data)
}

// brief and short are as much as a failure needs.
func brief(s api.Seg) string {
	x := text(s)
	return x[:min(len(x), 300)]
}

func short(b []byte) string { return fmt.Sprintf("%d bytes %x", len(b), b[:min(len(b), 64)]) }

// isSame tells whether segments are the same, faster than their texts do.
func isSame(a, b api.Seg) bool {
	return a.From == b.From && a.To == b.To && a.Seq == b.Seq && a.Ack == b.Ack && a.Flags == b.Flags && a.Wnd == b.Wnd &&
		a.Mss == b.Mss && a.Sacks == b.Sacks && slices.Equal(a.Got, b.Got) && bytes.Equal(a.Data, b.Data)
}

func wantEncode(t *testing.T, src, dst api.Ip, s api.Seg) {
	t.Helper()
	due := laid(src, dst, s)
	if b, err := tcp.Encode(src, dst, s); err != api.OK || !bytes.Equal(b, due) {
		t.Errorf("Encode(%v, %v, %s): %s, error %d, not %s", src, dst, brief(s), short(b), err, short(due))
	}
}

func wantNoEncode(t *testing.T, s api.Seg, due api.Errno) {
	t.Helper()
	if b, err := tcp.Encode(here, there, s); err != due || len(b) != 0 {
		t.Errorf("Encode(%s, %d bytes): %s, error %d, not error %d alone", brief(s), len(s.Data), short(b), err, due)
	}
}

func wantDecode(t *testing.T, src, dst api.Ip, b []byte, due api.Seg) {
	t.Helper()
	if s, err := tcp.Decode(src, dst, b); err != api.OK || !isSame(s, due) {
		t.Errorf("Decode(%v, %v, %s): %s, error %d, not %s", src, dst, short(b), brief(s), err, brief(due))
	}
}

func wantNoDecode(t *testing.T, src, dst api.Ip, b []byte, due api.Errno) {
	t.Helper()
	if s, err := tcp.Decode(src, dst, b); err != due || !isSame(s, api.Seg{}) {
		t.Errorf("Decode(%v, %v, %s): %s, error %d, not error %d alone", src, dst, short(b), brief(s), err, due)
	}
}

// wantBoth holds a segment that may be against its bytes, in both directions.
func wantBoth(t *testing.T, src, dst api.Ip, s api.Seg) {
	t.Helper()
	wantEncode(t, src, dst, s)
	wantDecode(t, src, dst, laid(src, dst, s), heard(s))
}

func wantReset(t *testing.T, s, due api.Seg) {
	t.Helper()
	if r, is := tcp.Reset(s); !is || text(r) != text(due) {
		t.Errorf("Reset(%s): %s, %t, not %s", brief(s), brief(r), is, brief(due))
	}
}

func wantNoReset(t *testing.T, s api.Seg) {
	t.Helper()
	if r, is := tcp.Reset(s); is || text(r) != text(api.Seg{}) {
		t.Errorf("Reset(%s): %s, %t, not false alone", brief(s), brief(r), is)
	}
}

func TestExamples(t *testing.T) { // P14.1 to P14.4: the chapter's table
	wantDiff(t, 1, 4294967295, 2)
	wantWithin(t, 2, 4294967295, 3, false)
	wantWithin(t, 2, 4294967295, 4, true)
	s := api.Seg{From: 5, To: 7, Seq: 1, Flags: api.Syn, Wnd: 8, Mss: 216}
	due := []byte("\x00\x05\x00\x07\x00\x00\x00\x01\x00\x00\x00\x00\x60\x02\x00\x08\x88\xeb\x00\x00\x02\x04\x00\xd8")
	if b, err := tcp.Encode(here, there, s); err != api.OK || !bytes.Equal(b, due) {
		t.Errorf("Encode: %x, error %d", b, err)
	}
	wantDecode(t, here, there, due, s)
	wantReset(t, s, api.Seg{From: 7, To: 5, Ack: 2, Flags: api.Rst | api.Ack})
	wantFirst(t, 3, 12288)
}

func wantDiff(t *testing.T, a, b uint32, due int) {
	t.Helper()
	if n := tcp.Diff(a, b); n != due {
		t.Errorf("Diff(%d, %d): %d, not %d", a, b, n, due)
	}
}

func TestDiffEdges(t *testing.T) { // P14.1: 0, 1, 2^31 - 1 and 2^31 apart, both ways, wherever they go around
	for _, b := range append([]uint32{12345, 1 << 20, 3 << 30}, edges...) {
		wantDiff(t, b, b, 0)
		wantDiff(t, b+1, b, 1)
		wantDiff(t, b, b+1, -1)
		wantDiff(t, b+1<<31-1, b, 2147483647)
		wantDiff(t, b, b+1<<31-1, -2147483647)
		wantDiff(t, b+1<<31, b, -2147483648)
		wantDiff(t, b, b+1<<31, -2147483648)
		wantDiff(t, b+1<<31+1, b, -2147483647)
		wantDiff(t, b, b+1<<31+1, 2147483647)
	}
	wantDiff(t, 0, 4294967295, 1)
	wantDiff(t, 4294967295, 0, -1)
	wantDiff(t, 2147483647, 0, 2147483647)
	wantDiff(t, 0, 2147483647, -2147483647)
	wantDiff(t, 2147483648, 0, -2147483648)
	wantDiff(t, 0, 2147483648, -2147483648)
}

// apart is by how much a lies behind b, counted around.
func apart(a, b uint32) int { return (int(a) - int(b) + 4294967296) % 4294967296 }

func TestDiffOfMany(t *testing.T) { // P14.1, against plain numbers
	r := rand.New(rand.NewSource(1))
	for range 200000 {
		a, b := r.Uint32(), r.Uint32()
		due := apart(a, b)
		if due >= 2147483648 {
			due -= 4294967296
		}
		wantDiff(t, a, b, due)
	}
}

func TestOrder(t *testing.T) { // P14.5: less than 2^31 apart, wherever they go around
	r := rand.New(rand.NewSource(2))
	for i := range 200000 {
		base, by := r.Uint32(), int(r.Int31())
		if i%10 == 0 {
			by = []int{0, 1, 2, 65535, 1 << 30, 1<<31 - 2, 1<<31 - 1}[i/10%7]
		}
		wantDiff(t, base+uint32(by), base, by)
		wantDiff(t, base, base+uint32(by), -by)
	}
	for _, from := range edges {
		last := tcp.Diff(from, from)
		for _, by := range []uint32{1, 2, 3, 4096, 65536, 1 << 30, 1<<31 - 2, 1<<31 - 1} {
			next := tcp.Diff(from+by, from)
			if next <= last {
				t.Errorf("from %d on, %d is not behind what is ahead of it", from, by)
			}
			last = next
		}
	}
}

func wantWithin(t *testing.T, n, from uint32, many int, due bool) {
	t.Helper()
	if is := tcp.Within(n, from, many); is != due {
		t.Errorf("Within(%d, %d, %d): %t", n, from, many, is)
	}
}

func TestWithinEdges(t *testing.T) { // P14.1: many of -1, 0, 1, 2^32 - 1, 2^32 and more
	for _, from := range edges {
		for _, by := range edges {
			n := from + by
			for _, many := range []int{math.MinInt, -1 << 32, -1<<32 + 1, -1 << 31, -2, -1, 0} {
				wantWithin(t, n, from, many, false)
			}
			wantWithin(t, n, from, 1, by == 0)
			wantWithin(t, n, from, 2, by < 2)
			wantWithin(t, n, from, 1<<31, by < 1<<31)
			wantWithin(t, n, from, 1<<32-2, by < 1<<32-2)
			wantWithin(t, n, from, 1<<32-1, by != 1<<32-1)
			for _, many := range []int{1 << 32, 1<<32 + 1, 1<<32 + 7, 1 << 33, 1 << 40, math.MaxInt - 1, math.MaxInt} {
				wantWithin(t, n, from, many, true)
			}
		}
	}
}

func TestWithinOfMany(t *testing.T) { // P14.1, against plain numbers
	r := rand.New(rand.NewSource(3))
	for i := range 200000 {
		n, from := r.Uint32(), r.Uint32()
		many := r.Intn(1<<33) - 1<<31
		if i%3 == 0 {
			many = apart(n, from) + i%5 - 2
		}
		wantWithin(t, n, from, many, apart(n, from) < many)
	}
}

func TestSize(t *testing.T) { // P14.1: all flags, with and without bytes
	for flags := -100; flags < 200; flags++ {
		more := []int{0, 1, 1, 2}[flags&3] // by the two lowest bits, of Fin and of Syn
		for _, n := range []int{0, 1, 2, 216, 1024, 1025, 70000} {
			s := api.Seg{Flags: flags, Data: make([]byte, n), Seq: 77, Wnd: 9, Mss: 5, Got: make([]api.Span, 3)}
			if size := tcp.Size(s); size != n+more {
				t.Errorf("Size with flags %d and %d bytes: %d", flags, n, size)
			}
		}
	}
	for _, x := range []struct{ flags, due int }{
		{0, 3}, {api.Fin, 4}, {api.Syn, 4}, {api.Rst, 3}, {api.Psh, 3}, {api.Ack, 3},
		{api.Syn | api.Ack, 4}, {api.Syn | api.Fin, 5}, {api.Fin | api.Ack | api.Psh, 4},
	} {
		if n := tcp.Size(api.Seg{Flags: x.flags, Data: []byte("abc")}); n != x.due {
			t.Errorf("Size with flags %d: %d, not %d", x.flags, n, x.due)
		}
	}
	if n := tcp.Size(api.Seg{}); n != 0 {
		t.Errorf("Size of nothing: %d", n)
	}
}

func wantFirst(t *testing.T, now int, due uint32) {
	t.Helper()
	if n := tcp.First(now); n != due {
		t.Errorf("First(%d): %d, not %d", now, n, due)
	}
}

func TestFirst(t *testing.T) { // P14.1: 0, below 0, around
	wantFirst(t, 0, 0)
	wantFirst(t, 1, 4096)
	wantFirst(t, -1, 4294963200)
	wantFirst(t, -2, 4294959104)
	wantFirst(t, 1<<20-1, 4294963200)
	wantFirst(t, 1<<20, 0)
	wantFirst(t, 1<<20+5, 20480)
	wantFirst(t, -1<<20, 0)
	wantFirst(t, -1<<20-1, 4294963200)
	wantFirst(t, math.MaxInt, 4294963200)
	wantFirst(t, math.MinInt, 0)
	r := rand.New(rand.NewSource(4))
	for range 20000 {
		now := int(r.Uint64()) >> r.Intn(64)
		x := new(big.Int).Mul(big.NewInt(int64(now)), big.NewInt(4096))
		wantFirst(t, now, uint32(x.Mod(x, big.NewInt(1<<32)).Uint64()))
	}
}

func TestForm(t *testing.T) { // P14.2, P14.3: each part of a segment at its place, by bytes that are written out
	for _, x := range []struct {
		src, dst api.Ip
		s        api.Seg
		due      string
	}{
		{api.Ip{}, api.Ip{}, api.Seg{From: 1, To: 1},
			"\x00\x01\x00\x01\x00\x00\x00\x00\x00\x00\x00\x00\x50\x00\x00\x00\xaf\xe3\x00\x00"},
		{here, there, api.Seg{From: 0x1234, To: 0x5678, Seq: 0x01020304, Ack: 0xf1f2f3f4, Flags: api.Ack | api.Psh, Wnd: 0x9abc},
			"\x12\x34\x56\x78\x01\x02\x03\x04\xf1\xf2\xf3\xf4\x50\x18\x9a\xbc\xae\x73\x00\x00"},
		{here, there, api.Seg{From: 65535, To: 65534, Flags: 31, Wnd: 65535, Data: []byte("abc")},
			"\xff\xff\xff\xfe\x00\x00\x00\x00\x00\x00\x00\x00\x50\x1f\xff\xff\xd7\x5e\x00\x00abc"},
		{here, there, api.Seg{From: 5, To: 7, Flags: api.Syn, Sacks: true, Data: []byte{9}},
			"\x00\x05\x00\x07\x00\x00\x00\x00\x00\x00\x00\x00\x60\x02\x00\x00\x7d\xcc\x00\x00\x04\x02\x01\x01\x09"},
		{here, there, api.Seg{From: 5, To: 7, Flags: api.Syn | api.Ack, Mss: 65535, Sacks: true},
			"\x00\x05\x00\x07\x00\x00\x00\x00\x00\x00\x00\x00\x70\x12\x00\x00\x74\xb5\x00\x00\x02\x04\xff\xff\x04\x02\x01\x01"},
		{here, there, api.Seg{From: 5, To: 7, Flags: api.Ack, Got: []api.Span{{From: 0x01020304, To: 0x05060708}}, Data: []byte("x")},
			"\x00\x05\x00\x07\x00\x00\x00\x00\x00\x00\x00\x00\x80\x10\x00\x00\xdd\x99\x00\x00\x05\x0a\x01\x02\x03\x04\x05\x06\x07\x08\x01\x01x"},
	} {
		b, err := tcp.Encode(x.src, x.dst, x.s)
		if err != api.OK || string(b) != x.due {
			t.Errorf("Encode(%v, %v, %s): %x, error %d, not %x", x.src, x.dst, text(x.s), b, err, x.due)
		}
		wantDecode(t, x.src, x.dst, []byte(x.due), x.s)
	}
}

func TestPorts(t *testing.T) { // P14.2, P14.3: from 1 to 65535, and beyond
	for port := 1; port < 65536; port++ {
		s := usual()
		s.From, s.To = port, 65536-port
		wantBoth(t, here, there, s)
	}
	for _, n := range []int{1, 2, 255, 256, 49151, 49152, 65534, 65535} {
		for _, m := range []int{1, 2, 255, 256, 49151, 49152, 65534, 65535} {
			wantBoth(t, here, there, api.Seg{From: n, To: m})
		}
		for _, m := range append([]int{0}, odd...) {
			wantNoEncode(t, api.Seg{From: n, To: m}, api.ErrArg)
			wantNoEncode(t, api.Seg{From: m, To: n}, api.ErrArg)
			wantNoEncode(t, api.Seg{From: m, To: m, Data: []byte("data")}, api.ErrArg)
		}
	}
}

func TestFlags(t *testing.T) { // P14.2, P14.3: 0 to 31, each with all that there is, and beyond
	for flags := range 32 {
		s := usual()
		s.Flags = flags
		wantBoth(t, here, there, s)
		s = wholly()
		s.Flags = flags
		wantBoth(t, here, there, s)
	}
	for _, flags := range append([]int{-32, -31, -16, -8, -4, 32, 33, 34, 48, 63, 64, 128, 255, 256, 512, 4095, 4096, 1 << 12, 1 << 15}, odd...) {
		s := usual()
		s.Flags = flags
		wantNoEncode(t, s, api.ErrArg)
	}
}

func TestWindows(t *testing.T) { // P14.2, P14.3: 0 to 65535, and beyond
	for n := range 65536 {
		s := usual()
		s.Wnd = n
		wantBoth(t, here, there, s)
	}
	for _, n := range odd {
		s := usual()
		s.Wnd = n
		wantNoEncode(t, s, api.ErrArg)
	}
}

func TestMss(t *testing.T) { // P14.2, P14.3: 0 to 65535, and beyond; told only with Syn
	for n := range 65536 {
		s := usual()
		s.Mss = n
		wantBoth(t, here, there, s)
		s.Flags = api.Syn
		wantBoth(t, here, there, s)
	}
	for _, n := range odd {
		s := usual()
		s.Flags, s.Mss = api.Syn, n
		wantNoEncode(t, s, api.ErrArg)
		s.Flags = api.Ack
		wantNoEncode(t, s, api.ErrArg)
	}
}

func TestNumbers(t *testing.T) { // P14.2, P14.3: each number, also an Ack without the flag
	for _, seq := range edges {
		for _, ack := range edges {
			for _, flags := range []int{0, api.Ack, api.Syn, api.Rst} {
				wantBoth(t, here, there, api.Seg{From: 5, To: 7, Seq: seq, Ack: ack, Flags: flags})
			}
		}
	}
}

func TestGot(t *testing.T) { // P14.2, P14.3: 0 to 3 spans, and 4
	for many := range 10 {
		for _, n := range []int{0, 1, 216, 1024} {
			s := usual()
			s.Data = noise(n, n)
			for i := range many {
				s.Got = append(s.Got, api.Span{From: 0xfffffff0 + uint32(i)*7, To: uint32(i) * 0x01020304})
			}
			if many > 3 {
				wantNoEncode(t, s, api.ErrArg)
				continue
			}
			wantBoth(t, here, there, s)
		}
	}
	s := usual()
	s.Got = make([]api.Span, 100000)
	wantNoEncode(t, s, api.ErrArg)
	for _, from := range edges { // what a span says does not matter
		for _, to := range edges {
			s.Got = []api.Span{{From: from, To: to}, {From: to, To: from}}
			wantBoth(t, here, there, s)
		}
	}
}

func TestOptionsTogether(t *testing.T) { // P14.2, P14.3: each set of options, in their order
	for _, mss := range []int{0, 1, 216, 65535} {
		for _, sacks := range []bool{false, true} {
			for many := range 4 {
				for _, flags := range []int{0, api.Syn, api.Ack, api.Syn | api.Ack, 31, 29} {
					for _, n := range []int{0, 1, 10} {
						s := wholly()
						s.Mss, s.Sacks, s.Got, s.Flags, s.Data = mss, sacks, s.Got[:many], flags, noise(n, n)
						wantBoth(t, here, there, s)
					}
				}
			}
		}
	}
	b, err := tcp.Encode(here, there, wholly())
	due := "\x02\x04\xac\xe0\x04\x02\x05\x1a\x01\x02\x03\x04\x05\x06\x07\x08\xff\xff\xff\xf0\x00\x00\x00\x09\x00\x00\x00\x0b\x00\x00\x00\x0bsome bytes"
	if err != api.OK || len(b) < 20 || string(b[20:]) != due || b[12] != 0xd0 {
		t.Errorf("Encode with all options: %x, error %d", b, err)
	}
}

func TestLong(t *testing.T) { // P14.2: 0 to 1024 bytes, and 1025
	all := noise(4, 70000)
	for n := range 1025 {
		s := usual()
		s.Data = all[:n]
		wantBoth(t, here, there, s)
		s = wholly()
		s.Data = all[:n]
		wantBoth(t, there, here, s)
	}
	for _, n := range []int{1025, 1026, 2048, 65535, 65536, 65536 + 9} {
		s := usual()
		s.Data = all[:n]
		wantNoEncode(t, s, api.ErrLong)
		s = wholly()
		s.Data = all[:n]
		wantNoEncode(t, s, api.ErrLong)
	}
}

func TestLongAndOtherwise(t *testing.T) { // P14.2, R3: too many bytes are told first
	bad := []func(s *api.Seg){
		func(s *api.Seg) { s.From = 0 },
		func(s *api.Seg) { s.To = 65536 },
		func(s *api.Seg) { s.Flags = 32 },
		func(s *api.Seg) { s.Wnd = -1 },
		func(s *api.Seg) { s.Mss = 65536 },
		func(s *api.Seg) { s.Got = make([]api.Span, 4) },
	}
	for _, spoil := range bad {
		s := wholly()
		spoil(&s)
		s.Data = make([]byte, 1024)
		wantNoEncode(t, s, api.ErrArg)
		s.Data = make([]byte, 1025)
		wantNoEncode(t, s, api.ErrLong)
	}
}

func TestAllSums(t *testing.T) { // P14.2, P14.3: two bytes of data make every sum there is; one of 0 stands there as 0
	noughts := 0
	for n := range 65536 {
		s := usual()
		s.Data = two(n)
		b, err := tcp.Encode(here, there, s)
		if err != api.OK || len(b) != 22 {
			t.Fatalf("Encode(%s): %x, error %d", text(s), b, err)
		}
		if b[16] == 0 && b[17] == 0 {
			noughts++
		}
		if b[16] == 255 && b[17] == 255 {
			t.Errorf("Encode(%s): %x, whose sum is ffff", text(s), b)
		}
		wantBoth(t, here, there, s)
	}
	if noughts != 1 {
		t.Errorf("%d times 0, not once", noughts)
	}
}

func TestAddresses(t *testing.T) { // P14.2, P14.3: between any two
	for seed := range 500 {
		src, dst := addresses(seed)
		s := usual()
		s.Data = noise(seed, seed)
		wantBoth(t, src, dst, s)
		s = wholly()
		s.Data = noise(seed, seed)
		wantBoth(t, src, dst, s)
	}
	wantBoth(t, api.Ip{}, api.Ip{}, usual())
	wantBoth(t, api.Ip{255, 255, 255, 255}, api.Ip{255, 255, 255, 255}, usual())
	wantBoth(t, here, here, wholly())
}

func TestDecodeShort(t *testing.T) { // P14.3: 19 and 20 bytes
	for n := range 20 {
		wantNoDecode(t, here, there, make([]byte, n), api.ErrShort)
		wantNoDecode(t, here, there, bytes.Repeat([]byte{255}, n), api.ErrShort)
		wantNoDecode(t, here, there, laid(here, there, usual())[:n], api.ErrShort)
		wantNoDecode(t, here, there, laid(here, there, wholly())[:n], api.ErrShort)
	}
	wantNoDecode(t, here, there, nil, api.ErrShort)
	wantDecode(t, here, there, laid(here, there, usual()), usual())
	wantNoDecode(t, here, there, make([]byte, 20), api.ErrForm)
}

func TestDecodeHead(t *testing.T) { // P14.3: every length of a head, and of the bytes
	for many := 20; many < 80; many++ {
		for units := range 16 {
			s := usual()
			s.Data = bytes.Repeat([]byte{1}, many-20) // they are fillers, where they are no data
			b := built(here, there, s, units, nil)
			if units < 5 || units*4 > many {
				wantNoDecode(t, here, there, b, api.ErrForm)
				continue
			}
			s.Data = s.Data[units*4-20:]
			wantDecode(t, here, there, b, s)
			b[17] ^= 1
			wantNoDecode(t, here, there, b, api.ErrSum)
		}
	}
}

func TestDecodeSum(t *testing.T) { // P14.3: one sum is right, of all that there are
	for _, s := range []api.Seg{usual(), wholly()} {
		b := laid(here, there, s)
		right := int(b[16])*256 + int(b[17])
		for n := range 65536 {
			b[16], b[17] = byte(n/256), byte(n)
			if n == right {
				wantDecode(t, here, there, b, s)
				continue
			}
			wantNoDecode(t, here, there, b, api.ErrSum)
		}
	}
	// With a sum of 0, ffff in its place makes no other one.
	s := usual()
	for n := range 65536 {
		s.Data = two(n)
		if b := laid(here, there, s); b[16] == 0 && b[17] == 0 {
			b[16], b[17] = 255, 255
			wantDecode(t, here, there, b, s)
		}
	}
	b := laid(here, there, usual())
	for range 2 { // the length stands in the sum
		b = append(b, 0)
		wantNoDecode(t, here, there, b, api.ErrSum)
	}
	b = laid(here, there, wholly())
	wantNoDecode(t, here, there, b[:len(b)-1], api.ErrSum)
	wantNoDecode(t, here, api.Ip{10, 0, 0, 3}, b, api.ErrSum)
	wantNoDecode(t, api.Ip{10, 1, 0, 1}, there, b, api.ErrSum)
}

func TestDecodeLong(t *testing.T) { // P14.3: 1024 and 1025 bytes behind the head, whatever its length
	for units := 5; units < 16; units++ {
		options := bytes.Repeat([]byte{1}, units*4-20)
		for _, n := range []int{0, 1, 1000, 1023, 1024} {
			s := usual()
			s.Data = noise(units, n)
			wantDecode(t, here, there, built(here, there, s, units, options), s)
		}
		for _, n := range []int{1025, 1026, 1064, 1065, 5000, 65535, 65536 - units*4, 65536, 65537, 65536 + 1024, 140000} {
			s := usual()
			s.Data = noise(units, n)
			b := built(here, there, s, units, options)
			wantNoDecode(t, here, there, b, api.ErrLong)
			b[17] ^= 1
			wantNoDecode(t, here, there, b, api.ErrSum)
		}
	}
}

func TestDecodePorts(t *testing.T) { // P14.3: a port of 0
	for _, n := range []int{1, 255, 256, 65535} {
		wantDecode(t, here, there, laid(here, there, api.Seg{From: n, To: 1}), api.Seg{From: n, To: 1})
		wantDecode(t, here, there, laid(here, there, api.Seg{From: 1, To: n}), api.Seg{From: 1, To: n})
		wantNoDecode(t, here, there, laid(here, there, api.Seg{From: n}), api.ErrArg)
		wantNoDecode(t, here, there, laid(here, there, api.Seg{To: n}), api.ErrArg)
	}
	s := wholly()
	s.From = 0
	wantNoDecode(t, here, there, laid(here, there, s), api.ErrArg)
	wantNoDecode(t, here, there, laid(here, there, api.Seg{}), api.ErrArg)
}

func TestDecodeFaultsAtOnce(t *testing.T) { // P14.3: the first one is told, whatever others there are
	errs := []api.Errno{api.ErrForm, api.ErrSum, api.ErrLong, api.ErrArg, api.ErrTcpOptions}
	for set := range 32 {
		for _, units := range []int{4, 15} { // heads that are too short, and too long
			s := usual()
			s.Data = make([]byte, 3)
			if set&4 != 0 {
				s.Data = make([]byte, 1025)
			}
			if set&8 != 0 {
				s.From = 0
			}
			options := []byte{1, 1, 1, 1}
			if set&16 != 0 {
				options = []byte{7, 9, 1, 1}
			}
			if set&1 == 0 {
				units = 6
			} else if set&4 != 0 {
				units = 4 // no head is longer than so many bytes
			}
			b := built(here, there, s, units, options)
			if set&2 != 0 {
				b[16] ^= 16
			}
			due := api.OK
			for i, err := range errs {
				if set>>i&1 == 1 {
					due = err
					break
				}
			}
			if due == api.OK {
				wantDecode(t, here, there, b, s)
				continue
			}
			wantNoDecode(t, here, there, b, due)
		}
	}
	for n := range 20 { // too few bytes, and all the rest
		b := append(make([]byte, 12), 0x10, 0, 0, 0, 9, 9, 0, 0)
		wantNoDecode(t, here, there, b[:n], api.ErrShort)
	}
}

func TestDecodeWhatDoesNotMatter(t *testing.T) { // P14.3: the seven bits, and the two bytes behind the sum
	for _, s := range []api.Seg{usual(), wholly()} {
		b := laid(here, there, s)
		for seven := range 128 {
			for _, n := range []int{0, 1, 255, 256, 0x1234, 65535} {
				b[12] = b[12]&0xf0 | byte(seven/8)
				b[13] = byte(seven%8*32) | byte(s.Flags)
				b[18], b[19] = byte(n/256), byte(n)
				wantDecode(t, here, there, seal(here, there, b), s)
			}
		}
	}
}

// known is what options say, if they are right.
type known struct {
	mss   int
	sacks bool
	got   []api.Span
}

func wantOptions(t *testing.T, flags int, due known, options ...byte) {
	t.Helper()
	s := usual()
	s.Flags, s.Data = flags, []byte("data")
	b := withOptions(s, options...)
	s.Mss, s.Sacks, s.Got = due.mss, due.sacks, due.got
	wantDecode(t, here, there, b, s)
}

func wantNoOptions(t *testing.T, options ...byte) {
	t.Helper()
	for _, flags := range []int{0, api.Syn, api.Ack, api.Syn | api.Ack, 31} {
		s := usual()
		s.Flags, s.Data = flags, []byte("data")
		wantNoDecode(t, here, there, withOptions(s, options...), api.ErrTcpOptions)
	}
}

// wantPassed holds options that say nothing.
func wantPassed(t *testing.T, options ...byte) {
	t.Helper()
	for _, flags := range []int{0, api.Syn, api.Ack, api.Syn | api.Ack, 31} {
		wantOptions(t, flags, known{}, options...)
	}
}

func TestOptionsEnd(t *testing.T) { // P14.3: 0, with anything behind it
	wantPassed(t, 0, 0, 0, 0)
	wantPassed(t, 0, 7, 255, 2)
	wantPassed(t, 0, 2, 0, 1)
	wantPassed(t, 0, 4, 2, 9)
	wantPassed(t, 1, 0, 5, 0)
	wantPassed(t, 1, 1, 1, 0)
	wantPassed(t, 1, 1, 0, 5)
	wantPassed(t, 0, 0, 0, 0, 2, 4, 0, 216)
	wantPassed(t, 0, 1, 1, 1, 4, 2, 5, 10)
	wantPassed(t, slices.Concat([]byte{0, 1, 5, 10}, pair(3, 4))...)
	wantOptions(t, api.Syn, known{mss: 216}, 2, 4, 0, 216, 0, 2, 4, 0)
	wantOptions(t, api.Syn, known{mss: 216}, 2, 4, 0, 216, 0, 0, 2, 1, 2, 4, 0, 7)
	wantOptions(t, api.Syn, known{sacks: true}, 4, 2, 0, 9)
	wantOptions(t, api.Ack, known{got: []api.Span{{From: 1, To: 2}}}, slices.Concat([]byte{5, 10}, pair(1, 2), []byte{0, 5})...)
	wantOptions(t, api.Syn, known{}, 7, 4, 0, 0, 3, 3, 0, 0) // a 0 within an option ends nothing
	wantOptions(t, api.Syn, known{sacks: true}, 7, 4, 0, 0, 3, 2, 4, 2)
	for n := range 256 {
		wantPassed(t, 0, byte(n), byte(n), byte(n))
	}
}

func TestOptionsFill(t *testing.T) { // P14.3: 1
	for n := 0; n <= 40; n += 4 {
		wantPassed(t, bytes.Repeat([]byte{1}, n)...)
	}
	wantOptions(t, api.Syn, known{mss: 216}, 1, 2, 4, 0, 216, 1, 1, 1)
	wantOptions(t, api.Syn, known{sacks: true}, 1, 1, 4, 2)
	wantOptions(t, api.Syn, known{sacks: true}, 1, 4, 2, 1)
	wantOptions(t, api.Syn, known{mss: 257, sacks: true}, 1, 4, 2, 1, 1, 1, 2, 4, 1, 1, 1, 1)
	wantOptions(t, 0, known{got: []api.Span{{From: 1, To: 2}}}, slices.Concat([]byte{1, 5, 10}, pair(1, 2), []byte{1})...)
}

func TestOptionsLengths(t *testing.T) { // P14.3: a length of 0, 1 and 2, and one beyond the options
	for kind := 2; kind < 256; kind++ {
		k := byte(kind)
		wantNoOptions(t, k, 0, 1, 1)
		wantNoOptions(t, k, 1, 1, 1)
		wantNoOptions(t, 1, 1, k, 0)
		wantNoOptions(t, 1, 1, k, 1)
		wantNoOptions(t, 1, 1, 1, k) // no length
		wantNoOptions(t, 1, 1, k, 3)
		wantNoOptions(t, 1, 1, k, 255)
		wantNoOptions(t, 2, 4, 0, 9, 1, 1, k, 4)
		wantNoOptions(t, k, 2, k, 0)
		for size := range 256 {
			options := slices.Concat([]byte{k, byte(size)}, bytes.Repeat([]byte{1}, 38))
			if size < 2 || size > 40 {
				wantNoOptions(t, options...)
			}
			if size > 8 {
				wantNoOptions(t, options[:8]...)
			}
		}
		if kind == 2 || kind == 4 || kind == 5 {
			continue
		}
		wantPassed(t, k, 2, 1, 1)
		wantPassed(t, k, 2, k, 2)
		wantPassed(t, 1, k, 3, 0)
		for size := 2; size <= 40; size++ { // nobody knows it
			wantPassed(t, slices.Concat([]byte{k, byte(size)}, noise(kind, 38)[:size-2], bytes.Repeat([]byte{1}, 40-size))...)
		}
	}
}

func TestOptionsSizes(t *testing.T) { // P14.3: 2, 4 and 5 are known with their lengths alone, and passed over with others
	for size := 2; size <= 40; size++ {
		body := bytes.Repeat([]byte{0, 7}, 20)[:size-2]
		rest := bytes.Repeat([]byte{1}, 40-size)
		span := api.Span{From: 0x00070007, To: 0x00070007}
		for _, flags := range []int{0, api.Syn, api.Ack, api.Syn | api.Ack} {
			mss, sacks, got := known{}, known{}, known{}
			if size == 4 && flags&api.Syn != 0 {
				mss.mss = 7
			}
			if size == 2 && flags&api.Syn != 0 {
				sacks.sacks = true
			}
			switch size {
			case 10:
				got.got = []api.Span{span}
			case 18:
				got.got = []api.Span{span, span}
			case 26:
				got.got = []api.Span{span, span, span}
			}
			wantOptions(t, flags, mss, slices.Concat([]byte{2, byte(size)}, body, rest)...)
			wantOptions(t, flags, sacks, slices.Concat([]byte{4, byte(size)}, body, rest)...)
			wantOptions(t, flags, got, slices.Concat([]byte{5, byte(size)}, body, rest)...)
		}
	}
	// What has another length takes nothing away from what was told ahead of it.
	one := slices.Concat([]byte{5, 10}, pair(1, 2))
	wantOptions(t, 0, known{got: []api.Span{{From: 1, To: 2}}}, slices.Concat(one, []byte{5, 2})...)
	wantOptions(t, 0, known{got: []api.Span{{From: 1, To: 2}}}, slices.Concat([]byte{5, 2}, one)...)
	wantOptions(t, api.Syn, known{mss: 9}, 2, 4, 0, 9, 2, 3, 7, 1)
	wantOptions(t, api.Syn, known{mss: 9}, 2, 4, 0, 9, 2, 6, 7, 7, 7, 7, 1, 1)
	wantOptions(t, api.Syn, known{sacks: true}, 4, 2, 4, 3, 0, 1, 1, 1)
}

func TestOptionsTwice(t *testing.T) { // P14.3: of several the last one counts
	wantOptions(t, api.Syn, known{mss: 8}, 2, 4, 0, 7, 2, 4, 0, 8)
	wantOptions(t, api.Syn, known{mss: 7}, 2, 4, 0, 8, 2, 4, 0, 7)
	wantOptions(t, api.Syn, known{}, 2, 4, 0, 7, 2, 4, 0, 0)
	wantOptions(t, api.Syn, known{mss: 513}, 2, 4, 0, 7, 1, 2, 4, 9, 9, 2, 4, 2, 1, 1, 1, 1)
	wantOptions(t, api.Syn, known{sacks: true}, 4, 2, 4, 2)
	a, b, c := api.Span{From: 1, To: 2}, api.Span{From: 3, To: 4}, api.Span{From: 5, To: 6}
	one := slices.Concat([]byte{5, 10}, pair(1, 2), []byte{1, 1})
	other := slices.Concat([]byte{5, 18}, pair(3, 4), pair(5, 6), []byte{1, 1})
	for _, flags := range []int{0, api.Syn, api.Ack} {
		wantOptions(t, flags, known{got: []api.Span{b, c}}, slices.Concat(one, other)...)
		wantOptions(t, flags, known{got: []api.Span{a}}, slices.Concat(other, one)...)
		wantOptions(t, flags, known{got: []api.Span{a}}, slices.Concat(one, one, one)...)
	}
}

func TestOptionsWithoutSyn(t *testing.T) { // P14.3: 2 and 4 only with Syn, 5 always
	all := slices.Concat([]byte{2, 4, 0, 216, 4, 2, 5, 10}, pair(1, 2), []byte{1, 1})
	all = append(all, 1, 1)
	got := []api.Span{{From: 1, To: 2}}
	for flags := range 32 {
		due := known{got: got}
		if flags&api.Syn != 0 {
			due.mss, due.sacks = 216, true
		}
		wantOptions(t, flags, due, all...)
	}
	wantNoOptions(t, 2, 4, 0, 216, 4, 2, 4, 0) // they are gone through all the same
	wantNoOptions(t, 4, 2, 2, 4)
}

// plainly reads options place by place.
func plainly(b []byte, flags int) (known, bool) {
	var x known
	for at := 0; at < len(b) && b[at] != 0; {
		if b[at] == 1 {
			at++
			continue
		}
		if at+1 == len(b) {
			return known{}, false
		}
		kind, end := int(b[at]), at+int(b[at+1])
		if end < at+2 || end > len(b) {
			return known{}, false
		}
		switch kind*1000 + int(b[at+1]) {
		case 2004:
			if flags&2 == 2 {
				x.mss = int(b[at+2])*256 + int(b[at+3])
			}
		case 4002:
			x.sacks = x.sacks || flags&2 == 2
		case 5010, 5018, 5026:
			x.got = nil
			for i := at + 2; i < end; i += 8 {
				x.got = append(x.got, api.Span{From: number(b[i:]), To: number(b[i+4:])})
			}
		}
		at = end
	}
	return x, true
}

func number(b []byte) uint32 {
	return uint32(new(big.Int).SetBytes(b[:4]).Uint64())
}

// wantAsPlainly holds a segment with any options against a plain reading of them.
func wantAsPlainly(t *testing.T, flags int, options []byte) {
	t.Helper()
	x, right := plainly(options, flags)
	s := api.Seg{From: 5, To: 7, Flags: flags, Data: []byte("d")}
	b := withOptions(s, options...)
	if !right {
		wantNoDecode(t, here, there, b, api.ErrTcpOptions)
		return
	}
	s.Mss, s.Sacks, s.Got = x.mss, x.sacks, x.got
	wantDecode(t, here, there, b, s)
}

func TestOptionsOfFourBytes(t *testing.T) { // P14.3: all that are made of some bytes
	some := []byte{0, 1, 2, 3, 4, 5, 6, 8, 10, 255}
	for i := range 10000 {
		options := []byte{some[i%10], some[i/10%10], some[i/100%10], some[i/1000]}
		wantAsPlainly(t, 0, options)
		wantAsPlainly(t, api.Syn, options)
	}
}

func TestOptionsOfMany(t *testing.T) { // P14.3, against a plain reading
	r := rand.New(rand.NewSource(5))
	some := []byte{0, 1, 1, 2, 2, 2, 3, 4, 4, 4, 5, 10, 18, 26, 34}
	rights := 0
	for range 200000 {
		options := make([]byte, r.Intn(11)*4)
		for i := range options {
			options[i] = some[r.Intn(len(some))]
		}
		wantAsPlainly(t, r.Intn(32), options)
		if _, right := plainly(options, 0); right {
			rights++
		}
	}
	if rights < 20000 || rights > 180000 {
		t.Errorf("%d of the options are right", rights)
	}
	for range 100000 { // mostly right ones
		var options []byte
		for len(options) < 36 {
			k := []int{0, 1, 2, 4, 5, 9}[r.Intn(60)%6]
			size := map[int]int{0: 1, 1: 1, 2: 4, 4: 2, 5: 2 + 8*r.Intn(5), 9: 2 + r.Intn(9)}[k]
			one := append([]byte{byte(k), byte(size)}, noise(r.Int(), 40)...)[:size]
			if k == 0 && r.Intn(4) > 0 || len(options)+size > 40 {
				one = []byte{1}
			}
			options = append(options, one...)
		}
		wantAsPlainly(t, r.Intn(32), options[:len(options)/4*4])
	}
}

// expected is a plain reading of P14.3.
func expected(src, dst api.Ip, b []byte) (api.Seg, api.Errno) {
	if len(b) < 20 {
		return api.Seg{}, api.ErrShort
	}
	size := int(b[12]/16) * 4
	if size < 20 || size > len(b) {
		return api.Seg{}, api.ErrForm
	}
	if summed(src, dst, b) != 0xffff {
		return api.Seg{}, api.ErrSum
	}
	s := api.Seg{
		From: int(b[0])*256 + int(b[1]), To: int(b[2])*256 + int(b[3]), Seq: number(b[4:]), Ack: number(b[8:]),
		Flags: int(b[13] % 32), Wnd: int(b[14])*256 + int(b[15]), Data: b[size:],
	}
	if len(b) > size+1024 {
		return api.Seg{}, api.ErrLong
	}
	if s.From == 0 || s.To == 0 {
		return api.Seg{}, api.ErrArg
	}
	x, right := plainly(b[20:size], s.Flags)
	if !right {
		return api.Seg{}, api.ErrTcpOptions
	}
	s.Mss, s.Sacks, s.Got = x.mss, x.sacks, x.got
	return s, api.OK
}

func TestDecodeAnyBytes(t *testing.T) { // P14.3, R1: bytes of all kinds, against a plain reading
	r := rand.New(rand.NewSource(6))
	counts := map[api.Errno]int{}
	for range 200000 {
		b := noise(r.Int(), r.Intn(120))
		if r.Intn(20) == 0 {
			b = noise(r.Int(), 1000+r.Intn(120))
		}
		if len(b) > 20 && r.Intn(4) > 0 {
			b[12] = byte(5+r.Intn(5))*16 | b[12]&15
			for i := 20; i < len(b) && i < 60 && r.Intn(3) > 0; i++ {
				b[i] %= 12
			}
		}
		for _, at := range []int{0, 2} {
			if len(b) > 20 && r.Intn(20) == 0 {
				b[at], b[at+1] = 0, 0
			}
		}
		if len(b) >= 20 && r.Intn(6) > 0 {
			seal(here, there, b)
		}
		due, dueErr := expected(here, there, b)
		s, err := tcp.Decode(here, there, b)
		if err != dueErr || !isSame(s, due) {
			t.Fatalf("Decode(%s): %s, error %d, not %s, error %d", short(b), brief(s), err, brief(due), dueErr)
		}
		counts[err]++
	}
	for _, err := range []api.Errno{api.OK, api.ErrShort, api.ErrForm, api.ErrSum, api.ErrLong, api.ErrArg, api.ErrTcpOptions} {
		if counts[err] < 100 {
			t.Errorf("error %d came %d times alone", err, counts[err])
		}
	}
}

func TestThereAndBack(t *testing.T) { // P14.5: what was encoded is decoded as it was
	r := rand.New(rand.NewSource(7))
	for range 50000 {
		s := api.Seg{
			From: 1 + r.Intn(65535), To: 1 + r.Intn(65535), Seq: r.Uint32(), Ack: r.Uint32(), Flags: r.Intn(32), Wnd: r.Intn(65536),
			Mss: r.Intn(65536) * r.Intn(2), Sacks: r.Intn(2) == 0, Got: make([]api.Span, r.Intn(4)), Data: noise(r.Int(), r.Intn(1025)*r.Intn(2)),
		}
		for i := range s.Got {
			s.Got[i] = api.Span{From: r.Uint32(), To: r.Uint32()}
		}
		src, dst := addresses(r.Int())
		b, err := tcp.Encode(src, dst, s)
		if err != api.OK {
			t.Fatalf("Encode(%s): error %d", brief(s), err)
		}
		wantDecode(t, src, dst, b, heard(s))
	}
}

func TestOneBit(t *testing.T) { // P14.5: one bit that is turned is told
	small := wholly()
	small.Flags, small.Got, small.Mss = api.Ack, nil, 0
	some := []api.Seg{usual(), wholly(), small, {From: 1, To: 1}, {From: 65535, To: 65535, Flags: 31, Wnd: 65535}}
	for i := range 20 {
		s := wholly()
		s.Got, s.Data, s.Flags = s.Got[:i%4], noise(i, i*11), i
		some = append(some, s)
	}
	for _, s := range some {
		b, err := tcp.Encode(here, there, s)
		if err != api.OK {
			t.Fatalf("Encode(%s): error %d", brief(s), err)
		}
		for bit := range len(b) * 8 {
			b[bit/8] ^= 1 << (bit % 8)
			due := api.ErrSum
			if size := int(b[12]/16) * 4; size < 20 || size > len(b) {
				due = api.ErrForm
			}
			wantNoDecode(t, here, there, b, due)
			b[bit/8] ^= 1 << (bit % 8)
		}
		for bit := range 32 {
			src, dst := here, there
			src[bit/8] ^= 1 << (bit % 8)
			dst[bit/8] ^= 1 << (bit % 8)
			wantNoDecode(t, src, there, b, api.ErrSum)
			wantNoDecode(t, here, dst, b, api.ErrSum)
		}
		wantDecode(t, here, there, b, heard(s))
	}
}

func TestReset(t *testing.T) { // P14.4: with Ack, without it, with Syn, Fin and Data, around
	for _, x := range []struct{ s, due api.Seg }{
		{api.Seg{}, api.Seg{Flags: api.Rst | api.Ack}},
		{api.Seg{From: 5, To: 7, Seq: 100}, api.Seg{From: 7, To: 5, Ack: 100, Flags: api.Rst | api.Ack}},
		{api.Seg{From: 5, To: 7, Seq: 100, Ack: 9}, api.Seg{From: 7, To: 5, Ack: 100, Flags: api.Rst | api.Ack}},
		{api.Seg{From: 5, To: 7, Seq: 100, Flags: api.Syn}, api.Seg{From: 7, To: 5, Ack: 101, Flags: api.Rst | api.Ack}},
		{api.Seg{From: 5, To: 7, Seq: 100, Flags: api.Fin}, api.Seg{From: 7, To: 5, Ack: 101, Flags: api.Rst | api.Ack}},
		{api.Seg{From: 5, To: 7, Seq: 100, Data: []byte("abc")}, api.Seg{From: 7, To: 5, Ack: 103, Flags: api.Rst | api.Ack}},
		{api.Seg{From: 5, To: 7, Seq: 100, Flags: api.Syn | api.Fin | api.Psh, Data: []byte("abc")}, api.Seg{From: 7, To: 5, Ack: 105, Flags: api.Rst | api.Ack}},
		{api.Seg{Seq: 4294967295, Flags: api.Syn}, api.Seg{Ack: 0, Flags: api.Rst | api.Ack}},
		{api.Seg{Seq: 4294967294, Flags: api.Syn | api.Fin, Data: []byte("abc")}, api.Seg{Ack: 3, Flags: api.Rst | api.Ack}},
		{api.Seg{From: 5, To: 7, Seq: 100, Ack: 200, Flags: api.Ack}, api.Seg{From: 7, To: 5, Seq: 200, Flags: api.Rst}},
		{api.Seg{From: 5, To: 7, Seq: 100, Ack: 4294967295, Flags: api.Ack | api.Syn | api.Fin | api.Psh, Data: []byte("abc")}, api.Seg{From: 7, To: 5, Seq: 4294967295, Flags: api.Rst}},
		{api.Seg{From: 5, To: 7, Seq: 100, Flags: api.Ack}, api.Seg{From: 7, To: 5, Flags: api.Rst}},
	} {
		wantReset(t, x.s, x.due)
	}
}

func TestResetOfAll(t *testing.T) { // P14.4, P14.5: all flags with all that there is, and those that may not be; a reset is never answered
	for flags := -64; flags < 128; flags++ {
		for _, n := range []int{0, 1, 1024, 1025, 70000} {
			for _, seq := range edges {
				s := wholly()
				s.Flags, s.Data, s.Seq = flags, make([]byte, n), seq
				if flags&4 == 4 {
					wantNoReset(t, s)
					continue
				}
				due := api.Seg{From: 0x5678, To: 0x1234, Flags: 4, Seq: 0x13579bdf}
				if flags&16 == 0 {
					due.Flags, due.Seq = 20, 0
					due.Ack = uint32((int(seq) + n + flags&1 + flags>>1&1) % 4294967296)
				}
				wantReset(t, s, due)
				r, _ := tcp.Reset(s)
				wantNoReset(t, r)
				wantBoth(t, there, here, r)
			}
		}
	}
	for _, port := range append([]int{0}, odd...) { // ports of any kind change their sides
		wantReset(t, api.Seg{From: port, To: 9, Ack: 3, Flags: api.Ack}, api.Seg{From: 9, To: port, Seq: 3, Flags: api.Rst})
		wantReset(t, api.Seg{From: 9, To: port, Seq: 3, Wnd: port, Mss: port}, api.Seg{From: port, To: 9, Ack: 3, Flags: api.Rst | api.Ack})
		wantNoReset(t, api.Seg{From: 9, To: port, Seq: 3, Flags: api.Rst})
	}
}

// spoil turns all bytes of a list, those in its spare room, too.
func spoil(b []byte) {
	b = b[:cap(b)]
	for i := range b {
		b[i] ^= 255
	}
}

func spoilSpans(g []api.Span) {
	g = g[:cap(g)]
	for i := range g {
		g[i] = api.Span{From: ^g[i].From, To: ^g[i].To}
	}
}

// roomy is a segment whose lists have room behind their ends, and that room.
func roomy(many, n int) (api.Seg, []api.Span, []byte) {
	spans, data := make([]api.Span, 9), noise(n, 1400)
	for i := range spans {
		spans[i] = api.Span{From: uint32(i) * 1000, To: uint32(i)*1000 + 7}
	}
	s := wholly()
	s.Got, s.Data = spans[:many], data[:n]
	return s, spans, data
}

func TestEncodeMemory(t *testing.T) { // R4
	for many := range 4 {
		for _, n := range []int{0, 1, 2, 3, 4, 50, 1024} {
			s, spans, data := roomy(many, n)
			keptSpans, keptData, due := slices.Clone(spans), bytes.Clone(data), laid(here, there, s)
			b, _ := tcp.Encode(here, there, s)
			other, _ := tcp.Encode(here, there, s)
			spoil(b)
			if !bytes.Equal(other, due) {
				t.Errorf("two answers of Encode with %d spans and %d bytes share memory", many, n)
			}
			if !slices.Equal(spans, keptSpans) || !bytes.Equal(data, keptData) {
				t.Errorf("Encode with %d spans and %d bytes shares memory, or writes into its argument", many, n)
			}
			spoil(data)
			spoilSpans(spans)
			if !bytes.Equal(other, due) {
				t.Errorf("Encode with %d spans and %d bytes: the answer shares memory with its argument", many, n)
			}
		}
	}
}

func TestDecodeMemory(t *testing.T) { // R4
	for many := range 4 {
		for _, n := range []int{0, 1, 50, 1024} {
			s, _, _ := roomy(many, n)
			s.Data = bytes.Clone(s.Data)
			size := len(laid(here, there, s))
			arg := append(laid(here, there, s), noise(6, 300)...)
			kept := bytes.Clone(arg)
			first, _ := tcp.Decode(here, there, arg[:size])
			other, _ := tcp.Decode(here, there, arg[:size])
			spoil(first.Data)
			spoilSpans(first.Got)
			if !bytes.Equal(arg, kept) || !isSame(other, s) {
				t.Errorf("Decode with %d spans and %d bytes shares memory, or writes into its argument", many, n)
			}
			spoil(arg)
			if !isSame(other, s) {
				t.Errorf("Decode with %d spans and %d bytes: the answer shares memory with its argument", many, n)
			}
		}
	}
}

func TestOthersMemory(t *testing.T) { // R4
	s, spans, data := roomy(2, 40)
	keptSpans, keptData := slices.Clone(spans), bytes.Clone(data)
	tcp.Size(s)
	tcp.Reset(s)
	s.Flags = api.Syn
	tcp.Reset(s)
	if !slices.Equal(spans, keptSpans) || !bytes.Equal(data, keptData) {
		t.Errorf("Size or Reset writes into its argument")
	}
}

func TestEmptyLists(t *testing.T) { // R2
	none, empty := usual(), usual()
	empty.Got, empty.Data = []api.Span{}, []byte{}
	a, _ := tcp.Encode(here, there, none)
	b, _ := tcp.Encode(here, there, empty)
	if len(a) != 20 || !bytes.Equal(a, b) {
		t.Errorf("Encode with nil and with empty lists: %x and %x", a, b)
	}
	x, _ := tcp.Reset(none)
	y, _ := tcp.Reset(empty)
	if text(x) != text(y) || tcp.Size(none) != tcp.Size(empty) {
		t.Errorf("Reset or Size tells nil from empty lists")
	}
	wantNoDecode(t, here, there, []byte{}, api.ErrShort)
}

func TestAnswersAlone(t *testing.T) { // R5: no call hangs on those ahead of it
	tell := func() string {
		b, err := tcp.Encode(here, there, wholly())
		s, e := tcp.Decode(here, there, b)
		r, is := tcp.Reset(usual())
		return fmt.Sprint(b, err, s, e, r, is, tcp.First(3), tcp.Size(wholly()), tcp.Diff(1, 2), tcp.Within(1, 2, 3))
	}
	due := tell()
	tcp.Encode(there, here, api.Seg{})
	tcp.Decode(there, here, noise(3, 400))
	tcp.Decode(here, there, withOptions(usual(), 2, 4, 0, 9, 7, 0, 0, 0))
	tcp.Reset(wholly())
	tcp.First(-1)
	if got := tell(); got != due {
		t.Errorf("%s, and then %s", due, got)
	}
}
