package ip4_test

import (
	"bytes"
	"fmt"
	"math"
	"math/rand"
	"slices"
	"testing"

	"packhorse/api"
	"packhorse/ip4"
)

var (
	here  = api.Ip{10, 0, 0, 1}
	there = api.Ip{10, 0, 0, 2}
)

// plain is a head that may be, without options; withOptions is one with them.
func plain() api.Packet {
	return api.Packet{Src: here, Dst: there, Proto: api.ProtoUdp, Ttl: 64}
}

func withOptions(o ...byte) api.Packet {
	p := plain()
	p.Options = o
	return p
}

// noise is n bytes, none of them 0, the same at every run.
func noise(seed, n int) []byte {
	x := uint32(seed)*2654435761 + 12345
	b := make([]byte, n)
	for i := range b {
		x = x*1664525 + 1013904223
		b[i] = byte(1 + x>>16%255)
	}
	return b
}

// fillers are n bytes of options that are right.
func fillers(n int) []byte { return bytes.Repeat([]byte{1}, n) }

// added is what the words of an even number of bytes make, folded at every word.
func added(b []byte) int {
	s := 0
	for i := 0; i < len(b); i += 2 {
		if s += int(b[i])*256 + int(b[i+1]); s > 0xffff {
			s -= 0xffff
		}
	}
	return s
}

// seal makes the sum of a head of so many bytes right, worked out here.
func seal(b []byte, headSize int) []byte {
	b[10], b[11] = 0, 0
	s := 0xffff - added(b[:headSize])
	b[10], b[11] = byte(s>>8), byte(s)
	return b
}

// laid is a packet that is laid down by hand.
func laid(p api.Packet, carried []byte) []byte {
	headSize := 20 + len(p.Options)
	size := headSize + len(carried)
	place := p.Offset / 8
	if p.Whole {
		place += 0x4000
	}
	if p.More {
		place += 0x2000
	}
	b := []byte{
		byte(0x40 + headSize/4), byte(p.Tos), byte(size / 256), byte(size % 256),
		byte(p.Id / 256), byte(p.Id % 256), byte(place / 256), byte(place % 256),
		byte(p.Ttl), byte(p.Proto), 0, 0,
	}
	return seal(slices.Concat(b, p.Src[:], p.Dst[:], p.Options, carried), headSize)
}

// set is a packet with other bytes from a place on, and a right sum.
func set(b []byte, at int, next ...byte) []byte {
	b = slices.Clone(b)
	copy(b[at:], next)
	return seal(b, min(max(int(b[0]&15)*4, 20), len(b)/2*2))
}

func isSame(p, q api.Packet) bool {
	o, r := p.Options, q.Options
	p.Options, q.Options = nil, nil
	return fmt.Sprint(p) == fmt.Sprint(q) && bytes.Equal(o, r)
}

func wantEncode(t *testing.T, p api.Packet, b, due []byte) {
	t.Helper()
	got, err := ip4.Encode(p, b)
	if err != api.OK || !bytes.Equal(got, due) {
		t.Errorf("Encode(%+v, %d bytes): %x, error %d, not %x", p, len(b), got[:min(len(got), 80)], err, due[:min(len(due), 80)])
	}
}

func wantNoEncode(t *testing.T, p api.Packet, b []byte, due api.Errno) {
	t.Helper()
	got, err := ip4.Encode(p, b)
	if err != due || len(got) != 0 {
		t.Errorf("Encode(%+v, %d bytes): %d bytes, error %d, not error %d alone", p, len(b), len(got), err, due)
	}
}

func wantDecode(t *testing.T, b []byte, p api.Packet, carried []byte) {
	t.Helper()
	q, got, err := ip4.Decode(b)
	if err != api.OK || !isSame(p, q) || !bytes.Equal(got, carried) {
		t.Errorf("Decode(%x): %+v, %d bytes, error %d, not %+v, %d bytes", b[:min(len(b), 80)], q, len(got), err, p, len(carried))
	}
}

func wantNoDecode(t *testing.T, b []byte, due api.Errno) {
	t.Helper()
	p, got, err := ip4.Decode(b)
	if err != due || !isSame(p, api.Packet{}) || len(got) != 0 {
		t.Errorf("Decode(%d bytes, %x): %+v, %d bytes, error %d, not error %d alone", len(b), b[:min(len(b), 64)], p, len(got), err, due)
	}
}

func TestExamples(t *testing.T) {
	b := []byte("\x45\x00\x00\x15\x00\x00\x00\x00\x40\x11\x66\xd6\x0a\x00\x00\x01\x0a\x00\x00\x02a")
	wantEncode(t, plain(), []byte("a"), b)
	wantDecode(t, b, plain(), []byte("a"))
	b[8] = 63
	wantNoDecode(t, b, api.ErrSum)
	wantNoEncode(t, withOptions(1, 1, 7), nil, api.ErrIpOptions)
	if got := ip4.Pseudo(here, there, 17, 9); string(got) != "\x0a\x00\x00\x01\x0a\x00\x00\x02\x00\x11\x00\x09" {
		t.Errorf("Pseudo: %x", got)
	}
}

func TestForm(t *testing.T) { // P9.1, P9.2: each part of a head at its place
	p := api.Packet{
		Src: api.Ip{192, 168, 3, 4}, Dst: api.Ip{172, 16, 5, 6},
		Proto: 0xab, Ttl: 0xcd, Id: 0x1234, Tos: 0x56, More: true, Offset: 0x0abc * 8,
		Options: []byte{7, 7, 4, 9, 8, 7, 6, 1, 0x82, 3, 0, 0},
	}
	b := []byte("\x48\x56\x00\x23\x12\x34\x2a\xbc\xcd\xab\x00\x00\xc0\xa8\x03\x04\xac\x10\x05\x06\x07\x07\x04\x09\x08\x07\x06\x01\x82\x03\x00\x00xyz")
	seal(b, 32)
	wantEncode(t, p, []byte("xyz"), b)
	wantDecode(t, b, p, []byte("xyz"))
	p.Whole = true
	b[6] = 0x6a
	seal(b, 32)
	wantEncode(t, p, []byte("xyz"), b)
	wantDecode(t, b, p, []byte("xyz"))
	p.More = false
	b[6] = 0x4a
	seal(b, 32)
	wantEncode(t, p, []byte("xyz"), b)
	wantDecode(t, b, p, []byte("xyz"))
}

// numbers are a head's numbers with what they may be, and a way to set each.
var numbers = []struct {
	name        string
	least, most int
	step        int
	set         func(p *api.Packet, n int)
}{
	{"Proto", 0, 255, 1, func(p *api.Packet, n int) { p.Proto = n }},
	{"Tos", 0, 255, 1, func(p *api.Packet, n int) { p.Tos = n }},
	{"Id", 0, 65535, 1, func(p *api.Packet, n int) { p.Id = n }},
	{"Ttl", 1, 255, 1, func(p *api.Packet, n int) { p.Ttl = n }},
	{"Offset", 0, 65528, 8, func(p *api.Packet, n int) { p.Offset = n }},
}

func TestNumbersThatMayBe(t *testing.T) { // P9.1: each number from bound to bound
	carried := []byte("what is carried")
	for _, x := range numbers {
		for n := x.least; n <= x.most; n += x.step {
			p := plain()
			x.set(&p, n)
			b := laid(p, carried)
			wantEncode(t, p, carried, b)
			wantDecode(t, b, p, carried)
		}
	}
}

func TestNumbersThatMayNotBe(t *testing.T) { // P9.1: beyond each bound
	for _, x := range numbers {
		for _, n := range []int{
			x.least - 1, x.least - x.step, x.most + 1, x.most + x.step, x.most + 8,
			-1, -8, -256, -65536, 256 * 256, 256*256 + 64, 1<<32 + 64, 1 << 40, math.MaxInt, math.MinInt, math.MinInt + 64,
		} {
			p := plain()
			x.set(&p, n)
			wantNoEncode(t, p, []byte("a"), api.ErrArg)
		}
	}
	for n := range 65536 + 64 {
		if n%8 == 0 && n <= 65528 {
			continue
		}
		p := plain()
		p.Offset = n
		wantNoEncode(t, p, nil, api.ErrArg)
		p.Offset = -n
		if n > 0 {
			wantNoEncode(t, p, nil, api.ErrArg)
		}
	}
}

// right are options by what the form says, read another way than the package does.
func right(o []byte) bool {
	switch {
	case len(o) == 0:
		return true
	case o[0] == 0:
		return bytes.Count(o, []byte{0}) == len(o)
	case o[0] == 1:
		return right(o[1:])
	case len(o) == 1 || o[1] == 0 || o[1] == 1 || len(o) < int(o[1]):
		return false
	}
	return right(o[o[1]:])
}

// wantOptions tries options of a multiple of four, at most 40 bytes, in both directions.
func wantOptions(t *testing.T, o []byte, isRight bool) {
	t.Helper()
	p, carried := withOptions(o...), []byte("\x01\x01\x01\x01behind")
	b := laid(p, carried)
	if !isRight {
		wantNoEncode(t, p, carried, api.ErrIpOptions)
		wantNoDecode(t, b, api.ErrIpOptions)
		return
	}
	wantEncode(t, p, carried, b)
	wantDecode(t, b, p, carried)
}

func TestOptions(t *testing.T) { // P9.1, P9.2: 'Options are right, if'
	long := slices.Concat([]byte{9, 40}, noise(9, 38))
	for _, x := range []struct {
		what string
		o    []byte
		due  bool
	}{
		{"none", nil, true},
		{"fillers", fillers(4), true},
		{"36 bytes", fillers(36), true},
		{"40 bytes", fillers(40), true},
		{"end marks", []byte{0, 0, 0, 0}, true},
		{"40 end marks", make([]byte, 40), true},
		{"a filler, and an end mark", []byte{1, 0, 0, 0}, true},
		{"an end mark as the last one", []byte{1, 1, 1, 0}, true},
		{"an end mark, and a filler at once behind it", []byte{0, 1, 0, 0}, false},
		{"an end mark, and a filler as the last one", []byte{0, 0, 0, 1}, false},
		{"an end mark, and something as the last of 40", append(make([]byte, 39), 1), false},
		{"an end mark, and an option behind it", []byte{0, 7, 2, 0}, false},
		{"an end mark behind an option, and something behind it", []byte{7, 3, 9, 0, 0, 0, 0, 255}, false},
		{"an end mark behind an option", []byte{7, 3, 9, 0, 0, 0, 0, 0}, true},
		{"a length of 0", []byte{7, 0, 1, 1}, false},
		{"a length of 1", []byte{7, 1, 1, 1}, false},
		{"a length of 2", []byte{7, 2, 1, 1}, true},
		{"a length of 2, and noughts", []byte{7, 2, 0, 0}, true},
		{"a length of 2, twice", []byte{7, 2, 7, 2}, true},
		{"a length up to the end", []byte{7, 4, 0, 9}, true},
		{"a length beyond the end", []byte{7, 5, 0, 9}, false},
		{"a length of 255", []byte{7, 255, 0, 9}, false},
		{"no length", []byte{1, 1, 1, 7}, false},
		{"no length behind an option", []byte{7, 3, 0, 7}, false},
		{"a length as the last byte, which is beyond the end", []byte{1, 1, 7, 3}, false},
		{"a length as the last byte", []byte{1, 1, 7, 2}, true},
		{"a length behind fillers", []byte{1, 7, 3, 0}, true},
		{"a length of 0 as the last byte", []byte{1, 1, 7, 0}, false},
		{"a length of 0 behind a right one", []byte{7, 4, 1, 1, 7, 0, 1, 1}, false},
		{"what an option carries looks like a wrong one", []byte{7, 4, 9, 0, 1, 1, 1, 1}, true},
		{"what an option carries looks like an end mark", []byte{7, 4, 0, 0, 8, 4, 1, 2}, true},
		{"a kind of 255", []byte{255, 4, 1, 2}, true},
		{"a kind of 2", []byte{2, 2, 2, 2}, true},
		{"a length of 40", long, true},
		{"a length of 41 with 40 bytes", slices.Concat([]byte{9, 41}, long[2:]), false},
		{"a length of 36 with 36 bytes", slices.Concat([]byte{9, 36}, long[2:36]), true},
		{"a length of 39, and a byte that is no option", slices.Concat([]byte{9, 39}, long[2:39], []byte{5}), false},
		{"a length of 39, and a filler", slices.Concat([]byte{9, 39}, long[2:39], []byte{1}), true},
	} {
		t.Run(x.what, func(t *testing.T) { wantOptions(t, x.o, x.due) })
	}
}

func TestOptionsByForm(t *testing.T) { // P9.1, P9.2: all short ones of some bytes, and many long ones
	some := []byte{0, 1, 2, 3, 4, 5, 9, 255}
	for n := range len(some) * len(some) * len(some) * len(some) {
		o := []byte{some[n%8], some[n/8%8], some[n/64%8], some[n/512]}
		wantOptions(t, o, right(o))
	}
	for n := range 6561 {
		o := make([]byte, 8)
		for i := range o {
			o[i] = byte(n % 3)
			n /= 3
		}
		wantOptions(t, o, right(o))
	}
	r := rand.New(rand.NewSource(9))
	seen := map[bool]int{}
	for range 30000 {
		o := make([]byte, 4*r.Intn(11))
		for i := range o {
			o[i] = byte(r.Intn(2 + r.Intn(8)))
		}
		seen[right(o)]++
		wantOptions(t, o, right(o))
	}
	if seen[true] < 3000 || seen[false] < 3000 {
		t.Errorf("right and wrong ones: %v", seen)
	}
}

func TestOptionsSize(t *testing.T) { // P9.1: at most 40 bytes, a multiple of four
	for n := range 300 {
		for _, o := range [][]byte{fillers(n), make([]byte, n)} {
			p := withOptions(o...)
			if n <= 40 && n%4 == 0 {
				wantEncode(t, p, []byte("b"), laid(p, []byte("b")))
				continue
			}
			wantNoEncode(t, p, []byte("b"), api.ErrIpOptions)
		}
	}
	wantNoEncode(t, withOptions(fillers(1<<20)...), nil, api.ErrIpOptions)
	wantNoEncode(t, withOptions(make([]byte, 1<<16)...), nil, api.ErrIpOptions)
}

func TestLong(t *testing.T) { // P9.1: 65535 and 65536 bytes together
	all := noise(1, 70000)
	for _, options := range []int{0, 4, 36, 40} {
		p := withOptions(fillers(options)...)
		most := 65535 - 20 - options
		for _, n := range []int{0, 1, 236, 237, most - 1, most} {
			b := laid(p, all[:n])
			wantEncode(t, p, all[:n], b)
			wantDecode(t, b, p, all[:n])
		}
		for _, n := range []int{most + 1, most + 2, 65535, 65536, 65537, 70000} {
			wantNoEncode(t, p, all[:n], api.ErrLong)
		}
	}
	p := plain()
	p.Offset, p.Whole, p.More = 65528, true, true // a place among others has no bound of its own
	wantEncode(t, p, all[:65515], laid(p, all[:65515]))
}

func TestEncodeOrder(t *testing.T) { // P9.1, R3: the first of several errors
	p, long := plain(), make([]byte, 65536)
	p.Ttl, p.Options = 0, []byte{7}
	wantNoEncode(t, p, long, api.ErrArg)
	wantNoEncode(t, p, nil, api.ErrArg)
	p.Options = nil
	wantNoEncode(t, p, long, api.ErrArg)
	p.Ttl, p.Options = 1, []byte{7, 0, 0, 0}
	wantNoEncode(t, p, long, api.ErrIpOptions)
	p.Options = fillers(44)
	wantNoEncode(t, p, long, api.ErrIpOptions)
	p.Options = fillers(41)
	wantNoEncode(t, p, long, api.ErrIpOptions)
	p.Options = nil
	wantNoEncode(t, p, long, api.ErrLong)
}

func TestDecodeShort(t *testing.T) { // P9.2: 19 bytes and 20
	b := laid(plain(), nil)
	for n := range 20 {
		wantNoDecode(t, b[:n], api.ErrShort)
		wantNoDecode(t, make([]byte, n), api.ErrShort)
		wantNoDecode(t, noise(n, n), api.ErrShort)
	}
	wantNoDecode(t, nil, api.ErrShort)
	wantDecode(t, b, plain(), nil)
}

func TestDecodeVersion(t *testing.T) { // P9.2
	b := laid(plain(), []byte("carried"))
	for v := range 16 {
		c := set(b, 0, byte(v*16+5))
		if v == 4 {
			wantDecode(t, c, plain(), []byte("carried"))
			continue
		}
		wantNoDecode(t, c, api.ErrIpVersion)
	}
}

func TestDecodeHeadLength(t *testing.T) { // P9.2: below 20, above the bytes, above the length
	carried := fillers(60)
	b := laid(plain(), carried)
	for units := range 16 {
		c := set(b, 0, byte(0x40+units))
		if units < 5 {
			wantNoDecode(t, c, api.ErrIpLength)
			continue
		}
		wantDecode(t, c, withOptions(fillers(units*4-20)...), fillers(80-units*4))
		for size := 20; size < units*4; size++ { // the head is longer than all bytes, or than the length alone
			wantNoDecode(t, set(c[:size], 2, 0, byte(size)), api.ErrIpLength)
			wantNoDecode(t, set(c[:size], 2, 0, byte(units*4)), api.ErrIpLength)
			wantNoDecode(t, set(c, 2, 0, byte(size)), api.ErrIpLength)
		}
		wantDecode(t, set(c[:units*4], 2, 0, byte(units*4)), withOptions(fillers(units*4-20)...), nil)
	}
}

func TestDecodeLength(t *testing.T) { // P9.2: below the head's, above the bytes; what stands behind it
	carried := noise(3, 300)
	b := laid(plain(), carried)
	for size := range 65536 {
		c := set(b, 2, byte(size/256), byte(size%256))
		if size < 20 || size > 320 {
			wantNoDecode(t, c, api.ErrIpLength)
			continue
		}
		wantDecode(t, c, plain(), carried[:size-20])
		wantDecode(t, c[:size], plain(), carried[:size-20])
		if size > 20 {
			wantNoDecode(t, c[:size-1], api.ErrIpLength)
		}
	}
	wantNoDecode(t, b[:20], api.ErrIpLength)
}

func TestDecodeBehind(t *testing.T) { // P9.2, P9.4: what stands behind the length does not matter
	for _, p := range []api.Packet{plain(), withOptions(7, 4, 1, 2), withOptions(fillers(40)...)} {
		for _, n := range []int{0, 1, 2, 25, 26, 255, 256, 65475} {
			carried := noise(n, n)
			b := laid(p, carried)
			for _, behind := range [][]byte{{0}, make([]byte, 46), noise(7, 100), noise(8, 70000), b} {
				wantDecode(t, slices.Concat(b, behind), p, carried)
			}
		}
	}
}

func TestDecodeSum(t *testing.T) { // P9.2: over the head, all of it and nothing else
	for _, p := range []api.Packet{plain(), withOptions(7, 8, 1, 2, 3, 4, 5, 6)} {
		b := laid(p, []byte("carried"))
		due := int(b[10])*256 + int(b[11])
		for sum := range 65536 {
			b[10], b[11] = byte(sum/256), byte(sum%256)
			if sum == due {
				wantDecode(t, b, p, []byte("carried"))
				continue
			}
			wantNoDecode(t, b, api.ErrSum)
		}
	}
	b := laid(withOptions(7, 4, 1, 2), []byte("carried"))
	b[23]++ // of the options, which the sum counts
	wantNoDecode(t, b, api.ErrSum)
	b[23]--
	b[24]++ // of what is carried, which it does not
	wantDecode(t, b, withOptions(7, 4, 1, 2), []byte("darried"))
}

func TestSumOfTwoKinds(t *testing.T) { // P9.2, P9.4: 0 and ffff are both right, where one is
	for _, p := range []api.Packet{plain(), withOptions(7, 4, 1, 2)} {
		b := laid(p, []byte("x"))
		p.Id = int(b[10])*256 + int(b[11]) // its sum as a word makes the sum 0
		due := laid(p, []byte("x"))
		if due[10] != 0 || due[11] != 0 {
			t.Fatalf("the sum is no 0: %x", due)
		}
		wantEncode(t, p, []byte("x"), due)
		wantDecode(t, due, p, []byte("x"))
		b = slices.Clone(due)
		b[10], b[11] = 0xff, 0xff
		wantDecode(t, b, p, []byte("x"))
		q, carried, _ := ip4.Decode(b)
		wantEncode(t, q, carried, due)
		for _, sum := range [][2]byte{{0, 1}, {1, 0}, {0xff, 0xfe}, {0xfe, 0xff}, {0xff, 0}, {0, 0xff}} {
			b[10], b[11] = sum[0], sum[1]
			wantNoDecode(t, b, api.ErrSum)
		}
	}
	b := laid(plain(), nil)
	b[10], b[11] = 0, 0 // a sum of 0 does not stand for none
	wantNoDecode(t, b, api.ErrSum)
	b[10], b[11] = 0xff, 0xff
	wantNoDecode(t, b, api.ErrSum)
}

func TestDecodeTtl(t *testing.T) { // P9.2
	b := laid(plain(), []byte("x"))
	wantNoDecode(t, set(b, 8, 0), api.ErrIpTtl)
	p := plain()
	p.Ttl = 1
	wantDecode(t, set(b, 8, 1), p, []byte("x"))
}

func TestDecodePlace(t *testing.T) { // P9.2: all that the two bytes may say
	b := laid(plain(), []byte("x"))
	for says := range 65536 {
		c := set(b, 6, byte(says/256), byte(says%256))
		if says >= 0x8000 {
			wantNoDecode(t, c, api.ErrArg)
			continue
		}
		p := plain()
		p.Whole, p.More, p.Offset = says/0x4000 == 1, says/0x2000%2 == 1, says%0x2000*8
		wantDecode(t, c, p, []byte("x"))
		wantEncode(t, p, []byte("x"), c)
	}
}

func TestDecodeOrder(t *testing.T) { // P9.2: the first of several faults
	faults := []struct {
		due api.Errno
		to  func(b []byte) []byte
	}{ // in the order in which they are told; each leaves those ahead of it as they are
		{api.ErrShort, func(b []byte) []byte { return b[:19] }},
		{api.ErrIpVersion, func(b []byte) []byte { b[0] += 0x20; return b }},
		{api.ErrIpLength, func(b []byte) []byte { b[2] = 9; return b }},
		{api.ErrSum, func(b []byte) []byte { b[11] ^= 1; return b }},
		{api.ErrIpOptions, func(b []byte) []byte { b[21] = 0; return b }},
		{api.ErrIpTtl, func(b []byte) []byte { b[8] = 0; return b }},
		{api.ErrArg, func(b []byte) []byte { b[6] |= 0x80; return b }},
	}
	for some := 1; some < 1<<len(faults); some++ {
		b := laid(withOptions(7, 4, 1, 2), []byte("carried"))
		due := api.OK
		for i := len(faults) - 1; i >= 0; i-- { // the sum is made right ahead of its own fault
			if faults[i].due == api.ErrSum {
				seal(b, 24)
			}
			if some>>i&1 == 1 {
				b, due = faults[i].to(b), faults[i].due
			}
		}
		wantNoDecode(t, b, due)
	}
}

func TestDecodeLengthOrder(t *testing.T) { // P9.2: no length leads beyond the bytes, whatever else is wrong
	b := laid(withOptions(fillers(40)...), fillers(10))
	for n := 20; n < 70; n++ {
		wantNoDecode(t, b[:n], api.ErrIpLength)
		c := slices.Clone(b[:n])
		c[0] ^= 0x10
		wantNoDecode(t, c, api.ErrIpVersion)
	}
	c := set(b, 0, 0x44)
	c[11] ^= 1
	wantNoDecode(t, c, api.ErrIpLength)
}

func TestPseudo(t *testing.T) { // P9.3
	src, dst := api.Ip{1, 2, 3, 4}, api.Ip{250, 251, 252, 253}
	for _, x := range []struct {
		proto, size int
		due         string
	}{
		{0, 0, "\x00\x00\x00\x00"},
		{1, 1, "\x00\x01\x00\x01"},
		{6, 20, "\x00\x06\x00\x14"},
		{17, 0x1234, "\x00\x11\x12\x34"},
		{255, 65535, "\x00\xff\xff\xff"},
		{256, 65536, "\x00\x00\x00\x00"},
		{257, 65537, "\x00\x01\x00\x01"},
		{0x1234, 0x123456, "\x00\x34\x34\x56"},
		{-1, -1, "\x00\xff\xff\xff"},
		{-2, -2, "\x00\xfe\xff\xfe"},
		{-256, -65536, "\x00\x00\x00\x00"},
		{1<<40 + 9, 1<<40 + 0x0807, "\x00\x09\x08\x07"},
		{math.MaxInt, math.MaxInt, "\x00\xff\xff\xff"},
		{math.MinInt, math.MinInt, "\x00\x00\x00\x00"},
	} {
		if got := ip4.Pseudo(src, dst, x.proto, x.size); string(got) != "\x01\x02\x03\x04\xfa\xfb\xfc\xfd"+x.due {
			t.Errorf("Pseudo(%v, %v, %d, %d): %x", src, dst, x.proto, x.size, got)
		}
	}
	if got := ip4.Pseudo(api.Ip{}, api.Ip{255, 255, 255, 255}, 6, 7); string(got) != "\x00\x00\x00\x00\xff\xff\xff\xff\x00\x06\x00\x07" {
		t.Errorf("Pseudo: %x", got)
	}
}

func TestFits(t *testing.T) { // P9.3: by the first byte alone
	for first := range 256 {
		due := first != 0 && first != 127 && first < 224
		for _, rest := range [][3]byte{{}, {0, 0, 1}, {127, 127, 127}, {224, 0, 0}, {255, 255, 255}, {1, 2, 3}} {
			ip := api.Ip{byte(first), rest[0], rest[1], rest[2]}
			if got := ip4.Fits(ip); got != due {
				t.Errorf("Fits(%v): %v", ip, got)
			}
		}
	}
	for first, due := range map[byte]bool{0: false, 1: true, 126: true, 127: false, 128: true, 223: true, 224: false} {
		if got := ip4.Fits(api.Ip{first, 9, 9, 9}); got != due {
			t.Errorf("Fits of %d: %v", first, got)
		}
	}
}

// anyPacket is one that may be.
func anyPacket(r *rand.Rand) api.Packet {
	p := api.Packet{
		Proto: r.Intn(256), Ttl: 1 + r.Intn(255), Id: r.Intn(65536), Tos: r.Intn(256),
		Whole: r.Intn(2) == 0, More: r.Intn(2) == 0, Offset: 8 * r.Intn(8192),
	}
	r.Read(p.Src[:])
	r.Read(p.Dst[:])
	for size := 4 * r.Intn(11); len(p.Options) < size; {
		left := size - len(p.Options)
		switch n := 2 + r.Intn(10); {
		case r.Intn(9) == 0:
			p.Options = append(p.Options, make([]byte, left)...)
		case r.Intn(3) == 0 || n > left:
			p.Options = append(p.Options, 1)
		default:
			o := make([]byte, n)
			r.Read(o)
			o[0], o[1] = byte(2+r.Intn(254)), byte(n)
			p.Options = append(p.Options, o...)
		}
	}
	return p
}

func TestThereAndBack(t *testing.T) { // P9.4: what was encoded is decoded as it was, whatever stands behind it
	r := rand.New(rand.NewSource(41))
	for range 20000 {
		p, carried, behind := anyPacket(r), make([]byte, r.Intn(300)), make([]byte, r.Intn(70))
		r.Read(carried)
		r.Read(behind)
		b, err := ip4.Encode(p, carried)
		if err != api.OK || !bytes.Equal(b, laid(p, carried)) {
			t.Fatalf("Encode(%+v, %x): %x, error %d", p, carried, b, err)
		}
		wantDecode(t, b, p, carried)
		wantDecode(t, append(b, behind...), p, carried)
	}
}

// fault is what Decode answers by a plain reading of P9.2.
func fault(b []byte) api.Errno {
	if len(b) < 20 {
		return api.ErrShort
	}
	if b[0]/16 != 4 {
		return api.ErrIpVersion
	}
	headSize, size := int(b[0]%16)*4, int(b[2])*256+int(b[3])
	if headSize < 20 || headSize > len(b) || size < headSize || size > len(b) {
		return api.ErrIpLength
	}
	if added(b[:headSize]) != 0xffff {
		return api.ErrSum
	}
	if !right(b[20:headSize]) {
		return api.ErrIpOptions
	}
	if b[8] == 0 {
		return api.ErrIpTtl
	}
	if b[6] > 127 {
		return api.ErrArg
	}
	return api.OK
}

// anyBytes are bytes that have a good deal of a packet.
func anyBytes(r *rand.Rand) []byte {
	b := make([]byte, 15+r.Intn(100))
	r.Read(b)
	if r.Intn(10) > 0 {
		b[0] = b[0]%16 + 0x40
	}
	if r.Intn(10) > 0 {
		b[0] = b[0]&0xf0 + byte(5+r.Intn(4))
	}
	if r.Intn(10) > 0 {
		b[2], b[3] = 0, byte(len(b)-r.Intn(6))
	}
	if r.Intn(3) > 0 && len(b) > 40 {
		for i := range 20 {
			b[20+i] = byte(r.Intn(2 + r.Intn(6)))
		}
	}
	if r.Intn(2) == 0 {
		b[6] &= 0x7f
	}
	if r.Intn(8) == 0 {
		b[8] = 0
	}
	if n := int(b[0]%16) * 4; r.Intn(8) > 0 && n >= 20 && n <= len(b) {
		seal(b, n)
	}
	return b
}

func TestBackAndThere(t *testing.T) { // P9.2, P9.4: what is decoded is encoded as the same bytes up to the length
	r := rand.New(rand.NewSource(42))
	seen := map[api.Errno]int{}
	for range 60000 {
		b := anyBytes(r)
		due := fault(b)
		if seen[due]++; due != api.OK {
			wantNoDecode(t, b, due)
			continue
		}
		p, carried, err := ip4.Decode(b)
		if err != api.OK {
			t.Fatalf("Decode(%x): error %d", b, err)
		}
		wantEncode(t, p, carried, b[:int(b[2])*256+int(b[3])])
	}
	for _, e := range []api.Errno{api.OK, api.ErrShort, api.ErrIpVersion, api.ErrIpLength, api.ErrSum, api.ErrIpOptions, api.ErrIpTtl, api.ErrArg} {
		if seen[e] < 300 {
			t.Errorf("%d alone that are answered by %d", seen[e], e)
		}
	}
}

func TestOneBit(t *testing.T) { // P9.4: a turned bit of a head of 20 bytes
	r := rand.New(rand.NewSource(43))
	for range 2000 {
		p, carried := anyPacket(r), make([]byte, r.Intn(80))
		r.Read(carried)
		p.Options = nil
		b, _ := ip4.Encode(p, carried)
		for bit := range 160 {
			b[bit/8] ^= 1 << (bit % 8)
			q, _, err := ip4.Decode(b)
			if err == api.OK && len(q.Options) == 0 {
				t.Errorf("Decode(%x) with bit %d turned: %+v", b, bit, q)
			}
			b[bit/8] ^= 1 << (bit % 8)
		}
	}
}

func TestOneBitMakesMoreOfAHead(t *testing.T) { // P9.4: 'or takes more of a head than there was'
	carried := []byte{1, 1, 1, 1, 7, 4, 0xf4, 0xf9, 'x'} // what makes up for 0200 more in the first word
	b, _ := ip4.Encode(plain(), carried)
	wantDecode(t, b, plain(), carried)
	b[0] ^= 2
	wantDecode(t, b, withOptions(carried[:8]...), []byte("x"))
}

func TestNil(t *testing.T) { // R2
	p := plain()
	for _, o := range [][]byte{nil, {}} {
		for _, b := range [][]byte{nil, {}} {
			p.Options = o
			wantEncode(t, p, b, laid(plain(), nil))
		}
	}
	wantNoDecode(t, []byte{}, api.ErrShort)
}

// spoil writes into all of a list, its spare room too.
func spoil(b []byte) {
	b = b[:cap(b)]
	for i := range b {
		b[i] ^= 0xff
	}
}

func TestEncodeMemory(t *testing.T) { // R4
	for _, options := range []int{0, 4, 40} {
		for _, n := range []int{0, 1, 50, 3000} {
			o, b := noise(5, 100), noise(n, n+200)
			copy(o, fillers(options))
			oKept, bKept := bytes.Clone(o), bytes.Clone(b)
			p := plain()
			p.Options = o[:options]
			first, _ := ip4.Encode(p, b[:n])
			second, err := ip4.Encode(p, b[:n])
			due := bytes.Clone(second)
			spoil(first)
			if err != api.OK || !bytes.Equal(o, oKept) || !bytes.Equal(b, bKept) || !bytes.Equal(second, due) {
				t.Errorf("Encode with %d and %d bytes shares memory, or writes into its arguments (error %d)", options, n, err)
			}
		}
	}
}

func TestDecodeMemory(t *testing.T) { // R4
	for _, options := range []int{0, 4, 40} {
		for _, n := range []int{0, 1, 50, 3000} {
			p, carried := withOptions(fillers(options)...), noise(n, n)
			size := 20 + options + n
			arg := slices.Concat(laid(p, carried), noise(6, 300))
			kept := bytes.Clone(arg)
			q, got, _ := ip4.Decode(arg[:size+9])
			other, otherGot, _ := ip4.Decode(arg[:size+9])
			spoil(q.Options)
			if !bytes.Equal(got, carried) {
				t.Errorf("Decode with %d and %d bytes: both lists share memory", options, n)
			}
			spoil(got)
			if !bytes.Equal(arg, kept) || !isSame(other, p) || !bytes.Equal(otherGot, carried) {
				t.Errorf("Decode with %d and %d bytes shares memory, or writes into its argument", options, n)
			}
			q, got, _ = ip4.Decode(arg[:size])
			spoil(got)
			spoil(arg)
			if !isSame(q, p) {
				t.Errorf("Decode with %d and %d bytes: the options share memory", options, n)
			}
		}
	}
}

func TestPseudoMemory(t *testing.T) { // R4
	first, second := ip4.Pseudo(here, there, 6, 9), ip4.Pseudo(here, there, 6, 9)
	spoil(first)
	if string(second) != "\x0a\x00\x00\x01\x0a\x00\x00\x02\x00\x06\x00\x09" {
		t.Errorf("two answers of Pseudo share memory: %x", second)
	}
}

func TestAnswersAlone(t *testing.T) { // R5: no call hangs on those ahead of it
	tell := func() string {
		p := withOptions(7, 3, 9, 0)
		b, err := ip4.Encode(p, []byte("x"))
		q, c, e := ip4.Decode(b)
		return fmt.Sprint(b, err, q, c, e, ip4.Pseudo(here, there, 1, 2), ip4.Fits(here))
	}
	due := tell()
	ip4.Encode(withOptions(fillers(40)...), noise(3, 60000))
	ip4.Encode(api.Packet{}, nil)
	ip4.Decode(laid(withOptions(fillers(36)...), noise(4, 400)))
	ip4.Decode(noise(5, 30))
	ip4.Pseudo(there, here, -1, -1)
	if got := tell(); got != due {
		t.Errorf("%s, and then %s", due, got)
	}
}
