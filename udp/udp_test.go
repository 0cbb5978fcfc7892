package udp_test

import (
	"bytes"
	"fmt"
	"math"
	"math/rand"
	"slices"
	"testing"

	"packhorse/api"
	"packhorse/udp"
)

var (
	here  = api.Ip{10, 0, 0, 1}
	there = api.Ip{10, 0, 0, 2}
)

// noise is n bytes, the same at every run.
func noise(seed, n int) []byte {
	x := uint32(seed)*2654435761 + 12345
	b := make([]byte, n)
	for i := range b {
		x = x*1664525 + 1013904223
		b[i] = byte(x >> 16)
	}
	return b
}

// addresses are two of them, the same at every run.
func addresses(seed int) (api.Ip, api.Ip) {
	b := noise(seed, 8)
	return api.Ip(b[:4]), api.Ip(b[4:])
}

// odd are numbers that are no ports, and those that look like some where only their lowest bits are taken.
var odd = []int{
	math.MinInt, math.MinInt + 7, -1 << 32, -1<<32 + 7, -65536, -65535, -65529, -49152, -7, -2, -1,
	65536, 65537, 65543, 65536 + 49152, 1 << 20, 1 << 32, 1<<32 + 7, math.MaxInt - 1, math.MaxInt,
}

// added is what the words of bytes make, folded at every word; a last byte alone is a word's higher one.
func added(b []byte) int {
	s := 0
	for i, x := range b {
		w := int(x)
		if i%2 == 0 {
			w *= 256
		}
		if s += w; s > 0xffff {
			s -= 0xffff
		}
	}
	return s
}

// summed is what a datagram of these bytes makes together with what is ahead of it, whatever its length says.
func summed(src, dst api.Ip, b []byte) int {
	return added(slices.Concat(src[:], dst[:], []byte{0, 17, byte(len(b) / 256), byte(len(b))}, b))
}

// seal makes the sum of a datagram right, worked out here.
func seal(src, dst api.Ip, b []byte) []byte {
	b[6], b[7] = 0, 0
	s := 0xffff - summed(src, dst, b)
	if s == 0 {
		s = 0xffff
	}
	b[6], b[7] = byte(s/256), byte(s)
	return b
}

// head is the beginning of a datagram, without a sum.
func head(from, to, size int) []byte {
	return []byte{byte(from / 256), byte(from), byte(to / 256), byte(to), byte(size / 256), byte(size), 0, 0}
}

// laid is a datagram laid down by hand.
func laid(src, dst api.Ip, from, to int, data []byte) []byte {
	return seal(src, dst, append(head(from, to, 8+len(data)), data...))
}

// brief is as much of bytes as a failure needs.
func brief(b []byte) string { return fmt.Sprintf("%d bytes %x", len(b), b[:min(len(b), 40)]) }

func wantEncode(t *testing.T, src, dst api.Ip, from, to int, data []byte) {
	t.Helper()
	due := laid(src, dst, from, to, data)
	if b, err := udp.Encode(src, dst, from, to, data); err != api.OK || !bytes.Equal(b, due) {
		t.Errorf("Encode(%v, %v, %d, %d, %s): %s, error %d, not %s", src, dst, from, to, brief(data), brief(b), err, brief(due))
	}
}

func wantNoEncode(t *testing.T, from, to int, data []byte, due api.Errno) {
	t.Helper()
	if b, err := udp.Encode(here, there, from, to, data); err != due || len(b) != 0 {
		t.Errorf("Encode(%d, %d, %d bytes): %s, error %d, not error %d alone", from, to, len(data), brief(b), err, due)
	}
}

func wantDecode(t *testing.T, src, dst api.Ip, b []byte, from, to int, data []byte) {
	t.Helper()
	f, o, d, err := udp.Decode(src, dst, b)
	if err != api.OK || f != from || o != to || !bytes.Equal(d, data) {
		t.Errorf("Decode(%v, %v, %s): %d, %d, %s, error %d, not %d, %d, %s", src, dst, brief(b), f, o, brief(d), err, from, to, brief(data))
	}
}

func wantNoDecode(t *testing.T, src, dst api.Ip, b []byte, due api.Errno) {
	t.Helper()
	if f, o, d, err := udp.Decode(src, dst, b); err != due || f != 0 || o != 0 || len(d) != 0 {
		t.Errorf("Decode(%v, %v, %s): %d, %d, %s, error %d, not error %d alone", src, dst, brief(b), f, o, brief(d), err, due)
	}
}

// wantBoth holds a datagram that may be against its bytes, in both directions.
func wantBoth(t *testing.T, src, dst api.Ip, from, to int, data []byte) {
	t.Helper()
	wantEncode(t, src, dst, from, to, data)
	wantDecode(t, src, dst, laid(src, dst, from, to, data), from, to, data)
}

func wantBind(t *testing.T, p *udp.Ports, who, port, due int) {
	t.Helper()
	if n, err := p.Bind(who, port); n != due || err != api.OK {
		t.Fatalf("Bind(%d, %d): %d, error %d, not %d", who, port, n, err, due)
	}
	wantWho(t, p, due, who)
}

func wantNoBind(t *testing.T, p *udp.Ports, who, port int, due api.Errno) {
	t.Helper()
	if n, err := p.Bind(who, port); n != 0 || err != due {
		t.Fatalf("Bind(%d, %d): %d, error %d, not error %d alone", who, port, n, err, due)
	}
}

func wantWho(t *testing.T, p *udp.Ports, port, due int) {
	t.Helper()
	if who, is := p.Who(port); who != due || !is {
		t.Fatalf("Who(%d): %d, %t, not %d", port, who, is, due)
	}
}

func wantFree(t *testing.T, p *udp.Ports, ports ...int) {
	t.Helper()
	for _, port := range ports {
		if who, is := p.Who(port); who != 0 || is {
			t.Fatalf("Who(%d): %d, %t, not 0, false", port, who, is)
		}
	}
}

func wantPush(t *testing.T, l *udp.Line, d api.Datagram) {
	t.Helper()
	if err := l.Push(d); err != api.OK {
		t.Fatalf("Push(%s): error %d", text(d), err)
	}
}

func wantNoPush(t *testing.T, l *udp.Line, d api.Datagram) {
	t.Helper()
	if err := l.Push(d); err != api.ErrMany {
		t.Fatalf("Push(%s): error %d, not ErrMany", text(d), err)
	}
}

func wantPop(t *testing.T, l *udp.Line, due api.Datagram) {
	t.Helper()
	if d, err := l.Pop(); err != api.OK || text(d) != text(due) {
		t.Fatalf("Pop: %s, error %d, not %s", text(d), err, text(due))
	}
}

func wantNoPop(t *testing.T, l *udp.Line) {
	t.Helper()
	if d, err := l.Pop(); err != api.ErrNone || text(d) != text(api.Datagram{}) {
		t.Fatalf("Pop: %s, error %d, not ErrNone alone", text(d), err)
	}
}

func wantLine(t *testing.T, l *udp.Line, many int, bufs ...int) {
	t.Helper()
	if n := l.Len(); n != many {
		t.Fatalf("Len: %d, not %d", n, many)
	}
	if got := l.Bufs(); !slices.Equal(got, bufs) {
		t.Fatalf("Bufs: %v, not %v", got, bufs)
	}
}

// text is a datagram as a text; nil and empty lists are alike (R2).
func text(d api.Datagram) string {
	return fmt.Sprintf("from %v port %d data %x bufs %v", d.Src, d.Port, d.Data, append([]int{}, d.Bufs...))
}

func TestExamples(t *testing.T) { // P13.1 to P13.3: the chapter's table
	due := []byte("\x00\x05\x00\x07\x00\x09\x8a\xcda")
	if b, err := udp.Encode(here, there, 5, 7, []byte("a")); err != api.OK || !bytes.Equal(b, due) {
		t.Errorf("Encode: %x, error %d", b, err)
	}
	wantDecode(t, here, there, due, 5, 7, []byte("a"))
	wantNoDecode(t, here, api.Ip{10, 0, 0, 3}, due, api.ErrSum)
	p := udp.New()
	wantBind(t, p, 1, 7, 7)
	wantNoBind(t, p, 2, 7, api.ErrUdpPort)
	wantBind(t, p, 2, 0, 49152)
	wantBind(t, p, 2, 0, 49153)
	p.Free(2)
	wantBind(t, p, 1, 0, 49154)
}

func TestForm(t *testing.T) { // P13.1: each part of a datagram at its place, by bytes that are written out
	for _, x := range []struct {
		src, dst api.Ip
		from, to int
		data     string
		due      string
	}{
		{api.Ip{}, api.Ip{}, 1, 1, "", "\x00\x01\x00\x01\x00\x08\xff\xdc"},
		{api.Ip{}, api.Ip{}, 0x1234, 0x5678, "", "\x12\x34\x56\x78\x00\x08\x97\x32"},
		{api.Ip{1, 2, 3, 4}, api.Ip{5, 6, 7, 8}, 0x1234, 0x5678, "xyz", "\x12\x34\x56\x78\x00\x0b\x94\x9e" + "xyz"},
		{api.Ip{255, 255, 255, 255}, api.Ip{255, 255, 255, 255}, 65535, 65535, "", "\xff\xff\xff\xff\x00\x08\xff\xde"},
		{api.Ip{255, 255, 255, 255}, api.Ip{255, 255, 255, 255}, 65535, 65535, "\xff\xda", "\xff\xff\xff\xff\x00\x0a\xff\xff\xff\xda"},
		{here, there, 5, 7, "\xeb\xcb", "\x00\x05\x00\x07\x00\x0a\xff\xff\xeb\xcb"},
	} {
		b, err := udp.Encode(x.src, x.dst, x.from, x.to, []byte(x.data))
		if err != api.OK || string(b) != x.due {
			t.Errorf("Encode(%v, %v, %d, %d, %q): %x, error %d, not %x", x.src, x.dst, x.from, x.to, x.data, b, err, x.due)
		}
		wantDecode(t, x.src, x.dst, []byte(x.due), x.from, x.to, []byte(x.data))
	}
}

func TestPortsOfDatagrams(t *testing.T) { // P13.1: from 1 to 65535, and beyond
	for port := 1; port < 65536; port++ {
		wantBoth(t, here, there, port, 65536-port, []byte("data"))
	}
	for _, n := range []int{1, 2, 255, 256, 49151, 49152, 65534, 65535} {
		for _, m := range []int{1, 2, 255, 256, 49151, 49152, 65534, 65535} {
			wantBoth(t, here, there, n, m, nil)
		}
		for _, m := range append([]int{0}, odd...) {
			wantNoEncode(t, n, m, nil, api.ErrArg)
			wantNoEncode(t, m, n, []byte("data"), api.ErrArg)
			wantNoEncode(t, m, m, []byte("data"), api.ErrArg)
		}
	}
}

func TestLong(t *testing.T) { // P13.1: 1016 bytes, and 1017
	all := noise(4, 70000)
	for n := range 1017 {
		wantBoth(t, here, there, 5, 7, all[:n])
		wantBoth(t, there, here, 65535, 1, make([]byte, n))
		wantBoth(t, here, here, 1, 65535, bytes.Repeat([]byte{255}, n))
	}
	for _, n := range []int{1017, 1018, 1024, 1025, 2048, 65527, 65528, 65535, 65536, 65536 + 9} {
		wantNoEncode(t, 5, 7, all[:n], api.ErrLong)
		wantNoEncode(t, 1, 65535, make([]byte, n), api.ErrLong)
	}
}

func TestLongAndOtherwise(t *testing.T) { // P13.1, R3: a port that may not be is told first
	for _, port := range append([]int{0}, odd...) {
		for _, n := range []int{1016, 1017, 65536} {
			wantNoEncode(t, port, 7, make([]byte, n), api.ErrArg)
			wantNoEncode(t, 5, port, make([]byte, n), api.ErrArg)
		}
	}
}

func TestAllSums(t *testing.T) { // P13.1: two bytes of data make every sum there is; one of 0 stands there as ffff
	none := 0
	for n := range 65536 {
		data := []byte{byte(n / 256), byte(n)}
		b, err := udp.Encode(here, there, 5, 7, data)
		if err != api.OK || len(b) != 10 {
			t.Fatalf("Encode(%x): %x, error %d", data, b, err)
		}
		if b[6] == 0 && b[7] == 0 {
			t.Fatalf("Encode(%x): %x, whose sum stands for none", data, b)
		}
		if b[6] == 255 && b[7] == 255 {
			none++
		}
		wantBoth(t, here, there, 5, 7, data)
	}
	if none != 1 {
		t.Errorf("%d times ffff, not once", none)
	}
}

func TestDecodeSize(t *testing.T) { // P13.1: 7 and 8 bytes
	for n := range 8 {
		wantNoDecode(t, here, there, make([]byte, n), api.ErrShort)
		wantNoDecode(t, here, there, bytes.Repeat([]byte{255}, n), api.ErrShort)
		wantNoDecode(t, here, there, laid(here, there, 5, 7, nil)[:n], api.ErrShort)
		wantNoDecode(t, here, there, head(5, 7, n)[:n], api.ErrShort)
	}
	wantNoDecode(t, here, there, nil, api.ErrShort)
	wantDecode(t, here, there, laid(here, there, 5, 7, nil), 5, 7, nil)
	wantDecode(t, here, there, head(5, 7, 8), 5, 7, nil)
	wantNoDecode(t, here, there, make([]byte, 8), api.ErrForm)
}

func TestDecodeLength(t *testing.T) { // P13.1: all lengths, with a sum that is right, or with none
	for _, many := range []int{8, 9, 10, 11, 50, 1024, 1025, 3000} {
		b := append(head(5, 7, 0), noise(many, many-8)...)
		for size := range 4000 {
			b[4], b[5], b[6], b[7] = byte(size/256), byte(size), 0, 0
			if size < 8 || size > many {
				wantNoDecode(t, here, there, b, api.ErrForm)
				wantNoDecode(t, here, there, seal(here, there, b), api.ErrForm)
				continue
			}
			wantDecode(t, here, there, b, 5, 7, b[8:size])
			seal(here, there, b[:size])
			wantDecode(t, here, there, b, 5, 7, b[8:size])
			b[7] ^= 1
			wantNoDecode(t, here, there, b, api.ErrSum)
		}
	}
}

func TestDecodeGreat(t *testing.T) { // P13.1: Decode bounds the length by the bytes alone
	for _, size := range []int{1024, 1025, 1500, 32767, 32768, 65534, 65535} {
		b := laid(here, there, 5, 7, noise(size, size-8))
		wantDecode(t, here, there, b, 5, 7, b[8:])
		wantDecode(t, here, there, append(b, noise(1, 9)...), 5, 7, b[8:])
		wantNoDecode(t, here, there, b[:size-1], api.ErrForm)
		b[size-1] ^= 128
		wantNoDecode(t, here, there, b, api.ErrSum)
	}
}

func TestNoSum(t *testing.T) { // P13.1: with 0 in the sum's place nothing is summed
	for seed := range 200 {
		src, dst := addresses(seed)
		b := append(head(seed+1, 65535-seed, 8+seed), noise(seed, seed)...)
		wantDecode(t, src, dst, b, seed+1, 65535-seed, b[8:])
		wantDecode(t, dst, src, b, seed+1, 65535-seed, b[8:])
		wantDecode(t, dst, src, append(b, 1, 2, 3), seed+1, 65535-seed, b[8:])
	}
}

func TestAllWrongSums(t *testing.T) { // P13.1: one is right, and 0 is none
	for _, data := range [][]byte{nil, []byte("a"), []byte("\xeb\xcb"), noise(3, 99)} {
		b := laid(here, there, 5, 7, data)
		right := int(b[6])*256 + int(b[7])
		for sum := range 65536 {
			b[6], b[7] = byte(sum/256), byte(sum)
			if sum == right || sum == 0 {
				wantDecode(t, here, there, b, 5, 7, data)
				continue
			}
			wantNoDecode(t, here, there, b, api.ErrSum)
		}
	}
}

func TestDecodePortNone(t *testing.T) { // P13.1: a port of 0, and the order of what is wrong
	for _, x := range [][2]int{{0, 7}, {5, 0}, {0, 0}, {0, 65535}, {256, 0}} {
		for _, data := range [][]byte{nil, []byte("a"), noise(5, 60)} {
			b := laid(here, there, x[0], x[1], data)
			wantNoDecode(t, here, there, b, api.ErrArg)
			wantNoDecode(t, here, there, append(bytes.Clone(b), 0, 0), api.ErrArg)
			b[7] ^= 4
			wantNoDecode(t, here, there, b, api.ErrSum)
			b[6], b[7] = 0, 0
			wantNoDecode(t, here, there, b, api.ErrArg)
			b[4], b[5] = 0, 7
			wantNoDecode(t, here, there, b, api.ErrForm)
			b[4], b[5] = 0, byte(len(b)+1)
			wantNoDecode(t, here, there, b, api.ErrForm)
			b[7] = 9
			wantNoDecode(t, here, there, b, api.ErrForm)
			wantNoDecode(t, here, there, b[:7], api.ErrShort)
		}
	}
	for _, x := range [][2]int{{256, 256}, {1, 1}, {0x0100, 0x00ff}} { // one byte of a port may be 0
		wantDecode(t, here, there, laid(here, there, x[0], x[1], nil), x[0], x[1], nil)
	}
}

// byTheChapter is Decode read as P13.1 has it, from plain bytes.
func byTheChapter(src, dst api.Ip, b []byte) (int, int, []byte, api.Errno) {
	if len(b) < 8 {
		return 0, 0, nil, api.ErrShort
	}
	two := func(i int) int { return int(b[i])*256 + int(b[i+1]) }
	if two(4) < 8 || two(4) > len(b) {
		return 0, 0, nil, api.ErrForm
	}
	if two(6) != 0 && summed(src, dst, b[:two(4)]) != 0xffff {
		return 0, 0, nil, api.ErrSum
	}
	if two(0) == 0 || two(2) == 0 {
		return 0, 0, nil, api.ErrArg
	}
	return two(0), two(2), b[8:two(4)], api.OK
}

func TestDecodeByTheChapter(t *testing.T) { // P13.1, R1: any bytes, most of them nearly a datagram
	r := rand.New(rand.NewSource(13))
	count := map[api.Errno]int{}
	for range 60000 {
		src, dst := addresses(r.Intn(1000))
		b := noise(r.Intn(1<<20), r.Intn(40))
		if len(b) >= 8 {
			b[r.Intn(4)] = 0
			b[4], b[5] = 0, byte(max(0, len(b)-r.Intn(4)+1))
			switch r.Intn(5) {
			case 0:
				b[6], b[7] = 0, 0
			case 1:
			case 2:
				b[0], b[1] = 0, 0
				fallthrough
			default:
				seal(src, dst, b[:max(8, min(len(b), int(b[5])))])
			}
		}
		from, to, data, due := byTheChapter(src, dst, b)
		count[due]++
		if due != api.OK {
			wantNoDecode(t, src, dst, b, due)
			continue
		}
		wantDecode(t, src, dst, b, from, to, data)
	}
	for _, err := range []api.Errno{api.OK, api.ErrShort, api.ErrForm, api.ErrSum, api.ErrArg} {
		if count[err] < 1000 {
			t.Errorf("error %d came only %d times", err, count[err])
		}
	}
}

func TestThereAndBack(t *testing.T) { // P13.4: what was encoded is decoded, whatever stands behind it
	r := rand.New(rand.NewSource(134))
	for i := range 5000 {
		src, dst := addresses(i)
		from, to, data := 1+r.Intn(65535), 1+r.Intn(65535), noise(i, r.Intn(1017))
		b, err := udp.Encode(src, dst, from, to, data)
		if err != api.OK {
			t.Fatalf("Encode(%d, %d, %s): error %d", from, to, brief(data), err)
		}
		wantDecode(t, src, dst, b, from, to, data)
		wantDecode(t, src, dst, append(b, noise(i+1, 1+r.Intn(300))...), from, to, data)
	}
}

func TestOtherAddresses(t *testing.T) { // P13.4: each bit of both counts
	for i, data := range [][]byte{nil, []byte("a"), []byte("\xeb\xcb"), noise(1, 1015), noise(2, 1016)} {
		for seed := range 40 {
			src, dst := addresses(seed)
			if seed == 0 {
				src, dst = here, there
			}
			b, err := udp.Encode(src, dst, 5+i, 7, data)
			if err != api.OK {
				t.Fatalf("Encode: error %d", err)
			}
			for bit := range 32 {
				otherSrc, otherDst := src, dst
				otherSrc[bit/8] ^= 1 << (bit % 8)
				otherDst[bit/8] ^= 1 << (bit % 8)
				wantNoDecode(t, otherSrc, dst, b, api.ErrSum)
				wantNoDecode(t, src, otherDst, b, api.ErrSum)
				wantNoDecode(t, otherSrc, dst, append(bytes.Clone(b), 1), api.ErrSum)
			}
		}
	}
}

// spoil writes over all of a list, the room behind its end too.
func spoil(b []byte) {
	for i := range b[:cap(b)] {
		b[:cap(b)][i] ^= 0x5a
	}
}

func spoilNumbers(n []int) {
	for i := range n[:cap(n)] {
		n[:cap(n)][i] ^= 0x5a
	}
}

func TestMemoryOfDatagrams(t *testing.T) { // R4: nothing is changed, kept or shared
	room := noise(9, 200)
	was := bytes.Clone(room)
	b, _ := udp.Encode(here, there, 5, 7, room[10:60])
	again, _ := udp.Encode(here, there, 5, 7, room[10:60])
	if !bytes.Equal(room, was) {
		t.Fatal("Encode has changed what was handed in")
	}
	due := bytes.Clone(b)
	spoil(room)
	spoil(again)
	if !bytes.Equal(b, due) {
		t.Error("an answer of Encode has changed")
	}
	room = append(bytes.Clone(due), noise(10, 50)...)
	was = bytes.Clone(room)
	_, _, data, _ := udp.Decode(here, there, room)
	_, _, other, _ := udp.Decode(here, there, room)
	_, _, none, _ := udp.Decode(here, there, append(laid(here, there, 5, 7, nil), 1, 2, 3))
	spoil(other)
	spoil(none)
	if !bytes.Equal(room, was) {
		t.Fatal("Decode has changed what was handed in, or answers it")
	}
	spoil(room)
	if !bytes.Equal(data, due[8:]) {
		t.Error("an answer of Decode has changed")
	}
}

func TestNilAndEmpty(t *testing.T) { // R2
	for _, data := range [][]byte{nil, {}, make([]byte, 0, 9)} {
		wantBoth(t, here, there, 5, 7, data)
		wantNoDecode(t, here, there, data, api.ErrShort)
		l := udp.NewLine()
		wantPush(t, l, api.Datagram{Data: data, Bufs: []int{}})
		wantPush(t, l, api.Datagram{Data: data})
		wantLine(t, l, 2)
		wantPop(t, l, api.Datagram{})
		wantPop(t, l, api.Datagram{})
	}
}

func TestBindByNumber(t *testing.T) { // P13.2: ports from 1 to 65535, and beyond; who from 0 on
	p := udp.New()
	for _, port := range []int{1, 2, 7, 1024, 49151, 49152, 49153, 65534, 65535} {
		wantFree(t, p, port)
		wantBind(t, p, port%3, port, port)
		wantNoBind(t, p, port%3, port, api.ErrUdpPort)
		wantNoBind(t, p, port%3+1, port, api.ErrUdpPort)
		wantNoBind(t, p, math.MaxInt, port, api.ErrUdpPort)
		wantWho(t, p, port, port%3)
	}
	for _, port := range odd {
		for _, who := range []int{math.MinInt, -1, 0, 1, math.MaxInt} {
			wantNoBind(t, p, who, port, api.ErrArg)
		}
	}
	for _, who := range []int{math.MinInt, math.MinInt + 1, -1 << 32, -2, -1} {
		for _, port := range []int{-1, 0, 1, 7, 8, 49152, 65535, 65536} {
			wantNoBind(t, p, who, port, api.ErrArg) // also of a port that is taken: that is told behind it
		}
	}
	wantFree(t, p, 8)
	for i, who := range []int{0, 1, 2, 1 << 32, math.MaxInt - 1, math.MaxInt} {
		wantBind(t, p, who, 100+i, 100+i)
	}
	wantBind(t, p, math.MaxInt, 0, 49154)
	wantBind(t, p, 0, 0, 49155)
}

func TestBindAll(t *testing.T) { // P13.2, P13.4: each port by its number, and each but once
	p := udp.New()
	for port := 1; port < 65536; port++ {
		wantBind(t, p, port/10, port, port)
	}
	for port := 1; port < 65536; port++ {
		wantWho(t, p, port, port/10)
		wantNoBind(t, p, port/10, port, api.ErrUdpPort)
		wantNoBind(t, p, 70000, port, api.ErrUdpPort)
	}
	wantNoBind(t, p, 1, 0, api.ErrUdpPort)
	wantFree(t, p, 0)
	p.Free(0)
	wantFree(t, p, 1, 2, 3, 4, 5, 6, 7, 8, 9)
	wantWho(t, p, 10, 1)
	wantNoBind(t, p, 1, 0, api.ErrUdpPort) // what is free below 49152 does not count
	p.Free(6553)
	wantFree(t, p, 65530, 65531, 65532, 65533, 65534, 65535)
	wantBind(t, p, 1, 0, 65530)
}

func TestTakenAhead(t *testing.T) { // P13.2: what was asked for by its number is passed by, and does not move NEXT
	p := udp.New()
	wantBind(t, p, 1, 49152, 49152)
	wantBind(t, p, 1, 49154, 49154)
	wantBind(t, p, 1, 49155, 49155)
	wantBind(t, p, 1, 60000, 60000)
	wantBind(t, p, 2, 0, 49153)
	wantBind(t, p, 2, 0, 49156)
	wantBind(t, p, 3, 49158, 49158)
	wantBind(t, p, 2, 0, 49157)
	wantBind(t, p, 2, 0, 49159)
	p.Free(1)
	wantBind(t, p, 2, 0, 49160)
	wantBind(t, p, 2, 49152, 49152)
	wantBind(t, p, 2, 0, 49161)
}

func TestErrorsMoveNothing(t *testing.T) { // R3: NEXT stays where it is, and nobody has more
	p := udp.New()
	wantBind(t, p, 1, 0, 49152)
	wantNoBind(t, p, -1, 0, api.ErrArg)
	wantNoBind(t, p, 1, -1, api.ErrArg)
	wantNoBind(t, p, 1, 65536, api.ErrArg)
	wantNoBind(t, p, 2, 49152, api.ErrUdpPort)
	wantNoBind(t, p, -5, 9, api.ErrArg)
	wantFree(t, p, 9, 49153, 65536, -1)
	wantWho(t, p, 49152, 1)
	wantBind(t, p, 2, 0, 49153)
}

func TestAround(t *testing.T) { // P13.2: behind 65535 comes 49152; with none free it stays
	p := udp.New()
	for port := 49152; port < 65536; port++ {
		wantBind(t, p, port%5, 0, port)
	}
	wantNoBind(t, p, 9, 0, api.ErrUdpPort)
	wantNoBind(t, p, 0, 0, api.ErrUdpPort)
	p.Free(3)
	for port := 49152; port < 65536; port++ {
		if port%5 == 3 {
			wantBind(t, p, 9, 0, port)
		}
	}
	wantNoBind(t, p, 9, 0, api.ErrUdpPort)
	// The last one that was found is 65533: it goes on behind it, also where lower ones are free.
	p.Free(0)
	wantBind(t, p, 8, 0, 65535)
	wantBind(t, p, 8, 0, 49155)
	p.Free(8)
	wantBind(t, p, 8, 0, 49160)
	wantFree(t, p, 49155, 65535)
}

func TestNoneFreeKeepsNext(t *testing.T) { // P13.2, R3
	p := udp.New()
	wantBind(t, p, 1, 0, 49152)
	wantBind(t, p, 2, 0, 49153)
	wantBind(t, p, 3, 0, 49154)
	for port := 49155; port < 65536; port++ {
		wantBind(t, p, 4, port, port)
	}
	for range 5 {
		wantNoBind(t, p, 5, 0, api.ErrUdpPort)
	}
	p.Free(2)
	wantBind(t, p, 5, 0, 49153) // all the way around
	p.Free(1)
	p.Free(3)
	wantBind(t, p, 6, 0, 49154) // NEXT itself
	wantBind(t, p, 6, 0, 49152)
	wantNoBind(t, p, 6, 0, api.ErrUdpPort)
}

func TestOneFree(t *testing.T) { // P13.2: the only free one is found, from wherever NEXT stands
	for _, port := range []int{49152, 49153, 60000, 65534, 65535} {
		p := udp.New()
		for n := 49152; n < 65536; n++ {
			if n != port {
				wantBind(t, p, 1, n, n)
			}
		}
		for range 3 {
			wantBind(t, p, 2, 0, port)
			wantNoBind(t, p, 2, 0, api.ErrUdpPort)
			p.Free(2)
		}
		wantFree(t, p, port)
	}
}

func TestFree(t *testing.T) { // P13.2: of one who has none, one and many
	p := udp.New()
	for _, who := range []int{0, 1, -1, math.MinInt, math.MaxInt} {
		p.Free(who)
	}
	wantBind(t, p, 0, 5, 5)
	wantBind(t, p, 1, 6, 6)
	wantBind(t, p, 1, 0, 49152)
	wantBind(t, p, 1, 65535, 65535)
	wantBind(t, p, 2, 1, 1)
	for _, who := range []int{3, 5, 6, -1, -2, 49152, math.MinInt, math.MaxInt} {
		p.Free(who)
		wantWho(t, p, 5, 0)
		wantWho(t, p, 6, 1)
		wantWho(t, p, 49152, 1)
		wantWho(t, p, 65535, 1)
		wantWho(t, p, 1, 2)
	}
	p.Free(1)
	wantFree(t, p, 6, 49152, 65535)
	wantWho(t, p, 5, 0)
	wantWho(t, p, 1, 2)
	p.Free(0)
	wantFree(t, p, 5)
	wantWho(t, p, 1, 2)
	wantBind(t, p, 2, 6, 6)
	wantBind(t, p, 0, 65535, 65535)
	wantBind(t, p, 0, 0, 49153) // what was freed moves NEXT nowhere
}

func TestWho(t *testing.T) { // P13.2: of ports that are free, that are had, and of what is no port
	p := udp.New()
	wantFree(t, p, 0, 1, 7, 49152, 65535)
	wantFree(t, p, odd...)
	wantBind(t, p, 0, 7, 7)
	wantBind(t, p, 4, 65535, 65535)
	wantBind(t, p, 4, 1, 1)
	wantBind(t, p, 4, 0, 49152)
	wantFree(t, p, 0, 2, 6, 8, 49151, 49153, 65534)
	wantFree(t, p, odd...)
}

// ports is a plain model: who has which port, by a list of both; and where a search begins.
type ports struct {
	port, who []int
	next      int
}

func (p *ports) bind(who, port int) (int, api.Errno) {
	if port < 0 || port > 65535 || who < 0 {
		return 0, api.ErrArg
	}
	found := port
	for many := 0; port == 0; many++ {
		if many == 65536-49152 {
			return 0, api.ErrUdpPort
		}
		found = p.next + many
		if found > 65535 {
			found -= 65536 - 49152
		}
		if !slices.Contains(p.port, found) {
			p.next = found + 1
			if p.next == 65536 {
				p.next = 49152
			}
			break
		}
	}
	if slices.Contains(p.port, found) {
		return 0, api.ErrUdpPort
	}
	p.port, p.who = append(p.port, found), append(p.who, who)
	return found, api.OK
}

func (p *ports) free(who int) {
	left := ports{next: p.next}
	for i, x := range p.who {
		if x != who {
			left.port, left.who = append(left.port, p.port[i]), append(left.who, x)
		}
	}
	*p = left
}

func TestPortsByModel(t *testing.T) { // P13.2, P13.4: random calls; no two have one port
	for seed := range 40 {
		r := rand.New(rand.NewSource(int64(seed)))
		p, model := udp.New(), &ports{next: 49152}
		if seed%2 == 1 { // so that it goes around
			for range 16384 - 20 {
				port, _ := p.Bind(77, 0)
				model.next = port + 1
			}
			p.Free(77)
		}
		pick := func() int {
			near := []int{0, 0, 0, r.Intn(8) - 2, 49150 + r.Intn(30), 65510 + r.Intn(30)}
			return near[r.Intn(len(near))]
		}
		for range 600 {
			who := r.Intn(7) - 1
			if r.Intn(8) == 0 {
				p.Free(who)
				model.free(who)
			}
			port := pick()
			n, err := p.Bind(who, port)
			due, dueErr := model.bind(who, port)
			if n != due || err != dueErr {
				t.Fatalf("seed %d: Bind(%d, %d): %d, error %d, not %d, error %d", seed, who, port, n, err, due, dueErr)
			}
			asked := pick()
			if i := slices.Index(model.port, asked); i >= 0 {
				wantWho(t, p, asked, model.who[i])
			} else {
				wantFree(t, p, asked)
			}
		}
		for i, port := range model.port {
			wantWho(t, p, port, model.who[i])
		}
	}
}

func TestTwoPorts(t *testing.T) { // R5: of two, neither knows of the other
	p, q := udp.New(), udp.New()
	wantBind(t, p, 1, 7, 7)
	wantBind(t, p, 1, 0, 49152)
	wantFree(t, q, 7, 49152)
	wantBind(t, q, 2, 7, 7)
	wantBind(t, q, 2, 0, 49152)
	p.Free(2)
	q.Free(1)
	wantWho(t, p, 7, 1)
	wantWho(t, q, 7, 2)
}

// gram is a datagram that is unlike others.
func gram(n int, bufs ...int) api.Datagram {
	src, _ := addresses(n)
	return api.Datagram{Src: src, Port: n, Data: noise(n, n%50), Bufs: bufs}
}

func TestLine(t *testing.T) { // P13.3: a fourth and a fifth, the last one and none; Len and Bufs behind each
	l := udp.NewLine()
	wantLine(t, l, 0)
	wantNoPop(t, l)
	wantLine(t, l, 0)
	wantPush(t, l, gram(1, 11))
	wantLine(t, l, 1, 11)
	wantPush(t, l, gram(2))
	wantLine(t, l, 2, 11)
	wantPush(t, l, gram(3, 9, 8, 7))
	wantLine(t, l, 3, 11, 9, 8, 7)
	wantPush(t, l, gram(4, 11, 8))
	wantLine(t, l, 4, 11, 9, 8, 7, 11, 8)
	for range 3 {
		wantNoPush(t, l, gram(5, 5))
		wantNoPush(t, l, api.Datagram{})
		wantLine(t, l, 4, 11, 9, 8, 7, 11, 8)
	}
	wantPop(t, l, gram(1, 11))
	wantLine(t, l, 3, 9, 8, 7, 11, 8)
	wantPush(t, l, gram(6, 6))
	wantLine(t, l, 4, 9, 8, 7, 11, 8, 6)
	wantNoPush(t, l, gram(7, 7))
	wantPop(t, l, gram(2))
	wantLine(t, l, 3, 9, 8, 7, 11, 8, 6)
	wantPop(t, l, gram(3, 9, 8, 7))
	wantLine(t, l, 2, 11, 8, 6)
	wantPop(t, l, gram(4, 11, 8))
	wantLine(t, l, 1, 6)
	wantPop(t, l, gram(6, 6))
	wantLine(t, l, 0)
	for range 3 {
		wantNoPop(t, l)
		wantLine(t, l, 0)
	}
	wantPush(t, l, gram(8, 8))
	wantLine(t, l, 1, 8)
	wantPop(t, l, gram(8, 8))
	wantNoPop(t, l)
}

func TestAnyDatagram(t *testing.T) { // P13.3, R6: the chapter says of none that it may not be
	all := []api.Datagram{
		{}, {Port: -1}, {Port: math.MinInt, Bufs: []int{-1, math.MinInt, math.MaxInt, 0}},
		{Port: math.MaxInt, Data: noise(1, 70000)}, {Src: api.Ip{255, 255, 255, 255}, Bufs: make([]int, 5000)},
	}
	l := udp.NewLine()
	for _, d := range all {
		wantPush(t, l, d)
		wantLine(t, l, 1, d.Bufs...)
		wantPop(t, l, d)
	}
}

func TestLineByModel(t *testing.T) { // P13.3: random calls held against a plain list
	r := rand.New(rand.NewSource(133))
	l := udp.NewLine()
	var model []api.Datagram
	for i := range 20000 {
		if r.Intn(2) == 0 {
			d := gram(i)
			for range r.Intn(4) {
				d.Bufs = append(d.Bufs, r.Intn(160))
			}
			if len(model) == 4 {
				wantNoPush(t, l, d)
			} else {
				wantPush(t, l, d)
				model = append(model, d)
			}
		} else if len(model) == 0 {
			wantNoPop(t, l)
		} else {
			wantPop(t, l, model[0])
			model = model[1:]
		}
		var bufs []int
		for _, d := range model {
			bufs = append(bufs, d.Bufs...)
		}
		wantLine(t, l, len(model), bufs...)
	}
}

func TestTwoLines(t *testing.T) { // R5
	l, m := udp.NewLine(), udp.NewLine()
	for i := range 4 {
		wantPush(t, l, gram(i, i))
	}
	wantLine(t, m, 0)
	wantPush(t, m, gram(9, 9))
	wantPop(t, l, gram(0, 0))
	wantLine(t, l, 3, 1, 2, 3)
	wantLine(t, m, 1, 9)
}

func TestMemoryOfLines(t *testing.T) { // R4: what waits is the line's alone, what is answered the caller's
	l := udp.NewLine()
	room := append(noise(20, 20), 0, 0, 0)
	numbers := []int{1, 2, 3, 4}
	d := api.Datagram{Port: 20, Data: room[:20], Bufs: numbers[:2]}
	wantRoom, wantNumbers := bytes.Clone(room), slices.Clone(numbers)
	due := api.Datagram{Port: 20, Data: noise(20, 20), Bufs: []int{1, 2}}
	for range 4 { // four times the same lists: each has its own
		wantPush(t, l, d)
	}
	wantNoPush(t, l, d)
	l.Bufs()
	if !bytes.Equal(room, wantRoom) || !slices.Equal(numbers, wantNumbers) {
		t.Fatal("what was handed in has changed")
	}
	spoil(room)
	spoilNumbers(numbers)
	first, second := l.Bufs(), l.Bufs()
	spoilNumbers(first)
	if !slices.Equal(second, []int{1, 2, 1, 2, 1, 2, 1, 2}) {
		t.Errorf("Bufs: %v behind a change of another answer", second)
	}
	wantLine(t, l, 4, 1, 2, 1, 2, 1, 2, 1, 2)
	for range 4 {
		got, err := l.Pop()
		if err != api.OK || text(got) != text(due) {
			t.Fatalf("Pop: %s, error %d, not %s", text(got), err, text(due))
		}
		spoil(got.Data)
		spoilNumbers(got.Bufs)
		if l.Len() == 1 {
			only := l.Bufs()
			spoilNumbers(only)
			wantLine(t, l, 1, 1, 2)
		}
	}
	got, _ := l.Pop()
	if len(got.Data) != 0 || len(got.Bufs) != 0 {
		t.Errorf("Pop of none: %s", text(got))
	}
}
