package icmp_test

import (
	"bytes"
	"fmt"
	"math"
	"math/rand"
	"slices"
	"testing"

	"packhorse/api"
	"packhorse/icmp"
	"packhorse/ip4"
)

// noise is n bytes, the same at every run.
func noise(seed, n int) []byte {
	x := uint32(seed)*2654435761 + 12345
	b := make([]byte, n)
	for i := range b {
		x = x*1664525 + 1013904223
		b[i] = byte(x >> 16)
	}
	return b
}

// odd are numbers that fit into no message, and those that look like others where only their lowest bits are taken.
var odd = []int{
	math.MinInt, math.MinInt + 8, -1 << 32, -65536, -65535, -256, -248, -2, -1,
	65536, 65537, 1 << 20, 1 << 32, 1<<32 + 3, 1<<32 + 8, math.MaxInt - 1, math.MaxInt,
}

// added is what the words of bytes make, folded at every word; a last byte alone is a word's higher one.
func added(b []byte) int {
	s := 0
	for i, x := range b {
		w := int(x)
		if i%2 == 0 {
			w *= 256
		}
		if s += w; s > 0xffff {
			s -= 0xffff
		}
	}
	return s
}

// seal makes the sum of a message right, worked out here.
func seal(b []byte) []byte {
	b[2], b[3] = 0, 0
	s := 0xffff - added(b)
	b[2], b[3] = byte(s/256), byte(s%256)
	return b
}

// built is a message of these bytes, with a right sum.
func built(kind, code int, four [4]byte, data []byte) []byte {
	return seal(slices.Concat([]byte{byte(kind), byte(code), 0, 0}, four[:], data))
}

// laid is a message that may be, laid down by hand.
func laid(m api.Icmp) []byte {
	four := [4]byte{}
	if m.Type == 0 || m.Type == 8 {
		four = [4]byte{byte(m.Id / 256), byte(m.Id % 256), byte(m.Seq / 256), byte(m.Seq % 256)}
	}
	if m.Type == 3 && m.Code == 4 {
		four = [4]byte{0, 0, byte(m.Mtu / 256), byte(m.Mtu % 256)}
	}
	return built(m.Type, m.Code, four, m.Data)
}

// text is a message as a text; nil and empty lists are alike (R2).
func text(m api.Icmp) string {
	return fmt.Sprintf("type %d code %d id %d seq %d mtu %d data %x", m.Type, m.Code, m.Id, m.Seq, m.Mtu, m.Data)
}

// brief is as much of it as a failure needs.
func brief(s string) string { return s[:min(len(s), 160)] }

func wantEncode(t *testing.T, m api.Icmp) {
	t.Helper()
	due := laid(m)
	if b, err := icmp.Encode(m); err != api.OK || !bytes.Equal(b, due) {
		t.Errorf("Encode(%s): %x, error %d, not %x", brief(text(m)), b[:min(len(b), 40)], err, due[:min(len(due), 40)])
	}
}

func wantNoEncode(t *testing.T, m api.Icmp, due api.Errno) {
	t.Helper()
	if b, err := icmp.Encode(m); err != due || len(b) != 0 {
		t.Errorf("Encode(%s, %d bytes): %d bytes, error %d, not error %d alone", brief(text(m)), len(m.Data), len(b), err, due)
	}
}

func wantDecode(t *testing.T, b []byte, due api.Icmp) {
	t.Helper()
	if m, err := icmp.Decode(b); err != api.OK || text(m) != text(due) {
		t.Errorf("Decode(%x): %s, error %d, not %s", b[:min(len(b), 40)], brief(text(m)), err, brief(text(due)))
	}
}

func wantNoDecode(t *testing.T, b []byte, due api.Errno) {
	t.Helper()
	if m, err := icmp.Decode(b); err != due || text(m) != text(api.Icmp{}) {
		t.Errorf("Decode(%x, %d bytes): %s, error %d, not error %d alone", b[:min(len(b), 40)], len(b), brief(text(m)), err, due)
	}
}

// wantBoth holds a message that may be against its bytes, in both directions.
func wantBoth(t *testing.T, m api.Icmp) {
	t.Helper()
	wantEncode(t, m)
	wantDecode(t, laid(m), m)
}

func TestExamples(t *testing.T) { // P12.1 to P12.4: the chapter's table
	b := []byte("\x08\x00\x96\xfc\x00\x01\x00\x02a")
	m := api.Icmp{Type: api.IcmpAsk, Id: 1, Seq: 2, Data: []byte("a")}
	if got, err := icmp.Encode(m); err != api.OK || !bytes.Equal(got, b) {
		t.Errorf("Encode: %x, error %d", got, err)
	}
	wantDecode(t, b, m)
	for bit := range len(b) * 8 {
		b[bit/8] ^= 1 << (bit % 8)
		wantNoDecode(t, b, api.ErrSum)
		b[bit/8] ^= 1 << (bit % 8)
	}
	p := api.Packet{Src: api.Ip{10, 0, 0, 1}, Dst: api.Ip{10, 0, 0, 2}, Proto: api.ProtoUdp, Ttl: 64}
	packet, _ := ip4.Encode(p, []byte{0, 5, 0, 7, 0, 9, 0, 0, 'a'})
	wantQuoted(t, packet, api.Quote{Src: p.Src, Dst: p.Dst, Proto: 17, SrcPort: 5, DstPort: 7})
	k := icmp.NewBucket(0)
	wantTakes(t, k, 0, 4)
	wantTakes(t, k, 1, 0)
	wantTakes(t, k, 2, 1)
	x := icmp.NewPaths()
	wantLearn(t, x, api.Ip{10, 0, 0, 2}, 100, true)
	wantLearn(t, x, api.Ip{10, 0, 0, 2}, 200, false)
	wantFind(t, x, api.Ip{10, 0, 0, 2}, 100)
	wantFind(t, x, api.Ip{10, 0, 0, 3}, 256)
}

func TestForm(t *testing.T) { // P12.1: each part of a message at its place, by bytes that are written out
	for _, x := range []struct {
		m   api.Icmp
		due string
	}{
		{api.Icmp{Type: api.IcmpAnswer}, "\x00\x00\xff\xff\x00\x00\x00\x00"},
		{api.Icmp{Type: api.IcmpAnswer, Id: 0x1234, Seq: 0x5678}, "\x00\x00\x97\x53\x12\x34\x56\x78"},
		{api.Icmp{Type: api.IcmpAsk, Id: 0xffff, Seq: 0xf7ff}, "\x08\x00\x00\x00\xff\xff\xf7\xff"},
		{api.Icmp{Type: api.IcmpAsk, Id: 0xabcd, Seq: 0xef01, Data: []byte("xyz")}, "\x08\x00\x6a\xb6\xab\xcd\xef\x01xyz"},
		{api.Icmp{Type: api.IcmpUnreach, Code: api.CodeHost}, "\x03\x01\xfc\xfe\x00\x00\x00\x00"},
		{api.Icmp{Type: api.IcmpUnreach, Code: api.CodePort, Data: []byte{1, 2}}, "\x03\x03\xfb\xfa\x00\x00\x00\x00\x01\x02"},
		{api.Icmp{Type: api.IcmpUnreach, Code: api.CodeLong, Mtu: 0x1234}, "\x03\x04\xea\xc7\x00\x00\x12\x34"},
		{api.Icmp{Type: api.IcmpUnreach, Code: api.CodeLong}, "\x03\x04\xfc\xfb\x00\x00\x00\x00"},
		{api.Icmp{Type: api.IcmpTime, Code: 1, Data: []byte{255}}, "\x0b\x01\xf5\xfd\x00\x00\x00\x00\xff"},
	} {
		if b, err := icmp.Encode(x.m); err != api.OK || string(b) != x.due {
			t.Errorf("Encode(%s): %x, error %d, not %x", text(x.m), b, err, x.due)
		}
		wantDecode(t, []byte(x.due), x.m)
	}
}

// fits is what the chapter says of messages that may be, read another way than the package does: what each number may be is listed.
func fits(m api.Icmp) bool {
	inWord := func(n int) bool { return n>>16 == 0 }
	for _, x := range []bool{
		m.Type == 0 && m.Code == 0 && inWord(m.Id) && inWord(m.Seq) && m.Mtu == 0,
		m.Type == 8 && m.Code == 0 && inWord(m.Id) && inWord(m.Seq) && m.Mtu == 0,
		m.Type == 3 && m.Code == 4 && m.Id == 0 && m.Seq == 0 && inWord(m.Mtu),
		m.Type == 3 && m.Code>>4 == 0 && m.Id == 0 && m.Seq == 0 && m.Mtu == 0,
		m.Type == 11 && m.Code>>1 == 0 && m.Id == 0 && m.Seq == 0 && m.Mtu == 0,
	} {
		if x {
			return true
		}
	}
	return false
}

// wantAsFits tries to encode a message that is not too long.
func wantAsFits(t *testing.T, m api.Icmp) {
	t.Helper()
	if fits(m) {
		wantBoth(t, m)
		return
	}
	wantNoEncode(t, m, api.ErrArg)
}

func TestTypesAndCodes(t *testing.T) { // P12.1: all of a byte, and beyond it
	types := map[int][]int{0: {0}, 3: {0, 1, 2, 3, 4, 5, 6, 7, 8, 9, 10, 11, 12, 13, 14, 15}, 8: {0}, 11: {0, 1}}
	for kind := -20; kind < 300; kind++ {
		for code := -20; code < 300; code++ {
			m := api.Icmp{Type: kind, Code: code, Data: []byte("data")}
			if slices.Contains(types[kind], code) {
				wantBoth(t, m)
				continue
			}
			wantNoEncode(t, m, api.ErrArg)
		}
	}
	for _, n := range odd {
		for _, other := range []int{0, 1, 3, 4, 8, 11, n} {
			wantNoEncode(t, api.Icmp{Type: n, Code: other}, api.ErrArg)
			wantNoEncode(t, api.Icmp{Type: other, Code: n}, api.ErrArg)
		}
	}
}

func TestEchoNumbers(t *testing.T) { // P12.1: Id and Seq from 0 to 65535, and beyond; no Mtu; Code 0 alone
	for _, kind := range []int{api.IcmpAnswer, api.IcmpAsk} {
		for n := range 65536 {
			wantBoth(t, api.Icmp{Type: kind, Id: n, Seq: 65535 - n, Data: []byte("d")})
		}
		for _, n := range []int{0, 1, 255, 256, 65535} {
			wantBoth(t, api.Icmp{Type: kind, Id: n})
			wantBoth(t, api.Icmp{Type: kind, Seq: n})
			wantNoEncode(t, api.Icmp{Type: kind, Code: 1, Id: n, Seq: n}, api.ErrArg)
		}
		for _, n := range odd {
			wantNoEncode(t, api.Icmp{Type: kind, Id: n}, api.ErrArg)
			wantNoEncode(t, api.Icmp{Type: kind, Seq: n}, api.ErrArg)
		}
		for _, n := range append([]int{1, 68, 256, 65535}, odd...) {
			wantNoEncode(t, api.Icmp{Type: kind, Mtu: n}, api.ErrArg)
			wantNoEncode(t, api.Icmp{Type: kind, Code: api.CodeLong, Mtu: n}, api.ErrArg)
		}
	}
}

func TestMtu(t *testing.T) { // P12.1: with Code 4 of Type 3 from 0 to 65535, without it 0
	for n := range 65536 {
		wantBoth(t, api.Icmp{Type: api.IcmpUnreach, Code: api.CodeLong, Mtu: n, Data: []byte("quoted")})
	}
	for _, n := range append([]int{1, 2, 68, 255, 256, 65535}, odd...) {
		for code := range 16 {
			if code != api.CodeLong || n < 0 || n > 65535 {
				wantNoEncode(t, api.Icmp{Type: api.IcmpUnreach, Code: code, Mtu: n}, api.ErrArg)
			}
		}
		for code := range 5 {
			wantNoEncode(t, api.Icmp{Type: api.IcmpTime, Code: code, Mtu: n}, api.ErrArg)
		}
	}
}

func TestNoIdNorSeq(t *testing.T) { // P12.1: what is no echo has neither
	for _, n := range append([]int{1, 2, 255, 256, 65535}, odd...) {
		for code := range 16 {
			wantNoEncode(t, api.Icmp{Type: api.IcmpUnreach, Code: code, Id: n}, api.ErrArg)
			wantNoEncode(t, api.Icmp{Type: api.IcmpUnreach, Code: code, Seq: n}, api.ErrArg)
		}
		for code := range 2 {
			wantNoEncode(t, api.Icmp{Type: api.IcmpTime, Code: code, Id: n}, api.ErrArg)
			wantNoEncode(t, api.Icmp{Type: api.IcmpTime, Code: code, Seq: n}, api.ErrArg)
		}
	}
}

func TestEncodeByTheChapter(t *testing.T) { // P12.1: all numbers at their edges, in all ways
	edges := []int{-1, 0, 1, 65535, 65536}
	for _, kind := range []int{-1, 0, 1, 2, 3, 4, 5, 7, 8, 9, 10, 11, 12, 255, 256, 264} {
		for _, code := range []int{-1, 0, 1, 2, 3, 4, 5, 14, 15, 16, 260} {
			for n := range 125 {
				wantAsFits(t, api.Icmp{Type: kind, Code: code, Id: edges[n%5], Seq: edges[n/5%5], Mtu: edges[n/25], Data: noise(n, n%4)})
			}
		}
	}
}

// kinds are messages of each kind, without data.
var kinds = []api.Icmp{
	{Type: api.IcmpAnswer}, {Type: api.IcmpAnswer, Id: 77, Seq: 65535},
	{Type: api.IcmpAsk, Id: 65535}, {Type: api.IcmpAsk, Id: 258, Seq: 772},
	{Type: api.IcmpUnreach}, {Type: api.IcmpUnreach, Code: api.CodeHost}, {Type: api.IcmpUnreach, Code: 15},
	{Type: api.IcmpUnreach, Code: api.CodeLong}, {Type: api.IcmpUnreach, Code: api.CodeLong, Mtu: 65535},
	{Type: api.IcmpTime}, {Type: api.IcmpTime, Code: 1},
}

func TestLong(t *testing.T) { // P12.1: 1016 bytes of data, and 1017
	all := noise(4, 70000)
	for _, m := range kinds {
		for _, n := range []int{0, 1, 2, 3, 7, 8, 9, 28, 68, 1015, 1016} {
			m.Data = all[:n]
			wantBoth(t, m)
			m.Data = make([]byte, n)
			wantBoth(t, m)
			m.Data = bytes.Repeat([]byte{255}, n)
			wantBoth(t, m)
		}
		for _, n := range []int{1017, 1018, 1024, 1025, 2048, 65535, 65536 + 9} {
			m.Data = all[:n]
			wantNoEncode(t, m, api.ErrLong)
			wantNoDecode(t, laid(m), api.ErrLong)
		}
	}
}

func TestLongAndOtherwise(t *testing.T) { // P12.1, R3: what is too long is told first
	for _, m := range []api.Icmp{
		{Type: 1}, {Type: -1}, {Type: 8, Code: 1}, {Type: 8, Id: -1}, {Type: 0, Seq: 65536}, {Type: 8, Mtu: 1},
		{Type: 3, Code: 16}, {Type: 3, Mtu: 1}, {Type: 3, Code: 4, Mtu: 65536}, {Type: 3, Id: 1}, {Type: 11, Code: 2}, {Type: 11, Seq: 1},
	} {
		m.Data = make([]byte, 1016)
		wantNoEncode(t, m, api.ErrArg)
		m.Data = make([]byte, 1017)
		wantNoEncode(t, m, api.ErrLong)
	}
}

func TestDecodeSize(t *testing.T) { // P12.1: 7, 8, 1024 and 1025 bytes, whatever else is wrong
	for n := range 8 {
		wantNoDecode(t, make([]byte, n), api.ErrShort)
		wantNoDecode(t, noise(n, n), api.ErrShort)
		wantNoDecode(t, laid(kinds[3])[:n], api.ErrShort)
		if n >= 4 {
			wantNoDecode(t, seal(make([]byte, n)), api.ErrShort)
		}
	}
	wantDecode(t, seal(make([]byte, 8)), api.Icmp{})
	wantDecode(t, seal(make([]byte, 1024)), api.Icmp{Data: make([]byte, 1016)})
	for _, n := range []int{1025, 1026, 1500, 65535, 65536 + 8, 1 << 20} {
		wantNoDecode(t, seal(make([]byte, n)), api.ErrLong)
		wantNoDecode(t, make([]byte, n), api.ErrLong)
		wantNoDecode(t, noise(n, n), api.ErrLong)
	}
	wantNoDecode(t, make([]byte, 8), api.ErrSum)
	wantNoDecode(t, make([]byte, 1024), api.ErrSum)
}

func TestDecodeSum(t *testing.T) { // P12.1: one sum alone of all
	for _, m := range kinds {
		m.Data = noise(m.Type, 13)
		b := laid(m)
		due := int(b[2])*256 + int(b[3])
		for sum := range 65536 {
			b[2], b[3] = byte(sum/256), byte(sum%256)
			if sum == due {
				wantDecode(t, b, m)
				continue
			}
			wantNoDecode(t, b, api.ErrSum)
		}
	}
	// Where the sum is 0, ffff makes all a sum of 0 just as well.
	b := []byte("\x08\x00\xff\xff\xff\xff\xf7\xff")
	wantDecode(t, b, api.Icmp{Type: api.IcmpAsk, Id: 0xffff, Seq: 0xf7ff})
}

func TestDecodeTypesAndCodes(t *testing.T) { // P12.1: all of both bytes, with each of the four bytes not 0 where it must be
	fours := [][4]byte{{}, {1}, {128}, {0, 1}, {0, 255}, {0, 0, 1}, {0, 0, 128}, {0, 0, 0, 1}, {0, 0, 0, 255}, {1, 2, 3, 4}, {0, 0, 3, 4}, {5, 6}}
	for kind := range 256 {
		for code := range 256 {
			for _, four := range fours {
				first, second := int(four[0])*256+int(four[1]), int(four[2])*256+int(four[3])
				b := built(kind, code, four, []byte("data"))
				switch {
				case (kind == 0 || kind == 8) && code == 0:
					wantDecode(t, b, api.Icmp{Type: kind, Id: first, Seq: second, Data: []byte("data")})
				case kind == 3 && code == 4 && first == 0:
					wantDecode(t, b, api.Icmp{Type: 3, Code: 4, Mtu: second, Data: []byte("data")})
				case (kind == 3 && code < 16 || kind == 11 && code < 2) && four == [4]byte{}:
					wantDecode(t, b, api.Icmp{Type: kind, Code: code, Data: []byte("data")})
				default:
					wantNoDecode(t, b, api.ErrForm)
				}
			}
		}
	}
}

func TestDecodeNoughts(t *testing.T) { // P12.1: each value of each byte that must be 0
	for _, m := range kinds {
		if m.Type == api.IcmpAnswer || m.Type == api.IcmpAsk {
			continue
		}
		for at := range 4 {
			if m.Code == api.CodeLong && at > 1 {
				continue
			}
			for n := 1; n < 256; n++ {
				b := laid(m)
				b[4+at] = byte(n)
				wantNoDecode(t, seal(b), api.ErrForm)
				b[2] ^= 1
				wantNoDecode(t, b, api.ErrSum)
			}
		}
	}
}

func TestDecodeOrder(t *testing.T) { // P12.1: the first of several faults
	for _, four := range [][4]byte{{}, {1, 2, 3, 4}} {
		wantNoDecode(t, built(1, 0, four, nil), api.ErrForm)
		wantNoDecode(t, built(1, 0, four, make([]byte, 1016)), api.ErrForm)
		wantNoDecode(t, built(1, 0, four, make([]byte, 1017)), api.ErrLong)
		b := built(1, 0, four, make([]byte, 1017))
		b[3] ^= 4
		wantNoDecode(t, b, api.ErrLong)
		wantNoDecode(t, b[:1024], api.ErrSum)
		wantNoDecode(t, b[:8], api.ErrSum)
		wantNoDecode(t, b[:7], api.ErrShort)
	}
}

// anyMessage is one that may be.
func anyMessage(r *rand.Rand) api.Icmp {
	m := kinds[r.Intn(len(kinds))]
	switch {
	case m.Type == api.IcmpAnswer || m.Type == api.IcmpAsk:
		m.Id, m.Seq = r.Intn(65536), r.Intn(65536)
	case m.Type == api.IcmpUnreach && m.Code == api.CodeLong:
		m.Mtu = r.Intn(65536)
	case m.Type == api.IcmpUnreach:
		m.Code = (5 + r.Intn(15)) % 16 // 4 is left out
	}
	m.Data = make([]byte, r.Intn(1017)>>r.Intn(9))
	r.Read(m.Data)
	return m
}

func TestThereAndBack(t *testing.T) { // P12.5: what was encoded is decoded as it was
	r := rand.New(rand.NewSource(51))
	for range 20000 {
		m := anyMessage(r)
		b, err := icmp.Encode(m)
		if err != api.OK || !bytes.Equal(b, laid(m)) {
			t.Fatalf("Encode(%s): %d bytes, error %d", brief(text(m)), len(b), err)
		}
		wantDecode(t, b, m)
	}
}

func TestOneBit(t *testing.T) { // P12.5: one bit that is turned is told
	r := rand.New(rand.NewSource(52))
	for range 200 {
		b, _ := icmp.Encode(anyMessage(r))
		for bit := range len(b) * 8 {
			b[bit/8] ^= 1 << (bit % 8)
			wantNoDecode(t, b, api.ErrSum)
			b[bit/8] ^= 1 << (bit % 8)
		}
	}
	for _, m := range kinds {
		for _, fill := range []byte{0, 255} {
			m.Data = bytes.Repeat([]byte{fill}, 5)
			b, _ := icmp.Encode(m)
			for bit := range len(b) * 8 {
				b[bit/8] ^= 1 << (bit % 8)
				wantNoDecode(t, b, api.ErrSum)
				b[bit/8] ^= 1 << (bit % 8)
			}
		}
	}
}

func TestBackAndThere(t *testing.T) { // P12.1: any bytes are told by what the chapter says of them
	r := rand.New(rand.NewSource(53))
	seen := map[api.Errno]int{}
	for range 60000 {
		b := make([]byte, 4+r.Intn(40))
		r.Read(b)
		b[0] = []byte{0, 3, 8, 11, b[0]}[r.Intn(5)]
		if r.Intn(6) > 0 {
			b[1] %= 20
		}
		if r.Intn(3) == 0 {
			b[1] = 0
		}
		if r.Intn(2) == 0 {
			copy(b[4:], []byte{0, 0, 0, 0}[:min(len(b)-4, 2+2*r.Intn(2))])
		}
		if r.Intn(9) > 0 {
			seal(b)
		}
		m, err := icmp.Decode(b)
		seen[err]++
		if len(b) < 8 || added(b) != 0xffff {
			due := api.ErrSum
			if len(b) < 8 {
				due = api.ErrShort
			}
			wantNoDecode(t, b, due)
			continue
		}
		if err == api.OK && (!fits(m) || !bytes.Equal(laid(m), b)) {
			t.Errorf("Decode(%x): %s", b, text(m))
		}
		if err != api.OK && (err != api.ErrForm || hasForm(b)) {
			t.Errorf("Decode(%x): error %d", b, err)
		}
	}
	for _, err := range []api.Errno{api.OK, api.ErrShort, api.ErrSum, api.ErrForm} {
		if seen[err] < 1000 {
			t.Errorf("%d alone that are answered by %d", seen[err], err)
		}
	}
}

// hasForm reads the form of bytes whose length and sum are right.
func hasForm(b []byte) bool {
	left, right := b[4] == 0 && b[5] == 0, b[6] == 0 && b[7] == 0
	switch b[0] {
	case 0, 8:
		return b[1] == 0
	case 3:
		return left && (right && b[1] < 16 || b[1] == 4)
	case 11:
		return left && right && b[1] < 2
	}
	return false
}

func TestQuoting(t *testing.T) { // P12.2: all first bytes, as far as the bytes go
	for first := range 256 {
		all := noise(first, 2000)
		all[0] = byte(first)
		size := max(first%16, 5)*4 + 8
		for _, n := range append([]int{100, 256, 1024, 2000}, upTo(80)...) {
			got := icmp.Quoting(all[:n])
			if !bytes.Equal(got, all[:min(n, size)]) || len(got) > 68 {
				t.Fatalf("Quoting of %d bytes from %x on: %d bytes", n, first, len(got))
			}
		}
	}
}

func upTo(n int) []int {
	out := []int{}
	for i := range n {
		out = append(out, i)
	}
	return out
}

func TestQuotingEdges(t *testing.T) { // P12.2: the head's length by the lowest four bits
	if got := icmp.Quoting(nil); len(got) != 0 {
		t.Errorf("Quoting(nil): %x", got)
	}
	if got := icmp.Quoting([]byte{}); len(got) != 0 {
		t.Errorf("Quoting of no bytes: %x", got)
	}
	for _, x := range []struct {
		first byte
		n     int
		due   int
	}{
		{0x45, 1, 1}, {0x45, 19, 19}, {0x45, 20, 20}, {0x45, 27, 27}, {0x45, 28, 28}, {0x45, 29, 28}, {0x45, 500, 28},
		{0x40, 28, 28}, {0x40, 60, 28}, {0x40, 7, 7}, {0x44, 27, 27}, {0x44, 60, 28}, {0x41, 60, 28},
		{0x46, 60, 32}, {0x46, 31, 31}, {0x46, 33, 32}, {0x4f, 1, 1}, {0x4f, 59, 59}, {0x4f, 67, 67}, {0x4f, 68, 68}, {0x4f, 69, 68}, {0x4f, 2000, 68},
		{0x0f, 2000, 68}, {0xff, 2000, 68}, {0x00, 2000, 28}, {0xf0, 2000, 28}, {0x65, 40, 28},
	} {
		b := noise(3, x.n)
		b[0] = x.first
		if got := icmp.Quoting(b); !bytes.Equal(got, b[:x.due]) {
			t.Errorf("Quoting of %d bytes from %x on: %d bytes, not %d", x.n, x.first, len(got), x.due)
		}
	}
}

func wantQuoted(t *testing.T, b []byte, due api.Quote) {
	t.Helper()
	if q, err := icmp.Quoted(b); err != api.OK || q != due {
		t.Errorf("Quoted(%x): %+v, error %d, not %+v", b[:min(len(b), 80)], q, err, due)
	}
}

func wantNoQuoted(t *testing.T, b []byte, due api.Errno) {
	t.Helper()
	if q, err := icmp.Quoted(b); err != due || q != (api.Quote{}) {
		t.Errorf("Quoted(%x, %d bytes): %+v, error %d, not error %d alone", b[:min(len(b), 80)], len(b), q, err, due)
	}
}

// packet is a head of so many units of four bytes, whose bytes are all told apart, and eight bytes behind it.
func packet(units, proto int) []byte {
	b := []byte("\x45\x11\x22\x33\x44\x55\x66\x77\x88\x00\x99\xaa\x0a\x01\x02\x03\xc0\x04\x05\x06")
	b[0], b[9] = byte(0x40+units), byte(proto)
	b = append(b, bytes.Repeat([]byte{0xee}, units*4-20)...)
	return append(b, 0xf1, 0xf2, 0xf3, 0xf4, 0xf5, 0xf6, 0xf7, 0xf8)
}

// told is what is read of such a packet.
func told(proto int) api.Quote {
	q := api.Quote{Src: api.Ip{10, 1, 2, 3}, Dst: api.Ip{192, 4, 5, 6}, Proto: proto}
	if proto == 6 {
		q.SrcPort, q.DstPort, q.Seq = 0xf1f2, 0xf3f4, 0xf5f6f7f8
	}
	if proto == 17 {
		q.SrcPort, q.DstPort = 0xf1f2, 0xf3f4
	}
	if proto == 1 {
		q.SrcPort = 0xf5f6
	}
	return q
}

func TestQuoted(t *testing.T) { // P12.2: all protocols, all heads; what stands behind does not matter
	for proto := range 256 {
		for units := 5; units < 16; units++ {
			b := packet(units, proto)
			wantQuoted(t, b, told(proto))
			wantQuoted(t, append(b, noise(proto, 300)...), told(proto))
		}
	}
}

func TestQuotedShort(t *testing.T) { // P12.2: 19, 20, 27 and 28 bytes, and up to a head of 60
	for units := 5; units < 16; units++ {
		for _, proto := range []int{0, 1, 6, 17, 99} {
			b := packet(units, proto)
			for n := range len(b) {
				wantNoQuoted(t, b[:n], api.ErrShort)
			}
			wantQuoted(t, b, told(proto))
		}
	}
	for n := range 20 {
		wantNoQuoted(t, make([]byte, n), api.ErrShort)
		wantNoQuoted(t, noise(n, n), api.ErrShort)
	}
	wantNoQuoted(t, nil, api.ErrShort)
}

func TestQuotedForm(t *testing.T) { // P12.2: another version, a head's length below 20; ahead of the second ErrShort
	for first := range 256 {
		for n := 20; n < 80; n++ {
			b := append(packet(15, 17), noise(first, 20)...)[:n]
			b[0] = byte(first)
			switch units := first % 16; {
			case first/16 != 4, units < 5:
				wantNoQuoted(t, b, api.ErrForm)
			case n < units*4+8:
				wantNoQuoted(t, b, api.ErrShort)
			default:
				q := told(17)
				q.SrcPort = int(b[units*4])*256 + int(b[units*4+1])
				q.DstPort = int(b[units*4+2])*256 + int(b[units*4+3])
				wantQuoted(t, b, q)
			}
			wantNoQuoted(t, b[:19], api.ErrShort)
		}
	}
}

func TestQuotedOfQuoting(t *testing.T) { // P12.2: what was quoted is read, of packets that were made by ip4
	r := rand.New(rand.NewSource(54))
	for range 5000 {
		p := api.Packet{Proto: []int{1, 6, 17, r.Intn(256)}[r.Intn(4)], Ttl: 1 + r.Intn(255), Id: r.Intn(65536), Options: bytes.Repeat([]byte{1}, 4*r.Intn(11))}
		r.Read(p.Src[:])
		r.Read(p.Dst[:])
		b := make([]byte, r.Intn(200))
		r.Read(b)
		all, _ := ip4.Encode(p, b)
		if len(b) < 8 {
			wantNoQuoted(t, icmp.Quoting(all), api.ErrShort)
			continue
		}
		due := api.Quote{Src: p.Src, Dst: p.Dst, Proto: p.Proto}
		switch p.Proto {
		case 6:
			due.SrcPort, due.DstPort = int(b[0])<<8+int(b[1]), int(b[2])<<8+int(b[3])
			due.Seq = uint32(b[4])<<24 + uint32(b[5])<<16 + uint32(b[6])<<8 + uint32(b[7])
		case 17:
			due.SrcPort, due.DstPort = int(b[0])<<8+int(b[1]), int(b[2])<<8+int(b[3])
		case 1:
			due.SrcPort = int(b[4])<<8 + int(b[5])
		}
		wantQuoted(t, icmp.Quoting(all), due)
		wantQuoted(t, all, due)
		bad := bytes.Clone(all)
		bad[10] ^= 0x55 // the sum of the head is not asked
		wantQuoted(t, icmp.Quoting(bad), due)
	}
}

func wantLeft(t *testing.T, k *icmp.Bucket, now, due int) {
	t.Helper()
	if got := k.Left(now); got != due {
		t.Errorf("Left(%d): %d, not %d", now, got, due)
	}
}

// wantTakes takes all that may be taken at a tick.
func wantTakes(t *testing.T, k *icmp.Bucket, now, due int) {
	t.Helper()
	got := 0
	for got < 100 && k.Take(now) == api.OK {
		got++
	}
	if err := k.Take(now); got != due || err != api.ErrIcmpRate {
		t.Errorf("Take(%d): %d times, then error %d, not %d times", now, got, err, due)
	}
}

func TestBucketFull(t *testing.T) { // P12.3: while it is full, time does not count
	for _, late := range []int{0, 1, 2, 3, 4, 7, 8, 9, 1000, 1001, api.MaxTicks} {
		k := icmp.NewBucket(5)
		wantLeft(t, k, 5+late, 4)
		wantTakes(t, k, 5+late, 4)
		wantLeft(t, k, 5+late, 0)
		wantLeft(t, k, 5+late+1, 0)
		wantLeft(t, k, 5+late+2, 1)
		k = icmp.NewBucket(5)
		wantTakes(t, k, 5+late, 4)
		wantTakes(t, k, 5+late+1, 0)
		wantTakes(t, k, 5+late+2, 1)
	}
}

func TestBucketBehind(t *testing.T) { // P12.3: 1, 2, 3 and 4 ticks behind
	k := icmp.NewBucket(10)
	wantTakes(t, k, 10, 4)
	wantTakes(t, k, 11, 0)
	wantTakes(t, k, 12, 1)
	wantTakes(t, k, 13, 0)
	wantTakes(t, k, 14, 1)
	wantTakes(t, k, 17, 1) // the odd tick counts on
	wantTakes(t, k, 18, 1)
	for late, due := range []int{0, 0, 1, 1, 2, 2, 3, 3, 4, 4, 4, 4} {
		k = icmp.NewBucket(10)
		wantTakes(t, k, 10, 4)
		wantLeft(t, k, 10+late, due)
		wantTakes(t, k, 10+late, due)
	}
}

func TestBucketSteps(t *testing.T) { // P12.3: in how many steps time goes on does not matter
	for late := range 12 {
		k := icmp.NewBucket(0)
		wantTakes(t, k, 0, 4)
		for now := range late + 1 {
			wantLeft(t, k, now, min(now/2, 4))
		}
		wantTakes(t, k, late, min(late/2, 4))
	}
	// One that was taken from a full bucket begins the time; one that is taken later does not.
	k := icmp.NewBucket(0)
	for _, x := range []struct{ now, left int }{{7, 3}, {8, 2}, {9, 2}, {10, 1}, {11, 1}, {12, 0}, {13, 0}} {
		if err := k.Take(x.now); err != api.OK {
			t.Errorf("Take(%d): error %d", x.now, err)
		}
		wantLeft(t, k, x.now, x.left)
	}
	wantTakes(t, k, 14, 0)
	wantTakes(t, k, 15, 1)
}

func TestBucketFullAgain(t *testing.T) { // P12.3: what is left of the time is gone when it is full
	k := icmp.NewBucket(0)
	if err := k.Take(1); err != api.OK {
		t.Errorf("Take(1): error %d", err)
	}
	wantLeft(t, k, 2, 3)
	wantLeft(t, k, 3, 4)
	wantTakes(t, k, 4, 4) // full from 3 on: the tick from 3 to 4 does not count
	wantTakes(t, k, 5, 0)
	wantTakes(t, k, 6, 1)
	wantTakes(t, k, 15, 4) // full from 14 on, though nobody asked then
	wantTakes(t, k, 16, 0)
	wantTakes(t, k, 17, 1)
}

func TestBucketLatest(t *testing.T) { // P12.3: a now below the latest one that was told, by whatever call
	k := icmp.NewBucket(10)
	wantTakes(t, k, 3, 4) // as at 10
	wantLeft(t, k, 11, 0)
	wantLeft(t, k, 12, 1)
	wantLeft(t, k, 11, 1) // as at 12
	wantLeft(t, k, math.MinInt, 1)
	wantLeft(t, k, 15, 2)
	wantTakes(t, k, 0, 2) // as at 15
	wantLeft(t, k, 15, 0)
	wantLeft(t, k, 16, 1)
	k = icmp.NewBucket(0)
	wantLeft(t, k, 100, 4)
	wantTakes(t, k, 50, 4) // it was full up to 100
	wantLeft(t, k, 101, 0)
	wantLeft(t, k, 102, 1)
	wantTakes(t, k, 110, 4) // told by Take
	wantTakes(t, k, 109, 0)
	wantLeft(t, k, 90, 0)
	wantLeft(t, k, 111, 0)
	wantTakes(t, k, 112, 1)
}

func TestBucketRefused(t *testing.T) { // P12.3, R3: ErrIcmpRate changes nothing
	for late := range 10 {
		k, other := icmp.NewBucket(0), icmp.NewBucket(0)
		wantTakes(t, k, 0, 4)
		for range 4 {
			other.Take(0)
		}
		for now := range 2 {
			for range 5 {
				if err := k.Take(now); err != api.ErrIcmpRate {
					t.Errorf("Take(%d): error %d", now, err)
				}
			}
		}
		if a, b := k.Left(late), other.Left(late); a != b {
			t.Errorf("Left(%d): %d, and %d if nobody was refused", late, a, b)
		}
	}
}

func TestBucketAnyTick(t *testing.T) { // P12.3, R1: from and to the edges of ints
	k := icmp.NewBucket(math.MinInt)
	wantTakes(t, k, math.MinInt, 4)
	wantTakes(t, k, math.MinInt+1, 0)
	wantTakes(t, k, math.MinInt+2, 1)
	wantTakes(t, k, math.MaxInt, 4)
	wantTakes(t, k, math.MaxInt, 0)
	wantTakes(t, k, math.MinInt, 0)
	k = icmp.NewBucket(math.MaxInt - 3)
	wantTakes(t, k, 0, 4)
	wantTakes(t, k, math.MaxInt-2, 0)
	wantTakes(t, k, math.MaxInt-1, 1)
	wantTakes(t, k, math.MaxInt, 0)
	k = icmp.NewBucket(-3)
	wantTakes(t, k, -3, 4)
	wantTakes(t, k, -2, 0)
	wantTakes(t, k, -1, 1)
	wantTakes(t, k, 0, 0)
	wantTakes(t, k, 1, 1)
}

// slow is a bucket whose time goes on tick by tick.
type slow struct{ left, waited, now int }

func (s *slow) goTo(now int) {
	for ; s.now < now; s.now++ {
		if s.left == 4 {
			continue
		}
		if s.waited++; s.waited == 2 {
			s.left, s.waited = s.left+1, 0
		}
	}
}

func TestBucketByTicks(t *testing.T) { // P12.3, P12.5: any calls, held against a bucket that counts each tick
	for seed := range 300 {
		r := rand.New(rand.NewSource(int64(seed)))
		now := r.Intn(100) - 50
		k, s := icmp.NewBucket(now), &slow{left: 4, now: now}
		var taken []int
		for range 300 {
			now += r.Intn(2 + r.Intn(5)*r.Intn(4))
			at := now
			if r.Intn(5) == 0 {
				at -= r.Intn(10)
			}
			s.goTo(at)
			if r.Intn(3) == 0 {
				wantLeft(t, k, at, s.left)
				continue
			}
			due := api.ErrIcmpRate
			if s.left > 0 {
				due = api.OK
				s.left--
				taken = append(taken, s.now)
			}
			if err := k.Take(at); err != due {
				t.Fatalf("seed %d: Take(%d): error %d, not %d", seed, at, err, due)
			}
		}
		wantFew(t, taken)
	}
}

func TestBucketGreedy(t *testing.T) { // P12.5: who takes all that may be has 4 and t / 2 at most in any t ticks
	for seed := range 100 {
		r := rand.New(rand.NewSource(int64(seed)))
		k := icmp.NewBucket(0)
		var taken []int
		for now := 0; now < 200; now += 1 + r.Intn(1+seed%7) {
			for range r.Intn(6) {
				if k.Take(now) == api.OK {
					taken = append(taken, now)
				}
			}
		}
		wantFew(t, taken)
	}
	k := icmp.NewBucket(0)
	got := 0
	for now := range 1001 {
		for k.Take(now) == api.OK {
			got++
		}
	}
	if got != 4+1000/2 {
		t.Errorf("in 1000 ticks %d were taken", got)
	}
}

// wantFew holds ticks at which one was taken against the most that may be.
func wantFew(t *testing.T, taken []int) {
	t.Helper()
	for i, from := range taken {
		for j := i; j < len(taken); j++ {
			if ticks := taken[j] - from; j-i+1 > 4+ticks/2 {
				t.Fatalf("%d in the %d ticks from %d on", j-i+1, ticks, from)
			}
		}
	}
}

func TestBucketsApart(t *testing.T) { // R5
	k, other := icmp.NewBucket(0), icmp.NewBucket(0)
	wantTakes(t, k, 0, 4)
	wantLeft(t, other, 0, 4)
	wantLeft(t, other, 50, 4)
	wantLeft(t, k, 0, 0)
}

func wantFind(t *testing.T, p *icmp.Paths, ip api.Ip, due int) {
	t.Helper()
	if got := p.Find(ip); got != due {
		t.Errorf("Find(%v): %d, not %d", ip, got, due)
	}
}

func wantLearn(t *testing.T, p *icmp.Paths, ip api.Ip, mtu int, due bool) {
	t.Helper()
	if got := p.Learn(ip, mtu); got != due {
		t.Errorf("Learn(%v, %d): %v, not %v", ip, mtu, got, due)
	}
}

func wantLen(t *testing.T, p *icmp.Paths, due int) {
	t.Helper()
	if got := p.Len(); got != due {
		t.Errorf("Len: %d, not %d", got, due)
	}
}

// ip is the address with a number.
func ip(n int) api.Ip { return api.Ip{10, 0, byte(n / 256), byte(n % 256)} }

func TestPathsEdges(t *testing.T) { // P12.4: 67, 68, 255 and 256
	p := icmp.NewPaths()
	wantLen(t, p, 0)
	wantFind(t, p, ip(1), 256)
	wantFind(t, p, api.Ip{}, 256)
	for _, mtu := range []int{math.MinInt, -1 << 32, -68, -1, 0, 1, 20, 66, 67, 256, 257, 65535, 1<<32 + 100, math.MaxInt} {
		wantLearn(t, p, ip(1), mtu, false)
		wantFind(t, p, ip(1), 256)
		wantLen(t, p, 0)
	}
	for i, mtu := range []int{68, 69, 254, 255} {
		wantLearn(t, p, ip(i), mtu, true)
		wantFind(t, p, ip(i), mtu)
		wantLen(t, p, i+1)
	}
	wantLearn(t, p, ip(0), 67, false)
	wantLearn(t, p, ip(0), 68, false)
	wantFind(t, p, ip(0), 68)
	wantLen(t, p, 4)
}

func TestPathsFall(t *testing.T) { // P12.4, P12.5: what is just known, one less and one more
	p := icmp.NewPaths()
	wantLearn(t, p, ip(2), 255, true)
	for mtu := 255; mtu >= 69; mtu-- {
		wantLearn(t, p, ip(2), mtu, false)
		wantLearn(t, p, ip(2), mtu+1, false)
		wantLearn(t, p, ip(2), 256, false)
		wantFind(t, p, ip(2), mtu)
		wantLearn(t, p, ip(2), mtu-1, true)
		wantFind(t, p, ip(2), mtu-1)
		wantLen(t, p, 1)
	}
	wantLearn(t, p, ip(2), 67, false)
	wantFind(t, p, ip(2), 68)
	wantFind(t, p, ip(3), 256)
}

func TestPathsNinth(t *testing.T) { // P12.4: the first one is known no more, and may be learned anew
	p := icmp.NewPaths()
	for n := range 8 {
		wantLearn(t, p, ip(n), 100+n, true)
		wantLen(t, p, n+1)
	}
	wantLearn(t, p, ip(0), 90, true) // known: it stays the first one
	wantLearn(t, p, ip(8), 256, false)
	wantLearn(t, p, ip(8), 67, false)
	wantFind(t, p, ip(0), 90) // what is not learned takes nobody's place
	wantLen(t, p, 8)
	wantLearn(t, p, ip(8), 108, true)
	wantLen(t, p, 8)
	wantFind(t, p, ip(0), 256)
	for n := 1; n <= 8; n++ {
		wantFind(t, p, ip(n), 100+n)
	}
	wantLearn(t, p, ip(0), 200, true) // more than was known of it: it is a new one, and the last
	wantLen(t, p, 8)
	wantFind(t, p, ip(0), 200)
	wantFind(t, p, ip(1), 256)
	for n := 2; n <= 8; n++ {
		wantFind(t, p, ip(n), 100+n)
		wantLearn(t, p, ip(20+n), 70, true)
		wantFind(t, p, ip(n), 256)
		wantFind(t, p, ip(0), 200)
		wantLen(t, p, 8)
	}
	wantLearn(t, p, ip(40), 70, true)
	wantFind(t, p, ip(0), 256)
}

func TestPathsAddresses(t *testing.T) { // P12.4: all bytes of an address tell it from others; none of them is special
	for at := range 4 {
		p := icmp.NewPaths()
		a, b := api.Ip{1, 2, 3, 4}, api.Ip{1, 2, 3, 4}
		b[at] ^= 0x80
		wantLearn(t, p, a, 100, true)
		wantFind(t, p, b, 256)
		wantLearn(t, p, b, 200, true)
		wantFind(t, p, a, 100)
		wantFind(t, p, b, 200)
		wantLen(t, p, 2)
	}
	p := icmp.NewPaths()
	for n, x := range []api.Ip{{}, {127, 0, 0, 1}, {224}, {255, 255, 255, 255}} {
		wantLearn(t, p, x, 80, true)
		wantFind(t, p, x, 80)
		wantLen(t, p, n+1)
	}
}

// row is an address that is known, and how long packets to there may be.
type row struct {
	ip  api.Ip
	mtu int
}

func TestPathsByRows(t *testing.T) { // P12.4, P12.5: any calls, held against a list
	for seed := range 300 {
		r := rand.New(rand.NewSource(int64(seed)))
		p := icmp.NewPaths()
		var rows []row
		for range 300 {
			x := row{ip(r.Intn(6 + r.Intn(10))), 60 + r.Intn(205)}
			i := slices.IndexFunc(rows, func(y row) bool { return y.ip == x.ip })
			known := 256
			if i >= 0 {
				known = rows[i].mtu
			}
			wantFind(t, p, x.ip, known)
			due := x.mtu >= 68 && x.mtu < known
			wantLearn(t, p, x.ip, x.mtu, due)
			switch {
			case due && i >= 0:
				rows[i].mtu = x.mtu
			case due:
				rows = append(rows, x)
				rows = rows[max(len(rows)-8, 0):]
			}
			wantLen(t, p, len(rows))
			for _, y := range rows {
				wantFind(t, p, y.ip, y.mtu)
			}
			if t.Failed() {
				t.Fatalf("seed %d", seed)
			}
		}
		if len(rows) != 8 {
			t.Errorf("seed %d: %d rows alone", seed, len(rows))
		}
	}
}

func TestPathsApart(t *testing.T) { // R5
	p, other := icmp.NewPaths(), icmp.NewPaths()
	wantLearn(t, p, ip(1), 100, true)
	wantFind(t, other, ip(1), 256)
	wantLen(t, other, 0)
}

func TestNil(t *testing.T) { // R2
	for _, m := range kinds {
		m.Data = nil
		wantBoth(t, m)
		m.Data = []byte{}
		wantBoth(t, m)
	}
	wantNoDecode(t, nil, api.ErrShort)
	wantNoDecode(t, []byte{}, api.ErrShort)
	wantNoQuoted(t, []byte{}, api.ErrShort)
}

// spoil writes into all of a list, its spare room too.
func spoil(b []byte) {
	b = b[:cap(b)]
	for i := range b {
		b[i] ^= 0xff
	}
}

func TestMessageMemory(t *testing.T) { // R4
	for _, n := range []int{0, 1, 8, 60, 1016} {
		arg := noise(n, n+300)
		kept := bytes.Clone(arg)
		m := api.Icmp{Type: api.IcmpAsk, Id: 1, Seq: 2, Data: arg[:n]}
		first, _ := icmp.Encode(m)
		second, _ := icmp.Encode(m)
		due := bytes.Clone(second)
		spoil(first)
		if !bytes.Equal(arg, kept) || !bytes.Equal(second, due) {
			t.Errorf("Encode of %d bytes shares memory, or writes into its argument", n)
		}
		all := slices.Concat(due, noise(6, 300))
		kept = bytes.Clone(all)
		x, _ := icmp.Decode(all[:len(due)])
		y, _ := icmp.Decode(all[:len(due)])
		spoil(x.Data)
		if !bytes.Equal(all, kept) || !bytes.Equal(y.Data, arg[:n]) {
			t.Errorf("Decode of %d bytes shares memory, or writes into its argument", n)
		}
		spoil(all)
		if !bytes.Equal(y.Data, arg[:n]) {
			t.Errorf("Decode of %d bytes keeps its argument", n)
		}
	}
}

func TestQuoteMemory(t *testing.T) { // R4
	for _, n := range []int{0, 1, 20, 28, 29, 300} {
		all := slices.Concat(packet(5, 6), noise(1, 400))
		kept := bytes.Clone(all)
		first, second := icmp.Quoting(all[:n]), icmp.Quoting(all[:n])
		due := bytes.Clone(second)
		spoil(first)
		if !bytes.Equal(all, kept) || !bytes.Equal(second, due) {
			t.Errorf("Quoting of %d bytes shares memory, or writes into its argument", n)
		}
		icmp.Quoted(all[:n])
		if !bytes.Equal(all, kept) {
			t.Errorf("Quoted of %d bytes writes into its argument", n)
		}
	}
}

func TestAnyBytes(t *testing.T) { // R1, R5: no call panics, and none hangs on those ahead of it
	r := rand.New(rand.NewSource(55))
	for range 50000 {
		b := make([]byte, r.Intn(90))
		r.Read(b)
		if len(b) > 0 && r.Intn(2) == 0 {
			b[0] = byte(0x40 + r.Intn(16))
		}
		tell := func() string {
			m, err := icmp.Decode(b)
			q, e := icmp.Quoted(b)
			c, f := icmp.Encode(api.Icmp{Data: b})
			return fmt.Sprint(text(m), err, q, e, icmp.Quoting(b), c, f)
		}
		due := tell()
		icmp.Encode(anyMessage(r))
		if got := tell(); got != due {
			t.Fatalf("%s, and then %s", due, got)
		}
	}
}
