package ether_test

import (
	"bytes"
	"fmt"
	"math"
	"math/rand"
	"slices"
	"testing"

	"packhorse/api"
	"packhorse/ether"
)

var (
	here  = api.Mac{2, 0, 0, 0, 0, 1}
	there = api.Mac{4, 9, 8, 7, 6, 5}
	all   = api.Mac{255, 255, 255, 255, 255, 255}
)

// plain is a head without a tag, tagged one with a tag.
func plain(kind int) api.Frame { return api.Frame{Dst: there, Src: here, Type: kind} }

func tagged(kind, vlan, prio int) api.Frame {
	return api.Frame{Dst: there, Src: here, Tag: true, Vlan: vlan, Prio: prio, Type: kind}
}

// noise is n bytes, none of them 0, the same at every run.
func noise(seed, n int) []byte {
	x := uint32(seed)*2654435761 + 12345
	b := make([]byte, n)
	for i := range b {
		x = x*1664525 + 1013904223
		b[i] = byte(1 + x>>16%255)
	}
	return b
}

// bytesOf lays a frame of n bytes down by hand: from here to there, what stands ahead of what is carried, and noise.
func bytesOf(n int, behindAddresses ...byte) []byte {
	b := slices.Concat(there[:], here[:], behindAddresses)
	return slices.Concat(b, noise(n, max(n-len(b), 0)))[:n]
}

func wantEncode(t *testing.T, f api.Frame, b, due []byte) {
	t.Helper()
	got, err := ether.Encode(f, b)
	if err != api.OK || !bytes.Equal(got, due) {
		t.Errorf("Encode(%+v, %x): %x, error %d, not %x", f, b, got, err, due)
	}
}

func wantNoEncode(t *testing.T, f api.Frame, b []byte, due api.Errno) {
	t.Helper()
	got, err := ether.Encode(f, b)
	if err != due || len(got) != 0 {
		t.Errorf("Encode(%+v, %d bytes): %x, error %d, not error %d alone", f, len(b), got, err, due)
	}
}

func wantDecode(t *testing.T, b []byte, f api.Frame, carried []byte) {
	t.Helper()
	g, got, err := ether.Decode(b)
	if err != api.OK || g != f || !bytes.Equal(got, carried) {
		t.Errorf("Decode(%x): %+v, %x, error %d, not %+v, %x", b, g, got, err, f, carried)
	}
}

func wantNoDecode(t *testing.T, b []byte, due api.Errno) {
	t.Helper()
	f, got, err := ether.Decode(b)
	if err != due || f != (api.Frame{}) || len(got) != 0 {
		t.Errorf("Decode(%d bytes, %x): %+v, %x, error %d, not error %d alone", len(b), b[:min(len(b), 20)], f, got, err, due)
	}
}

func TestExamples(t *testing.T) {
	f := api.Frame{Dst: ether.All(), Src: here, Type: 0x806}
	b := slices.Concat([]byte("\xff\xff\xff\xff\xff\xff\x02\x00\x00\x00\x00\x01\x08\x06a"), make([]byte, 45))
	wantEncode(t, f, []byte("a"), b)
	f.Tag, f.Vlan, f.Prio = true, 5, 1
	b = slices.Concat([]byte("\xff\xff\xff\xff\xff\xff\x02\x00\x00\x00\x00\x01\x81\x00\x20\x05\x08\x06a"), make([]byte, 41))
	wantEncode(t, f, []byte("a"), b)
	wantNoDecode(t, b[:59], api.ErrShort)
	wantNoDecode(t, bytesOf(60, 0, 46), api.ErrForm)
	if !ether.Mine(f, there, 5) || ether.Mine(f, there, -1) {
		t.Errorf("Mine of a frame to All with Vlan 5: at 5 %v, at -1 %v", ether.Mine(f, there, 5), ether.Mine(f, there, -1))
	}
}

func TestEncodeHead(t *testing.T) { // P7.1
	for _, x := range []struct {
		f   api.Frame
		due string // behind the addresses
	}{
		{plain(0x0600), "\x06\x00"},
		{plain(0x0800), "\x08\x00"},
		{plain(0x80ff), "\x80\xff"},
		{plain(0x8101), "\x81\x01"},
		{plain(0x1234), "\x12\x34"},
		{plain(0xffff), "\xff\xff"},
		{tagged(0x0600, 0, 0), "\x81\x00\x00\x00\x06\x00"},
		{tagged(0xffff, 0, 0), "\x81\x00\x00\x00\xff\xff"},
		{tagged(0x0806, 1, 0), "\x81\x00\x00\x01\x08\x06"},
		{tagged(0x0806, 0, 1), "\x81\x00\x20\x00\x08\x06"},
		{tagged(0x0806, 4095, 0), "\x81\x00\x0f\xff\x08\x06"},
		{tagged(0x0806, 0, 7), "\x81\x00\xe0\x00\x08\x06"},
		{tagged(0x0806, 4095, 7), "\x81\x00\xef\xff\x08\x06"},
		{tagged(0x1234, 0x0abc, 5), "\x81\x00\xaa\xbc\x12\x34"},
		{tagged(0x1234, 0x0100, 4), "\x81\x00\x81\x00\x12\x34"},
	} {
		b := noise(1, 100)
		wantEncode(t, x.f, b, slices.Concat(there[:], here[:], []byte(x.due), b))
	}
}

func TestEncodeAddresses(t *testing.T) { // P7.1: addresses may be any
	f := api.Frame{Dst: api.Mac{1, 2, 3, 4, 5, 6}, Src: api.Mac{7, 8, 9, 10, 11, 12}, Type: 0x800}
	wantEncode(t, f, nil, slices.Concat([]byte{1, 2, 3, 4, 5, 6, 7, 8, 9, 10, 11, 12, 8, 0}, make([]byte, 46)))
	f.Dst, f.Src = api.Mac{}, all
	wantEncode(t, f, nil, slices.Concat(make([]byte, 6), all[:], []byte{8, 0}, make([]byte, 46)))
	f.Dst, f.Src = here, here
	wantEncode(t, f, nil, slices.Concat(here[:], here[:], []byte{8, 0}, make([]byte, 46)))
}

func TestEncodeNoughts(t *testing.T) { // P7.1: noughts, as long as there are fewer than 60 bytes
	for _, n := range []int{0, 1, 2, 40, 41, 42, 43, 44, 45, 46, 47, 48, 100, 255, 256} {
		b := noise(n, n)
		due := slices.Concat(there[:], here[:], []byte{8, 0}, b, make([]byte, max(46-n, 0)))
		wantEncode(t, plain(0x800), b, due)
		due = slices.Concat(there[:], here[:], []byte{0x81, 0, 0x40, 3, 8, 0}, b, make([]byte, max(42-n, 0)))
		wantEncode(t, tagged(0x800, 3, 2), b, due)
	}
}

func TestEncodeArg(t *testing.T) { // P7.1
	for _, kind := range []int{math.MinInt, -1, 0, 46, 256, 1535, 0x8100, 65536, 65536 + 0x800, 1<<32 + 0x800, math.MaxInt} {
		wantNoEncode(t, plain(kind), []byte("a"), api.ErrArg)
		wantNoEncode(t, tagged(kind, 5, 1), []byte("a"), api.ErrArg)
	}
	for _, vlan := range []int{math.MinInt, -4096, -1, 4096, 4097, 8192, 65536, 1 << 32, math.MaxInt} {
		wantNoEncode(t, tagged(0x800, vlan, 0), nil, api.ErrArg)
		wantNoEncode(t, tagged(0x800, vlan, 7), nil, api.ErrArg)
	}
	for _, prio := range []int{math.MinInt, -8, -1, 8, 9, 16, 1 << 32, 1 << 61, math.MaxInt} {
		wantNoEncode(t, tagged(0x800, 0, prio), nil, api.ErrArg)
		wantNoEncode(t, tagged(0x800, 4095, prio), nil, api.ErrArg)
	}
	for _, n := range []int{math.MinInt, -1, 1, 5, 7, 8, 4095, 4096, math.MaxInt} { // without a tag there is no place for them
		f := plain(0x800)
		f.Vlan = n
		wantNoEncode(t, f, nil, api.ErrArg)
		f.Vlan, f.Prio = 0, n
		wantNoEncode(t, f, nil, api.ErrArg)
		f.Vlan = n
		wantNoEncode(t, f, nil, api.ErrArg)
	}
}

func TestEncodeLong(t *testing.T) { // P7.1
	for _, n := range []int{257, 258, 260, 261, 274, 275, 1 << 16} {
		wantNoEncode(t, plain(0x800), make([]byte, n), api.ErrLong)
		wantNoEncode(t, tagged(0x800, 4095, 7), make([]byte, n), api.ErrLong)
		wantNoEncode(t, plain(1535), make([]byte, n), api.ErrArg) // R3: what is named first
		wantNoEncode(t, plain(0x8100), make([]byte, n), api.ErrArg)
		wantNoEncode(t, tagged(0x800, 4096, 0), make([]byte, n), api.ErrArg)
		wantNoEncode(t, tagged(0x800, 0, 8), make([]byte, n), api.ErrArg)
	}
}

func TestDecodeHead(t *testing.T) { // P7.2
	for _, x := range []struct {
		behind string
		due    api.Frame
	}{
		{"\x06\x00", plain(1536)},
		{"\x08\x00", plain(api.TypeIp)},
		{"\x08\x06", plain(api.TypeArp)},
		{"\x80\xff", plain(0x80ff)},
		{"\x81\x01", plain(0x8101)},
		{"\x12\x34", plain(0x1234)},
		{"\xff\xff", plain(65535)},
		{"\x81\x00\x00\x00\x06\x00", tagged(1536, 0, 0)},
		{"\x81\x00\x00\x00\xff\xff", tagged(65535, 0, 0)},
		{"\x81\x00\x20\x05\x08\x06", tagged(api.TypeArp, 5, 1)},
		{"\x81\x00\x0f\xff\x08\x00", tagged(api.TypeIp, 4095, 0)},
		{"\x81\x00\xe0\x00\x08\x00", tagged(api.TypeIp, 0, 7)},
		{"\x81\x00\xef\xff\x80\xff", tagged(0x80ff, 4095, 7)},
		{"\x81\x00\xaa\xbc\x81\x01", tagged(0x8101, 0x0abc, 5)},
		{"\x81\x00\x81\x00\x12\x34", tagged(0x1234, 0x0100, 4)}, // what the tag says looks like a tag's mark
	} {
		for _, n := range []int{60, 61, 100, 269, 270} {
			b := bytesOf(n, []byte(x.behind)...)
			wantDecode(t, b, x.due, b[12+len(x.behind):])
		}
	}
}

func TestDecodeAddresses(t *testing.T) { // P7.2: addresses may be any, and the noughts are told
	b := slices.Concat([]byte{1, 2, 3, 4, 5, 6, 7, 8, 9, 10, 11, 12, 8, 0}, make([]byte, 46))
	wantDecode(t, b, api.Frame{Dst: api.Mac{1, 2, 3, 4, 5, 6}, Src: api.Mac{7, 8, 9, 10, 11, 12}, Type: 0x800}, make([]byte, 46))
	b = slices.Concat(make([]byte, 6), all[:], []byte{0x81, 0, 0, 0, 8, 0}, make([]byte, 42))
	wantDecode(t, b, api.Frame{Src: all, Tag: true, Type: 0x800}, make([]byte, 42))
}

func TestDecodeCarriesTags(t *testing.T) { // P7.2: behind Type all is carried, whatever it looks like
	b := bytesOf(60, 8, 0, 0x81, 0, 0xff, 0xff, 0, 0)
	wantDecode(t, b, plain(0x800), b[14:])
	b = bytesOf(60, 0x81, 0, 0, 9, 8, 0, 0x81, 0, 0xff, 0xff, 0, 0)
	wantDecode(t, b, tagged(0x800, 9, 0), b[18:])
}

func TestDecodeLength(t *testing.T) { // P7.2
	untagged, withTag := []byte{8, 0}, []byte{0x81, 0, 0, 5, 8, 0}
	for _, n := range []int{0, 1, 5, 6, 11, 12, 13, 14, 15, 16, 17, 18, 46, 58, 59} {
		wantNoDecode(t, bytesOf(n, untagged...), api.ErrShort)
		wantNoDecode(t, bytesOf(n, withTag...), api.ErrShort)
		wantNoDecode(t, bytesOf(n, 0, 46), api.ErrShort) // R3: what is named first
		wantNoDecode(t, bytesOf(n, 0x81, 0, 0x10, 0, 0x81, 0), api.ErrShort)
	}
	wantNoDecode(t, nil, api.ErrShort) // R2
	for _, n := range []int{60, 269, 270} {
		b := bytesOf(n, untagged...)
		wantDecode(t, b, plain(0x800), b[14:])
	}
	for _, n := range []int{60, 270, 271, 272, 273, 274} {
		b := bytesOf(n, withTag...)
		wantDecode(t, b, tagged(0x800, 5, 0), b[18:])
	}
	for _, n := range []int{271, 272, 274, 275, 1 << 16} {
		wantNoDecode(t, bytesOf(n, untagged...), api.ErrLong)
		wantNoDecode(t, bytesOf(n, 0, 46), api.ErrLong) // R3
		wantNoDecode(t, bytesOf(n, 0x05, 0xff), api.ErrLong)
	}
	for _, n := range []int{275, 276, 1 << 16} {
		wantNoDecode(t, bytesOf(n, withTag...), api.ErrLong)
		wantNoDecode(t, bytesOf(n, 0x81, 0, 0x10, 0, 8, 0), api.ErrLong) // R3
		wantNoDecode(t, bytesOf(n, 0x81, 0, 0, 0, 0x81, 0), api.ErrLong)
		wantNoDecode(t, bytesOf(n, 0x81, 0, 0, 0, 5, 0xff), api.ErrLong)
	}
}

func TestDecodeForm(t *testing.T) { // P7.2
	for _, behind := range []string{
		"\x05\xff", "\x00\x00", "\x00\x2e", "\x00\xff", "\x01\x00", // Type below 1536
		"\x81\x00\x00\x05\x05\xff", "\x81\x00\x00\x05\x00\x00", "\x81\x00\xef\xff\x01\x00", // the same behind a tag
		"\x81\x00\x10\x00\x08\x00", "\x81\x00\x10\x05\x08\x00", "\x81\x00\xff\xff\x08\x00", "\x81\x00\x30\x00\xff\xff", // the bit
		"\x81\x00\x00\x05\x81\x00\x00\x05\x08\x00", "\x81\x00\xef\xff\x81\x00\x08\x00", // a tag behind a tag
		"\x81\x00\x10\x05\x81\x00\x10\x05\x08\x00", "\x81\x00\x10\x05\x05\xff",
	} {
		for _, n := range []int{60, 61, 269, 270} {
			wantNoDecode(t, bytesOf(n, []byte(behind)...), api.ErrForm)
		}
		if behind[:2] == "\x81\x00" {
			wantNoDecode(t, bytesOf(271, []byte(behind)...), api.ErrForm)
			wantNoDecode(t, bytesOf(274, []byte(behind)...), api.ErrForm)
		}
	}
}

func TestAll(t *testing.T) { // P7.3
	if got := ether.All(); got != all {
		t.Errorf("All: %x", got)
	}
}

func TestMineAddresses(t *testing.T) { // P7.3
	odd := api.Mac{1, 9, 8, 7, 6, 5}
	for _, x := range []struct {
		what          string
		dst, src, own api.Mac
		due           bool
	}{
		{"to one's own", here, there, here, true},
		{"to all", all, there, here, true},
		{"to somebody else", api.Mac{6}, there, here, false},
		{"to who sends it", there, there, here, false},
		{"to an address of many that is not all's", api.Mac{255, 255, 255, 255, 255, 254}, there, here, false},
		{"to another one of many", api.Mac{1, 0, 0x5e, 0, 0, 1}, there, here, false},
		{"to all but the first byte", api.Mac{254, 255, 255, 255, 255, 255}, there, here, false},
		{"to nobody", api.Mac{}, there, here, false},
		{"to one that differs in the first byte", api.Mac{3, 0, 0, 0, 0, 1}, there, here, false},
		{"to one that differs in the last byte", api.Mac{2, 0, 0, 0, 0, 0}, there, here, false},
		{"from one's own to one's own", here, here, here, false},
		{"from one's own to all", all, here, here, false},
		{"from an address of many", here, odd, here, false},
		{"from an address of many to all", all, odd, here, false},
		{"from all", here, all, here, false},
		{"from all to all", all, all, here, false},
		{"from one whose first byte is 3", here, api.Mac{3, 0, 0, 0, 0, 2}, here, false},
		{"from one whose first byte is 254", here, api.Mac{254, 1, 1, 1, 1, 1}, here, true},
		{"from one whose other bytes are odd", here, api.Mac{2, 1, 1, 1, 1, 1}, here, true},
		{"from one that differs in the last byte", here, api.Mac{2, 0, 0, 0, 0, 2}, here, true},
		{"from noughts", here, api.Mac{}, here, true},
		{"to noughts, which are one's own", api.Mac{}, there, api.Mac{}, true},
		{"to an address of many, which is one's own", odd, there, odd, true},
		{"from an address of many, which is one's own", all, odd, odd, false},
		{"to all, whose address is one's own", all, there, all, true},
	} {
		f := api.Frame{Dst: x.dst, Src: x.src, Type: api.TypeIp}
		if got := ether.Mine(f, x.own, -1); got != x.due {
			t.Errorf("Mine of a frame %s: %v", x.what, got)
		}
		f.Tag, f.Vlan = true, 7
		if got := ether.Mine(f, x.own, 7); got != x.due {
			t.Errorf("Mine of a frame %s with a tag: %v", x.what, got)
		}
		if ether.Mine(f, x.own, 8) || ether.Mine(f, x.own, -1) {
			t.Errorf("Mine of a frame %s in another VLAN", x.what)
		}
	}
}

func TestMineVlan(t *testing.T) { // P7.3
	for _, x := range []struct {
		tag        bool
		vlan, asks int
		due        bool
	}{
		{false, 0, -1, true}, {false, 0, -2, true}, {false, 0, math.MinInt, true},
		{false, 0, 0, false}, {false, 0, 1, false}, {false, 0, 4095, false}, {false, 0, math.MaxInt, false},
		{true, 0, -1, true}, {true, 0, -2, true}, {true, 0, math.MinInt, true},
		{true, 0, 0, true}, {true, 0, 1, false}, {true, 0, 4095, false}, {true, 0, 4096, false},
		{true, 1, -1, false}, {true, 1, 0, false}, {true, 1, 1, true}, {true, 1, 2, false}, {true, 1, 4097, false},
		{true, 5, 5, true}, {true, 5, 4, false}, {true, 5, 6, false}, {true, 5, -5, false}, {true, 5, math.MinInt, false},
		{true, 4095, 4095, true}, {true, 4095, 4094, false}, {true, 4095, -1, false}, {true, 4095, 4096, false},
		{true, 4096, 4096, true}, {true, 4096, 0, false}, {true, math.MaxInt, math.MaxInt, true}, // R6: heads that Decode never tells
		{true, -1, -1, false}, {true, math.MinInt, math.MinInt, false},
		{false, 5, -1, true}, {false, 5, 5, false},
	} {
		for _, prio := range []int{0, 7, -1} {
			for _, dst := range []api.Mac{here, all} {
				f := api.Frame{Dst: dst, Src: there, Tag: x.tag, Vlan: x.vlan, Prio: prio, Type: api.TypeIp}
				if got := ether.Mine(f, here, x.asks); got != x.due {
					t.Errorf("Mine of %+v at %d: %v", f, x.asks, got)
				}
			}
		}
	}
	if !ether.Mine(api.Frame{Dst: here, Src: there}, here, -1) || !ether.Mine(api.Frame{Dst: here, Src: there, Type: -1}, here, -1) {
		t.Errorf("Mine hangs on Type")
	}
}

func TestThereAndBack(t *testing.T) { // P7.4: what was encoded is decoded as it was, but for noughts behind it
	r := rand.New(rand.NewSource(7))
	for range 20000 {
		f := api.Frame{Type: 1536 + r.Intn(65536-1536)}
		r.Read(f.Dst[:])
		r.Read(f.Src[:])
		least := 46
		if f.Tag = r.Intn(2) == 0; f.Tag {
			f.Vlan, f.Prio, least = r.Intn(4096), r.Intn(8), 42
		}
		b := make([]byte, r.Intn(257))
		r.Read(b)
		frame, err := ether.Encode(f, b)
		if f.Type == api.TypeTag {
			wantNoEncode(t, f, b, api.ErrArg)
			continue
		}
		if err != api.OK {
			t.Fatalf("Encode(%+v, %x): error %d", f, b, err)
		}
		wantDecode(t, frame, f, slices.Concat(b, make([]byte, max(least-len(b), 0))))
	}
}

// sorted is what Decode answers by a plain reading of P7.2.
func sorted(b []byte) api.Errno {
	isTag := func(at int) bool { return b[at] == 0x81 && b[at+1] == 0 }
	if len(b) < 60 {
		return api.ErrShort
	}
	if len(b) > 274 || len(b) > 270 && !isTag(12) {
		return api.ErrLong
	}
	at := 12
	if isTag(12) {
		if at = 16; b[14]>>4&1 == 1 || isTag(16) {
			return api.ErrForm
		}
	}
	if b[at] < 6 {
		return api.ErrForm
	}
	return api.OK
}

func TestBackAndThere(t *testing.T) { // P7.4: what is decoded is encoded as the same bytes
	r := rand.New(rand.NewSource(8))
	seen := map[api.Errno]int{}
	for range 40000 {
		b := make([]byte, 50+r.Intn(235))
		r.Read(b)
		for _, at := range []int{12, 16} {
			if r.Intn(2) == 0 {
				b[at], b[at+1] = 0x81, byte(r.Intn(20)/19)
			}
			if r.Intn(4) == 0 {
				b[at] = byte(4 + r.Intn(4))
			}
		}
		due := sorted(b)
		if seen[due]++; due != api.OK {
			wantNoDecode(t, b, due)
			continue
		}
		f, carried, err := ether.Decode(b)
		if err != api.OK {
			t.Fatalf("Decode(%x): error %d", b, err)
		}
		wantEncode(t, f, carried, b)
	}
	for _, e := range []api.Errno{api.OK, api.ErrShort, api.ErrLong, api.ErrForm} {
		if seen[e] < 1000 {
			t.Errorf("%d frames alone that are answered by %d", seen[e], e)
		}
	}
}

func TestEveryTag(t *testing.T) { // P7.1, P7.2, P7.4: all that a tag can say
	for says := range 1 << 16 {
		b := bytesOf(60, 0x81, 0, byte(says>>8), byte(says), 8, 0)
		if says>>12&1 == 1 {
			wantNoDecode(t, b, api.ErrForm)
			continue
		}
		f := tagged(0x800, says%4096, says/8192)
		wantDecode(t, b, f, b[18:])
		wantEncode(t, f, b[18:], b)
	}
}

func TestEveryType(t *testing.T) { // P7.1, P7.2, P7.4: all that may stand where Type does
	for kind := range 1 << 16 {
		for _, f := range []api.Frame{plain(kind), tagged(kind, 5, 1)} {
			ahead, size := []byte{}, 14
			if f.Tag {
				ahead, size = []byte{0x81, 0, 0x20, 5}, 18
			}
			b := bytesOf(60, append(ahead, byte(kind>>8), byte(kind))...)
			switch {
			case kind < 1536, kind == 0x8100 && f.Tag:
				wantNoEncode(t, f, b[size:], api.ErrArg)
				wantNoDecode(t, b, api.ErrForm)
			case kind == 0x8100: // it is a tag then, and what stands behind it is another frame's
				wantNoEncode(t, f, b[size:], api.ErrArg)
			default:
				wantEncode(t, f, b[size:], b)
				wantDecode(t, b, f, b[size:])
			}
		}
	}
}

func TestNil(t *testing.T) { // R2
	for _, f := range []api.Frame{plain(0x800), tagged(0x800, 1, 1)} {
		a, _ := ether.Encode(f, nil)
		b, _ := ether.Encode(f, []byte{})
		if len(a) != 60 || !bytes.Equal(a, b) {
			t.Errorf("Encode of nil %x, of an empty list %x", a, b)
		}
	}
}

func TestMemory(t *testing.T) { // R4
	for _, f := range []api.Frame{plain(0x800), tagged(0x800, 1, 1)} {
		for _, n := range []int{0, 1, 50, 256} {
			arg := noise(n, 400)
			kept := bytes.Clone(arg)
			first, _ := ether.Encode(f, arg[:n])
			second, _ := ether.Encode(f, arg[:n])
			due := bytes.Clone(second)
			spoil(first)
			if !bytes.Equal(arg, kept) || !bytes.Equal(second, due) {
				t.Errorf("Encode(%+v, %d bytes) shares memory", f, n)
			}
			arg = slices.Concat(due, noise(n, 300))
			kept = bytes.Clone(arg)
			_, carried, _ := ether.Decode(arg[:len(due)])
			_, other, _ := ether.Decode(arg[:len(due)])
			due = bytes.Clone(other)
			spoil(carried)
			if !bytes.Equal(arg, kept) || !bytes.Equal(other, due) {
				t.Errorf("Decode of %d bytes shares memory", len(due))
			}
		}
	}
}

// spoil writes into all of a list, its spare room too.
func spoil(b []byte) {
	b = b[:cap(b)]
	for i := range b {
		b[i] ^= 0xff
	}
}

func TestAnswersAlone(t *testing.T) { // R5: no call hangs on those ahead of it
	f := tagged(0x800, 5, 1)
	tell := func() string {
		b, err := ether.Encode(f, []byte("x"))
		g, c, e := ether.Decode(b)
		return fmt.Sprint(b, err, g, c, e, ether.Mine(f, there, 5), ether.All())
	}
	due := tell()
	ether.Encode(plain(0xffff), noise(3, 256))
	ether.Decode(bytesOf(274, 0x81, 0, 0, 9, 9, 9))
	a := ether.All()
	a[0] = 0
	if got := tell(); got != due {
		t.Errorf("%s, and then %s", due, got)
	}
}
