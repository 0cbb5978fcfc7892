package frag_test

import (
	"bytes"
	"fmt"
	"math"
	"math/rand"
	"slices"
	"testing"

	"packhorse/api"
	"packhorse/frag"
)

var (
	here  = api.Ip{10, 0, 0, 1}
	there = api.Ip{10, 0, 0, 2}
)

// plain is a head that may be cut, without options; withOptions is one with them.
func plain() api.Packet {
	return api.Packet{Src: here, Dst: there, Proto: api.ProtoUdp, Ttl: 64, Id: 5, Tos: 3}
}

func withOptions(o ...byte) api.Packet {
	p := plain()
	p.Options = o
	return p
}

// noise is n bytes, the same at every run.
func noise(seed, n int) []byte {
	x := uint32(seed)*2654435761 + 12345
	b := make([]byte, n)
	for i := range b {
		x = x*1664525 + 1013904223
		b[i] = byte(x >> 16)
	}
	return b
}

// list writes nil and empty lists alike (R2).
func list[T any](l []T) string { return fmt.Sprint(append([]T{}, l...)) }

// head is a head as a text.
func head(p api.Packet) string {
	return fmt.Sprintf("%v-%v proto %d ttl %d id %d tos %d whole %t more %t at %d options %s",
		p.Src, p.Dst, p.Proto, p.Ttl, p.Id, p.Tos, p.Whole, p.More, p.Offset, list(p.Options))
}

// brief tells of pieces where they begin, how many bytes they and their options have, and whether more come.
func brief(l []api.Piece) string {
	s := ""
	for _, x := range l {
		s += fmt.Sprintf("%d+%d", x.P.Offset, len(x.Data))
		if len(x.P.Options) > 0 {
			s += fmt.Sprintf("o%d", len(x.P.Options))
		}
		if x.P.More {
			s += " "
		}
	}
	return s
}

func wantBrief(t *testing.T, p api.Packet, size, mtu int, due string) {
	t.Helper()
	b := noise(size, size)
	l, err := frag.Split(p, b, mtu)
	if got := brief(l); err != api.OK || got != due {
		t.Errorf("Split(%d bytes, %d of options, mtu %d): %q, error %d, not %q", size, len(p.Options), mtu, got, err, due)
		return
	}
	at := 0
	for _, x := range l {
		if !bytes.Equal(x.Data, b[at:at+len(x.Data)]) {
			t.Errorf("Split(%d bytes, mtu %d): at %d are other bytes", size, mtu, at)
		}
		at += len(x.Data)
	}
}

func wantNoSplit(t *testing.T, p api.Packet, size, mtu int, due api.Errno) {
	t.Helper()
	if l, err := frag.Split(p, make([]byte, size), mtu); err != due || len(l) != 0 {
		t.Errorf("Split(%s, %d bytes, mtu %d): %d pieces, error %d, not error %d alone", head(p), size, mtu, len(l), err, due)
	}
}

func TestExamples(t *testing.T) { // P11.1, P11.2: the chapter's table
	wantBrief(t, plain(), 100, 68, "0+48 48+48 96+4")
	b := noise(1, 100)
	l, _ := frag.Split(plain(), b, 68)
	f := frag.New()
	wantNothing(t, f, l[2].P, l[2].Data, 3, 0)
	wantNothing(t, f, l[0].P, l[0].Data, 1, 0)
	wantWhole(t, f, l[1].P, l[1].Data, 2, 0, api.Whole{P: plain(), Data: b, Bufs: []int{1, 2, 3}})
	wantHeld(t, f, 0, 0)
	wantNothing(t, f, l[0].P, l[0].Data, 8, 0)
	wantGone(t, f, l[0].P, l[0].Data, 7, 0, 8, 7)
	wantHeld(t, f, 0, 0)
}

func TestSplitMtu(t *testing.T) { // P11.1: ErrArg below 68, whatever the packet
	for _, mtu := range []int{math.MinInt, math.MinInt + 60, -1 << 32, -68, -1, 0, 1, 20, 60, 66, 67} {
		for _, size := range []int{0, 1, 40, 48, 100} {
			wantNoSplit(t, plain(), size, mtu, api.ErrArg)
		}
	}
	wantBrief(t, plain(), 0, 68, "0+0")
	wantBrief(t, plain(), 48, 68, "0+48")
	wantBrief(t, plain(), 49, 68, "0+48 48+1")
	wantBrief(t, plain(), 49, 69, "0+49")
	wantBrief(t, plain(), 200, 76, "0+56 56+56 112+56 168+32")
	wantBrief(t, plain(), 1024, 256, "0+232 232+232 464+232 696+232 928+96")
	for _, mtu := range []int{1 << 20, math.MaxInt32, 1 << 32, math.MaxInt - 1, math.MaxInt} {
		wantBrief(t, plain(), 2000, mtu, "0+2000")
	}
}

func TestSplitArgs(t *testing.T) { // P11.1: ErrArg for packets that are pieces, and for too many options
	for _, size := range []int{0, 10, 100} {
		for _, offset := range []int{math.MinInt, -8, -1, 1, 7, 8, 48, 1024, 65528, math.MaxInt} {
			p := plain()
			p.Offset = offset
			wantNoSplit(t, p, size, 68, api.ErrArg)
			p.More = true
			wantNoSplit(t, p, size, 68, api.ErrArg)
		}
		p := plain()
		p.More = true
		wantNoSplit(t, p, size, 68, api.ErrArg)
		for _, n := range []int{41, 42, 44, 60, 256, 1000} {
			wantNoSplit(t, withOptions(bytes.Repeat([]byte{1}, n)...), size, 68, api.ErrArg)
			wantNoSplit(t, withOptions(bytes.Repeat([]byte{1}, n)...), size, 5000, api.ErrArg)
		}
	}
	forty := withOptions(bytes.Repeat([]byte{1}, 40)...)
	wantBrief(t, forty, 8, 68, "0+8o40")
	wantBrief(t, forty, 9, 68, "0+8o40 8+1")
	wantBrief(t, forty, 100, 68, "0+8o40 8+48 56+44")
}

func TestSplitWhole(t *testing.T) { // P11.1: what may not be cut fits, or is too long; ErrArg is told first
	for n := 0; n <= 40; n++ {
		p := withOptions(bytes.Repeat([]byte{1}, n)...)
		p.Whole = true
		for mtu := 68; mtu < 300; mtu += 7 {
			fits := mtu - 20 - n
			for size := max(fits-9, 0); size <= fits; size++ {
				l, err := frag.Split(p, noise(1, size), mtu)
				if err != api.OK || len(l) != 1 || head(l[0].P) != head(p) || !bytes.Equal(l[0].Data, noise(1, size)) {
					t.Fatalf("Split(whole, %d bytes, %d of options, mtu %d): %s, error %d", size, n, mtu, brief(l), err)
				}
			}
			wantNoSplit(t, p, fits+1, mtu, api.ErrLong)
			wantNoSplit(t, p, fits+2, mtu, api.ErrLong)
			wantNoSplit(t, p, fits+1000, mtu, api.ErrLong)
		}
	}
	p := plain()
	p.Whole = true
	wantNoSplit(t, p, 100, 67, api.ErrArg)
	p.More = true
	wantNoSplit(t, p, 100, 68, api.ErrArg)
	p.More, p.Offset = false, 8
	wantNoSplit(t, p, 100, 68, api.ErrArg)
	p.Offset, p.Options = 0, make([]byte, 41)
	wantNoSplit(t, p, 100, 68, api.ErrArg)
}

func TestSplitLength(t *testing.T) { // P11.1: a length of just mtu, one less and one more
	for n := 0; n <= 40; n++ {
		p := withOptions(bytes.Repeat([]byte{1}, n)...)
		for mtu := 68; mtu < 160; mtu++ {
			room := mtu - 20 - n
			for size := room - 1; size <= room+1; size++ {
				l, err := frag.Split(p, noise(2, size), mtu)
				due := 1
				if size > room {
					due = 2
				}
				if err != api.OK || len(l) != due {
					t.Fatalf("Split(%d bytes, %d of options, mtu %d): %s, error %d, not %d pieces", size, n, mtu, brief(l), err, due)
				}
			}
		}
	}
}

func TestSplitLast(t *testing.T) { // P11.1: the last one is not rounded down
	wantBrief(t, plain(), 48+1, 68, "0+48 48+1")
	wantBrief(t, plain(), 48+47, 68, "0+48 48+47")
	wantBrief(t, plain(), 48+48, 68, "0+48 48+48")
	wantBrief(t, plain(), 48+49, 68, "0+48 48+48 96+1")
	wantBrief(t, plain(), 48+49, 70, "0+48 48+49")
	wantBrief(t, plain(), 48+50, 70, "0+48 48+50")
	wantBrief(t, plain(), 48+51, 70, "0+48 48+48 96+3")
	wantBrief(t, plain(), 48+55, 75, "0+48 48+55")
	wantBrief(t, plain(), 48+56, 75, "0+48 48+48 96+8")
	wantBrief(t, plain(), 232+236, 256, "0+232 232+236")
	wantBrief(t, plain(), 232+237, 256, "0+232 232+232 464+5")
	wantBrief(t, withOptions(131, 3, 4), 48+4, 71, "0+48o3 48+4o4")
	wantBrief(t, withOptions(131, 3, 4), 48+47, 71, "0+48o3 48+47o4")
	wantBrief(t, withOptions(131, 3, 4), 48+48, 71, "0+48o3 48+40o4 88+8o4")
	wantBrief(t, withOptions(3, 3, 4), 48+48, 71, "0+48o3 48+48")
	wantBrief(t, withOptions(3, 3, 4), 48+51, 71, "0+48o3 48+51")
}

func TestSplitFits(t *testing.T) { // P11.1: all sizes: nothing longer than mtu, and nothing shorter than it may be
	for _, options := range [][]byte{nil, {7, 4, 1, 2}, {0x94, 4, 0, 0}, append([]byte{0x82, 11}, make([]byte, 38)...), noise(3, 40)} {
		p := withOptions(options...)
		for mtu := 68; mtu <= 256; mtu += 3 {
			for size := 0; size < 700; size += 11 {
				b := noise(size, size)
				l, err := frag.Split(p, b, mtu)
				if err != api.OK {
					t.Fatalf("Split(%d bytes, mtu %d): error %d", size, mtu, err)
				}
				wantFitting(t, p, b, mtu, l)
			}
		}
	}
}

// wantFitting looks at pieces one by one.
func wantFitting(t *testing.T, p api.Packet, b []byte, mtu int, l []api.Piece) {
	t.Helper()
	at := 0
	for i, x := range l {
		isLast := i == len(l)-1
		room := mtu - 20 - len(x.P.Options)
		due := p
		due.Offset, due.More, due.Options = at, !isLast, x.P.Options
		switch {
		case head(x.P) != head(due):
			t.Fatalf("Split(%d bytes, mtu %d): piece %d: %s, not %s", len(b), mtu, i, head(x.P), head(due))
		case i == 0 && !bytes.Equal(x.P.Options, p.Options):
			t.Fatalf("Split(%d bytes, mtu %d): the first one's options: %v", len(b), mtu, x.P.Options)
		case !bytes.Equal(x.Data, b[at:min(at+len(x.Data), len(b))]):
			t.Fatalf("Split(%d bytes, mtu %d): other bytes at %d", len(b), mtu, at)
		case len(x.Data) > room, !isLast && (len(x.Data)%8 != 0 || len(x.Data)+8 <= room), !isLast && len(b)-at <= room:
			t.Fatalf("Split(%d bytes, mtu %d): %d bytes at %d, where %d fit", len(b), mtu, len(x.Data), at, room)
		}
		at += len(x.Data)
	}
	if at != len(b) || len(l) == 0 {
		t.Fatalf("Split(%d bytes, mtu %d): %d pieces, %d bytes in all", len(b), mtu, len(l), at)
	}
}

func TestSplitLong(t *testing.T) { // P11.1: no bound is named for b
	b := noise(1, 200000)
	l, err := frag.Split(plain(), b, 68)
	if err != api.OK || len(l) != 4167 || l[4166].P.Offset != 4166*48 {
		t.Fatalf("Split(200000 bytes, mtu 68): %d pieces, error %d", len(l), err)
	}
	wantFitting(t, plain(), b, 68, l)
}

func TestSplitHeads(t *testing.T) { // P11.1: all else is as in p, whatever that is
	for _, n := range []int{math.MinInt, -1, 0, 1, 255, 256, 65535, 65536, math.MaxInt} {
		for i := range 4 {
			p := withOptions(0x83, 3, 9, 1)
			p.Src, p.Dst = api.Ip{1, 2, 3, 4}, api.Ip{255, 254, 0, 1}
			*[]*int{&p.Proto, &p.Ttl, &p.Id, &p.Tos}[i] = n
			for _, size := range []int{0, 44, 45, 300} {
				b := noise(size, size)
				l, err := frag.Split(p, b, 68)
				if err != api.OK {
					t.Fatalf("Split(%s): error %d", head(p), err)
				}
				wantFitting(t, p, b, 68, l)
			}
		}
	}
}

func TestCopiedOptions(t *testing.T) { // P11.1: what pieces behind the first one have of the options
	long := append([]byte{0x88, 40}, noise(1, 38)...)
	odd := append([]byte{0x88, 39}, noise(1, 37)...)
	for i, c := range []struct{ options, due []byte }{
		{nil, nil},
		{[]byte{0}, nil},
		{[]byte{1}, nil},
		{[]byte{0, 0, 0, 0}, nil},
		{[]byte{1, 1, 1, 1}, nil},
		{[]byte{127, 4, 9, 9}, nil},
		{[]byte{2, 4, 0x80, 0x80}, nil},
		{[]byte{128, 4, 9, 8}, []byte{128, 4, 9, 8}},
		{[]byte{129, 2}, []byte{129, 2, 1, 1}},
		{[]byte{255, 3, 7}, []byte{255, 3, 7, 1}},
		{[]byte{255, 3, 7, 0}, []byte{255, 3, 7, 1}},
		{[]byte{255, 5, 7, 8, 9}, []byte{255, 5, 7, 8, 9, 1, 1, 1}},
		{[]byte{127, 3, 9, 128, 3, 8, 126, 2, 255, 2}, []byte{128, 3, 8, 255, 2, 1, 1, 1}},
		{[]byte{255, 2, 128, 2, 200, 2, 130, 2}, []byte{255, 2, 128, 2, 200, 2, 130, 2}},
		{[]byte{1, 130, 3, 1, 1, 1, 131, 2, 1}, []byte{130, 3, 1, 131, 2, 1, 1, 1}},
		{[]byte{130, 4, 0, 0, 131, 4, 1, 1}, []byte{130, 4, 0, 0, 131, 4, 1, 1}},
		{[]byte{130, 2, 0, 0}, []byte{130, 2, 1, 1}},
		{[]byte{130, 2, 0, 131, 2, 0}, []byte{130, 2, 1, 1}},
		{[]byte{130, 2, 0, 0, 131, 2}, []byte{130, 2, 1, 1}},
		{[]byte{0, 130, 3, 9}, nil},
		{[]byte{130, 3, 9, 128}, []byte{130, 3, 9, 1}},
		{[]byte{130, 3, 9, 1, 128, 0, 131, 2}, []byte{130, 3, 9, 1}},
		{[]byte{130, 3, 9, 1, 128, 1, 131, 2}, []byte{130, 3, 9, 1}},
		{[]byte{130, 3, 9, 1, 128, 5, 131, 2}, []byte{130, 3, 9, 1}},
		{[]byte{130, 3, 9, 1, 128, 4, 131, 2}, []byte{130, 3, 9, 128, 4, 131, 2, 1}},
		{[]byte{130, 3, 9, 1, 127, 0, 131, 2}, []byte{130, 3, 9, 1}},
		{[]byte{130, 3, 9, 1, 127, 1, 131, 2}, []byte{130, 3, 9, 1}},
		{[]byte{130, 3, 9, 1, 2, 5, 131, 2}, []byte{130, 3, 9, 1}},
		{[]byte{130, 3, 9, 1, 2, 2, 131, 2}, []byte{130, 3, 9, 131, 2, 1, 1, 1}},
		{[]byte{130, 3, 9, 1, 2}, []byte{130, 3, 9, 1}},
		{[]byte{130, 255, 9, 1}, nil},
		{[]byte{130}, nil},
		{[]byte{2}, nil},
		{long, long},
		{odd, append(slices.Clone(odd), 1)},
		{append(slices.Clone(odd), 0x90), append(slices.Clone(odd), 1)},
		{bytes.Repeat([]byte{0x90, 2}, 20), bytes.Repeat([]byte{0x90, 2}, 20)},
	} {
		p := withOptions(c.options...)
		l, err := frag.Split(p, noise(i, 150), 68)
		if err != api.OK || len(l) < 2 || !bytes.Equal(l[0].P.Options, c.options) {
			t.Fatalf("Split with options %v: %d pieces, error %d", c.options, len(l), err)
		}
		for _, x := range l[1:] {
			if !bytes.Equal(x.P.Options, c.due) {
				t.Errorf("Split with options %v: the piece at %d has %v, not %v", c.options, x.P.Offset, x.P.Options, c.due)
			}
		}
		wantFitting(t, p, noise(i, 150), 68, l)
		whole, err := frag.Split(p, nil, 68)
		if err != api.OK || len(whole) != 1 || !bytes.Equal(whole[0].P.Options, c.options) {
			t.Errorf("Split of what is not too long, with options %v: %v, error %d", c.options, whole, err)
		}
	}
}

func TestCopiedKinds(t *testing.T) { // P11.1: every first byte
	for kind := range 256 {
		l, err := frag.Split(withOptions(byte(kind), 4, 0, 0), make([]byte, 100), 68)
		if err != api.OK {
			t.Fatalf("Split with an option %d: error %d", kind, err)
		}
		var due []byte
		if kind >= 128 {
			due = []byte{byte(kind), 4, 0, 0}
		}
		if got := l[1].P.Options; !bytes.Equal(got, due) {
			t.Errorf("Split with an option %d: copied are %v", kind, got)
		}
	}
}

// isTouched tells whether bytes, up to the end of their room, are no more what they were.
func isTouched(b, was []byte) bool { return !bytes.Equal(b[:cap(b)], was) }

// spoil writes over a list, up to the end of its room.
func spoil(b []byte) {
	b = b[:cap(b)]
	for i := range b {
		b[i] ^= 0xff
	}
}

func spoilNumbers(l []int) {
	l = l[:cap(l)]
	for i := range l {
		l[i] = -7
	}
}

func TestSplitMemory(t *testing.T) { // R4
	for _, size := range []int{0, 30, 44, 45, 200} {
		room, optionsRoom := noise(1, 400), slices.Clip(append([]byte{0x83, 3, 4, 1}, noise(2, 40)...))
		b, o := room[:size], optionsRoom[:4]
		wasB, wasO := slices.Clone(room), slices.Clone(optionsRoom)
		l, err := frag.Split(withOptions(o...), b, 68)
		if err != api.OK || isTouched(b, wasB) || isTouched(o, wasO) {
			t.Fatalf("Split(%d bytes): error %d, or what was handed in is changed", size, err)
		}
		ahead := fmt.Sprint(l)
		spoil(b)
		spoil(o)
		if fmt.Sprint(l) != ahead {
			t.Errorf("Split(%d bytes): the answer shares memory with an argument", size)
		}
		var lists [][]byte
		for _, x := range l {
			lists = append(lists, x.Data, x.P.Options)
		}
		for i, x := range lists {
			others := fmt.Sprint(lists[:i], lists[i+1:])
			spoil(x)
			if fmt.Sprint(lists[:i], lists[i+1:]) != others {
				t.Errorf("Split(%d bytes): two lists of the answer share memory", size)
			}
		}
	}
}

// at is a piece's head: there, and with more behind it; last is one without.
func at(offset int) api.Packet {
	p := plain()
	p.Offset, p.More = offset, true
	return p
}

func last(offset int) api.Packet {
	p := plain()
	p.Offset = offset
	return p
}

// of is a head with another Id.
func of(id int, p api.Packet) api.Packet {
	p.Id = id
	return p
}

// answer is what a Put answers, as a text.
func answer(w api.Whole, is bool, gone []int) string {
	return fmt.Sprintf("%s, data %x, bufs %s, %t; let go %s", head(w.P), w.Data, list(w.Bufs), is, list(gone))
}

func wantAnswer(t *testing.T, f *frag.Frags, p api.Packet, b []byte, buf, now int, due string) {
	t.Helper()
	if got := answer(f.Put(p, b, buf, now)); got != due {
		t.Errorf("Put(%s, %d bytes, %d, %d):\n%s\nnot\n%s", head(p), len(b), buf, now, got, due)
	}
}

// wantWhole, wantNothing, wantGone: a Put makes a datagram whole, does not yet, lets buffers go.
func wantWhole(t *testing.T, f *frag.Frags, p api.Packet, b []byte, buf, now int, due api.Whole) {
	t.Helper()
	wantAnswer(t, f, p, b, buf, now, answer(due, true, nil))
}

func wantNothing(t *testing.T, f *frag.Frags, p api.Packet, b []byte, buf, now int) {
	t.Helper()
	wantAnswer(t, f, p, b, buf, now, answer(api.Whole{}, false, nil))
}

func wantGone(t *testing.T, f *frag.Frags, p api.Packet, b []byte, buf, now int, due ...int) {
	t.Helper()
	wantAnswer(t, f, p, b, buf, now, answer(api.Whole{}, false, due))
}

func wantHeld(t *testing.T, f *frag.Frags, many, size int, bufs ...int) {
	t.Helper()
	if f.Len() != many || f.Bytes() != size || !slices.Equal(f.Bufs(), bufs) {
		t.Errorf("%d datagrams, %d bytes, buffers %v, not %d, %d, %v", f.Len(), f.Bytes(), f.Bufs(), many, size, bufs)
	}
}

func wantTick(t *testing.T, f *frag.Frags, now int, due ...int) {
	t.Helper()
	if got := f.Tick(now); !slices.Equal(got, due) {
		t.Errorf("Tick(%d): %v, not %v", now, got, due)
	}
}

func TestNew(t *testing.T) {
	f := frag.New()
	if f == nil {
		t.Fatal("New: nil")
	}
	wantHeld(t, f, 0, 0)
	wantTick(t, f, 0)
	wantTick(t, f, math.MaxInt)
}

func TestPutNoFragment(t *testing.T) { // P11.2: neither More nor an Offset above 0
	f := frag.New()
	wantNothing(t, f, at(8), noise(1, 8), 1, 0)
	for _, offset := range []int{0, -1, -8, math.MinInt} {
		for _, size := range []int{0, 1, 7, 8, 1024, 1025, 5000} {
			p := withOptions(noise(1, 50)...)
			p.Offset, p.Ttl, p.Whole = offset, 300, size%2 == 0
			b := noise(size, size)
			wantWhole(t, f, p, b, size-3, 5, api.Whole{P: p, Data: b, Bufs: []int{size - 3}})
			wantHeld(t, f, 1, 8, 1)
		}
	}
	wantWhole(t, f, api.Packet{}, nil, 0, 0, api.Whole{Bufs: []int{0}})
	wantHeld(t, f, 1, 8, 1)
}

func TestPutMayNotBe(t *testing.T) { // P11.2, 1: the buffer alone is let go, whether such a datagram is there or not
	type bad struct {
		p    api.Packet
		size int
	}
	var list []bad
	for _, offset := range []int{math.MinInt, math.MinInt + 8, -1 << 32, -1024, -16, -8, -1} {
		list = append(list, bad{at(offset), 8}, bad{at(offset), 16}, bad{at(offset), 2048})
	}
	for _, offset := range []int{1, 2, 3, 4, 5, 6, 7, 9, 15, 17, 1001, 1023} {
		list = append(list, bad{at(offset), 8}, bad{last(offset), 8}, bad{last(offset), 0}, bad{last(offset), 1})
	}
	for _, offset := range []int{0, 8, 512, 1016, 1024} {
		for _, size := range []int{0, 1, 4, 7, 9, 12, 15, 17, 63, 1023, 1025} {
			list = append(list, bad{at(offset), size})
		}
	}
	for _, offset := range []int{8, 16, 512, 1016, 1024} {
		list = append(list, bad{last(offset), 1025 - offset}, bad{last(offset), 1032 - offset}, bad{at(offset), 1032 - offset}, bad{last(offset), 5000})
	}
	list = append(list, bad{at(0), 1032}, bad{at(0), 2048}, bad{at(0), 4096}, bad{at(1024), 8})
	for _, offset := range []int{1032, 2048, 65528, 1 << 32, 1<<32 + 8, math.MaxInt - 15, math.MaxInt - 7, math.MaxInt} {
		list = append(list, bad{last(offset), 0}, bad{last(offset), 1}, bad{last(offset), 8}, bad{last(offset), 16}, bad{at(offset), 8}, bad{at(offset), 16})
	}
	empty, held := frag.New(), frag.New()
	wantNothing(t, held, at(0), noise(1, 8), 11, 0)
	wantNothing(t, held, last(64), noise(1, 8), 12, 0)
	for i, x := range list {
		wantGone(t, empty, x.p, noise(i, x.size), i, i, i)
		wantGone(t, held, x.p, noise(i, x.size), i, i, i)
		wantHeld(t, empty, 0, 0)
		wantHeld(t, held, 1, 16, 11, 12)
	}
}

func TestPutMost(t *testing.T) { // P11.2, 1: Offset and bytes of 1024 may be
	for _, size := range []int{0, 8, 504, 1016} {
		offset := 1024 - size
		f := frag.New()
		b := noise(size, 1024)
		wantNothing(t, f, last(offset), b[offset:], 1, 0)
		wantWhole(t, f, at(0), b[:offset], 2, 0, api.Whole{P: plain(), Data: b, Bufs: []int{2, 1}})
		wantHeld(t, f, 0, 0)
	}
	f := frag.New()
	b := noise(1, 1023)
	wantNothing(t, f, at(0), b[:1016], 1, 0)
	wantWhole(t, f, last(1016), b[1016:], 2, 0, api.Whole{P: plain(), Data: b, Bufs: []int{1, 2}})
	wantNothing(t, f, at(0), noise(1, 1024), 3, 0)
	wantHeld(t, f, 1, 1024, 3)
	wantWhole(t, f, last(1024), nil, 4, 0, api.Whole{P: plain(), Data: noise(1, 1024), Bufs: []int{3, 4}})
}

// part is a piece's head, and how many bytes it has.
type part struct {
	p    api.Packet
	size int
}

func TestPutOverlap(t *testing.T) { // P11.2, 2: the datagram is gone, with its buffers in the order in which they came
	more := func(from, to int) part { return part{at(from), to - from} }
	end := func(from, to int) part { return part{last(from), to - from} }
	for _, c := range []struct {
		first, second part
		isOverlap     bool
	}{
		{more(16, 32), more(16, 32), true}, // the same
		{more(16, 32), end(16, 32), true},
		{end(16, 32), more(16, 32), true},
		{end(16, 32), end(16, 32), true},
		{more(16, 32), more(8, 24), true}, // at either end
		{more(16, 32), more(24, 40), true},
		{more(16, 32), end(8, 17), true}, // by one byte
		{end(16, 17), more(8, 24), true},
		{end(16, 17), more(16, 24), true},
		{more(16, 32), more(8, 40), true}, // one in the other
		{more(8, 40), more(16, 32), true},
		{more(8, 32), more(16, 32), true},
		{more(8, 32), more(8, 16), true},
		{more(8, 16), more(8, 32), true},
		{more(16, 24), more(8, 24), true},
		{more(8, 40), end(16, 31), true},
		{end(8, 39), more(16, 24), true},
		{more(16, 32), more(8, 16), false}, // they touch
		{more(16, 32), more(32, 40), false},
		{more(16, 32), end(32, 33), false},
		{end(16, 17), more(8, 16), false},
		{more(16, 32), more(0, 8), false}, // they do not
		{more(16, 32), more(40, 48), false},
		{more(16, 32), end(40, 41), false},
		{end(40, 41), more(16, 32), false},
		{more(16, 32), end(16, 16), true}, // one without bytes
		{more(16, 32), end(24, 24), true},
		{more(16, 32), end(32, 32), false},
		{more(16, 32), end(40, 40), false},
		{more(16, 32), end(8, 8), true},
		{end(16, 16), more(16, 24), true},
		{end(16, 16), more(8, 24), true},
		{end(16, 16), more(8, 16), false},
		{end(16, 16), more(24, 32), true},
		{end(16, 16), end(16, 16), true},
		{end(16, 20), end(16, 16), true},
		{end(16, 16), end(16, 20), true},
		{end(16, 20), end(40, 40), true}, // a second one without More
		{end(16, 20), end(8, 8), true},
		{end(16, 20), end(8, 16), true},
		{end(16, 20), end(24, 32), true},
		{end(40, 44), end(8, 9), true},
		{end(16, 20), more(24, 32), true}, // behind the end that is told
		{end(16, 24), more(24, 32), true},
		{more(24, 32), end(16, 20), true},
		{more(24, 32), end(16, 24), true},
		{more(24, 32), end(8, 16), true},
		{more(1000, 1024), end(8, 16), true},
		{end(1016, 1024), more(1008, 1016), false},
	} {
		for _, other := range []bool{false, true} {
			f := frag.New()
			if other { // that has nothing to do with them
				wantNothing(t, f, of(77, at(8)), noise(1, 32), 70, 0)
			}
			wantNothing(t, f, c.first.p, noise(1, c.first.size), 9, 0)
			switch {
			case c.isOverlap:
				wantGone(t, f, c.second.p, noise(1, c.second.size), 3, 0, 9, 3)
			default:
				wantNothing(t, f, c.second.p, noise(1, c.second.size), 3, 0)
			}
			many, size, bufs := 0, 0, []int{}
			if other {
				many, size, bufs = 1, 32, []int{70}
			}
			if !c.isOverlap {
				many, size, bufs = many+1, size+c.first.size+c.second.size, append(bufs, 9, 3)
			}
			wantHeld(t, f, many, size, bufs...)
			if t.Failed() {
				t.Fatalf("%d+%d, then %d+%d", c.first.p.Offset, c.first.size, c.second.p.Offset, c.second.size)
			}
		}
	}
}

func TestPutOverlapOrder(t *testing.T) { // P11.2, 2: whichever of many is met; by the order in which they came
	for _, offset := range []int{0, 8, 24, 40, 56, 72} {
		f := frag.New()
		wantNothing(t, f, of(1, at(0)), noise(1, 8), 100, 0)
		for i, o := range []int{40, 0, 72, 24} {
			wantNothing(t, f, at(o), noise(1, 8), 50-i, 0)
		}
		wantNothing(t, f, of(2, at(0)), noise(1, 8), 101, 0)
		switch offset {
		case 8, 56:
			wantNothing(t, f, at(offset), noise(1, 8), 3, 0)
			wantHeld(t, f, 3, 56, 100, 50, 49, 48, 47, 3, 101)
		default:
			wantGone(t, f, at(offset), noise(1, 8), 3, 0, 50, 49, 48, 47, 3)
			wantHeld(t, f, 2, 16, 100, 101)
		}
	}
}

func TestPutAnew(t *testing.T) { // P11.2: a datagram that is gone begins anew, as the last one, with the tick of its new first piece
	for _, end := range []string{"overlap", "whole", "tick"} {
		f := frag.New()
		wantNothing(t, f, at(0), noise(1, 8), 1, 0)
		wantNothing(t, f, of(6, at(0)), noise(1, 16), 2, 7)
		switch end {
		case "overlap":
			wantGone(t, f, at(0), noise(2, 8), 3, 9, 1, 3)
		case "whole":
			wantWhole(t, f, last(8), nil, 3, 9, api.Whole{P: plain(), Data: noise(1, 8), Bufs: []int{1, 3}})
		default:
			wantTick(t, f, 16, 1)
		}
		wantHeld(t, f, 1, 16, 2)
		wantNothing(t, f, last(16), noise(3, 5), 4, 20)
		wantHeld(t, f, 2, 21, 2, 4)
		wantNothing(t, f, at(0), noise(3, 8), 5, 30)
		wantHeld(t, f, 2, 29, 2, 4, 5)
		wantTick(t, f, 35, 2)
		p := of(6, last(24))
		wantNothing(t, f, p, nil, 6, 35)
		wantHeld(t, f, 2, 13, 4, 5, 6)
		wantTick(t, f, 36, 4, 5)
		wantHeld(t, f, 1, 0, 6)
	}
}

func TestPutMany(t *testing.T) { // P11.2, 3: four datagrams, no fifth one
	f := frag.New()
	for id := range 4 {
		wantNothing(t, f, of(id, at(8)), noise(id, 8), id, 0)
		wantHeld(t, f, id+1, 8*(id+1), []int{0, 1, 2, 3}[:id+1]...)
	}
	wantGone(t, f, of(4, at(8)), noise(4, 8), 9, 0, 9)
	wantGone(t, f, of(4, last(8)), nil, 9, 0, 9)
	wantHeld(t, f, 4, 32, 0, 1, 2, 3)
	wantWhole(t, f, of(4, plain()), noise(4, 9), 9, 0, api.Whole{P: of(4, plain()), Data: noise(4, 9), Bufs: []int{9}})
	wantNothing(t, f, of(2, at(24)), noise(2, 8), 4, 0)
	wantHeld(t, f, 4, 40, 0, 1, 2, 4, 3)
	wantNothing(t, f, of(0, last(16)), nil, 5, 0)
	wantWhole(t, f, of(0, at(0)), noise(0, 8), 6, 0, api.Whole{P: of(0, plain()), Data: append(noise(0, 8), noise(0, 8)...), Bufs: []int{6, 0, 5}})
	wantHeld(t, f, 3, 32, 1, 2, 4, 3)
	wantNothing(t, f, of(4, at(8)), noise(4, 8), 7, 0)
	wantHeld(t, f, 4, 40, 1, 2, 4, 3, 7)
	wantGone(t, f, of(2, at(24)), noise(2, 8), 8, 0, 2, 4, 8)
	wantNothing(t, f, of(0, at(8)), noise(4, 8), 10, 0)
	wantHeld(t, f, 4, 32, 1, 3, 7, 10)
}

func TestPutBytes(t *testing.T) { // P11.2, 3: 2048 bytes, no more
	full := func(t *testing.T) *frag.Frags { // 2047
		f := frag.New()
		wantNothing(t, f, of(1, at(0)), noise(1, 1016), 1, 0)
		wantNothing(t, f, of(2, last(16)), noise(2, 1007), 2, 0)
		wantNothing(t, f, of(3, at(0)), noise(3, 24), 3, 0)
		wantHeld(t, f, 3, 2047, 1, 2, 3)
		return f
	}
	f := full(t)
	wantNothing(t, f, of(3, last(32)), noise(3, 1), 4, 0)
	wantHeld(t, f, 3, 2048, 1, 2, 3, 4)
	wantGone(t, f, of(3, at(24)), noise(3, 8), 5, 0, 5)
	wantGone(t, f, of(4, last(8)), noise(3, 1), 5, 0, 5)
	wantHeld(t, f, 3, 2048, 1, 2, 3, 4)
	wantNothing(t, f, of(4, last(8)), nil, 5, 0) // no bytes are none more
	wantHeld(t, f, 4, 2048, 1, 2, 3, 4, 5)
	wantGone(t, f, of(3, at(0)), noise(3, 8), 6, 0, 3, 4, 6) // it overlaps first of all
	wantHeld(t, f, 3, 2023, 1, 2, 5)

	f = full(t)
	wantGone(t, f, of(3, last(32)), noise(3, 2), 4, 0, 4)
	wantGone(t, f, of(4, last(32)), noise(3, 2), 4, 0, 4)
	wantGone(t, f, of(1, last(1016)), noise(3, 2), 4, 0, 4) // though it would be whole
	wantHeld(t, f, 3, 2047, 1, 2, 3)
	wantWhole(t, f, of(1, last(1016)), []byte{7}, 4, 0, api.Whole{P: of(1, plain()), Data: append(noise(1, 1016), 7), Bufs: []int{1, 4}})
	wantHeld(t, f, 2, 1031, 2, 3)

	f = full(t)
	wantNothing(t, f, of(4, last(8)), nil, 4, 0)
	wantGone(t, f, of(5, at(8)), noise(1, 8), 5, 0, 5) // both too many datagrams and bytes
	wantHeld(t, f, 4, 2047, 1, 2, 3, 4)
}

func TestPutFirstRuleHolds(t *testing.T) { // P11.2: the first rule that holds is the one
	f := frag.New()
	for id := range 4 {
		wantNothing(t, f, of(id, at(0)), noise(id, 504), id, 0)
	}
	wantGone(t, f, of(1, at(4)), noise(1, 8), 9, 0, 9) // overlaps, but may not be
	wantGone(t, f, of(1, at(8)), noise(1, 7), 9, 0, 9)
	wantGone(t, f, of(1, at(8)), noise(1, 1024), 9, 0, 9)
	wantHeld(t, f, 4, 2016, 0, 1, 2, 3)
	wantGone(t, f, of(1, at(8)), noise(1, 64), 9, 0, 1, 9) // overlaps, and there are too many bytes
	wantHeld(t, f, 3, 1512, 0, 2, 3)
}

func TestPutWhole(t *testing.T) { // P11.2, 4: P of the piece with Offset 0, bytes and buffers by rising Offsets
	first := api.Packet{Src: here, Dst: there, Proto: 17, Id: 5, Ttl: 11, Tos: 12, Whole: true, More: true, Options: []byte{7, 4, 1, 2}}
	second := api.Packet{Src: here, Dst: there, Proto: 17, Id: 5, Ttl: 21, Tos: 22, More: true, Offset: 16, Options: []byte{1}}
	third := api.Packet{Src: here, Dst: there, Proto: 17, Id: 5, Ttl: 31, Tos: 32, Offset: 24}
	b := noise(1, 27)
	due := api.Whole{P: first, Data: b}
	due.P.More = false
	all := []api.Piece{{P: first, Data: b[:16]}, {P: second, Data: b[16:24]}, {P: third, Data: b[24:]}}
	for _, order := range orders(3) {
		f := frag.New()
		due.Bufs = []int{10, 11, 12}
		for _, i := range order[:2] {
			wantNothing(t, f, all[i].P, all[i].Data, 10+i, 0)
		}
		i := order[2]
		wantWhole(t, f, all[i].P, all[i].Data, 10+i, 0, due)
		wantHeld(t, f, 0, 0)
	}
	f := frag.New() // the same buffer for all, and no numbers of one
	wantNothing(t, f, third, b[24:], -1, 0)
	wantNothing(t, f, second, b[16:24], -1, 0)
	due.Bufs = []int{-1, -1, -1}
	wantWhole(t, f, first, b[:16], -1, 0, due)
}

func TestPutNotWhole(t *testing.T) { // P11.2, 4: one is missing
	f := frag.New()
	for i := range 9 {
		if i != 4 {
			p := at(8 * i)
			p.More = i < 8
			wantNothing(t, f, p, noise(i, 8), i, 0)
		}
	}
	wantHeld(t, f, 1, 64, 0, 1, 2, 3, 5, 6, 7, 8)
	f = frag.New() // all are there but the last one, or but the first one
	wantNothing(t, f, at(0), noise(1, 8), 1, 0)
	wantNothing(t, f, at(8), noise(1, 8), 2, 0)
	wantNothing(t, f, of(6, last(16)), noise(1, 8), 3, 0)
	wantNothing(t, f, of(6, at(8)), noise(1, 8), 4, 0)
	wantHeld(t, f, 2, 32, 1, 2, 3, 4)
}

// orders are all orders of n things.
func orders(n int) [][]int {
	if n == 0 {
		return [][]int{nil}
	}
	var out [][]int
	for _, o := range orders(n - 1) {
		for i := range n {
			out = append(out, slices.Insert(slices.Clone(o), i, n-1))
		}
	}
	return out
}

func TestSplitAndPut(t *testing.T) { // P11.4: any order, with the last one; each buffer just once
	for _, size := range []int{40, 48, 49, 95, 96, 97, 150, 192, 193, 240, 241, 288} {
		p := withOptions(7, 3, 4, 0x83, 4, 1, 2, 1)
		b := noise(size, size)
		l, err := frag.Split(p, b, 76)
		if err != api.OK {
			t.Fatalf("Split: error %d", err)
		}
		var bufs []int
		for i := range l {
			bufs = append(bufs, 30-i)
		}
		for _, order := range orders(len(l)) {
			f := frag.New()
			size := 0
			for n, i := range order[:len(l)-1] {
				wantNothing(t, f, l[i].P, l[i].Data, bufs[i], n)
				size += len(l[i].Data)
				if f.Len() != 1 || f.Bytes() != size || len(f.Bufs()) != n+1 {
					t.Fatalf("%d datagrams, %d bytes, buffers %v", f.Len(), f.Bytes(), f.Bufs())
				}
			}
			i := order[len(l)-1]
			wantWhole(t, f, l[i].P, l[i].Data, bufs[i], 9, api.Whole{P: p, Data: b, Bufs: bufs})
			wantHeld(t, f, 0, 0)
			if t.Failed() {
				t.Fatalf("%d bytes in the order %v", len(b), order)
			}
		}
	}
}

func TestSplitAndPutSizes(t *testing.T) { // P11.4: every size and many mtus, shuffled
	r := rand.New(rand.NewSource(11))
	for size := 0; size <= 1024; size++ {
		mtu := 68 + r.Intn(250)
		p := withOptions(noise(size, r.Intn(41))...)
		p.Ttl, p.Id = r.Intn(256), r.Intn(65536)
		b := noise(size, size)
		l, err := frag.Split(p, b, mtu)
		if err != api.OK {
			t.Fatalf("Split: error %d", err)
		}
		var bufs []int
		for i := range l {
			bufs = append(bufs, i)
		}
		f := frag.New()
		order := r.Perm(len(l))
		for _, i := range order[:len(l)-1] {
			wantNothing(t, f, l[i].P, l[i].Data, i, 0)
		}
		i := order[len(l)-1]
		wantWhole(t, f, l[i].P, l[i].Data, i, 0, api.Whole{P: p, Data: b, Bufs: bufs})
		wantHeld(t, f, 0, 0)
	}
}

func TestSmallestPieces(t *testing.T) { // P11.4: as many pieces as there may be
	b := noise(1, 1024)
	for _, backward := range []bool{false, true} {
		f := frag.New()
		var bufs []int
		for i := range 128 {
			bufs = append(bufs, i)
		}
		for n := range 128 {
			i := n
			if backward {
				i = 127 - n
			}
			p := at(8 * i)
			p.More = i < 127
			if n < 127 {
				wantNothing(t, f, p, b[8*i:8*i+8], i, 0)
				continue
			}
			wantWhole(t, f, p, b[8*i:8*i+8], i, 0, api.Whole{P: plain(), Data: b, Bufs: bufs})
		}
		wantHeld(t, f, 0, 0)
	}
}

func TestKinds(t *testing.T) { // P11.4: unlike in Src, Dst, Proto or Id alone
	changes := []func(*api.Packet){
		func(p *api.Packet) { p.Src[0]++ },
		func(p *api.Packet) { p.Src[3]++ },
		func(p *api.Packet) { p.Dst[0]++ },
		func(p *api.Packet) { p.Dst[3]++ },
		func(p *api.Packet) { p.Src, p.Dst = p.Dst, p.Src },
		func(p *api.Packet) { p.Proto++ },
		func(p *api.Packet) { p.Proto += 256 },
		func(p *api.Packet) { p.Proto = -p.Proto },
		func(p *api.Packet) { p.Id++ },
		func(p *api.Packet) { p.Id += 65536 },
		func(p *api.Packet) { p.Id += 1 << 32 },
		func(p *api.Packet) { p.Proto, p.Id = p.Id, p.Proto },
	}
	for i, change := range changes {
		f := frag.New()
		p, q := at(0), at(0)
		change(&q)
		wantNothing(t, f, p, noise(1, 8), 1, 0)
		wantNothing(t, f, q, noise(2, 8), 2, 0)
		wantHeld(t, f, 2, 16, 1, 2)
		p.More, p.Offset, q.More, q.Offset = false, 8, false, 8
		due := plain()
		change(&due)
		wantWhole(t, f, q, []byte{9}, 3, 0, api.Whole{P: due, Data: append(noise(2, 8), 9), Bufs: []int{2, 3}})
		wantWhole(t, f, p, []byte{8}, 4, 0, api.Whole{P: plain(), Data: append(noise(1, 8), 8), Bufs: []int{1, 4}})
		if t.Failed() {
			t.Fatalf("change %d", i)
		}
	}
	f := frag.New() // all else does not tell them apart
	wantNothing(t, f, at(0), noise(1, 8), 1, 0)
	p := last(8)
	p.Ttl, p.Tos, p.Whole, p.Options = 1, 99, true, []byte{1, 2, 3}
	wantWhole(t, f, p, nil, 2, 0, api.Whole{P: plain(), Data: noise(1, 8), Bufs: []int{1, 2}})
}

func TestTick(t *testing.T) { // P11.3: 16 ticks behind the first piece
	for _, since := range []int{math.MinInt, math.MinInt + 5, -20, -1, 0, 100, 1 << 40, math.MaxInt - 17} {
		for ticks := range 18 {
			f := frag.New()
			wantNothing(t, f, at(8), noise(1, 8), 4, since)
			wantNothing(t, f, at(32), noise(1, 8), 2, since+9) // which is not the first one
			if ticks < 16 {
				wantTick(t, f, since+ticks)
				wantHeld(t, f, 1, 16, 4, 2)
			} else {
				wantTick(t, f, since+ticks, 4, 2)
				wantHeld(t, f, 0, 0)
				wantTick(t, f, since+ticks)
			}
		}
	}
}

func TestTickFar(t *testing.T) { // P11.3: any numbers
	for _, c := range []struct {
		since, now int
		isGone     bool
	}{
		{0, -1, false}, {0, -16, false}, {0, math.MinInt, false}, {0, math.MaxInt, true},
		{math.MaxInt, math.MinInt, false}, {math.MaxInt, math.MaxInt, false}, {math.MaxInt - 15, math.MaxInt, false}, {math.MaxInt - 16, math.MaxInt, true},
		{math.MinInt, math.MaxInt, true}, {math.MinInt, 0, true}, {math.MinInt, math.MinInt, false}, {math.MinInt, math.MinInt + 16, true},
		{-1, math.MaxInt, true}, {1, math.MinInt, false}, {math.MaxInt, 0, false}, {-8, 7, false}, {-8, 8, true},
	} {
		f := frag.New()
		wantNothing(t, f, at(8), noise(1, 8), 4, c.since)
		if c.isGone {
			wantTick(t, f, c.now, 4)
			wantHeld(t, f, 0, 0)
		} else {
			wantTick(t, f, c.now)
			wantHeld(t, f, 1, 8, 4)
		}
	}
}

func TestTickOrder(t *testing.T) { // P11.3: datagram by datagram as they came, each by its pieces
	f := frag.New()
	wantNothing(t, f, of(3, at(16)), noise(1, 8), 9, 5)
	wantNothing(t, f, of(1, at(64)), noise(1, 16), 8, 1)
	wantNothing(t, f, of(2, at(0)), noise(1, 8), 7, 4)
	wantNothing(t, f, of(3, at(0)), noise(1, 8), 6, 6)
	wantNothing(t, f, of(1, at(0)), noise(1, 8), 5, 30)
	wantNothing(t, f, of(0, last(8)), noise(1, 3), 4, 5)
	wantNothing(t, f, of(2, at(8)), noise(1, 8), 3, 7)
	wantNothing(t, f, of(3, last(32)), nil, 2, 8)
	wantHeld(t, f, 4, 59, 9, 6, 2, 8, 5, 7, 3, 4)
	wantTick(t, f, 16)
	wantHeld(t, f, 4, 59, 9, 6, 2, 8, 5, 7, 3, 4)
	wantTick(t, f, 20, 8, 5, 7, 3)
	wantHeld(t, f, 2, 19, 9, 6, 2, 4)
	wantNothing(t, f, of(1, at(64)), noise(1, 16), 11, 20)
	wantHeld(t, f, 3, 35, 9, 6, 2, 4, 11)
	wantTick(t, f, 21, 9, 6, 2, 4)
	wantHeld(t, f, 1, 16, 11)
	wantTick(t, f, 36, 11)
	wantHeld(t, f, 0, 0)
}

func TestPutOld(t *testing.T) { // P11.3: nothing but Tick makes them old
	f := frag.New()
	wantNothing(t, f, at(0), noise(1, 8), 1, 0)
	wantNothing(t, f, of(6, at(0)), noise(1, 8), 2, 1000)
	wantWhole(t, f, last(8), nil, 3, 2000, api.Whole{P: plain(), Data: noise(1, 8), Bufs: []int{1, 3}})
	wantTick(t, f, 1015)
	wantTick(t, f, 1016, 2)
}

func TestPutMemory(t *testing.T) { // R4
	room, optionsRoom := noise(1, 100), noise(2, 60)
	b, o := room[:16], optionsRoom[:4]
	wasB, wasO := slices.Clone(room), slices.Clone(optionsRoom)
	p := withOptions(o...)
	f := frag.New()
	w, is, _ := f.Put(p, b, 3, 0)
	if !is || isTouched(b, wasB) || isTouched(o, wasO) {
		t.Fatalf("Put of no fragment: %t, or what was handed in is changed", is)
	}
	ahead := answer(w, true, nil)
	spoil(b)
	spoil(o)
	if answer(w, true, nil) != ahead {
		t.Error("Put of no fragment: the answer shares memory with an argument")
	}
	copy(room, wasB)
	copy(optionsRoom, wasO)
	p.More = true
	wantNothing(t, f, p, b, 3, 0)
	if isTouched(b, wasB) || isTouched(o, wasO) {
		t.Error("Put of a piece: what was handed in is changed")
	}
	spoil(b)
	spoil(o)
	held := f.Bufs()
	spoilNumbers(held)
	wantHeld(t, f, 1, 16, 3)
	due := withOptions(wasO[:4]...)
	end := []byte{1, 2, 3}
	w, is, _ = f.Put(last(16), end, 4, 0)
	if got, due := answer(w, is, nil), answer(api.Whole{P: due, Data: append(wasB[:16:16], 1, 2, 3), Bufs: []int{3, 4}}, true, nil); got != due {
		t.Errorf("the whole one:\n%s\nnot\n%s", got, due)
	}
	ahead = answer(w, true, nil)
	spoil(end)
	wantNothing(t, f, p, b, 5, 0)
	if answer(w, true, nil) != ahead {
		t.Error("the whole one shares memory with an argument, or with what is kept")
	}
}

func TestAnswersMemory(t *testing.T) { // R4: what is answered is no more the object's
	f := frag.New()
	for id := range 4 {
		wantNothing(t, f, of(id, at(0)), noise(id, 8), id, id)
		wantNothing(t, f, of(id, at(16)), noise(id, 8), 10+id, id)
	}
	_, _, gone := f.Put(of(1, at(0)), noise(1, 8), 20, 0)
	spoilNumbers(gone)
	wantHeld(t, f, 3, 48, 0, 10, 2, 12, 3, 13)
	spoilNumbers(f.Tick(16))
	wantHeld(t, f, 2, 32, 2, 12, 3, 13)
	spoilNumbers(f.Bufs())
	wantHeld(t, f, 2, 32, 2, 12, 3, 13)
	wantNothing(t, f, of(2, last(24)), nil, 22, 5)
	w, _, _ := f.Put(of(2, at(8)), noise(2, 8), 23, 5)
	spoil(w.Data)
	spoilNumbers(w.Bufs)
	wantHeld(t, f, 1, 16, 3, 13)
}

func TestApart(t *testing.T) { // R5: two objects have nothing to do with each other
	f, g := frag.New(), frag.New()
	wantNothing(t, f, at(0), noise(1, 8), 1, 0)
	wantHeld(t, g, 0, 0)
	wantNothing(t, g, at(0), noise(2, 8), 2, 0)
	wantWhole(t, g, last(8), nil, 3, 0, api.Whole{P: plain(), Data: noise(2, 8), Bufs: []int{2, 3}})
	wantHeld(t, f, 1, 8, 1)
}

// model is what the chapter says of pieces, place by place.
type model struct {
	list []*told
}

type told struct {
	kind   string
	since  int
	pieces []api.Whole
	owner  map[int]int // of each place that has a byte: the piece it came with
}

func kindOf(p api.Packet) string { return fmt.Sprint(p.Src, p.Dst, p.Proto, p.Id) }

func endOf(x api.Whole) int { return x.P.Offset + len(x.Data) }

func (m *model) size() int {
	n := 0
	for _, d := range m.list {
		n += len(d.owner)
	}
	return n
}

func (m *model) bufs() []int {
	var out []int
	for _, d := range m.list {
		out = append(out, d.bufs()...)
	}
	return out
}

func (d *told) bufs() []int {
	var out []int
	for _, x := range d.pieces {
		out = append(out, x.Bufs...)
	}
	return out
}

func (d *told) isOverlap(x api.Whole) bool {
	for i := range x.Data {
		if _, is := d.owner[x.P.Offset+i]; is {
			return true
		}
	}
	for _, y := range d.pieces {
		switch {
		case len(x.Data) == 0 && x.P.Offset > y.P.Offset && x.P.Offset < endOf(y),
			!y.P.More && (!x.P.More || endOf(x) > endOf(y)),
			!x.P.More && endOf(y) > endOf(x):
			return true
		}
	}
	return false
}

func (m *model) put(p api.Packet, b []byte, buf, now int) (api.Whole, bool, []int) {
	x := api.Whole{P: p, Data: b, Bufs: []int{buf}}
	if !p.More && p.Offset <= 0 {
		return x, true, nil
	}
	if p.Offset < 0 || p.Offset%8 != 0 || p.More && (len(b) == 0 || len(b)%8 != 0) || p.Offset > 1024 || p.Offset+len(b) > 1024 {
		return api.Whole{}, false, []int{buf}
	}
	i := slices.IndexFunc(m.list, func(d *told) bool { return d.kind == kindOf(p) })
	if i >= 0 && m.list[i].isOverlap(x) {
		gone := append(m.list[i].bufs(), buf)
		m.list = slices.Delete(m.list, i, i+1)
		return api.Whole{}, false, gone
	}
	if i < 0 && len(m.list) == 4 || m.size()+len(b) > 2048 {
		return api.Whole{}, false, []int{buf}
	}
	if i < 0 {
		i = len(m.list)
		m.list = append(m.list, &told{kind: kindOf(p), since: now, owner: map[int]int{}})
	}
	d := m.list[i]
	d.pieces = append(d.pieces, x)
	for n := range b {
		d.owner[p.Offset+n] = len(d.pieces) - 1
	}
	w, is := d.whole()
	if is {
		m.list = slices.Delete(m.list, i, i+1)
	}
	return w, is, nil
}

func (d *told) whole() (api.Whole, bool) {
	end := -1
	for _, x := range d.pieces {
		if !x.P.More {
			end = endOf(x)
		}
	}
	if end < 0 {
		return api.Whole{}, false
	}
	var w api.Whole
	for place := range end {
		i, is := d.owner[place]
		if !is {
			return api.Whole{}, false
		}
		w.Data = append(w.Data, d.pieces[i].Data[place-d.pieces[i].P.Offset])
	}
	sorted := slices.Clone(d.pieces)
	slices.SortFunc(sorted, func(x, y api.Whole) int { return x.P.Offset - y.P.Offset })
	for _, x := range sorted {
		w.Bufs = append(w.Bufs, x.Bufs...)
		if x.P.Offset == 0 {
			w.P = x.P
			w.P.More = false
		}
	}
	return w, true
}

func (m *model) tick(now int) []int {
	var gone []int
	m.list = slices.DeleteFunc(m.list, func(d *told) bool {
		if now-d.since < 16 {
			return false
		}
		gone = append(gone, d.bufs()...)
		return true
	})
	return gone
}

// anyPiece is a piece of some of few datagrams, mostly one that may be.
func anyPiece(r *rand.Rand, grain, places int) (api.Packet, []byte) {
	p := plain()
	p.Id, p.Ttl = r.Intn(6), r.Intn(256)
	p.Offset = 8 * grain * r.Intn(places)
	p.More = r.Intn(4) > 0
	p.Options = noise(p.Ttl, r.Intn(5))
	size := 8 * grain
	switch r.Intn(30) {
	case 0:
		p.Proto = 6
	case 1:
		p.Src, p.Dst = p.Dst, p.Src
	case 2:
		p.Offset += r.Intn(17) - 8
	case 3:
		size = 8 * r.Intn(8*grain)
	case 4, 5, 6:
		size = 0
	case 7, 8, 9:
		size = r.Intn(8*grain + 1)
	case 10:
		p.Offset = -p.Offset
	case 11:
		p.Offset = 1024 - size + 8*(r.Intn(3)-1)
	}
	return p, noise(r.Int(), size)
}

func TestAnyCalls(t *testing.T) { // P11.2, P11.3: random calls, held against the model
	for seed := range 400 {
		r := rand.New(rand.NewSource(int64(seed)))
		grain, places := 1+r.Intn(30), 2+r.Intn(5)
		f, m := frag.New(), &model{}
		now, made := 0, 0
		for step := range 300 {
			p, b := anyPiece(r, grain, places)
			w, is, gone := m.put(p, b, step, now)
			wantAnswer(t, f, p, b, step, now, answer(w, is, gone))
			if is {
				made++
			}
			if r.Intn(6) == 0 {
				now += r.Intn(8)
				wantTick(t, f, now, m.tick(now)...)
			}
			wantHeld(t, f, len(m.list), m.size(), m.bufs()...)
			if f.Bytes() > 2048 || f.Len() > 4 || t.Failed() {
				t.Fatalf("seed %d, step %d: %d bytes, %d datagrams", seed, step, f.Bytes(), f.Len())
			}
		}
		if made == 0 {
			t.Errorf("seed %d: no datagram came to be whole", seed)
		}
	}
}

func TestEachBufferOnce(t *testing.T) { // P11.4: what was put is held, or was told, just once
	for seed := range 100 {
		r := rand.New(rand.NewSource(int64(seed)))
		f := frag.New()
		seen := map[int]int{}
		count := func(l []int) {
			for _, buf := range l {
				seen[buf]++
			}
		}
		for step := range 200 {
			p, b := anyPiece(r, 4, 4)
			w, is, gone := f.Put(p, b, step, step/4)
			if !is && len(w.Bufs) > 0 {
				t.Fatalf("Put: buffers %v beside false", w.Bufs)
			}
			count(w.Bufs)
			count(gone)
			count(f.Tick(step / 4))
		}
		count(f.Bufs())
		for step := range 200 {
			if seen[step] != 1 {
				t.Fatalf("seed %d: buffer %d is told %d times", seed, step, seen[step])
			}
		}
	}
}

func TestAnyNumbers(t *testing.T) { // R1: every call ends, and none panics
	numbers := []int{math.MinInt, math.MinInt + 1, -1 << 32, -9, -8, -1, 0, 1, 7, 8, 16, 67, 68, 69, 1016, 1024, 1032, 65528, 1 << 32, math.MaxInt - 7, math.MaxInt}
	r := rand.New(rand.NewSource(3))
	any := func() int { return numbers[r.Intn(len(numbers))] }
	f := frag.New()
	for range 200000 {
		p := api.Packet{Proto: any(), Ttl: any(), Id: any(), Tos: any(), Whole: r.Intn(2) == 0, More: r.Intn(2) == 0, Offset: any(), Options: noise(r.Int(), r.Intn(45))}
		b := noise(r.Int(), r.Intn(100))
		f.Put(p, b, any(), any())
		if r.Intn(3) == 0 {
			f.Tick(any())
		}
		if f.Len() > 4 || f.Bytes() > 2048 {
			t.Fatalf("%d datagrams, %d bytes", f.Len(), f.Bytes())
		}
		if r.Intn(2) == 0 {
			p.More, p.Offset = false, 0
		}
		mtu := any()
		if l, err := frag.Split(p, b, mtu); (err == api.OK) != (len(l) > 0) {
			t.Fatalf("Split(%s, %d bytes, mtu %d): %d pieces, error %d", head(p), len(b), mtu, len(l), err)
		}
	}
}
