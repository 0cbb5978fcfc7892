package arp_test

import (
	"bytes"
	"fmt"
	"math"
	"math/rand"
	"slices"
	"testing"

	"packhorse/api"
	"packhorse/arp"
)

var (
	ownMac = api.Mac{2, 0, 0, 0, 0, 1}
	ownIp  = api.Ip{10, 0, 0, 1}
)

// ip and mac are a neighbour's.
func ip(n int) api.Ip { return api.Ip{10, 0, byte(n >> 8), byte(n)} }

func mac(n int) api.Mac { return api.Mac{4, 9, 8, 7, byte(n >> 8), byte(n)} }

// request and answer are what a neighbour sends to the host.
func request(n int) api.Arp {
	return api.Arp{SrcMac: mac(n), SrcIp: ip(n), DstIp: ownIp}
}

func answer(n int) api.Arp {
	return api.Arp{Answer: true, SrcMac: mac(n), SrcIp: ip(n), DstMac: ownMac, DstIp: ownIp}
}

// asks and answers are what the host sends.
func asks(ns ...int) []api.Arp {
	var out []api.Arp
	for _, n := range ns {
		out = append(out, api.Arp{SrcMac: ownMac, SrcIp: ownIp, DstIp: ip(n)})
	}
	return out
}

func answers(n int) []api.Arp {
	return []api.Arp{{Answer: true, SrcMac: ownMac, SrcIp: ownIp, DstMac: mac(n), DstIp: ip(n)}}
}

// asking, known and old are neighbours.
func asking(n, since, asked, tries int, pending ...int) api.Neighbour {
	return api.Neighbour{Ip: ip(n), State: api.ArpAsking, Since: since, Asked: asked, Tries: tries, Pending: pending}
}

func known(n, since, asked int) api.Neighbour {
	return api.Neighbour{Ip: ip(n), State: api.ArpKnown, Mac: mac(n), Since: since, Asked: asked}
}

func old(n, since, asked, tries int) api.Neighbour {
	return api.Neighbour{Ip: ip(n), State: api.ArpOld, Mac: mac(n), Since: since, Asked: asked, Tries: tries}
}

func made() *arp.Cache { return arp.New(ownMac, ownIp) }

// meet makes neighbours known, each at the tick that stands for it.
func meet(c *arp.Cache, from int, since ...int) {
	for i, now := range since {
		c.Heard(answer(from+i), now)
	}
}

// told is all that calls tell of a cache without changing it.
func told(c *arp.Cache) string {
	return fmt.Sprintf("%+v %v %+v", slices.Concat(c.All()), slices.Concat(c.Pending()), c.Announce())
}

func wantFind(t *testing.T, c *arp.Cache, n, buf, now int, m api.Mac, gone []int, out []api.Arp, due api.Errno) {
	t.Helper()
	gotMac, gotGone, gotOut, err := c.Find(ip(n), buf, now)
	if gotMac != m || !slices.Equal(gotGone, gone) || !slices.Equal(gotOut, out) || err != due {
		t.Errorf("Find(%v, %d, %d): %v, %v, %+v, error %d, not %v, %v, %+v, error %d",
			ip(n), buf, now, gotMac, gotGone, gotOut, err, m, gone, out, due)
	}
}

// wantAsked, wantWait, wantMac and wantDead are what Find may answer.
func wantAsked(t *testing.T, c *arp.Cache, n, buf, now int) {
	t.Helper()
	wantFind(t, c, n, buf, now, api.Mac{}, nil, asks(n), api.ErrArpWait)
}

func wantWait(t *testing.T, c *arp.Cache, n, buf, now int, gone ...int) {
	t.Helper()
	wantFind(t, c, n, buf, now, api.Mac{}, gone, nil, api.ErrArpWait)
}

func wantMac(t *testing.T, c *arp.Cache, n, buf, now int, out ...api.Arp) {
	t.Helper()
	wantFind(t, c, n, buf, now, mac(n), nil, out, api.OK)
}

func wantDead(t *testing.T, c *arp.Cache, n, buf, now int) {
	t.Helper()
	was := told(c)
	wantFind(t, c, n, buf, now, api.Mac{}, nil, nil, api.ErrArpDead)
	if now := told(c); now != was {
		t.Errorf("ErrArpDead has made %s of %s", now, was)
	}
}

func wantHeard(t *testing.T, c *arp.Cache, a api.Arp, now int, out []api.Arp, may []int, to api.Mac) {
	t.Helper()
	gotOut, gotMay, gotTo := c.Heard(a, now)
	if !slices.Equal(gotOut, out) || !slices.Equal(gotMay, may) || gotTo != to {
		t.Errorf("Heard(%+v, %d): %+v, %v, %v, not %+v, %v, %v", a, now, gotOut, gotMay, gotTo, out, may, to)
	}
}

func wantTick(t *testing.T, c *arp.Cache, now int, out []api.Arp, gone ...int) {
	t.Helper()
	gotOut, gotGone := c.Tick(now)
	if !slices.Equal(gotOut, out) || !slices.Equal(gotGone, gone) {
		t.Errorf("Tick(%d): %+v, %v, not %+v, %v", now, gotOut, gotGone, out, gone)
	}
}

// same takes nil and empty lists of buffers as the same.
func same(a, b api.Neighbour) bool {
	return a.Ip == b.Ip && a.State == b.State && a.Mac == b.Mac && a.Since == b.Since &&
		a.Asked == b.Asked && a.Tries == b.Tries && slices.Equal(a.Pending, b.Pending)
}

func wantAll(t *testing.T, c *arp.Cache, due ...api.Neighbour) {
	t.Helper()
	if got := c.All(); !slices.EqualFunc(got, due, same) {
		t.Errorf("All: %+v, not %+v", got, due)
	}
	var pending []int
	for _, n := range due {
		pending = append(pending, n.Pending...)
	}
	if got := c.Pending(); !slices.Equal(got, pending) {
		t.Errorf("Pending: %v, not %v", got, pending)
	}
}

func TestExamples(t *testing.T) {
	c := made()
	wantAsked(t, c, 2, 7, 0)
	wantWait(t, c, 2, 8, 0)
	wantWait(t, c, 2, 9, 1, 7)
	wantHeard(t, c, answer(2), 1, nil, []int{8, 9}, mac(2))
	wantMac(t, c, 2, 5, 2)
	wantAsked(t, c, 3, 4, 10)
	wantTick(t, c, 12, asks(3))
	wantTick(t, c, 14, asks(3))
	wantTick(t, c, 16, nil, 4)
	wantAll(t, c, known(2, 1, 0))
	wantHeard(t, c, request(9), 17, answers(9), nil, api.Mac{})
	wantAll(t, c, known(2, 1, 0), known(9, 17, 17))
}

// P8.1

// anArp is one whose bytes all differ.
func anArp(isAnswer bool) api.Arp {
	return api.Arp{
		Answer: isAnswer,
		SrcMac: api.Mac{10, 11, 12, 13, 14, 15}, SrcIp: api.Ip{16, 17, 18, 19},
		DstMac: api.Mac{20, 21, 22, 23, 24, 25}, DstIp: api.Ip{26, 27, 28, 29},
	}
}

func aForm(isAnswer bool) []byte {
	b := []byte{0, 1, 8, 0, 6, 4, 0, 1}
	if isAnswer {
		b[7] = 2
	}
	for i := range 20 {
		b = append(b, byte(10+i))
	}
	return b
}

func wantEncode(t *testing.T, a api.Arp, due []byte) {
	t.Helper()
	if got, err := arp.Encode(a); err != api.OK || !bytes.Equal(got, due) {
		t.Errorf("Encode(%+v): %x, error %d, not %x", a, got, err, due)
	}
}

func wantDecode(t *testing.T, b []byte, due api.Arp) {
	t.Helper()
	if got, err := arp.Decode(b); err != api.OK || got != due {
		t.Errorf("Decode(%x): %+v, error %d, not %+v", b, got, err, due)
	}
}

func wantNoDecode(t *testing.T, b []byte, due api.Errno) {
	t.Helper()
	if got, err := arp.Decode(b); err != due || got != (api.Arp{}) {
		t.Errorf("Decode(%x): %+v, error %d, not error %d alone", b, got, err, due)
	}
}

func TestForm(t *testing.T) { // P8.1
	for _, isAnswer := range []bool{false, true} {
		wantEncode(t, anArp(isAnswer), aForm(isAnswer))
		wantDecode(t, aForm(isAnswer), anArp(isAnswer))
	}
	wantEncode(t, api.Arp{}, slices.Concat([]byte{0, 1, 8, 0, 6, 4, 0, 1}, make([]byte, 20)))
	wantDecode(t, slices.Concat([]byte{0, 1, 8, 0, 6, 4, 0, 2}, make([]byte, 20)), api.Arp{Answer: true})
}

func TestSrcMacOfMany(t *testing.T) { // P8.1: only its first byte says so
	for n := range 256 {
		a, b := anArp(n%4 < 2), aForm(n%4 < 2)
		a.SrcMac[0], b[8] = byte(n), byte(n)
		if n%2 == 0 {
			wantEncode(t, a, b)
			wantDecode(t, b, a)
			continue
		}
		if got, err := arp.Encode(a); err != api.ErrArg || len(got) != 0 {
			t.Errorf("Encode(%+v): %x, error %d, not ErrArg alone", a, got, err)
		}
		wantNoDecode(t, b, api.ErrForm)
	}
}

func TestOtherAddressesMayBeAny(t *testing.T) { // P8.1
	for at := 9; at < 28; at++ {
		for n := range 256 {
			b := aForm(true)
			b[at] = byte(n)
			a, err := arp.Decode(b)
			if err != api.OK {
				t.Errorf("Decode(%x): error %d", b, err)
			}
			wantEncode(t, a, b)
		}
	}
	a := api.Arp{SrcMac: api.Mac{0xfe, 255, 255, 255, 255, 255}, SrcIp: api.Ip{255, 255, 255, 255},
		DstMac: api.Mac{255, 255, 255, 255, 255, 255}, DstIp: api.Ip{255, 255, 255, 255}}
	b, err := arp.Encode(a)
	if err != api.OK {
		t.Errorf("Encode(%+v): error %d", a, err)
	}
	wantDecode(t, b, a)
}

func TestHeadOfForm(t *testing.T) { // P8.1: each byte that may not be otherwise
	for at := range 8 {
		for n := range 256 {
			for _, isAnswer := range []bool{false, true} {
				b := aForm(isAnswer)
				b[at] = byte(n)
				switch {
				case bytes.Equal(b, aForm(false)):
					wantDecode(t, b, anArp(false))
				case bytes.Equal(b, aForm(true)):
					wantDecode(t, b, anArp(true))
				default:
					wantNoDecode(t, b, api.ErrForm)
				}
			}
		}
	}
	wantNoDecode(t, make([]byte, 28), api.ErrForm)
	wantNoDecode(t, bytes.Repeat([]byte{255}, 28), api.ErrForm)
}

func TestLengthOfForm(t *testing.T) { // P8.1
	wantNoDecode(t, nil, api.ErrShort)
	for n := range 28 {
		wantNoDecode(t, aForm(true)[:n], api.ErrShort)
		wantNoDecode(t, make([]byte, n), api.ErrShort) // ahead of ErrForm
	}
	for _, n := range []int{1, 2, 18, 32, 228, 5000} { // what stands behind does not matter
		for _, with := range []byte{0, 1, 255} {
			wantDecode(t, slices.Concat(aForm(true), bytes.Repeat([]byte{with}, n)), anArp(true))
			wantNoDecode(t, slices.Concat([]byte{with}, aForm(true)), api.ErrForm)
		}
	}
	room := append(make([]byte, 0, 40), aForm(false)...)
	wantNoDecode(t, room[:27], api.ErrShort) // the room behind the end is no part of it
}

func TestFormsThereAndBack(t *testing.T) { // P8.1
	r := rand.New(rand.NewSource(8))
	for range 2000 {
		b := aForm(r.Intn(2) == 0)
		r.Read(b[8:])
		b[8] &= 0xfe
		a, err := arp.Decode(b)
		if err != api.OK {
			t.Fatalf("Decode(%x): error %d", b, err)
		}
		wantEncode(t, a, b)
	}
}

func TestFormsShareNoMemory(t *testing.T) { // R4
	one, _ := arp.Encode(anArp(true))
	other, _ := arp.Encode(anArp(true))
	one = one[:cap(one)]
	for i := range one {
		one[i] = 99
	}
	if !bytes.Equal(other, aForm(true)) {
		t.Errorf("another answer is changed: %x", other)
	}
	wantEncode(t, anArp(true), aForm(true))
	b := append(make([]byte, 0, 64), aForm(true)...)
	whole := bytes.Clone(b[:64])
	a, _ := arp.Decode(b)
	if !bytes.Equal(b[:64], whole) {
		t.Errorf("Decode has changed what it was given: %x", b[:64])
	}
	clear(b)
	if a != anArp(true) {
		t.Errorf("what Decode answered has changed: %+v", a)
	}
}

// P8.2

func TestFindUnknown(t *testing.T) { // P8.2
	for _, now := range []int{0, 1, 1 << 40, -1, math.MaxInt, math.MinInt} {
		for _, buf := range []int{0, 7, -1, math.MaxInt, math.MinInt} {
			c := made()
			wantAsked(t, c, 2, buf, now)
			wantAll(t, c, asking(2, now, now, 1, buf))
			wantAsked(t, c, 3, buf, now)
			wantAll(t, c, asking(2, now, now, 1, buf), asking(3, now, now, 1, buf))
		}
	}
}

func TestFindAsking(t *testing.T) { // P8.2: of at most 2 that wait; no request, however late
	c := made()
	wantAsked(t, c, 2, 7, 5)
	wantWait(t, c, 2, 8, 6)
	wantAll(t, c, asking(2, 5, 5, 1, 7, 8))
	wantWait(t, c, 2, 9, 7, 7)
	wantAll(t, c, asking(2, 5, 5, 1, 8, 9))
	wantWait(t, c, 2, 10, 500, 8)
	wantWait(t, c, 2, 10, math.MaxInt, 9)
	wantWait(t, c, 2, 10, math.MinInt, 10)
	wantAll(t, c, asking(2, 5, 5, 1, 10, 10))
	wantAsked(t, c, 3, 1, 8)
	wantWait(t, c, 3, 2, 8)
	wantWait(t, c, 2, 11, 8, 10)
	wantAll(t, c, asking(2, 5, 5, 1, 10, 11), asking(3, 8, 8, 1, 1, 2))
}

func TestFindKnown(t *testing.T) { // P8.2: now - Since of 63, 64 and more
	for _, x := range []struct {
		since, now int
		due        bool // a request
	}{
		{0, 0, false}, {0, 63, false}, {0, 64, true}, {0, 65, true}, {0, 1 << 40, true}, {0, math.MaxInt, true},
		{100, 163, false}, {100, 164, true}, {100, 165, true}, {100, 36, false}, {100, 0, false}, {100, -64, false},
		{-100, -37, false}, {-100, -36, true}, {-1, math.MaxInt, true}, {math.MinInt, math.MaxInt, true},
		{math.MinInt, 0, true}, {math.MaxInt, math.MinInt, false}, {math.MaxInt, -2, false}, {1, math.MinInt, false},
		{math.MinInt, math.MinInt + 63, false}, {math.MinInt, math.MinInt + 64, true},
		{math.MaxInt - 64, math.MaxInt, true}, {math.MaxInt - 63, math.MaxInt, false},
	} {
		c := made()
		meet(c, 2, x.since)
		if !x.due {
			wantMac(t, c, 2, 7, x.now)
			wantAll(t, c, known(2, x.since, x.since))
			continue
		}
		wantMac(t, c, 2, 7, x.now, asks(2)...)
		wantAll(t, c, old(2, x.since, x.now, 1))
		wantMac(t, c, 2, 7, x.now) // it is asked for once
		wantMac(t, c, 2, 7, math.MaxInt)
		wantAll(t, c, old(2, x.since, x.now, 1))
	}
}

func TestFindKnownAmongOthers(t *testing.T) { // P8.2
	c := made()
	wantAsked(t, c, 2, 1, 0)
	meet(c, 3, 0, 0, 40)
	wantMac(t, c, 4, 7, 64, asks(4)...)
	wantMac(t, c, 5, 7, 64)
	wantAll(t, c, asking(2, 0, 0, 1, 1), known(3, 0, 0), old(4, 0, 64, 1), known(5, 40, 40))
}

func TestRoom(t *testing.T) { // P8.2: 7, 8 and 9 neighbours
	c := made()
	var due []api.Neighbour
	for n := 2; n < 9; n++ {
		wantAsked(t, c, n, n, 1)
		due = append(due, asking(n, 1, 1, 1, n))
	}
	wantAll(t, c, due...)
	wantAsked(t, c, 9, 9, 1)
	due = append(due, asking(9, 1, 1, 1, 9))
	wantAll(t, c, due...)
	wantDead(t, c, 10, 10, 1)
	wantDead(t, c, 10, 10, 1000)
	wantWait(t, c, 9, 10, 2) // one of the 8 needs no room
	due[7] = asking(9, 1, 1, 1, 9, 10)
	wantHeard(t, c, answer(4), 3, nil, []int{4}, mac(4))
	wantAsked(t, c, 10, 11, 4)
	due = append(slices.Delete(due, 2, 3), asking(10, 4, 4, 1, 11))
	wantAll(t, c, due...)
	wantDead(t, c, 4, 12, 4)
}

func TestTakenOut(t *testing.T) { // P8.2: the first one of those with the least Since
	for _, x := range []struct {
		since []int
		due   int // the place of the one that is taken out
	}{
		{[]int{5, 4, 3, 2, 3, 4, 5, 6}, 3},
		{[]int{5, 4, 3, 2, 2, 4, 2, 2}, 3},
		{[]int{1, 1, 1, 1, 1, 1, 1, 1}, 0},
		{[]int{9, 8, 7, 6, 5, 4, 3, 2}, 7},
		{[]int{2, 3, 4, 5, 6, 7, 8, 9}, 0},
		{[]int{0, 0, 0, 0, -1, 0, 0, 0}, 4},
		{[]int{math.MaxInt, math.MaxInt, 0, math.MinInt, 0, math.MinInt, 1, 2}, 3},
		{[]int{math.MaxInt, math.MaxInt, math.MaxInt, math.MaxInt, math.MaxInt, math.MaxInt, math.MaxInt, math.MaxInt}, 0},
	} {
		c := made()
		meet(c, 2, x.since...)
		var due []api.Neighbour
		for i, since := range x.since {
			if i != x.due {
				due = append(due, known(2+i, since, since))
			}
		}
		wantAsked(t, c, 20, 7, 10)
		wantAll(t, c, append(due, asking(20, 10, 10, 1, 7))...)
	}
}

func TestTakenOutMayBeOld(t *testing.T) { // P8.2: by Since, whether ArpKnown or ArpOld
	c := made()
	wantAsked(t, c, 2, 1, 0) // with the least Since, but ArpAsking
	meet(c, 3, 7, 6, 5, 4, 6, 7, 8)
	wantMac(t, c, 5, 1, 69, asks(5)...)
	wantMac(t, c, 6, 1, 69, asks(6)...)
	wantAsked(t, c, 20, 2, 70) // 6 goes, which is old
	wantAll(t, c, asking(2, 0, 0, 1, 1), known(3, 7, 7), known(4, 6, 6), old(5, 5, 69, 1),
		known(7, 6, 6), known(8, 7, 7), known(9, 8, 8), asking(20, 70, 70, 1, 2))
	wantHeard(t, c, answer(5), 71, nil, nil, api.Mac{})
	wantAsked(t, c, 21, 3, 71) // 4, which is known, and as long as 7
	wantAll(t, c, asking(2, 0, 0, 1, 1), known(3, 7, 7), known(5, 71, 69),
		known(7, 6, 6), known(8, 7, 7), known(9, 8, 8), asking(20, 70, 70, 1, 2), asking(21, 71, 71, 1, 3))
	for n, buf := range []int{7, 3, 8, 9, 5} { // one by one, till all are asked for
		wantAsked(t, c, 30+n, buf, 72)
	}
	wantDead(t, c, 40, 1, 72)
	if got := c.Pending(); !slices.Equal(got, []int{1, 2, 3, 7, 3, 8, 9, 5}) {
		t.Errorf("Pending: %v", got)
	}
}

func TestTakenOutIsNoNeighbour(t *testing.T) { // P8.2
	c := made()
	meet(c, 2, 0, 1, 2, 3, 4, 5, 6, 7)
	wantAsked(t, c, 10, 1, 8)
	wantAsked(t, c, 2, 2, 8) // it was taken out, and is asked for anew: then 3 is
	wantAll(t, c, known(4, 2, 2), known(5, 3, 3), known(6, 4, 4), known(7, 5, 5), known(8, 6, 6), known(9, 7, 7),
		asking(10, 8, 8, 1, 1), asking(2, 8, 8, 1, 2))
}

func TestFindAnyAddress(t *testing.T) { // P8.2 makes no difference between addresses
	c := made()
	for _, to := range []api.Ip{{}, ownIp, {255, 255, 255, 255}} {
		m, gone, out, err := c.Find(to, 1, 0)
		if m != (api.Mac{}) || len(gone) != 0 || err != api.ErrArpWait ||
			!slices.Equal(out, []api.Arp{{SrcMac: ownMac, SrcIp: ownIp, DstIp: to}}) {
			t.Errorf("Find(%v): %v, %v, %+v, error %d", to, m, gone, out, err)
		}
	}
	if got := len(c.All()); got != 3 {
		t.Errorf("%d neighbours, not 3", got)
	}
}

// P8.3

// speakers are what may be heard, with the DstIp that it has.
func speakers(n int) []api.Arp {
	var out []api.Arp
	for _, isAnswer := range []bool{false, true} {
		for _, dst := range []api.Ip{ownIp, ip(n), ip(77), {}, {255, 255, 255, 255}} {
			out = append(out, api.Arp{Answer: isAnswer, SrcMac: mac(n), SrcIp: ip(n), DstMac: mac(5), DstIp: dst})
		}
	}
	return out
}

func TestHeardFromNobody(t *testing.T) { // P8.3: from the host's own address, and from 0.0.0.0
	for _, from := range []api.Ip{ownIp, {}} {
		for _, a := range speakers(2) {
			a.SrcIp = from
			c := made()
			wantAsked(t, c, 2, 7, 0)
			if _, _, _, err := c.Find(from, 8, 0); err != api.ErrArpWait { // even if it was asked for
				t.Errorf("Find(%v): error %d", from, err)
			}
			was := told(c)
			wantHeard(t, c, a, 1, nil, nil, api.Mac{})
			a.SrcMac = ownMac
			wantHeard(t, c, a, 1, nil, nil, api.Mac{})
			if now := told(c); now != was {
				t.Errorf("Heard(%+v) has made %s of %s", a, now, was)
			}
		}
	}
}

// isAsked: it is a request, for the host.
func isAsked(a api.Arp) bool { return !a.Answer && a.DstIp == ownIp }

// duly is the answer to what asks for the host.
func duly(a api.Arp) []api.Arp {
	if !isAsked(a) {
		return nil
	}
	return []api.Arp{{Answer: true, SrcMac: ownMac, SrcIp: ownIp, DstMac: a.SrcMac, DstIp: a.SrcIp}}
}

func TestHeardFromNeighbour(t *testing.T) { // P8.3: whoever it is for, and whether it asks or answers
	for _, a := range speakers(3) {
		c := made()
		wantAsked(t, c, 2, 5, 0)
		wantAsked(t, c, 3, 6, 0)
		wantWait(t, c, 3, 7, 0)
		wantTick(t, c, 2, asks(2, 3))
		wantHeard(t, c, a, 3, duly(a), []int{6, 7}, mac(3))
		wantAll(t, c, asking(2, 0, 2, 2, 5), known(3, 3, 2))
		wantHeard(t, c, a, 4, duly(a), nil, api.Mac{}) // they wait no more
		wantAll(t, c, asking(2, 0, 2, 2, 5), known(3, 4, 2))
		a.SrcMac = mac(99) // another device has the address now
		wantHeard(t, c, a, 5, duly(a), nil, api.Mac{})
		moved := known(3, 5, 2)
		moved.Mac = mac(99)
		wantAll(t, c, asking(2, 0, 2, 2, 5), moved)
		wantFind(t, c, 3, 1, 6, mac(99), nil, nil, api.OK)
		wantFind(t, c, 3, 1, 69, mac(99), nil, asks(3), api.OK)
		wantTick(t, c, 71, asks(2, 3))
		wantHeard(t, c, a, 72, duly(a), nil, api.Mac{})
		moved.Since, moved.Asked = 72, 71
		wantAll(t, c, asking(2, 0, 71, 3, 5), moved)
	}
}

func TestHeardWithoutBuffers(t *testing.T) { // P8.3, R3: no address where none waited, but the neighbour's Mac is SrcMac
	for _, a := range speakers(3) {
		for _, m := range []api.Mac{mac(3), mac(99), {}, {0, 0, 0, 0, 0, 1}, {255, 255, 255, 255, 255, 255}} {
			a.SrcMac = m
			due := api.Neighbour{Ip: ip(3), State: api.ArpKnown, Mac: m}
			c := made()
			wantAsked(t, c, 2, 5, 0)
			wantAsked(t, c, 3, 6, 0)
			wantHeard(t, c, answer(3), 0, nil, []int{6}, mac(3))
			wantHeard(t, c, a, 1, duly(a), nil, api.Mac{}) // of one that is ArpKnown
			due.Since = 1
			wantAll(t, c, asking(2, 0, 0, 1, 5), due)
			wantFind(t, c, 3, 7, 65, m, nil, asks(3), api.OK)
			wantHeard(t, c, a, 66, duly(a), nil, api.Mac{}) // of one that is ArpOld
			due.Since, due.Asked = 66, 65
			wantAll(t, c, asking(2, 0, 0, 1, 5), due)
			wantFind(t, c, 3, 8, 67, m, nil, nil, api.OK)
		}
	}
}

func TestHeardFromStranger(t *testing.T) { // P8.3: with room
	for _, a := range speakers(3) {
		for _, now := range []int{0, 17, -1, math.MaxInt, math.MinInt} {
			c := made()
			wantAsked(t, c, 2, 5, 0)
			wantHeard(t, c, a, now, duly(a), nil, api.Mac{})
			if a.DstIp != ownIp {
				wantAll(t, c, asking(2, 0, 0, 1, 5))
				continue
			}
			wantAll(t, c, asking(2, 0, 0, 1, 5), known(3, now, now))
			wantMac(t, c, 3, 1, now)
		}
	}
}

// crowded has so many neighbours, known or asked for.
func crowded(many int, areKnown bool) *arp.Cache {
	c := made()
	for n := 2; n < 2+many; n++ {
		c.Find(ip(n), n, 0)
		if areKnown {
			c.Heard(answer(n), 0)
		}
	}
	return c
}

func TestHeardWithoutRoom(t *testing.T) { // P8.3: 7 neighbours, and 8: nobody is taken out, but who asks is answered
	for _, a := range speakers(30) {
		for _, areKnown := range []bool{false, true} {
			c := crowded(7, areKnown)
			due := c.All()
			if a.DstIp == ownIp {
				due = append(due, known(30, 1, 1))
			}
			wantHeard(t, c, a, 1, duly(a), nil, api.Mac{})
			wantAll(t, c, due...)
			c = crowded(8, areKnown)
			due = c.All()
			wantHeard(t, c, a, 1, duly(a), nil, api.Mac{})
			wantAll(t, c, due...)
		}
	}
}

func TestHeardFromNeighbourWithoutRoom(t *testing.T) { // P8.3
	c := made()
	for n := 2; n < 10; n++ {
		wantAsked(t, c, n, n, 0)
	}
	wantHeard(t, c, request(9), 1, answers(9), []int{9}, mac(9))
	wantHeard(t, c, answer(2), 1, nil, []int{2}, mac(2))
	if got := c.Pending(); !slices.Equal(got, []int{3, 4, 5, 6, 7, 8}) {
		t.Errorf("Pending: %v", got)
	}
}

func TestHeardAnyMac(t *testing.T) { // R6: Heard has no word on which SrcMac may be, so it takes any
	c := made()
	wantAsked(t, c, 2, 7, 0)
	a := request(2)
	a.SrcMac = api.Mac{255, 255, 255, 255, 255, 255}
	wantHeard(t, c, a, 1, duly(a), []int{7}, a.SrcMac)
	wantFind(t, c, 2, 1, 1, a.SrcMac, nil, nil, api.OK)
}

// P8.4

func TestTickAsking(t *testing.T) { // P8.4: now - Asked of 1, 2 and more; Tries 3
	for _, x := range []struct {
		asked, now int
		due        bool
	}{
		{0, 0, false}, {0, 1, false}, {0, 2, true}, {0, 3, true}, {0, 1 << 40, true}, {0, math.MaxInt, true},
		{10, 11, false}, {10, 12, true}, {10, 8, false}, {10, 0, false}, {10, -2, false},
		{-1, 0, false}, {-1, 1, true}, {-1, math.MaxInt, true}, {math.MinInt, math.MaxInt, true}, {math.MinInt, 0, true},
		{math.MaxInt, math.MinInt, false}, {math.MaxInt, math.MinInt + 1, false}, {2, math.MinInt, false},
		{math.MaxInt - 2, math.MaxInt, true}, {math.MaxInt - 1, math.MaxInt, false},
	} {
		c := made()
		wantAsked(t, c, 2, 7, x.asked)
		if !x.due {
			wantTick(t, c, x.now, nil)
			wantAll(t, c, asking(2, x.asked, x.asked, 1, 7))
			continue
		}
		wantTick(t, c, x.now, asks(2))
		wantAll(t, c, asking(2, x.asked, x.now, 2, 7))
		wantTick(t, c, x.now, nil)
	}
}

func TestTickGivesUp(t *testing.T) { // P8.4
	c := made()
	wantAsked(t, c, 2, 7, 10)
	wantWait(t, c, 2, 8, 10)
	wantTick(t, c, 11, nil)
	wantTick(t, c, 12, asks(2))
	wantAll(t, c, asking(2, 10, 12, 2, 7, 8))
	wantTick(t, c, 13, nil)
	wantTick(t, c, 14, asks(2))
	wantAll(t, c, asking(2, 10, 14, 3, 7, 8))
	wantTick(t, c, 15, nil)
	wantAll(t, c, asking(2, 10, 14, 3, 7, 8))
	wantTick(t, c, 16, nil, 7, 8)
	wantAll(t, c)
	wantTick(t, c, 18, nil)
	wantAsked(t, c, 2, 9, 18) // it begins anew
	wantAll(t, c, asking(2, 18, 18, 1, 9))
}

func TestTickLate(t *testing.T) { // P8.4: one request a call, however many ticks have gone by
	c := made()
	wantAsked(t, c, 2, 7, 0)
	wantTick(t, c, 100, asks(2))
	wantTick(t, c, 101, nil)
	wantTick(t, c, 200, asks(2))
	wantTick(t, c, 300, nil, 7)
	wantAll(t, c)
}

func TestTickOld(t *testing.T) { // P8.4: an old one that nobody answers for is taken out, too
	c := made()
	meet(c, 2, 0)
	wantTick(t, c, 64, nil) // only Find makes it old
	wantTick(t, c, 1000, nil)
	wantAll(t, c, known(2, 0, 0))
	wantMac(t, c, 2, 1, 1000, asks(2)...)
	wantTick(t, c, 1001, nil)
	wantTick(t, c, 1002, asks(2))
	wantAll(t, c, old(2, 0, 1002, 2))
	wantMac(t, c, 2, 1, 1003)
	wantTick(t, c, 1003, nil)
	wantTick(t, c, 1004, asks(2))
	wantAll(t, c, old(2, 0, 1004, 3))
	wantMac(t, c, 2, 1, 1005)
	wantTick(t, c, 1005, nil)
	wantTick(t, c, 1006, nil)
	wantAll(t, c)
}

func TestTickOldIsAnswered(t *testing.T) { // P8.3, P8.4
	c := made()
	meet(c, 2, 0)
	wantMac(t, c, 2, 1, 64, asks(2)...)
	wantTick(t, c, 66, asks(2))
	wantTick(t, c, 68, asks(2))
	wantHeard(t, c, answer(2), 69, nil, nil, api.Mac{})
	wantAll(t, c, known(2, 69, 68))
	wantTick(t, c, 70, nil)
	wantMac(t, c, 2, 1, 132)
	wantMac(t, c, 2, 1, 133, asks(2)...)
	wantAll(t, c, old(2, 69, 133, 1))
}

func TestTickInOrder(t *testing.T) { // P8.4: neighbour by neighbour
	c := made()
	wantAsked(t, c, 2, 21, 0) // gives up at 6
	meet(c, 3, 0)
	wantTick(t, c, 2, asks(2))
	wantAsked(t, c, 4, 41, 2) // at 8
	wantTick(t, c, 4, asks(2, 4))
	wantAsked(t, c, 5, 51, 5) // at 11
	wantWait(t, c, 2, 22, 5)
	wantTick(t, c, 6, asks(4), 21, 22)
	wantAll(t, c, known(3, 0, 0), asking(4, 2, 6, 3, 41), asking(5, 5, 5, 1, 51))
	wantWait(t, c, 4, 42, 7)
	wantAsked(t, c, 2, 23, 7)
	wantTick(t, c, 8, asks(5), 41, 42)
	wantAll(t, c, known(3, 0, 0), asking(5, 5, 8, 2, 51), asking(2, 7, 7, 1, 23))
	wantMac(t, c, 3, 1, 64, asks(3)...)
	wantTick(t, c, 70, asks(3, 5, 2))
	wantTick(t, c, 72, asks(3, 2), 51)
	wantTick(t, c, 74, nil, 23) // both are taken out
	wantAll(t, c)
	for n := 2; n < 10; n++ {
		wantAsked(t, c, n, n, 80)
		wantWait(t, c, n, 10*n, 80)
	}
	wantTick(t, c, 82, asks(2, 3, 4, 5, 6, 7, 8, 9))
	wantTick(t, c, 84, asks(2, 3, 4, 5, 6, 7, 8, 9))
	wantTick(t, c, 86, nil, 2, 20, 3, 30, 4, 40, 5, 50, 6, 60, 7, 70, 8, 80, 9, 90)
	wantAll(t, c)
}

// P8.5

func TestAnnounce(t *testing.T) { // P8.5
	for _, x := range []struct {
		m api.Mac
		i api.Ip
	}{{ownMac, ownIp}, {api.Mac{}, api.Ip{}}, {api.Mac{255, 1, 2, 3, 4, 5}, api.Ip{255, 255, 255, 255}}} {
		c := arp.New(x.m, x.i)
		if got := c.Announce(); got != (api.Arp{SrcMac: x.m, SrcIp: x.i, DstIp: x.i}) {
			t.Errorf("Announce of %v, %v: %+v", x.m, x.i, got)
		}
		wantAll(t, c) // nothing waits, and the host is no neighbour of its own
		wantTick(t, c, 100, nil)
	}
}

func TestNewIsOfItsOwn(t *testing.T) { // P8.5: two caches share nothing
	one, other := made(), arp.New(mac(7), ip(7))
	wantAsked(t, one, 2, 7, 0)
	wantAll(t, other)
	if _, _, out, _ := other.Find(ip(2), 8, 0); len(out) != 1 || out[0].SrcMac != mac(7) || out[0].SrcIp != ip(7) {
		t.Errorf("a request of another host: %+v", out)
	}
	wantAll(t, one, asking(2, 0, 0, 1, 7))
	out, _, _ := other.Heard(api.Arp{SrcMac: mac(3), SrcIp: ip(3), DstIp: ip(7)}, 1)
	if len(out) != 1 || out[0] != (api.Arp{Answer: true, SrcMac: mac(7), SrcIp: ip(7), DstMac: mac(3), DstIp: ip(3)}) {
		t.Errorf("an answer of another host: %+v", out)
	}
}

func TestAllAndPending(t *testing.T) { // P8.5
	c := made()
	wantAll(t, c)
	wantAsked(t, c, 5, 50, 1)
	wantAsked(t, c, 2, 20, 2)
	meet(c, 9, 3)
	wantAsked(t, c, 3, 30, 4)
	wantWait(t, c, 5, 51, 4)
	wantWait(t, c, 3, 31, 4)
	wantAll(t, c, asking(5, 1, 1, 1, 50, 51), asking(2, 2, 2, 1, 20), known(9, 3, 3), asking(3, 4, 4, 1, 30, 31))
	wantHeard(t, c, answer(2), 5, nil, []int{20}, mac(2)) // its place stays
	wantAll(t, c, asking(5, 1, 1, 1, 50, 51), known(2, 5, 2), known(9, 3, 3), asking(3, 4, 4, 1, 30, 31))
}

func spoil(ns []int) {
	ns = ns[:cap(ns)]
	for i := range ns {
		ns[i] = -99
	}
}

func spoilArps(as []api.Arp) {
	as = as[:cap(as)]
	for i := range as {
		as[i] = anArp(true)
	}
}

func spoilAll(ns []api.Neighbour) {
	ns = ns[:cap(ns)]
	for i := range ns {
		spoil(ns[i].Pending)
		ns[i] = api.Neighbour{Ip: ip(66), State: 9, Pending: []int{66}}
	}
}

func TestAnswersShareNoMemory(t *testing.T) { // R4
	c, clean := made(), made()
	for _, each := range []*arp.Cache{c, clean} {
		mar := each == c
		use := func(ns []int, as []api.Arp) {
			if mar {
				spoil(ns)
				spoilArps(as)
			}
		}
		for now := range 40 {
			n := 2 + now*7%10
			_, gone, out, _ := each.Find(ip(n), 100+now, now)
			use(gone, out)
			_, gone, out, _ = each.Find(ip(n), 200+now, now)
			use(gone, out)
			if mar {
				spoilAll(each.All())
				spoil(each.Pending())
			}
			_, gone, out, _ = each.Find(ip(n), 300+now, now)
			use(gone, out)
			if now%3 == 0 {
				out, may, _ := each.Heard(request(2+now*3%10), now)
				use(may, out)
			}
			out, gone = each.Tick(now)
			use(gone, out)
		}
	}
	if got, due := told(c), told(clean); got != due {
		t.Errorf("who writes into answers changes the cache: %s, not %s", got, due)
	}
	one, other := clean.All(), clean.All()
	spoilAll(one)
	if got := fmt.Sprint(other); got != fmt.Sprint(clean.All()) {
		t.Errorf("two answers share memory: %v", other)
	}
	waits, due := clean.Pending(), fmt.Sprint(clean.Pending())
	spoilAll(other)
	if fmt.Sprint(waits) != due {
		t.Errorf("All and Pending share memory: %v, not %s", waits, due)
	}
}

func TestToldBuffersAreOfTheirOwn(t *testing.T) { // R4: what was told is not written into afterwards
	c := made()
	wantAsked(t, c, 2, 7, 0)
	wantWait(t, c, 2, 8, 0)
	_, gone, _, _ := c.Find(ip(2), 9, 0)
	all := c.All()
	_, may, _ := c.Heard(answer(2), 1)
	for n := 3; n < 12; n++ {
		c.Find(ip(n), n, 100)
		c.Find(ip(n), n, 100)
		c.Find(ip(n), n, 100)
	}
	c.Tick(102)
	c.Tick(104)
	_, left := c.Tick(106)
	for n := 3; n < 12; n++ {
		c.Find(ip(n), 1, 200)
		c.Find(ip(n), 1, 200)
	}
	if !slices.Equal(gone, []int{7}) || !slices.Equal(may, []int{8, 9}) || !slices.Equal(all[0].Pending, []int{8, 9}) {
		t.Errorf("what was told has changed: %v, %v, %v", gone, may, all)
	}
	if len(left) != 16 || left[0] != 3 && left[0] != 4 {
		t.Errorf("what was let go has changed: %v", left)
	}
}

// P8.6

func TestEachBufferIsToldOnce(t *testing.T) { // P8.6
	for seed := range 300 {
		r := rand.New(rand.NewSource(int64(seed)))
		c := made()
		waits := map[int]int{}      // by buffer: for whom
		first := map[int]int{}      // by neighbour: when it was first asked for
		sent := map[int]int{}       // by neighbour: the last buffer that was sent
		buf, now := 0, r.Intn(1000) // no buffer is handed in twice
		tell := func(b, n int) {
			if _, ok := waits[b]; !ok {
				t.Fatalf("seed %d: %d is told, and does not wait", seed, b)
			}
			if n > 0 && waits[b] != n {
				t.Fatalf("seed %d: %d waits for %d, and is told for %d", seed, b, waits[b], n)
			}
			delete(waits, b)
		}
		for range 400 {
			n := 2 + r.Intn(3+seed%12)
			switch r.Intn(4) {
			case 0, 1:
				buf++
				_, gone, out, err := c.Find(ip(n), buf, now)
				if err == api.ErrArpWait {
					waits[buf] = n
				}
				if err == api.ErrArpWait && len(out) == 1 {
					first[n] = now
				}
				for _, b := range gone {
					tell(b, n)
				}
			case 2:
				_, may, to := c.Heard(answer(n), now)
				for _, b := range may {
					if to != mac(n) || b <= sent[n] {
						t.Fatalf("seed %d: %d is sent to %v, behind %d", seed, b, to, sent[n])
					}
					sent[n] = b
					tell(b, n)
				}
			case 3:
				now++
				_, gone := c.Tick(now)
				for _, b := range gone {
					tell(b, 0)
				}
			}
			for b, n := range waits {
				if now-first[n] > 8 {
					t.Fatalf("seed %d: at %d %d still waits for %d, asked for at %d", seed, now, b, n, first[n])
				}
			}
			if got := c.Pending(); len(got) != len(waits) {
				t.Fatalf("seed %d: %v wait, not %v", seed, got, waits)
			}
		}
		for range 8 {
			now++
			_, gone := c.Tick(now)
			for _, b := range gone {
				tell(b, 0)
			}
		}
		if len(waits) != 0 {
			t.Fatalf("seed %d: %v still wait", seed, waits)
		}
	}
}

// model is the cache once more, by other means: neighbours by their numbers, and the order of numbers.
type model struct {
	order []int
	by    map[int]api.Neighbour
}

func (m *model) find(n, buf, now int) (api.Mac, []int, []api.Arp, api.Errno) {
	x, ok := m.by[n]
	if ok && x.State != api.ArpAsking {
		if x.State == api.ArpKnown && now-x.Since >= 64 {
			x.State, x.Tries, x.Asked = api.ArpOld, 1, now
			m.by[n] = x
			return x.Mac, nil, asks(n), api.OK
		}
		return x.Mac, nil, nil, api.OK
	}
	if ok {
		x.Pending = append(slices.Clone(x.Pending), buf)
		cut := max(len(x.Pending)-2, 0)
		gone := x.Pending[:cut]
		x.Pending = x.Pending[cut:]
		m.by[n] = x
		return api.Mac{}, gone, nil, api.ErrArpWait
	}
	if len(m.order) == 8 && !m.takeOut() {
		return api.Mac{}, nil, nil, api.ErrArpDead
	}
	m.order = append(m.order, n)
	m.by[n] = asking(n, now, now, 1, buf)
	return api.Mac{}, nil, asks(n), api.ErrArpWait
}

func (m *model) takeOut() bool {
	var may []int
	for _, n := range m.order {
		if m.by[n].State != api.ArpAsking {
			may = append(may, n)
		}
	}
	if len(may) == 0 {
		return false
	}
	slices.SortStableFunc(may, func(a, b int) int { return m.by[a].Since - m.by[b].Since })
	m.remove(may[0])
	return true
}

func (m *model) remove(n int) {
	delete(m.by, n)
	m.order = slices.DeleteFunc(m.order, func(x int) bool { return x == n })
}

func (m *model) heard(n int, a api.Arp, now int) ([]api.Arp, []int, api.Mac) {
	if a.SrcIp == ownIp || a.SrcIp == (api.Ip{}) {
		return nil, nil, api.Mac{}
	}
	x, ok := m.by[n]
	may, to := x.Pending, api.Mac{}
	if x.State == api.ArpAsking { // only for such a one buffers wait, and at least one
		to = a.SrcMac
	}
	switch {
	case ok:
		x = known(n, now, x.Asked)
		x.Mac = a.SrcMac
		m.by[n] = x
	case a.DstIp == ownIp && len(m.order) < 8:
		m.order = append(m.order, n)
		x = known(n, now, now)
		x.Mac = a.SrcMac
		m.by[n] = x
	}
	return duly(a), may, to
}

func (m *model) tick(now int) ([]api.Arp, []int) {
	var out []api.Arp
	var gone []int
	for _, n := range slices.Clone(m.order) {
		x := m.by[n]
		if x.State == api.ArpKnown || now-x.Asked < 2 {
			continue
		}
		if x.Tries == 3 {
			gone = append(gone, x.Pending...)
			m.remove(n)
			continue
		}
		x.Tries++
		x.Asked = now
		m.by[n] = x
		out = append(out, asks(n)...)
	}
	return out, gone
}

func (m *model) all() []api.Neighbour {
	var out []api.Neighbour
	for _, n := range m.order {
		out = append(out, m.by[n])
	}
	return out
}

func TestAgainstModel(t *testing.T) { // P8.2 to P8.5
	for seed := range 200 {
		r := rand.New(rand.NewSource(int64(1000 + seed)))
		c, m := made(), &model{by: map[int]api.Neighbour{}}
		now := 0
		for step := range 400 {
			n := 2 + r.Intn(5+seed%10)
			switch r.Intn(8) {
			case 0, 1, 2:
				wantMacs, gone, out, err := m.find(n, step, now)
				wantFind(t, c, n, step, now, wantMacs, gone, out, err)
			case 3, 4:
				a := speakers(n)[r.Intn(10)]
				a.SrcMac = mac(n + 1000*r.Intn(2))
				if r.Intn(10) == 0 {
					a.SrcIp = []api.Ip{{}, ownIp}[r.Intn(2)]
				}
				out, may, to := m.heard(n, a, now)
				wantHeard(t, c, a, now, out, may, to)
			case 5, 6:
				now += r.Intn(4)
				out, gone := m.tick(now)
				wantTick(t, c, now, out, gone...)
			case 7:
				now += []int{-3, 1, 62, 63, 64, 65}[r.Intn(6)]
			}
			wantAll(t, c, m.all()...)
			if t.Failed() {
				t.Fatalf("seed %d, step %d", seed, step)
			}
		}
	}
}

// R5

func TestSameCallsSameAnswers(t *testing.T) { // R5
	run := func() string {
		c, all := made(), ""
		for i := range 200 {
			m, gone, out, err := c.Find(ip(2+i*5%13), i, i)
			heard, may, to := c.Heard(request(2+i*3%17), i)
			ticked, left := c.Tick(i)
			all += fmt.Sprint(m, gone, out, err, heard, may, to, ticked, left, told(c))
		}
		return all
	}
	if run() != run() {
		t.Error("the same calls tell something else")
	}
}
