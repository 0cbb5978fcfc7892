package nic_test

import (
	"bytes"
	"fmt"
	"math"
	"strings"
	"testing"

	"packhorse/api"
	"packhorse/nic"
)

const registers = 8

// want holds an answered error against the one that is due.
func want(t *testing.T, what string, got, due api.Errno) {
	t.Helper()
	if got != due {
		t.Errorf("%s: error %d, not %d", what, got, due)
	}
}

// is holds a register against what it should be. (A look at RegEvents makes it 0.)
func is(t *testing.T, d *nic.Nic, reg, due int) {
	t.Helper()
	if v, err := d.Read(reg); v != due || err != api.OK {
		t.Errorf("register %d: %d, error %d, not %d", reg, v, err, due)
	}
}

// text is n bytes that differ from those of another seed.
func text(seed, n int) []byte {
	b := make([]byte, n)
	for i := range b {
		b[i] = byte(seed*31 + i*7 + 1)
	}
	return b
}

// told is all that calls can tell of a device. It uses the device up.
func told(d *nic.Nic) string {
	var s strings.Builder
	for reg := -1; reg <= registers; reg++ {
		v, err := d.Read(reg)
		fmt.Fprintln(&s, "register", reg, v, err)
	}
	for i := -1; i <= api.RingSize; i++ {
		frame, bad, err := d.Rx(i)
		fmt.Fprintf(&s, "rx %d %q %v %d\n", i, frame, bad, err)
	}
	at, ok := d.Oldest()
	fmt.Fprintln(&s, "oldest", at, ok)
	d.Write(api.RegCtl, 1)
	d.Link(true)
	taken := func(name string) {
		for f, err := d.Take(); err == api.OK; f, err = d.Take() {
			fmt.Fprintf(&s, "%s %q %v %d\n", name, f.Frame, f.Bad, f.Tick)
		}
	}
	taken("the device's")
	head, _ := d.Read(api.RegTxHead)
	d.Write(api.RegTxTail, (head+api.RingSize-1)%api.RingSize) // posts all but one: what the descriptors hold, and the clock
	taken("descriptor")
	d.Write(api.RegTxTail, head)
	taken("last descriptor")
	// a room is found by giving frames that are too long at first
	head, _ = d.Read(api.RegRxHead)
	d.Write(api.RegRxTail, (head+api.RingSize-1)%api.RingSize)
	much := make([]byte, 70000)
	for n := len(much); n >= 0; n -= 25 {
		for d.Give(much[:n], false) == api.OK {
			at, _ := d.Read(api.RegRxHead)
			fmt.Fprintln(&s, "room", at, n)
		}
	}
	return s.String()
}

// used is a device with something everywhere; every call makes the same one.
func used() *nic.Nic {
	d := nic.New()
	d.Write(api.RegCtl, 1)
	for i := range 5 {
		d.SetTx(i, text(i, 10+i))
		d.SetRx(i, 100*(i+1))
	}
	d.Tick()
	d.Write(api.RegTxTail, 3)
	d.Write(api.RegRxTail, 4)
	d.Tick()
	d.Tick()
	d.Take()
	d.Give(text(50, 9), false)
	d.Give(text(51, 7), true)
	d.Give(text(52, 7000), true)
	return d
}

func TestNew(t *testing.T) { // P2.1
	d := nic.New()
	for reg, due := range []int{0, 1, 0, 0, 0, 0, 0, 0} {
		is(t, d, reg, due)
	}
	for i := range api.RingSize {
		frame, bad, err := d.Rx(i)
		want(t, "Rx behind New", err, api.ErrNone)
		if len(frame) != 0 || bad {
			t.Errorf("Rx(%d) behind New: %q, %v", i, frame, bad)
		}
	}
	if at, ok := d.Oldest(); at != 0 || ok {
		t.Errorf("Oldest behind New: %d, %v", at, ok)
	}
	d.Write(api.RegCtl, 1)
	_, err := d.Take()
	want(t, "Take behind New", err, api.ErrNone)
	want(t, "Give behind New", d.Give(nil, false), api.ErrNicFull)
}

func TestNewDescriptors(t *testing.T) { // P2.1: what they hold is seen when they become the device's
	d := nic.New()
	d.Write(api.RegCtl, 1)
	for i := range api.RingSize {
		d.Write(api.RegTxTail, (i+1)%api.RingSize)
		f, err := d.Take()
		want(t, "Take of a new descriptor", err, api.OK)
		if len(f.Frame) != 0 || f.Bad || f.Tick != 0 {
			t.Errorf("new descriptor %d: %v", i, f)
		}
		d.Write(api.RegRxTail, (i+1)%api.RingSize)
		want(t, "Give of 1 byte into the room 0", d.Give([]byte{1}, false), api.ErrLong)
		want(t, "Give of 0 bytes into the room 0", d.Give(nil, false), api.OK)
	}
}

func TestDevicesAreApart(t *testing.T) { // P2.1, R5
	a, b := nic.New(), nic.New()
	a.Write(api.RegCtl, 1)
	a.SetTx(0, []byte("a"))
	a.Write(api.RegTxTail, 1)
	a.Link(false)
	a.Tick()
	if got, due := told(b), told(nic.New()); got != due {
		t.Errorf("one device changes another one:\n%s", got)
	}
}

func TestReadOfNoRegister(t *testing.T) { // P2.2
	for _, reg := range []int{-1, 8, 9, math.MaxInt, math.MinInt} {
		if v, err := used().Read(reg); v != 0 || err != api.ErrArg {
			t.Errorf("Read(%d): %d, %d", reg, v, err)
		}
	}
}

func TestReadOfEach(t *testing.T) { // P2.2
	d := used()
	for reg, due := range map[int]int{api.RegCtl: 1, api.RegLink: 1, api.RegRxHead: 2, api.RegRxTail: 4, api.RegTxHead: 1, api.RegTxTail: 3, api.RegMissed: 1} {
		is(t, d, reg, due)
		is(t, d, reg, due)
	}
	is(t, d, api.RegEvents, api.EventRx|api.EventTx)
}

func TestReadOfEventsMakesThemZero(t *testing.T) { // P2.2
	d := used()
	is(t, d, api.RegEvents, api.EventRx|api.EventTx)
	is(t, d, api.RegEvents, 0)
	d.Link(false)
	is(t, d, api.RegEvents, api.EventLink)
	is(t, d, api.RegEvents, 0)
	is(t, d, api.RegLink, 0)
	is(t, d, api.RegMissed, 1)
}

func TestReadOfOthersLeavesEvents(t *testing.T) { // P2.2
	d := used()
	for reg := -1; reg <= registers; reg++ {
		if reg != api.RegEvents {
			d.Read(reg)
		}
	}
	is(t, d, api.RegEvents, api.EventRx|api.EventTx)
}

func TestWriteThatMayNotBe(t *testing.T) { // P2.2, R3
	numbers := []int{math.MinInt, -1, 0, 1, 2, 3, 15, 16, 17, math.MaxInt}
	for _, reg := range []int{math.MinInt, -1, 0, 1, 2, 3, 4, 5, 6, 7, 8, math.MaxInt} {
		for _, v := range numbers {
			tail := (reg == api.RegRxTail || reg == api.RegTxTail) && v >= 0 && v <= 15
			if tail || reg == api.RegCtl && v >= 0 && v <= 2 {
				want(t, fmt.Sprintf("Write(%d, %d)", reg, v), used().Write(reg, v), api.OK)
				continue
			}
			d := used()
			want(t, fmt.Sprintf("Write(%d, %d)", reg, v), d.Write(reg, v), api.ErrArg)
			if told(d) != told(used()) {
				t.Errorf("Write(%d, %d) changed something beside its error", reg, v)
			}
		}
	}
}

func TestOnAndOff(t *testing.T) { // P2.2
	d := used()
	for _, v := range []int{1, 0, 0, 1} {
		want(t, "Write(RegCtl)", d.Write(api.RegCtl, v), api.OK)
		is(t, d, api.RegCtl, v)
	}
	if told(d) != told(used()) {
		t.Errorf("off and on again: not as before")
	}
}

func TestReset(t *testing.T) { // P2.2
	d := used()
	want(t, "Write(RegCtl, 2)", d.Write(api.RegCtl, 2), api.OK)
	is(t, d, api.RegCtl, 0)
	fresh := nic.New()
	for range 3 {
		fresh.Tick()
	}
	if got, due := told(d), told(fresh); got != due {
		t.Errorf("behind a reset:\n%s\nbehind New:\n%s", got, due)
	}
}

func TestResetWithTheLinkDown(t *testing.T) { // P2.2
	d := used()
	d.Link(false)
	d.Write(api.RegCtl, 2)
	is(t, d, api.RegEvents, 0)
	is(t, d, api.RegLink, 0)
	is(t, d, api.RegMissed, 0)
	d.Write(api.RegCtl, 1)
	_, err := d.Take()
	want(t, "Take behind a reset, the link down", err, api.ErrNicOff)
	d.Link(false)
	is(t, d, api.RegEvents, 0)
	d.Link(true)
	is(t, d, api.RegEvents, api.EventLink)
	_, err = d.Take()
	want(t, "Take behind a reset", err, api.ErrNone)
}

func TestResetLeavesTheClock(t *testing.T) { // P2.2
	d := nic.New()
	for range 7 {
		d.Tick()
	}
	d.Write(api.RegCtl, 2)
	d.Write(api.RegTxTail, 1)
	if at, ok := d.Oldest(); at != 7 || !ok {
		t.Errorf("Oldest: %d, %v, not 7", at, ok)
	}
}

func TestResetFreesDescriptors(t *testing.T) { // P2.2
	d := used()
	want(t, "SetTx of the device's", d.SetTx(1, []byte("x")), api.ErrArg)
	want(t, "SetRx of the device's", d.SetRx(2, 1), api.ErrArg)
	d.Write(api.RegCtl, 2)
	for i := range api.RingSize {
		want(t, "SetTx behind a reset", d.SetTx(i, []byte("x")), api.OK)
		want(t, "SetRx behind a reset", d.SetRx(i, 1), api.OK)
		_, _, err := d.Rx(i)
		want(t, "Rx behind a reset", err, api.ErrNone)
	}
}

func TestTailPosts(t *testing.T) { // P2.2: each descriptor is posted when the tail goes over it
	d := nic.New()
	d.Write(api.RegCtl, 1)
	for i := range 6 {
		d.SetTx(i, text(i, 4))
	}
	d.Write(api.RegTxTail, 2)
	d.Tick()
	d.Write(api.RegTxTail, 2)
	d.Tick()
	d.Write(api.RegTxTail, 3)
	d.Tick()
	d.Write(api.RegTxTail, 6)
	is(t, d, api.RegTxTail, 6)
	d.Tick()
	for i, due := range []int{0, 0, 2, 3, 3, 3} {
		if at, ok := d.Oldest(); at != due || !ok {
			t.Errorf("Oldest of %d: %d, %v, not %d", i, at, ok, due)
		}
		if f, err := d.Take(); f.Tick != due || err != api.OK || !bytes.Equal(f.Frame, text(i, 4)) {
			t.Errorf("frame %d: %v, %d, not posted at %d", i, f, err, due)
		}
	}
}

func TestTailGoesAround(t *testing.T) { // P2.2
	d := nic.New()
	d.Write(api.RegCtl, 1)
	for i := range api.RingSize {
		d.SetTx(i, text(i, 5))
	}
	d.Write(api.RegTxTail, 13)
	for range 13 {
		d.Take()
	}
	d.Tick()
	d.Write(api.RegTxTail, 15)
	d.Tick()
	d.Write(api.RegTxTail, 2)
	is(t, d, api.RegTxTail, 2)
	d.Tick()
	d.Write(api.RegTxTail, 12)
	for _, due := range []struct{ i, at int }{{13, 1}, {14, 1}, {15, 2}, {0, 2}, {1, 2}, {2, 3}, {3, 3}, {11, 3}} {
		for head := -1; head != due.i; { // those between are posted at 3, too
			head, _ = d.Read(api.RegTxHead)
			f, err := d.Take()
			if err != api.OK {
				t.Fatalf("descriptor %d: %d", head, err)
			}
			if head == due.i && (f.Tick != due.at || !bytes.Equal(f.Frame, text(head, 5))) {
				t.Errorf("descriptor %d: %v, not posted at %d", head, f, due.at)
			}
		}
	}
	_, err := d.Take()
	want(t, "Take behind the last", err, api.ErrNone)
}

func TestTailToPlaceZero(t *testing.T) { // P2.2: from 15 up to 0 is 15 alone
	d := nic.New()
	d.Write(api.RegCtl, 1)
	d.Write(api.RegTxTail, 15)
	for range 15 {
		d.Take()
	}
	d.Tick()
	d.Write(api.RegTxTail, 0)
	if f, err := d.Take(); f.Tick != 1 || err != api.OK {
		t.Errorf("descriptor 15: %v, %d", f, err)
	}
	_, err := d.Take()
	want(t, "Take behind 15", err, api.ErrNone)
	is(t, d, api.RegTxHead, 0)
}

func TestTailGoesBack(t *testing.T) { // P2.2: from the old tail up to v, which is nearly all the way around
	d := nic.New()
	d.Write(api.RegCtl, 1)
	for i := range 5 {
		d.SetTx(i, text(i, 3))
	}
	d.Write(api.RegTxTail, 5)
	d.Tick()
	d.Write(api.RegTxTail, 3)
	for i := range 3 {
		if f, err := d.Take(); f.Tick != 1 || err != api.OK || !bytes.Equal(f.Frame, text(i, 3)) {
			t.Errorf("frame %d: %v, %d, not posted at 1", i, f, err)
		}
	}
	_, err := d.Take()
	want(t, "Take behind the tail", err, api.ErrNone)
	want(t, "SetTx of what is the device's no more", d.SetTx(3, []byte("x")), api.OK)
}

func TestTailBackToTheHead(t *testing.T) { // P2.2: head and tail the same: none is the device's
	d := nic.New()
	d.Write(api.RegTxTail, 5)
	d.Write(api.RegTxTail, 0)
	d.Write(api.RegRxTail, 5)
	d.Write(api.RegRxTail, 0)
	for i := range api.RingSize {
		want(t, "SetTx", d.SetTx(i, []byte("x")), api.OK)
		want(t, "SetRx", d.SetRx(i, 3), api.OK)
	}
	if at, ok := d.Oldest(); at != 0 || ok {
		t.Errorf("Oldest: %d, %v", at, ok)
	}
	d.Write(api.RegCtl, 1)
	want(t, "Give", d.Give(nil, false), api.ErrNicFull)
}

func TestRxTailPostsNothing(t *testing.T) { // P2.2
	d := nic.New()
	d.Write(api.RegTxTail, 4)
	d.Tick()
	want(t, "Write(RegRxTail)", d.Write(api.RegRxTail, 6), api.OK)
	is(t, d, api.RegRxTail, 6)
	is(t, d, api.RegTxTail, 4)
	if at, ok := d.Oldest(); at != 0 || !ok {
		t.Errorf("Oldest: %d, %v", at, ok)
	}
}

// owned is a device with both heads at one place and both tails at another one.
func owned(head, tail int) *nic.Nic {
	d := nic.New()
	d.Write(api.RegCtl, 1)
	d.Write(api.RegTxTail, head)
	d.Write(api.RegRxTail, head)
	for range head {
		d.Take()
		d.Give(nil, false)
	}
	d.Write(api.RegTxTail, tail)
	d.Write(api.RegRxTail, tail)
	return d
}

func TestSetOfEveryDescriptor(t *testing.T) { // P2.3: with every head and every tail
	for head := range api.RingSize {
		for tail := range api.RingSize {
			count := (tail - head + api.RingSize) % api.RingSize
			for i := range api.RingSize {
				due := api.OK
				if (i-head+api.RingSize)%api.RingSize < count {
					due = api.ErrArg
				}
				d := owned(head, tail)
				want(t, fmt.Sprintf("SetTx(%d) from %d up to %d", i, head, tail), d.SetTx(i, []byte("x")), due)
				want(t, fmt.Sprintf("SetRx(%d) from %d up to %d", i, head, tail), d.SetRx(i, 9), due)
			}
		}
	}
}

func TestSetTx(t *testing.T) { // P2.3
	for _, x := range []struct {
		i, n int
		due  api.Errno
	}{
		{-1, 5, api.ErrArg},
		{0, 5, api.OK},
		{15, 5, api.OK},
		{16, 5, api.ErrArg},
		{math.MinInt, 5, api.ErrArg},
		{math.MaxInt, 5, api.ErrArg},
		{4, 0, api.ErrShort},
		{4, 1, api.OK},
		{4, 273, api.OK},
		{4, 274, api.OK},
		{4, 275, api.ErrLong},
		{4, 70000, api.ErrLong},
		{-1, 0, api.ErrArg}, // the first that is named
		{16, 275, api.ErrArg},
		{1, 5, api.ErrArg}, // 1 and 2 are the device's
		{2, 5, api.ErrArg},
		{1, 0, api.ErrArg},
		{2, 275, api.ErrArg},
		{3, 5, api.OK}, // behind the tail
		{0, 0, api.ErrShort},
		{0, 275, api.ErrLong},
	} {
		d := used()
		name := fmt.Sprintf("SetTx(%d, %d bytes)", x.i, x.n)
		want(t, name, d.SetTx(x.i, text(9, x.n)), x.due)
		if x.due == api.OK {
			holds(t, name, d, x.i, text(9, x.n))
		} else if told(d) != told(used()) {
			t.Errorf("%s changed something beside its error", name)
		}
	}
}

// holds looks what a free descriptor for sending holds, by posting it.
func holds(t *testing.T, name string, d *nic.Nic, i int, due []byte) {
	t.Helper()
	for err := api.OK; err == api.OK; { // with the head at the tail, the tail can go anywhere
		_, err = d.Take()
	}
	d.Write(api.RegTxTail, (i+1)%api.RingSize)
	for head := -1; head != i; {
		head, _ = d.Read(api.RegTxHead)
		f, err := d.Take()
		if err != api.OK {
			t.Fatalf("%s: %d at descriptor %d", name, err, head)
		}
		if head == i && !bytes.Equal(f.Frame, due) {
			t.Errorf("%s: it holds %q", name, f.Frame)
		}
	}
}

func TestSetTxOfNil(t *testing.T) { // P2.3, R2
	want(t, "SetTx(0, nil)", nic.New().SetTx(0, nil), api.ErrShort)
	want(t, "SetTx(0, empty)", nic.New().SetTx(0, []byte{}), api.ErrShort)
}

func TestSetTxAnew(t *testing.T) { // P2.3: the last one stands
	d := nic.New()
	d.Write(api.RegCtl, 1)
	d.SetTx(0, []byte("first"))
	d.SetTx(0, []byte("2nd"))
	d.SetTx(1, []byte("other"))
	holds(t, "SetTx twice", d, 0, []byte("2nd"))
}

func TestSetRx(t *testing.T) { // P2.3
	for _, x := range []struct {
		i, room int
		due     api.Errno
	}{
		{-1, 5, api.ErrArg},
		{0, 5, api.OK},
		{15, 5, api.OK},
		{16, 5, api.ErrArg},
		{math.MinInt, 5, api.ErrArg},
		{math.MaxInt, 5, api.ErrArg},
		{9, -1, api.ErrArg},
		{9, 0, api.OK},
		{9, 65535, api.OK},
		{9, 65536, api.ErrArg},
		{9, math.MinInt, api.ErrArg},
		{9, math.MaxInt, api.ErrArg},
		{2, 5, api.ErrArg}, // 2 and 3 are the device's
		{3, 5, api.ErrArg},
		{4, 5, api.OK}, // behind the tail
		{1, 5, api.OK}, // ahead of the head, and with a frame
		{1, -1, api.ErrArg},
	} {
		d := used()
		name := fmt.Sprintf("SetRx(%d, %d)", x.i, x.room)
		want(t, name, d.SetRx(x.i, x.room), x.due)
		if x.due != api.OK && told(d) != told(used()) {
			t.Errorf("%s changed something beside its error", name)
		}
	}
}

func TestRoomOfEveryDescriptor(t *testing.T) { // P2.3, P2.6
	for _, room := range []int{0, 1, 2, 274, 65534, 65535} {
		d := nic.New()
		d.Write(api.RegCtl, 1)
		for i := range api.RingSize {
			d.SetRx(i, room)
			d.Write(api.RegRxTail, (i+1)%api.RingSize)
			want(t, "Give of one more than the room", d.Give(text(i, room+1), false), api.ErrLong)
			want(t, "Give of the room", d.Give(text(i, room), false), api.OK)
			if frame, _, err := d.Rx(i); err != api.OK || !bytes.Equal(frame, text(i, room)) {
				t.Errorf("Rx(%d) of %d bytes: %d bytes, %d", i, room, len(frame), err)
			}
		}
		is(t, d, api.RegMissed, api.RingSize)
	}
}

func TestRx(t *testing.T) { // P2.4
	d := used()
	for _, x := range []struct {
		i     int
		frame []byte
		bad   bool
		due   api.Errno
	}{
		{-1, nil, false, api.ErrArg},
		{0, text(50, 9), false, api.OK},
		{1, text(51, 7), true, api.OK},
		{2, nil, false, api.ErrNone},
		{3, nil, false, api.ErrNone},
		{15, nil, false, api.ErrNone},
		{16, nil, false, api.ErrArg},
		{math.MinInt, nil, false, api.ErrArg},
		{math.MaxInt, nil, false, api.ErrArg},
	} {
		for range 2 { // a look takes nothing away
			frame, bad, err := d.Rx(x.i)
			if !bytes.Equal(frame, x.frame) || bad != x.bad || err != x.due {
				t.Errorf("Rx(%d): %q, %v, %d", x.i, frame, bad, err)
			}
		}
	}
	if told(d) != told(used()) {
		t.Errorf("Rx changed something")
	}
}

func TestRxOfTheLastDescriptor(t *testing.T) { // P2.4
	d := owned(15, 0)
	want(t, "Give", d.Give(nil, true), api.OK)
	if frame, bad, err := d.Rx(15); len(frame) != 0 || !bad || err != api.OK {
		t.Errorf("Rx(15): %q, %v, %d", frame, bad, err)
	}
}

func TestRxOfAnEmptyFrame(t *testing.T) { // P2.4: an empty frame is one
	d := nic.New()
	d.Write(api.RegCtl, 1)
	d.Write(api.RegRxTail, 2)
	d.Give([]byte{}, false)
	d.Give(nil, true)
	for i, due := range []bool{false, true} {
		if frame, bad, err := d.Rx(i); len(frame) != 0 || bad != due || err != api.OK {
			t.Errorf("Rx(%d): %q, %v, %d", i, frame, bad, err)
		}
	}
}

func TestSetRxTakesTheFrameAway(t *testing.T) { // P2.4
	d := used()
	want(t, "SetRx", d.SetRx(1, 20), api.OK)
	if frame, bad, err := d.Rx(1); len(frame) != 0 || bad || err != api.ErrNone {
		t.Errorf("Rx(1): %q, %v, %d", frame, bad, err)
	}
	if frame, _, err := d.Rx(0); !bytes.Equal(frame, text(50, 9)) || err != api.OK {
		t.Errorf("Rx(0): %q, %d", frame, err)
	}
	want(t, "SetRx that may not be", d.SetRx(0, -1), api.ErrArg)
	if frame, _, err := d.Rx(0); !bytes.Equal(frame, text(50, 9)) || err != api.OK {
		t.Errorf("Rx(0) behind an error: %q, %d", frame, err)
	}
}

func TestRxOfTheDevicesOwn(t *testing.T) { // P2.4: a frame that was not taken away stands till another one comes
	d := nic.New()
	d.Write(api.RegCtl, 1)
	for i := range api.RingSize {
		d.SetRx(i, 9)
	}
	d.Write(api.RegRxTail, 15)
	for i := range 15 {
		d.Give(text(i, 9), true)
	}
	d.Write(api.RegRxTail, 5)
	if frame, bad, err := d.Rx(0); !bytes.Equal(frame, text(0, 9)) || !bad || err != api.OK {
		t.Errorf("Rx(0): %q, %v, %d", frame, bad, err)
	}
	d.Give(text(15, 9), false)
	want(t, "Give into a descriptor with a frame", d.Give([]byte("new"), false), api.OK)
	if frame, bad, err := d.Rx(0); string(frame) != "new" || bad || err != api.OK {
		t.Errorf("Rx(0): %q, %v, %d", frame, bad, err)
	}
}

// posted is a device that is on, with one frame that was posted at 2.
func posted() *nic.Nic {
	d := nic.New()
	d.Write(api.RegCtl, 1)
	d.SetTx(0, []byte("frame"))
	d.Tick()
	d.Tick()
	d.Write(api.RegTxTail, 1)
	d.Tick()
	return d
}

func TestTake(t *testing.T) { // P2.5
	d := posted()
	is(t, d, api.RegEvents, 0)
	f, err := d.Take()
	if string(f.Frame) != "frame" || f.Bad || f.Tick != 2 || err != api.OK {
		t.Errorf("Take: %v, %d", f, err)
	}
	is(t, d, api.RegTxHead, 1)
	is(t, d, api.RegTxTail, 1)
	is(t, d, api.RegEvents, api.EventTx)
	is(t, d, api.RegMissed, 0)
	f, err = d.Take()
	if len(f.Frame) != 0 || f.Bad || f.Tick != 0 || err != api.ErrNone {
		t.Errorf("Take of none: %v, %d", f, err)
	}
	is(t, d, api.RegTxHead, 1)
	is(t, d, api.RegEvents, 0)
}

func TestTakeWhileOff(t *testing.T) { // P2.5
	for name, stop := range stops() {
		d, same := posted(), posted()
		stop(d)
		stop(same)
		f, err := d.Take()
		if len(f.Frame) != 0 || f.Bad || f.Tick != 0 || err != api.ErrNicOff {
			t.Errorf("Take, %s: %v, %d", name, f, err)
		}
		if at, ok := d.Oldest(); at != 2 || !ok {
			t.Errorf("Oldest, %s: %d, %v", name, at, ok)
		}
		if told(d) != told(same) {
			t.Errorf("Take, %s, changed something", name)
		}
		empty := nic.New()
		stop(empty)
		_, err = empty.Take()
		want(t, "Take of none, "+name, err, api.ErrNicOff)
		if at, ok := empty.Oldest(); at != 0 || ok {
			t.Errorf("Oldest of none, %s: %d, %v", name, at, ok)
		}
	}
}

// stops are the ways in which a device takes and gives nothing.
func stops() map[string]func(d *nic.Nic) {
	return map[string]func(d *nic.Nic){
		"off":               func(d *nic.Nic) { d.Write(api.RegCtl, 0) },
		"link down":         func(d *nic.Nic) { d.Link(false) },
		"off and link down": func(d *nic.Nic) { d.Write(api.RegCtl, 0); d.Link(false) },
	}
}

func TestTakeGoesOnWhenItIsOnAgain(t *testing.T) { // P2.5: what was posted waits
	d := posted()
	d.Write(api.RegCtl, 0)
	d.Link(false)
	d.Tick()
	d.Link(true)
	d.Write(api.RegCtl, 1)
	if f, err := d.Take(); string(f.Frame) != "frame" || f.Tick != 2 || err != api.OK {
		t.Errorf("Take: %v, %d", f, err)
	}
}

func TestOldest(t *testing.T) { // P2.5
	d := nic.New()
	for i := range 4 {
		d.SetTx(i, text(i, 5))
		d.Write(api.RegTxTail, i+1)
		d.Tick()
		if at, ok := d.Oldest(); at != 0 || !ok {
			t.Errorf("Oldest while off: %d, %v", at, ok)
		}
	}
	d.Write(api.RegCtl, 1)
	for i := range 4 {
		if at, ok := d.Oldest(); at != i || !ok {
			t.Errorf("Oldest: %d, %v, not %d", at, ok, i)
		}
		is(t, d, api.RegTxHead, i)
		d.Take()
	}
	if at, ok := d.Oldest(); at != 0 || ok {
		t.Errorf("Oldest of none: %d, %v", at, ok)
	}
}

// waiting is a device that is on, with the rooms 3 and 5 for frames.
func waiting() *nic.Nic {
	d := nic.New()
	d.Write(api.RegCtl, 1)
	d.SetRx(0, 3)
	d.SetRx(1, 5)
	d.Write(api.RegRxTail, 2)
	return d
}

func TestGive(t *testing.T) { // P2.6
	d := waiting()
	is(t, d, api.RegEvents, 0)
	want(t, "Give of one more than the room", d.Give([]byte("four"), false), api.ErrLong)
	is(t, d, api.RegMissed, 1)
	is(t, d, api.RegRxHead, 0)
	is(t, d, api.RegEvents, 0)
	_, _, err := d.Rx(0)
	want(t, "Rx behind ErrLong", err, api.ErrNone)
	want(t, "Give", d.Give([]byte("abc"), true), api.OK)
	is(t, d, api.RegMissed, 1)
	is(t, d, api.RegRxHead, 1)
	is(t, d, api.RegRxTail, 2)
	is(t, d, api.RegEvents, api.EventRx)
	want(t, "Give", d.Give([]byte("good"), false), api.OK)
	for i, due := range []struct {
		frame string
		bad   bool
	}{{"abc", true}, {"good", false}} {
		if frame, bad, err := d.Rx(i); string(frame) != due.frame || bad != due.bad || err != api.OK {
			t.Errorf("Rx(%d): %q, %v, %d", i, frame, bad, err)
		}
	}
	is(t, d, api.RegEvents, api.EventRx)
	for i := range 3 {
		want(t, "Give without a descriptor", d.Give(make([]byte, 70000*i), false), api.ErrNicFull)
		is(t, d, api.RegMissed, 2+i)
	}
	is(t, d, api.RegRxHead, 2)
	is(t, d, api.RegEvents, 0)
}

func TestGiveWhileOff(t *testing.T) { // P2.6: nothing is missed then
	for name, stop := range stops() {
		d, same := waiting(), waiting()
		stop(d)
		stop(same)
		want(t, "Give, "+name, d.Give([]byte("abc"), false), api.ErrNicOff)
		want(t, "Give of too much, "+name, d.Give([]byte("abcd"), false), api.ErrNicOff)
		if told(d) != told(same) {
			t.Errorf("Give, %s, changed something", name)
		}
		empty := nic.New()
		stop(empty)
		want(t, "Give without a descriptor, "+name, empty.Give(nil, false), api.ErrNicOff)
		is(t, empty, api.RegMissed, 0)
	}
}

func TestGiveFillsTheHeads(t *testing.T) { // P2.6: its room counts, not another one's
	d := waiting()
	want(t, "Give of 5 into 3", d.Give(text(1, 5), false), api.ErrLong)
	want(t, "Give of 2 into 3", d.Give(text(2, 2), false), api.OK)
	want(t, "Give of 5 into 5", d.Give(text(3, 5), false), api.OK)
	is(t, d, api.RegMissed, 1)
}

func TestGiveKeepsTheRoom(t *testing.T) { // P2.6: the descriptor holds its room still
	d := waiting()
	d.Give([]byte("a"), false)
	d.Give([]byte("b"), false)
	d.Write(api.RegRxTail, 1)
	for range 14 {
		d.Give(nil, false)
	}
	is(t, d, api.RegRxHead, 0)
	want(t, "Give of 4 into 3", d.Give([]byte("four"), false), api.ErrLong)
	want(t, "Give of 3 into 3", d.Give([]byte("two"), false), api.OK)
}

func TestLink(t *testing.T) { // P2.7
	d := nic.New()
	for _, x := range []struct {
		up    bool
		state int
		event int
	}{{true, 1, 0}, {false, 0, 4}, {false, 0, 0}, {true, 1, 4}, {true, 1, 0}} {
		d.Link(x.up)
		is(t, d, api.RegLink, x.state)
		is(t, d, api.RegEvents, x.event)
	}
	d.Link(false)
	d.Link(true)
	is(t, d, api.RegEvents, api.EventLink)
}

func TestLinkLeavesTheRest(t *testing.T) { // P2.7
	d := used()
	d.Link(false)
	is(t, d, api.RegEvents, api.EventRx|api.EventTx|api.EventLink)
	d.Link(true)
	d.Read(api.RegEvents)
	other := used()
	other.Read(api.RegEvents)
	if told(d) != told(other) {
		t.Errorf("the link down and up again: not as before")
	}
}

func TestTick(t *testing.T) { // P2.7
	d := nic.New()
	d.Write(api.RegCtl, 1)
	for due := range 40 {
		i := due % api.RingSize
		d.Write(api.RegTxTail, (i+1)%api.RingSize)
		if f, err := d.Take(); f.Tick != due || err != api.OK {
			t.Errorf("behind %d ticks: %v, %d", due, f, err)
		}
		d.Tick()
	}
	is(t, d, api.RegEvents, api.EventTx)
}

func TestTickWhileOff(t *testing.T) { // P2.7: time goes on
	d := nic.New()
	d.Link(false)
	d.Tick()
	d.Tick()
	d.Write(api.RegTxTail, 1)
	if at, ok := d.Oldest(); at != 2 || !ok {
		t.Errorf("Oldest: %d, %v", at, ok)
	}
}

func TestTakenInOrder(t *testing.T) { // P2.8: many times around the ring
	d := nic.New()
	d.Write(api.RegCtl, 1)
	type posting struct {
		frame []byte
		at    int
	}
	var due []posting
	count, tail := 0, 0
	for now := range 400 {
		for range (now * 7) % 6 {
			if len(due) == api.RingSize-1 {
				break
			}
			frame := text(count, 1+count%api.MaxFrame)
			want(t, "SetTx", d.SetTx(tail, frame), api.OK)
			tail = (tail + 1) % api.RingSize
			want(t, "Write", d.Write(api.RegTxTail, tail), api.OK)
			due = append(due, posting{frame, now})
			count++
		}
		for range (now * 5) % 7 {
			f, err := d.Take()
			if len(due) == 0 {
				want(t, "Take of none", err, api.ErrNone)
				break
			}
			if err != api.OK || !bytes.Equal(f.Frame, due[0].frame) || f.Tick != due[0].at || f.Bad {
				t.Fatalf("at %d: %v, %d; not %v", now, f, err, due[0])
			}
			due = due[1:]
		}
		d.Tick()
	}
	if count < 10*api.RingSize {
		t.Errorf("only %d frames were posted", count)
	}
}

func TestManyWithOneTail(t *testing.T) { // P2.8: laid down in any order, taken in the ring's
	for first := range api.RingSize {
		d := owned(first, first)
		for i := api.RingSize - 2; i >= 0; i-- {
			want(t, "SetTx", d.SetTx((first+i)%api.RingSize, text(i, 20+i)), api.OK)
		}
		d.Write(api.RegTxTail, (first+api.RingSize-1)%api.RingSize)
		for i := range api.RingSize - 1 {
			if f, err := d.Take(); err != api.OK || !bytes.Equal(f.Frame, text(i, 20+i)) {
				t.Errorf("from %d on, frame %d: %v, %d", first, i, f, err)
			}
		}
		_, err := d.Take()
		want(t, "Take behind the last", err, api.ErrNone)
	}
}

func TestGivenInOrder(t *testing.T) { // P2.8
	for first := range api.RingSize {
		d := owned(first, first)
		for i := range api.RingSize - 1 {
			want(t, "SetRx", d.SetRx((first+i)%api.RingSize, 300), api.OK)
		}
		d.Write(api.RegRxTail, (first+api.RingSize-1)%api.RingSize)
		for i := range api.RingSize - 1 {
			want(t, "Give", d.Give(text(i, 15*i), i%3 == 0), api.OK)
		}
		want(t, "Give into a full ring", d.Give([]byte("x"), false), api.ErrNicFull)
		for i := range api.RingSize - 1 {
			frame, bad, err := d.Rx((first + i) % api.RingSize)
			if !bytes.Equal(frame, text(i, 15*i)) || bad != (i%3 == 0) || err != api.OK {
				t.Errorf("from %d on, frame %d: %q, %v, %d", first, i, frame, bad, err)
			}
		}
	}
}

func TestPostedAgain(t *testing.T) { // P2.8: as it was laid down, once for each time that it was posted
	d := nic.New()
	d.Write(api.RegCtl, 1)
	d.SetTx(0, []byte("keep"))
	for now := range 3 {
		d.Write(api.RegTxTail, 1)
		if f, err := d.Take(); string(f.Frame) != "keep" || f.Tick != now || err != api.OK {
			t.Errorf("round %d: %v, %d", now, f, err)
		}
		d.Write(api.RegTxTail, 0)
		for range 15 {
			d.Take()
		}
		is(t, d, api.RegTxHead, 0)
		d.Tick()
	}
}

// spoil writes over b and the spare room behind it.
func spoil(b []byte) {
	b = b[:cap(b)]
	for i := range b {
		b[i] ^= 0xff
	}
}

func TestFramesAreNotKept(t *testing.T) { // R4: what is handed in
	room := text(1, 64)
	whole := bytes.Clone(room)
	d := nic.New()
	d.Write(api.RegCtl, 1)
	d.SetRx(0, 64)
	d.Write(api.RegRxTail, 1)
	want(t, "SetTx", d.SetTx(0, room[:20]), api.OK)
	want(t, "Give", d.Give(room[:20], false), api.OK)
	if !bytes.Equal(room, whole) {
		t.Errorf("what was handed in is changed: %q", room)
	}
	spoil(room)
	d.Write(api.RegTxTail, 1)
	if f, _ := d.Take(); !bytes.Equal(f.Frame, whole[:20]) {
		t.Errorf("Take: %q", f.Frame)
	}
	if frame, _, _ := d.Rx(0); !bytes.Equal(frame, whole[:20]) {
		t.Errorf("Rx: %q", frame)
	}
}

func TestAnswersAreNewMemory(t *testing.T) { // R4: what is answered
	d := used()
	first, _, _ := d.Rx(0)
	second, _, _ := d.Rx(0)
	spoil(first)
	if !bytes.Equal(second, text(50, 9)) {
		t.Errorf("two answers of Rx share memory")
	}
	if third, _, _ := d.Rx(0); !bytes.Equal(third, text(50, 9)) {
		t.Errorf("Rx hands out what the device keeps: %q", third)
	}
	d = posted()
	f, _ := d.Take()
	spoil(f.Frame)
	d.Write(api.RegTxTail, 0)
	for range 15 {
		d.Take()
	}
	d.Write(api.RegTxTail, 1)
	if f, _ = d.Take(); string(f.Frame) != "frame" {
		t.Errorf("Take hands out what the device keeps: %q", f.Frame)
	}
}

func TestExamples(t *testing.T) { // the chapter's table
	d := nic.New()
	want(t, "SetTx", d.SetTx(0, []byte("a")), api.OK)
	want(t, "Write", d.Write(api.RegTxTail, 1), api.OK)
	_, err := d.Take()
	want(t, "Take", err, api.ErrNicOff)
	want(t, "Write", d.Write(api.RegCtl, 1), api.OK)
	if f, err := d.Take(); string(f.Frame) != "a" || f.Tick != 0 || err != api.OK {
		t.Errorf("Take: %v, %d", f, err)
	}
	_, err = d.Take()
	want(t, "Take", err, api.ErrNone)
	is(t, d, api.RegEvents, 2)
	is(t, d, api.RegEvents, 0)
	want(t, "SetRx", d.SetRx(0, 3), api.OK)
	want(t, "Write", d.Write(api.RegRxTail, 1), api.OK)
	want(t, "Give", d.Give([]byte("abcd"), false), api.ErrLong)
	want(t, "Give", d.Give([]byte("abc"), true), api.OK)
	if frame, bad, err := d.Rx(0); string(frame) != "abc" || !bad || err != api.OK {
		t.Errorf("Rx: %q, %v, %d", frame, bad, err)
	}
	want(t, "Give", d.Give([]byte("x"), false), api.ErrNicFull)
	is(t, d, api.RegMissed, 2)
}
