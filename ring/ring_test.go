package ring_test

import (
	"fmt"
	"math"
	"math/rand"
	"slices"
	"strings"
	"testing"

	"packhorse/api"
	"packhorse/nic"
	"packhorse/pool"
	"packhorse/ring"
)

// most is how many buffers each side of a ring may hold.
const most = 15

// rig is a device, its driver, and the pool of both.
type rig struct {
	d *nic.Nic
	p *pool.Pool
	r *ring.Ring
}

// made is one whose pool had so many buffers, all free.
func made(t *testing.T, many int) *rig {
	t.Helper()
	p, err := pool.New(many)
	if err != api.OK {
		t.Fatalf("a pool of %d: error %d", many, err)
	}
	d := nic.New()
	return &rig{d, p, ring.New(d, p)}
}

// used is one whose rings have gone around, with all kinds of buffers and descriptors; every call makes the same one.
func used(t *testing.T) *rig {
	t.Helper()
	g := made(t, 30)
	for k := range 21 {
		g.send(t, "h", fmt.Sprint("gone ", k))
		g.take(t)
		g.give(t, fmt.Sprint("came ", k))
		for _, c := range g.r.Poll() {
			g.p.Free(c.Buf)
		}
	}
	g.send(t, "head ", "taken")
	g.d.Tick()
	g.send(t, "", "waits")
	g.p.Hold(g.send(t, "held ", "by two"))
	g.take(t)
	g.give(t, "good")
	want(t, "Give", g.d.Give([]byte("damaged"), true), api.OK)
	g.get(t, "", "own")
	return g
}

// get is a buffer of the caller's that says this.
func (g *rig) get(t *testing.T, head, data string) int {
	t.Helper()
	id, err := g.p.Get()
	want(t, "Get", err, api.OK)
	want(t, "Set", g.p.Set(id, []byte(data)), api.OK)
	want(t, "Front", g.p.Front(id, []byte(head)), api.OK)
	return id
}

// send posts a new buffer, which the ring alone holds then.
func (g *rig) send(t *testing.T, head, data string) int {
	t.Helper()
	id := g.get(t, head, data)
	want(t, "Send", g.r.Send(id), api.OK)
	want(t, "Free", g.p.Free(id), api.OK)
	return id
}

// take is the frame that the device sends next.
func (g *rig) take(t *testing.T) string {
	t.Helper()
	f, err := g.d.Take()
	want(t, "Take", err, api.OK)
	return string(f.Frame)
}

func (g *rig) give(t *testing.T, frame string) {
	t.Helper()
	want(t, "Give", g.d.Give([]byte(frame), false), api.OK)
}

func (g *rig) reg(which int) int {
	v, _ := g.d.Read(which)
	return v
}

// told is all that calls can tell of a rig. It uses it up.
func (g *rig) told() string {
	var s strings.Builder
	for _, turn := range []string{"", "polled", "sent", "reset"} {
		switch turn {
		case "polled":
			fmt.Fprintln(&s, "come", g.r.Poll())
		case "sent":
			g.d.Link(true)
			for f, err := g.d.Take(); err == api.OK; f, err = g.d.Take() {
				fmt.Fprintf(&s, "taken %q of tick %d\n", f.Frame, f.Tick)
			}
			fmt.Fprintln(&s, "come", g.r.Poll())
		case "reset":
			g.r.Reset()
		}
		g.show(&s)
	}
	return s.String()
}

// show tells how a rig stands, and leaves it so.
func (g *rig) show(s *strings.Builder) {
	fmt.Fprintln(s, "sending", g.r.Sending(), "coming", g.r.Coming(), "room", g.r.Room(), "left", g.p.Left())
	for id := range g.p.Size() {
		b, err := g.p.See(id)
		fmt.Fprintf(s, "%d: %d %q %q, error %d\n", id, b.Refs, b.Head, b.Data, err)
	}
	for _, reg := range []int{api.RegCtl, api.RegLink, api.RegRxHead, api.RegRxTail, api.RegTxHead, api.RegTxTail, api.RegMissed} {
		fmt.Fprintln(s, "register", reg, g.reg(reg))
	}
	for i := range api.RingSize {
		frame, bad, err := g.d.Rx(i)
		fmt.Fprintf(s, "descriptor %d: %q %v, error %d\n", i, frame, bad, err)
	}
}

func want(t *testing.T, what string, got, due api.Errno) {
	t.Helper()
	if got != due {
		t.Errorf("%s: error %d, not %d", what, got, due)
	}
}

// from is so many numbers from first on.
func from(first, many int) []int {
	var l []int
	for k := range many {
		l = append(l, first+k)
	}
	return l
}

func (g *rig) wantSending(t *testing.T, what string, due ...int) {
	t.Helper()
	if l := g.r.Sending(); !slices.Equal(l, due) {
		t.Errorf("%s: sending %v, not %v", what, l, due)
	}
	if n := g.r.Room(); n != most-len(due) {
		t.Errorf("%s: room for %d beside %v", what, n, due)
	}
}

func (g *rig) wantComing(t *testing.T, what string, due ...int) {
	t.Helper()
	if l := g.r.Coming(); !slices.Equal(l, due) {
		t.Errorf("%s: coming %v, not %v", what, l, due)
	}
}

func (g *rig) wantPoll(t *testing.T, what string, due ...api.Come) {
	t.Helper()
	if l := g.r.Poll(); !slices.Equal(l, due) {
		t.Errorf("%s: Poll tells %v, not %v", what, l, due)
	}
}

func (g *rig) wantLeft(t *testing.T, what string, due int) {
	t.Helper()
	if n := g.p.Left(); n != due {
		t.Errorf("%s: %d buffers are left, not %d", what, n, due)
	}
}

func (g *rig) wantBuffer(t *testing.T, what string, id, refs int, head, data string) {
	t.Helper()
	b, err := g.p.See(id)
	if err != api.OK || b.Refs != refs || string(b.Head) != head || string(b.Data) != data {
		t.Errorf("%s: buffer %d has %d holders, %q %q, error %d, not %d, %q %q", what, id, b.Refs, b.Head, b.Data, err, refs, head, data)
	}
}

func (g *rig) wantFree(t *testing.T, what string, ids ...int) {
	t.Helper()
	for _, id := range ids {
		if b, err := g.p.See(id); err != api.ErrNone {
			t.Errorf("%s: buffer %d has %d holders", what, id, b.Refs)
		}
	}
}

func (g *rig) wantReg(t *testing.T, what string, which, due int) {
	t.Helper()
	if v := g.reg(which); v != due {
		t.Errorf("%s: register %d is %d, not %d", what, which, v, due)
	}
}

// wantFresh says that the device is as one that was just begun with, with so many buffers for coming frames.
func (g *rig) wantFresh(t *testing.T, what string, link, filled int) {
	t.Helper()
	for which, due := range []int{1, link, 0, filled, 0, 0, 0, 0} {
		g.wantReg(t, what, which, due)
	}
	for i := range api.RingSize {
		if frame, _, err := g.d.Rx(i); err != api.ErrNone {
			t.Errorf("%s: descriptor %d has %q, error %d", what, i, frame, err)
		}
	}
}

// wantHeldOnce says that each of these has no other holder.
func (g *rig) wantHeldOnce(t *testing.T, what string, ids []int) {
	t.Helper()
	for _, id := range ids {
		g.wantBuffer(t, what, id, 1, "", "")
	}
}

// refused holds a Send with an error against none at all: a later call can't tell them apart.
func refused(t *testing.T, what string, make func(t *testing.T) *rig, id int, due api.Errno) {
	t.Helper()
	g := make(t)
	want(t, what, g.r.Send(id), due)
	if got, as := g.told(), make(t).told(); got != as {
		t.Errorf("%s has changed something:\n%s\nnot\n%s", what, got, as)
	}
}

func TestExamples(t *testing.T) { // the chapter's table
	g := made(t, 20)
	g.wantLeft(t, "New", 5)
	g.wantComing(t, "New", from(0, 15)...)
	if id := g.get(t, "", "x"); id != 15 {
		t.Fatalf("Get: %d", id)
	}
	want(t, "Send", g.r.Send(15), api.OK)
	want(t, "Free", g.p.Free(15), api.OK)
	g.wantBuffer(t, "Send", 15, 1, "", "x")
	if f := g.take(t); f != "x" {
		t.Errorf("Take: %q", f)
	}
	g.wantPoll(t, "sent")
	g.wantFree(t, "sent", 15)
	g.give(t, "y")
	g.wantPoll(t, "given", api.Come{Buf: 0})
	g.wantBuffer(t, "given", 0, 1, "", "y")
	g.wantComing(t, "given", from(1, 15)...)
}

func TestNew(t *testing.T) { // P6.1: as many as there are, but 15 at most
	for _, many := range []int{1, 2, 14, 15, 16, 160, 4096} {
		g := made(t, many)
		what := fmt.Sprint("a pool of ", many)
		filled := min(many, most)
		g.wantComing(t, what, from(0, filled)...)
		g.wantSending(t, what)
		g.wantLeft(t, what, many-filled)
		g.wantFresh(t, what, 1, filled)
		g.wantHeldOnce(t, what, from(0, filled))
	}
}

func TestNewGivesRoomForAFrame(t *testing.T) { // P6.1: 274 bytes in each descriptor, and not one more
	g := made(t, 15)
	for k := range most {
		want(t, "Give of 275", g.d.Give(make([]byte, 275), false), api.ErrLong)
		want(t, fmt.Sprint("Give of 274 into ", k), g.d.Give(make([]byte, 274), false), api.OK)
	}
	want(t, "a frame more", g.d.Give(nil, false), api.ErrNicFull)
}

func TestNewTakesTheLeastBuffers(t *testing.T) { // P6.1: those of others stay theirs
	p, _ := pool.New(20)
	for id := range 20 {
		p.Get()
		p.Set(id, []byte("old"))
	}
	for _, id := range []int{3, 0, 17, 9} {
		p.Free(id)
	}
	g := &rig{d: nic.New(), p: p}
	g.r = ring.New(g.d, p)
	g.wantComing(t, "New", 0, 3, 9, 17)
	g.wantHeldOnce(t, "New", []int{0, 3, 9, 17})
	g.wantBuffer(t, "another one's", 1, 1, "", "old")
	g.wantReg(t, "New", api.RegRxTail, 4)
}

func TestNewOfAnEmptyPool(t *testing.T) { // P6.1, P6.3: without any buffer nothing is filled, till one is free
	p, _ := pool.New(2)
	p.Get()
	p.Get()
	g := &rig{d: nic.New(), p: p}
	g.r = ring.New(g.d, p)
	g.wantComing(t, "New")
	g.wantFresh(t, "New", 1, 0)
	want(t, "Give", g.d.Give([]byte("x"), false), api.ErrNicFull)
	g.wantPoll(t, "none is free yet")
	g.wantComing(t, "none is free yet")
	p.Free(1)
	g.wantPoll(t, "one is free")
	g.wantComing(t, "one is free", 1)
	g.give(t, "y")
	g.wantPoll(t, "given", api.Come{Buf: 1})
	g.wantBuffer(t, "given", 1, 1, "", "y")
	g.wantComing(t, "given")
}

func TestNewResetsTheDevice(t *testing.T) { // P6.1: RegCtl is written 2, then 1; clock and link stay
	for _, up := range []bool{true, false} {
		d := nic.New()
		d.Write(api.RegCtl, 1)
		d.SetRx(0, 9)
		d.Write(api.RegRxTail, 1)
		d.SetTx(0, []byte("old"))
		d.SetTx(1, []byte("older"))
		d.Write(api.RegTxTail, 2)
		d.Take()
		d.Give([]byte("x"), false)
		d.Give([]byte("y"), false)
		d.Tick()
		d.Link(up)
		p, _ := pool.New(20)
		g := &rig{d, p, ring.New(d, p)}
		link := 0
		if up {
			link = 1
		}
		g.wantFresh(t, "New", link, most)
		d.Link(true)
		if _, err := d.Take(); err != api.ErrNone {
			t.Errorf("Take behind New: error %d", err)
		}
		g.get(t, "", "new")
		want(t, "Send", g.r.Send(15), api.OK)
		if f, _ := d.Take(); string(f.Frame) != "new" || f.Tick != 1 {
			t.Errorf("Take: %q of tick %d", f.Frame, f.Tick)
		}
	}
}

func TestRingsAreApart(t *testing.T) { // R5: two drivers with one pool, each with its own device
	p, _ := pool.New(40)
	a, b := &rig{d: nic.New(), p: p}, &rig{d: nic.New(), p: p}
	a.r = ring.New(a.d, p)
	b.r = ring.New(b.d, p)
	a.wantComing(t, "a", from(0, 15)...)
	b.wantComing(t, "b", from(15, 15)...)
	a.send(t, "", "of a")
	b.wantSending(t, "b")
	b.give(t, "to b")
	a.wantPoll(t, "a")
	b.wantPoll(t, "b", api.Come{Buf: 15})
	b.r.Reset()
	a.wantSending(t, "a", 30)
	a.wantComing(t, "a", from(0, 15)...)
	b.wantComing(t, "b", append(from(16, 14), 31)...)
}

func TestSend(t *testing.T) { // P6.2
	g := made(t, 20)
	id := g.get(t, "head", "data")
	want(t, "Send", g.r.Send(id), api.OK)
	g.wantReg(t, "Send", api.RegTxTail, 1)
	g.wantReg(t, "Send", api.RegTxHead, 0)
	g.wantBuffer(t, "Send", id, 2, "head", "data")
	g.wantSending(t, "Send", id)
	g.wantComing(t, "Send", from(0, 15)...)
	if f := g.take(t); f != "headdata" {
		t.Errorf("sent %q", f)
	}
	g.wantSending(t, "taken, and not polled", id)
	g.wantBuffer(t, "taken, and not polled", id, 2, "head", "data")
}

func TestSendOfManyLengths(t *testing.T) { // P6.2: head and data, one behind the other, up to 274 bytes in all
	for _, x := range []struct {
		head, data int
		due        api.Errno
	}{
		{0, 0, api.ErrShort}, {1, 0, api.OK}, {0, 1, api.OK}, {104, 0, api.OK}, {104, 170, api.OK},
		{0, 274, api.OK}, {1, 273, api.OK}, {1, 274, api.ErrLong}, {104, 171, api.ErrLong}, {0, 275, api.ErrLong}, {104, 288, api.ErrLong},
	} {
		head, data := strings.Repeat("h", x.head), strings.Repeat("d", x.data)
		start := func(t *testing.T) *rig {
			g := made(t, 20)
			g.get(t, head, data)
			return g
		}
		what := fmt.Sprintf("Send of %d and %d bytes", x.head, x.data)
		if x.due != api.OK {
			refused(t, what, start, 15, x.due)
			continue
		}
		g := start(t)
		want(t, what, g.r.Send(15), api.OK)
		if f := g.take(t); f != head+data {
			t.Errorf("%s: %q", what, f)
		}
	}
}

// own is the buffer of used that its caller alone holds.
func own(t *testing.T, g *rig) int {
	t.Helper()
	for id := range g.p.Size() {
		if b, _ := g.p.See(id); string(b.Data) == "own" {
			return id
		}
	}
	t.Fatal("there is no own buffer")
	return 0
}

func TestSendOfNone(t *testing.T) { // P6.2: ErrNone is named first
	down := func(t *testing.T) *rig {
		g := used(t)
		g.d.Link(false)
		return g
	}
	for name, start := range map[string]func(t *testing.T) *rig{"used": used, "full": full, "with the link down": down} {
		g := start(t)
		free := slices.DeleteFunc(from(0, g.p.Size()), func(id int) bool {
			_, err := g.p.See(id)
			return err == api.OK
		})
		if len(free) == 0 {
			t.Fatalf("%s: no buffer is free", name)
		}
		for _, id := range append([]int{-1, g.p.Size(), g.p.Size() + 1, math.MaxInt, math.MinInt}, free...) {
			refused(t, fmt.Sprintf("%s: Send(%d)", name, id), start, id, api.ErrNone)
		}
	}
}

// full is one with 15 buffers that are being sent, of which the device has taken two; buffer 30 says something, buffer 31 nothing.
func full(t *testing.T) *rig {
	t.Helper()
	g := made(t, 40)
	for k := range most {
		g.send(t, "", fmt.Sprint("frame ", k))
	}
	g.get(t, "", "one more")
	g.get(t, "", "")
	g.take(t)
	g.take(t)
	return g
}

func TestSendWithTheLinkDown(t *testing.T) { // P6.2: ahead of a full ring, and of what the buffer says
	down := func(start func(t *testing.T) *rig) func(t *testing.T) *rig {
		return func(t *testing.T) *rig {
			g := start(t)
			g.d.Link(false)
			return g
		}
	}
	refused(t, "Send", down(used), own(t, used(t)), api.ErrNicOff)
	refused(t, "Send of one more than 15", down(full), 30, api.ErrNicOff)
	refused(t, "Send of an empty one", down(full), 31, api.ErrNicOff)

	g := down(used)(t)
	id := own(t, g)
	g.d.Link(true)
	want(t, "Send with the link up again", g.r.Send(id), api.OK)
}

func TestSendAsksForTheLinkAlone(t *testing.T) { // P6.2: a device that somebody has switched off is given frames still
	g := made(t, 20)
	g.d.Write(api.RegCtl, 0)
	id := g.send(t, "", "x")
	g.wantSending(t, "Send", id)
}

func TestSendOfOneMore(t *testing.T) { // P6.2: 15 and no more, whatever the device has taken
	refused(t, "Send of one more than 15", full, 30, api.ErrNicFull)
	refused(t, "Send of an empty one", full, 31, api.ErrNicFull)
	refused(t, "Send of one that is being sent", full, 20, api.ErrNicFull)

	g := full(t)
	g.wantSending(t, "full", from(15, 15)...)
	g.wantPoll(t, "full")
	g.wantSending(t, "polled", from(17, 13)...)
	want(t, "Send", g.r.Send(30), api.OK)
	want(t, "Send once more", g.r.Send(30), api.OK)
	want(t, "Send of one more than 15", g.r.Send(30), api.ErrNicFull)
	g.wantSending(t, "full anew", append(from(17, 13), 30, 30)...)
}

func TestSendOfAnotherOnesDescriptor(t *testing.T) { // P6.2: the error of SetTx
	start := func(t *testing.T) *rig {
		g := made(t, 20)
		g.get(t, "", "x")
		g.d.Write(api.RegTxTail, 3)
		return g
	}
	refused(t, "Send", start, 15, api.ErrArg)
}

func TestSendInOrder(t *testing.T) { // P6.2: each is the last one then
	g := made(t, 40)
	var due []int
	for k := range most {
		due = append(due, g.send(t, "", fmt.Sprint("frame ", k)))
		g.wantSending(t, fmt.Sprint(k+1, " sent"), due...)
		g.wantReg(t, "Send", api.RegTxTail, k+1)
	}
	for k := range most {
		if f := g.take(t); f != fmt.Sprint("frame ", k) {
			t.Errorf("frame %d is %q", k, f)
		}
	}
}

func TestSendOfOneBufferOften(t *testing.T) { // P6.2: the ring is a holder for each time
	g := made(t, 20)
	id := g.get(t, "h", "x")
	for k := range 5 {
		want(t, "Send", g.r.Send(id), api.OK)
		g.wantBuffer(t, "Send", id, k+2, "h", "x")
	}
	g.wantSending(t, "five times", id, id, id, id, id)
	g.take(t)
	g.take(t)
	g.wantPoll(t, "two taken")
	g.wantSending(t, "two taken", id, id, id)
	g.wantBuffer(t, "two taken", id, 4, "h", "x")
	g.r.Reset()
	g.wantBuffer(t, "Reset", id, 1, "h", "x")
}

func TestSendOfWhatCame(t *testing.T) { // P6.2, P6.3: a buffer may go from one side to the other
	g := made(t, 15)
	g.give(t, "there and back")
	g.wantPoll(t, "given", api.Come{Buf: 0})
	want(t, "Send", g.r.Send(0), api.OK)
	g.wantBuffer(t, "Send", 0, 2, "", "there and back")
	if f := g.take(t); f != "there and back" {
		t.Errorf("sent %q", f)
	}
	g.p.Free(0)
	g.wantPoll(t, "taken")
	g.wantComing(t, "taken", append(from(1, 14), 0)...)
	g.wantBuffer(t, "taken", 0, 1, "", "")
}

func TestFramesAreSentAsTheyWerePosted(t *testing.T) { // P6.5: whatever is done with the buffer later
	g := made(t, 20)
	g.d.Tick()
	id := g.send(t, "head ", "first")
	g.d.Tick()
	want(t, "Set of one that the ring holds alone", g.p.Set(id, []byte("second")), api.OK)
	want(t, "Send", g.r.Send(id), api.OK)
	want(t, "Set of one that is held twice", g.p.Set(id, []byte("third")), api.ErrShared)
	for k, due := range []string{"head first", "second"} {
		if f, _ := g.d.Take(); string(f.Frame) != due || f.Tick != k+1 {
			t.Errorf("frame %d: %q of tick %d, not %q of tick %d", k, f.Frame, f.Tick, due, k+1)
		}
	}
}

func TestPollLetsGoWhatWasSent(t *testing.T) { // P6.3: from the first one on, up to the head
	for taken := range most + 1 {
		g := made(t, 40)
		for k := range most {
			g.send(t, "", fmt.Sprint("frame ", k))
		}
		for range taken {
			g.take(t)
		}
		what := fmt.Sprint(taken, " taken")
		g.wantPoll(t, what)
		g.wantSending(t, what, from(15+taken, most-taken)...)
		g.wantFree(t, what, from(15, taken)...)
		g.wantLeft(t, what, 10+taken)
		for k := range most - taken {
			g.wantBuffer(t, what, 15+taken+k, 1, "", fmt.Sprint("frame ", taken+k))
		}
	}
}

func TestPollLeavesOtherHolders(t *testing.T) { // P6.3: the ring is a holder less
	g := made(t, 20)
	id := g.get(t, "", "x")
	want(t, "Send", g.r.Send(id), api.OK)
	g.take(t)
	g.wantPoll(t, "taken")
	g.wantBuffer(t, "taken", id, 1, "", "x")
	g.wantPoll(t, "once more")
	g.wantBuffer(t, "once more", id, 1, "", "x")
}

func TestPollOfNothing(t *testing.T) { // P6.3
	fresh := func(t *testing.T) *rig { return made(t, 20) }
	waiting := func(t *testing.T) *rig {
		g := made(t, 20)
		g.send(t, "", "not taken")
		return g
	}
	for name, start := range map[string]func(t *testing.T) *rig{"fresh": fresh, "waiting": waiting} {
		g := start(t)
		for range 20 {
			g.wantPoll(t, name)
		}
		if got, as := g.told(), start(t).told(); got != as {
			t.Errorf("%s: Poll has changed something:\n%s\nnot\n%s", name, got, as)
		}
	}
}

func TestPollTellsWhatCame(t *testing.T) { // P6.3: in order, each with its check; the caller holds it
	for many := range most + 1 {
		g := made(t, 40)
		var due []api.Come
		for k := range many {
			bad := k%3 == 1
			want(t, "Give", g.d.Give(fmt.Appendf(nil, "frame %d", k), bad), api.OK)
			due = append(due, api.Come{Buf: k, Bad: bad})
		}
		what := fmt.Sprint(many, " frames")
		g.wantPoll(t, what, due...)
		for k := range many {
			g.wantBuffer(t, what, k, 1, "", fmt.Sprint("frame ", k))
		}
		g.wantComing(t, what, from(many, 15)...)
		g.wantLeft(t, what, 25-many)
		g.wantPoll(t, "once more")
		g.wantBuffer(t, what, many, 1, "", "")
	}
}

func TestPollTellsFramesOfAnyLength(t *testing.T) { // P6.3: as they came, the empty one too
	g := made(t, 40)
	lengths := []int{0, 1, 59, 60, 273, 274, 0}
	for k, n := range lengths {
		want(t, "Give", g.d.Give(slices.Repeat([]byte{byte(k + 1)}, n), k == 0), api.OK)
	}
	come := g.r.Poll()
	if len(come) != len(lengths) {
		t.Fatalf("Poll: %v", come)
	}
	for k, n := range lengths {
		if come[k] != (api.Come{Buf: k, Bad: k == 0}) {
			t.Errorf("frame %d: %v", k, come[k])
		}
		g.wantBuffer(t, fmt.Sprint(n, " bytes"), k, 1, "", strings.Repeat(string(rune(k+1)), n))
	}
}

func TestPollTakesAHeadAway(t *testing.T) { // P6.3: the buffer says what came, and nothing else
	g := made(t, 20)
	want(t, "Front", g.p.Front(0, []byte("strange")), api.OK)
	want(t, "Set", g.p.Set(0, []byte("something longer")), api.OK)
	g.give(t, "y")
	g.wantPoll(t, "given", api.Come{Buf: 0})
	g.wantBuffer(t, "given", 0, 1, "", "y")
}

func TestPollOfBothSides(t *testing.T) { // P6.3: what was sent is let go ahead of the filling, what came is not
	g := made(t, 17)
	g.send(t, "", "first")
	g.send(t, "", "second")
	g.give(t, "come")
	g.wantLeft(t, "all in use", 0)
	g.take(t)
	g.wantPoll(t, "both", api.Come{Buf: 0})
	g.wantSending(t, "both", 16)
	g.wantComing(t, "both", append(from(1, 14), 15)...)
	g.wantBuffer(t, "come", 0, 1, "", "come")
	g.wantBuffer(t, "sent, and coming now", 15, 1, "", "")
	g.wantBuffer(t, "not taken yet", 16, 1, "", "second")
	g.wantReg(t, "events", api.RegEvents, 0)
}

func TestPollFillsWithWhatThereIs(t *testing.T) { // P6.3: fewer buffers than descriptors, none, and some again
	g := made(t, 17)
	for k := range 5 {
		g.give(t, fmt.Sprint("frame ", k))
	}
	g.wantPoll(t, "two are free", api.Come{Buf: 0}, api.Come{Buf: 1}, api.Come{Buf: 2}, api.Come{Buf: 3}, api.Come{Buf: 4})
	g.wantComing(t, "two are free", from(5, 12)...)
	g.wantReg(t, "two are free", api.RegRxTail, 1) // 15 and 2 more, around the ring's end
	for k := range 12 {
		g.give(t, fmt.Sprint("next ", k))
	}
	want(t, "no descriptor is left", g.d.Give(nil, false), api.ErrNicFull)
	if n := len(g.r.Poll()); n != 12 {
		t.Errorf("%d have come", n)
	}
	g.wantComing(t, "none is free")
	g.wantLeft(t, "none is free", 0)
	want(t, "no descriptor is the device's", g.d.Give(nil, false), api.ErrNicFull)
	g.wantPoll(t, "none is free still")

	g.p.Free(9)
	g.p.Free(2)
	g.wantPoll(t, "two are free again")
	g.wantComing(t, "two are free again", 2, 9)
	g.wantReg(t, "two are free again", api.RegRxHead, 1)
	g.wantReg(t, "two are free again", api.RegRxTail, 3)
	g.give(t, "at last")
	g.p.Free(4)
	g.wantPoll(t, "one more", api.Come{Buf: 2})
	g.wantComing(t, "one more", 9, 4)
	g.wantBuffer(t, "at last", 2, 1, "", "at last")
}

func TestPollFillsBehindTheLast(t *testing.T) { // P6.3: with room for a whole frame in each of the 16 descriptors
	g := made(t, 16)
	for k := range 40 {
		want(t, "Give of 275", g.d.Give(make([]byte, 275), false), api.ErrLong)
		want(t, "Give of 274", g.d.Give(slices.Repeat([]byte{byte(k)}, 274), false), api.OK)
		come := g.r.Poll()
		if len(come) != 1 || come[0].Buf != k%16 {
			t.Fatalf("frame %d: %v", k, come)
		}
		g.wantReg(t, "polled", api.RegRxTail, (16+k)%16)
		g.p.Free(come[0].Buf)
	}
}

func TestPollWithTheLinkDown(t *testing.T) { // P6.3: a Reset, and nothing is told
	g, as := used(t), used(t)
	g.d.Link(false)
	g.wantPoll(t, "down")
	g.wantFresh(t, "down", 0, most)
	as.d.Link(false)
	as.r.Reset()
	if got, due := g.told(), as.told(); got != due {
		t.Errorf("it is no Reset:\n%s\nnot\n%s", got, due)
	}
}

func TestPollWithTheLinkDownStill(t *testing.T) { // P6.3: it is the event that resets, and each is told once
	g := made(t, 40)
	g.send(t, "", "waits")
	g.give(t, "came")
	g.d.Link(false)
	g.reg(api.RegEvents) // somebody has read the event
	g.wantPoll(t, "down, and the event is read", api.Come{Buf: 0})
	g.wantSending(t, "down, and the event is read", 15)
	g.d.Link(true)
	if f := g.take(t); f != "waits" {
		t.Errorf("sent %q", f)
	}
}

func TestPollBehindALinkThatWasDown(t *testing.T) { // P6.3: down and up again between two Polls is no Reset
	g, as := used(t), used(t)
	g.d.Link(false)
	g.d.Link(true)
	due := as.r.Poll()
	if len(due) != 2 || due[0].Bad || !due[1].Bad {
		t.Fatalf("Poll: %v", due)
	}
	g.wantPoll(t, "up again", due...)
	g.wantSending(t, "up again", as.r.Sending()...)
	if got, due := g.told(), as.told(); got != due {
		t.Errorf("it is not as without:\n%s\nnot\n%s", got, due)
	}
}

func TestPollOfALinkThatComesUp(t *testing.T) { // P6.3: what was posted and came since is there yet
	g := made(t, 40)
	g.d.Link(false)
	g.wantPoll(t, "down")
	g.d.Link(true)
	g.give(t, "soon")
	id := g.send(t, "", "sent soon")
	g.wantPoll(t, "up", api.Come{Buf: 0})
	g.wantSending(t, "up", id)
	g.d.Link(false)
	g.wantPoll(t, "down anew")
	g.wantSending(t, "down anew")
	g.wantComing(t, "down anew", from(1, 15)...)
	g.wantBuffer(t, "the caller's", 0, 1, "", "soon")
}

func TestPollReadsTheEvents(t *testing.T) { // P6.3
	g := used(t)
	g.d.Link(false)
	g.d.Link(true)
	g.r.Poll()
	g.wantReg(t, "polled", api.RegEvents, 0)
}

func TestReset(t *testing.T) { // P6.4: both sides are let go, whatever the device has done with them
	g := made(t, 40)
	for k := range 3 {
		g.give(t, fmt.Sprint("told ", k))
	}
	g.r.Poll()
	kept := g.get(t, "", "kept")
	for range 7 {
		want(t, "Send", g.r.Send(kept), api.OK)
	}
	var sent []int
	for k := range 8 {
		sent = append(sent, g.send(t, "", fmt.Sprint("frame ", k)))
	}
	for k := range 9 {
		g.take(t)
		g.give(t, fmt.Sprint("lost ", k))
	}
	g.d.Give(make([]byte, 275), false)
	g.p.Hold(sent[7])
	g.r.Reset()

	g.wantSending(t, "Reset")
	g.wantComing(t, "Reset", from(3, 15)...)
	g.wantFresh(t, "Reset", 1, most)
	g.wantHeldOnce(t, "Reset", g.r.Coming())
	g.wantBuffer(t, "kept", kept, 1, "", "kept")
	g.wantBuffer(t, "held by another one, too", sent[7], 1, "", "frame 7")
	for k := range 3 {
		g.wantBuffer(t, "the caller's", k, 1, "", fmt.Sprint("told ", k))
	}
	g.wantLeft(t, "Reset", 40-3-15-2)
	if _, err := g.d.Take(); err != api.ErrNone {
		t.Errorf("Take behind Reset: error %d", err)
	}
	g.wantPoll(t, "Reset")
}

func TestResetOfFullSides(t *testing.T) { // P6.4: 15 buffers on each side, from every descriptor on
	for turns := range api.RingSize {
		g := made(t, 30)
		for range turns {
			g.send(t, "", "x")
			g.take(t)
			g.give(t, "y")
			for _, c := range g.r.Poll() {
				g.p.Free(c.Buf)
			}
		}
		for range most {
			g.send(t, "", "z")
		}
		what := fmt.Sprint("from descriptor ", turns, " on")
		g.wantLeft(t, what, 0)
		g.wantReg(t, what, api.RegTxHead, turns)
		g.r.Reset()
		g.wantSending(t, what)
		g.wantComing(t, what, from(0, 15)...)
		g.wantLeft(t, what, 15)
		g.wantFresh(t, what, 1, most)
	}
}

func TestResetGoesOn(t *testing.T) { // P6.4: behind it the ring works as a new one does
	g := used(t)
	g.r.Reset()
	first := g.r.Coming()[0]
	g.send(t, "", "behind")
	g.wantReg(t, "Send", api.RegTxTail, 1)
	if f := g.take(t); f != "behind" {
		t.Errorf("sent %q", f)
	}
	g.give(t, "came")
	g.wantPoll(t, "given", api.Come{Buf: first})
	g.wantBuffer(t, "given", first, 1, "", "came")
	g.wantSending(t, "given")
	if l := g.r.Coming(); len(l) != most || slices.Contains(l, first) {
		t.Errorf("coming %v", l)
	}
}

func TestResetTwice(t *testing.T) { // P6.4
	g, as := used(t), used(t)
	g.r.Reset()
	g.r.Reset()
	as.r.Reset()
	if got, due := g.told(), as.told(); got != due {
		t.Errorf("the second one has changed something:\n%s\nnot\n%s", got, due)
	}
}

func TestResetFillsWithWhatThereIs(t *testing.T) { // P6.4: what it has let go counts
	g := made(t, 6)
	g.give(t, "told")
	g.wantPoll(t, "given", api.Come{Buf: 0})
	g.wantComing(t, "given", from(1, 5)...)
	want(t, "Send", g.r.Send(0), api.OK)
	g.p.Free(0)
	g.r.Reset()
	g.wantComing(t, "Reset", from(0, 6)...)
	g.wantReg(t, "Reset", api.RegRxTail, 6)
	g.wantLeft(t, "Reset", 0)
}

func TestResetLeavesClockAndLink(t *testing.T) { // P6.4: RegCtl is written 2, then 1
	g := made(t, 20)
	g.d.Tick()
	g.d.Tick()
	g.d.Link(false)
	g.r.Reset()
	g.wantFresh(t, "Reset", 0, most)
	g.d.Link(true)
	g.send(t, "", "x")
	if at, is := g.d.Oldest(); at != 2 || !is {
		t.Errorf("posted at %d, %v", at, is)
	}
}

func TestListsAreInOrder(t *testing.T) { // P6.4: that of the descriptors, not of the numbers
	g := made(t, 40)
	var own []int
	for range 6 {
		own = append(own, g.get(t, "", "x"))
	}
	for _, k := range []int{4, 1, 5, 0} {
		want(t, "Send", g.r.Send(own[k]), api.OK)
	}
	g.wantSending(t, "Send", own[4], own[1], own[5], own[0])
	g.give(t, "a")
	g.give(t, "b")
	g.r.Poll()
	g.p.Free(1)
	g.p.Free(0)
	g.give(t, "c")
	g.r.Poll()
	g.wantComing(t, "Poll", append(from(3, 12), 21, 22, 0)...)
}

func TestAnswersAreNewMemory(t *testing.T) { // R4: lists of answers, their spare room too
	g, as := used(t), used(t)
	for range 2 {
		for _, l := range [][]int{g.r.Sending(), g.r.Coming()} {
			l = l[:cap(l)]
			for k := range l {
				l[k] = -7
			}
		}
	}
	come, due := g.r.Poll(), as.r.Poll()
	if !slices.Equal(come, due) {
		t.Errorf("Poll: %v, not %v", come, due)
	}
	come = come[:cap(come)]
	for k := range come {
		come[k] = api.Come{Buf: -7, Bad: true}
	}
	g.give(t, "one more")
	as.give(t, "one more")
	if l, due := g.r.Poll(), as.r.Poll(); !slices.Equal(l, due) {
		t.Errorf("the next Poll: %v, not %v", l, due)
	}
	if got, as := g.told(), as.told(); got != as {
		t.Errorf("a list was the ring's own:\n%s\nnot\n%s", got, as)
	}
}

func TestAnswersStay(t *testing.T) { // R4
	g := full(t)
	for k := range 3 {
		g.give(t, fmt.Sprint("frame ", k))
	}
	sending, coming := g.r.Sending(), g.r.Coming()
	come := g.r.Poll()
	g.r.Reset()
	g.give(t, "x")
	g.r.Poll()
	if !slices.Equal(sending, from(15, 15)) || !slices.Equal(coming, from(0, 15)) {
		t.Errorf("sending %v, coming %v", sending, coming)
	}
	if !slices.Equal(come, []api.Come{{Buf: 0}, {Buf: 1}, {Buf: 2}}) {
		t.Errorf("come %v", come)
	}
}

func TestManyTimesAround(t *testing.T) { // P6.5: no frame and no buffer is lost on the way
	for burst := 1; burst <= most; burst++ {
		g := made(t, 60)
		out, in := 0, 0
		for range 20 {
			for k := range burst {
				g.send(t, "out ", fmt.Sprint(out+k))
			}
			for range burst {
				if f := g.take(t); f != fmt.Sprint("out ", out) {
					t.Fatalf("bursts of %d: frame %d is %q", burst, out, f)
				}
				g.give(t, fmt.Sprint("in ", out))
				out++
			}
			for _, c := range g.r.Poll() {
				g.wantBuffer(t, "come", c.Buf, 1, "", fmt.Sprint("in ", in))
				g.p.Free(c.Buf)
				in++
			}
			g.wantSending(t, "polled")
			g.wantLeft(t, "polled", 45)
		}
		if in != out {
			t.Errorf("bursts of %d: %d of %d have come", burst, in, out)
		}
	}
}

// frame is one in a model's ring: on its way out with the buffer it was posted from, or come in.
type frame struct {
	buf  int
	text string
	bad  bool
	tick int
}

// model is what a rig should be, told by lists.
type model struct {
	refs, own []int // of each buffer: all holders, and those of the test
	text      []string
	sending   []frame
	taken     int // so many of these the device has sent
	coming    []int
	came      []frame
	up, event bool
	tick      int
}

func (m *model) free(id int) { m.refs[id]-- }

func (m *model) get() int {
	id := slices.Index(m.refs, 0)
	if id >= 0 {
		m.refs[id], m.text[id] = 1, ""
	}
	return id
}

func (m *model) fill() {
	for len(m.coming) < most {
		id := m.get()
		if id < 0 {
			return
		}
		m.coming = append(m.coming, id)
	}
}

func (m *model) reset() {
	for _, f := range m.sending {
		m.free(f.buf)
	}
	for _, id := range m.coming {
		m.free(id)
	}
	m.sending, m.taken, m.coming, m.came, m.event = nil, 0, nil, nil, false
	m.fill()
}

func (m *model) send(id int) api.Errno {
	switch {
	case id < 0 || id >= len(m.refs) || m.refs[id] == 0:
		return api.ErrNone
	case !m.up:
		return api.ErrNicOff
	case len(m.sending) == most:
		return api.ErrNicFull
	case m.text[id] == "":
		return api.ErrShort
	}
	m.refs[id]++
	m.sending = append(m.sending, frame{buf: id, text: m.text[id], tick: m.tick})
	return api.OK
}

func (m *model) poll() []api.Come {
	event := m.event
	m.event = false
	if event && !m.up {
		m.reset()
		return nil
	}
	for _, f := range m.sending[:m.taken] {
		m.free(f.buf)
	}
	m.sending, m.taken = m.sending[m.taken:], 0
	var come []api.Come
	for k, f := range m.came {
		id := m.coming[k]
		m.text[id], m.own[id] = f.text, 1
		come = append(come, api.Come{Buf: id, Bad: f.bad})
	}
	m.coming, m.came = m.coming[len(m.came):], nil
	m.fill()
	return come
}

func (m *model) link(up bool) {
	m.event = m.event || m.up != up
	m.up = up
}

// give is Give of a frame that is not too long.
func (m *model) give(f frame) api.Errno {
	switch {
	case !m.up:
		return api.ErrNicOff
	case len(m.came) == len(m.coming):
		return api.ErrNicFull
	}
	m.came = append(m.came, f)
	return api.OK
}

func (m *model) take() (frame, api.Errno) {
	switch {
	case !m.up:
		return frame{}, api.ErrNicOff
	case m.taken == len(m.sending):
		return frame{}, api.ErrNone
	}
	m.taken++
	return m.sending[m.taken-1], api.OK
}

// buffers does something of the test's own with a buffer: takes, holds or frees it.
func (m *model) buffers(t *testing.T, rnd *rand.Rand, g *rig, k int) {
	id := rnd.Intn(len(m.refs))
	switch rnd.Intn(4) {
	case 0:
		got, err := g.p.Get()
		if due := m.get(); due < 0 {
			want(t, "Get", err, api.ErrNoBufs)
		} else if got != due {
			t.Fatalf("Get: %d, not %d", got, due)
		} else if rnd.Intn(4) > 0 {
			g.p.Set(got, fmt.Appendf(nil, "out %d", k))
			g.p.Front(got, []byte("head "))
			m.own[got], m.text[got] = 1, fmt.Sprint("head out ", k)
		} else {
			m.own[got] = 1
		}
	case 1:
		if m.own[id] > 0 {
			g.p.Hold(id)
			m.own[id]++
			m.refs[id]++
		}
	default:
		if m.own[id] > 0 {
			g.p.Free(id)
			m.own[id]--
			m.refs[id]--
		}
	}
}

// step does one thing with both, and holds the answers against each other.
func (m *model) step(t *testing.T, rnd *rand.Rand, g *rig, k int) {
	t.Helper()
	switch rnd.Intn(12) {
	case 0, 1, 2:
		m.buffers(t, rnd, g, k)
	case 3, 4, 5:
		id := rnd.Intn(len(m.refs)+2) - 1
		if id >= 0 && id < len(m.own) && m.refs[id] > 0 && m.own[id] == 0 {
			return // nobody but the ring has it
		}
		want(t, fmt.Sprintf("Send(%d)", id), g.r.Send(id), m.send(id))
	case 6, 7:
		f, err := g.d.Take()
		due, dueErr := m.take()
		if err != dueErr || string(f.Frame) != due.text || f.Tick != due.tick {
			t.Errorf("Take: %q of tick %d, error %d, not %q of tick %d, error %d", f.Frame, f.Tick, err, due.text, due.tick, dueErr)
		}
	case 8, 9:
		f := frame{text: fmt.Sprint("in ", k), bad: rnd.Intn(3) == 0}
		want(t, "Give", g.d.Give([]byte(f.text), f.bad), m.give(f))
	case 10:
		g.wantPoll(t, "Poll", m.poll()...)
	default:
		m.rare(rnd, g)
	}
}

func (m *model) rare(rnd *rand.Rand, g *rig) {
	switch rnd.Intn(12) {
	case 0:
		g.r.Reset()
		m.reset()
	case 1:
		g.d.Link(false)
		m.link(false)
	case 2, 3, 4, 5:
		g.d.Link(true)
		m.link(true)
	default:
		g.d.Tick()
		m.tick++
	}
}

func (m *model) compare(t *testing.T, g *rig) {
	t.Helper()
	var sending []int
	for _, f := range m.sending {
		sending = append(sending, f.buf)
	}
	g.wantSending(t, "model", sending...)
	g.wantComing(t, "model", m.coming...)
	for id, refs := range m.refs {
		b, _ := g.p.See(id)
		if text := string(b.Head) + string(b.Data); b.Refs != refs || refs > 0 && text != m.text[id] {
			t.Errorf("buffer %d: %d holders, %q, not %d, %q", id, b.Refs, text, refs, m.text[id])
		}
	}
}

func TestAgainstAModel(t *testing.T) { // P6.1 to P6.5
	for seed := range 60 {
		rnd := rand.New(rand.NewSource(int64(seed)))
		many := []int{3, 15, 16, 25, 50}[seed%5]
		g := made(t, many)
		m := &model{refs: make([]int, many), own: make([]int, many), text: make([]string, many), up: true}
		m.fill()
		for k := range 1500 {
			m.step(t, rnd, g, k)
			m.compare(t, g)
			if t.Failed() {
				t.Fatalf("seed %d, step %d", seed, k)
			}
		}
	}
}

// meddle does with the device what a driver alone should do.
func meddle(rnd *rand.Rand, d *nic.Nic) {
	at := rnd.Intn(api.RingSize)
	switch rnd.Intn(8) {
	case 0:
		d.Write(api.RegCtl, rnd.Intn(3))
	case 1:
		d.Write(api.RegTxTail, at)
	case 2:
		d.Write(api.RegRxTail, at)
	case 3:
		d.SetTx(at, []byte("strange"))
	case 4:
		d.SetRx(at, rnd.Intn(65536))
	case 5:
		d.Read(api.RegEvents)
	case 6:
		d.Link(rnd.Intn(4) > 0)
	default:
		for range rnd.Intn(20) {
			d.Take()
			d.Give(make([]byte, rnd.Intn(400)), rnd.Intn(2) == 0)
		}
	}
}

func TestWhateverTheDeviceDoes(t *testing.T) { // P6.5, R1: the ring holds what it tells that it holds, no more and no less
	for seed := range 40 {
		rnd := rand.New(rand.NewSource(int64(seed)))
		g := made(t, 35)
		for k := range 800 {
			switch rnd.Intn(8) {
			case 0, 1:
				if id, err := g.p.Get(); err == api.OK {
					g.p.Set(id, []byte("frame"))
					g.r.Send(id)
					g.p.Free(id)
				}
			case 2, 3:
				for _, c := range g.r.Poll() {
					g.wantBufferOfOne(t, c.Buf)
					want(t, "Free of what came", g.p.Free(c.Buf), api.OK)
				}
			case 4:
				if rnd.Intn(5) == 0 {
					g.r.Reset()
				}
			default:
				meddle(rnd, g.d)
			}
			g.wantHeld(t)
			if t.Failed() {
				t.Fatalf("seed %d, step %d", seed, k)
			}
		}
	}
}

func (g *rig) wantBufferOfOne(t *testing.T, id int) {
	t.Helper()
	if b, err := g.p.See(id); err != api.OK || b.Refs != 1 {
		t.Errorf("what came, buffer %d, has %d holders, error %d", id, b.Refs, err)
	}
}

// wantHeld says that the ring alone holds buffers, each as often as it tells.
func (g *rig) wantHeld(t *testing.T) {
	t.Helper()
	refs := make([]int, g.p.Size())
	for _, id := range append(g.r.Sending(), g.r.Coming()...) {
		refs[id]++
	}
	for id, due := range refs {
		if b, _ := g.p.See(id); b.Refs != due {
			t.Errorf("buffer %d has %d holders, not %d", id, b.Refs, due)
		}
	}
	if n := len(g.r.Coming()); n > most {
		t.Errorf("%d are coming", n)
	}
}

func TestADeviceThatAnotherHasReset(t *testing.T) { // P6.5: a frame that did not come is not told
	g := made(t, 40)
	for range 3 {
		g.give(t, "x")
	}
	g.r.Poll()
	g.d.Write(api.RegCtl, 2)
	g.wantPoll(t, "descriptors 3 to 14 are not the device's, and empty")
	for id := range 3 {
		g.p.Free(id)
	}
	g.wantHeld(t)
	g.r.Reset()
	g.wantComing(t, "Reset", from(0, 15)...)
	g.give(t, "y")
	g.wantPoll(t, "given", api.Come{Buf: 0})
}
