package wire_test

import (
	"bytes"
	"fmt"
	"math"
	"math/rand"
	"strings"
	"testing"

	"packhorse/api"
	"packhorse/nic"
	"packhorse/wire"
)

const registers = 8

var noDirections = []int{-1, 2, 3, math.MaxInt, math.MinInt}

// pair is a wire, and the two devices at its ends.
type pair struct {
	*wire.Wire
	ends [2]*nic.Nic
}

// joined is a pair whose devices are on, with nothing in their rings.
func joined() *pair {
	p := &pair{ends: [2]*nic.Nic{nic.New(), nic.New()}}
	p.Wire = wire.New(p.ends[0], p.ends[1])
	for _, d := range p.ends {
		d.Write(api.RegCtl, 1)
	}
	return p
}

func reg(d *nic.Nic, r int) int {
	v, _ := d.Read(r)
	return v
}

// post lays frames down at the end that sends in a direction, and moves its tail over all of them.
func (p *pair) post(dir int, frames ...string) {
	d := p.ends[dir]
	tail := reg(d, api.RegTxTail)
	for _, f := range frames {
		d.SetTx(tail, []byte(f))
		tail = (tail + 1) % api.RingSize
	}
	d.Write(api.RegTxTail, tail)
}

// send brings frames onto the wire.
func (p *pair) send(dir int, frames ...string) {
	for _, f := range frames {
		p.post(dir, f)
		p.Pull(dir)
	}
}

// receive makes room for so many frames at the end of a direction.
func (p *pair) receive(dir, frames, room int) {
	d := p.ends[1-dir]
	tail := reg(d, api.RegRxTail)
	for range frames {
		d.SetRx(tail, room)
		tail = (tail + 1) % api.RingSize
	}
	d.Write(api.RegRxTail, tail)
}

func (p *pair) ticks(n int) {
	for range n {
		p.Tick()
	}
}

// list is what is on its way in a direction, one frame behind the other.
func (p *pair) list(dir int) string {
	var s []string
	for k := range p.Len(dir) {
		f, err := p.See(dir, k)
		one := string(f.Frame)
		if f.Bad {
			one += "!"
		}
		if err != api.OK {
			one += fmt.Sprint(" error ", err)
		}
		s = append(s, one)
	}
	return strings.Join(s, " ")
}

// told is all that calls can tell of a pair. It uses the pair up.
func (p *pair) told() string {
	var s strings.Builder
	for dir := -1; dir <= 2; dir++ {
		fmt.Fprintln(&s, "direction", dir, p.Len(dir))
		for k := -1; k <= p.Len(dir); k++ {
			f, err := p.See(dir, k)
			fmt.Fprintf(&s, "%q %v %d, error %d\n", f.Frame, f.Bad, f.Tick, err)
		}
	}
	for _, d := range p.ends {
		for r := range registers {
			fmt.Fprintln(&s, "register", r, reg(d, r))
		}
		for i := range api.RingSize {
			frame, bad, err := d.Rx(i)
			fmt.Fprintf(&s, "rx %d %q %v %d\n", i, frame, bad, err)
		}
	}
	for range api.MaxLife + 2 {
		fmt.Fprintln(&s, "at", p.Now(), p.list(0), "and", p.list(1))
		for _, d := range p.ends {
			at, ok := d.Oldest()
			fmt.Fprintln(&s, "oldest", at, ok, reg(d, api.RegTxHead), reg(d, api.RegTxTail))
		}
		p.Tick()
	}
	for dir := range 2 {
		p.ends[dir].Write(api.RegCtl, 1)
		p.ends[dir].Link(true)
		p.post(dir, "the device's clock")
		f, _ := p.ends[dir].Take()
		fmt.Fprintf(&s, "%q at %d\n", f.Frame, f.Tick)
	}
	return s.String()
}

// used is a pair with something everywhere; every call makes the same one.
func used() *pair {
	p := joined()
	p.Tick()
	p.send(0, "one", "two")
	p.send(1, "here", "there", "everywhere")
	p.Tick()
	p.send(0, "three", "four")
	p.Damage(0, 2, 5)
	p.Damage(1, 1, 6)
	p.Double(0, 1)
	p.ticks(2)
	p.post(0, "waits")
	p.post(1, "waits", "too")
	p.receive(0, 2, 9)
	p.receive(1, 1, 9)
	return p
}

// want holds an answered error against the one that is due.
func want(t *testing.T, what string, got, due api.Errno) {
	t.Helper()
	if got != due {
		t.Errorf("%s: error %d, not %d", what, got, due)
	}
}

func (p *pair) wantList(t *testing.T, what string, dir int, due string) {
	t.Helper()
	if got := p.list(dir); got != due {
		t.Errorf("%s: in direction %d %q, not %q", what, dir, got, due)
	}
}

// refused holds a call with an error against none at all: a later call can't tell them apart.
func refused(t *testing.T, what string, make func() *pair, call func(p *pair) api.Errno, due api.Errno) {
	t.Helper()
	p := make()
	want(t, what, call(p), due)
	if got, as := p.told(), make().told(); got != as {
		t.Errorf("%s has changed something:\n%s\nnot\n%s", what, got, as)
	}
}

func TestNew(t *testing.T) { // P3.1
	p := joined()
	for _, dir := range append(noDirections, 0, 1) {
		if n := p.Len(dir); n != 0 {
			t.Errorf("Len(%d) behind New: %d", dir, n)
		}
	}
	if p.Now() != 0 {
		t.Errorf("Now behind New: %d", p.Now())
	}
	for dir := range 2 {
		_, err := p.See(dir, 0)
		want(t, "See behind New", err, api.ErrNone)
		want(t, "Pull behind New", p.Pull(dir), api.ErrNone)
	}
}

func TestNewTakesNothing(t *testing.T) { // P3.1: what the devices have posted is not on its way by itself
	a, b := nic.New(), nic.New()
	a.Write(api.RegCtl, 1)
	a.SetTx(0, []byte("x"))
	a.Write(api.RegTxTail, 1)
	w := wire.New(a, b)
	if w.Len(0) != 0 || reg(a, api.RegTxHead) != 0 || reg(a, api.RegEvents) != 0 {
		t.Errorf("New has touched a device: %d on their way", w.Len(0))
	}
	want(t, "Pull", w.Pull(0), api.OK)
}

func TestWiresAreApart(t *testing.T) { // P3.1, R5
	p, q := used(), used()
	p.Drop(0, 0)
	p.Damage(1, 0, 0)
	p.ticks(3)
	p.send(1, "more")
	if q.told() != used().told() {
		t.Errorf("one wire changes another one")
	}
}

func TestLen(t *testing.T) { // P3.1
	p := used()
	for dir, due := range map[int]int{0: 5, 1: 3, -1: 0, 2: 0, math.MaxInt: 0, math.MinInt: 0} {
		if n := p.Len(dir); n != due {
			t.Errorf("Len(%d): %d, not %d", dir, n, due)
		}
	}
}

func TestSee(t *testing.T) { // P3.1
	p := used()
	for _, c := range []struct {
		dir, k int
		frame  string
		bad    bool
		tick   int
		err    api.Errno
	}{
		{0, 0, "one", false, 1, api.OK},
		{0, 1, "two", false, 1, api.OK},
		{0, 2, "Three", true, 2, api.OK},
		{0, 4, "two", false, 1, api.OK},
		{1, 0, "here", false, 1, api.OK},
		{1, 2, "everywhere", false, 1, api.OK},
		{0, 5, "", false, 0, api.ErrNone},
		{1, 3, "", false, 0, api.ErrNone},
		{0, -1, "", false, 0, api.ErrNone},
		{1, -1, "", false, 0, api.ErrNone},
		{0, math.MaxInt, "", false, 0, api.ErrNone},
		{1, math.MinInt, "", false, 0, api.ErrNone},
		{-1, 0, "", false, 0, api.ErrArg},
		{2, 0, "", false, 0, api.ErrArg},
		{-1, -1, "", false, 0, api.ErrArg},
		{2, 99, "", false, 0, api.ErrArg},
		{math.MaxInt, 0, "", false, 0, api.ErrArg},
		{math.MinInt, 0, "", false, 0, api.ErrArg},
	} {
		f, err := p.See(c.dir, c.k)
		if string(f.Frame) != c.frame || f.Bad != c.bad || f.Tick != c.tick || err != c.err {
			t.Errorf("See(%d, %d): %q %v %d, error %d, not %q %v %d, error %d", c.dir, c.k, f.Frame, f.Bad, f.Tick, err, c.frame, c.bad, c.tick, c.err)
		}
	}
	q := used()
	for dir := -1; dir <= 2; dir++ {
		for k := -1; k <= 5; k++ {
			q.See(dir, k)
			q.Len(dir)
		}
	}
	if q.Now(); q.told() != used().told() {
		t.Errorf("to look has changed something")
	}
}

func TestPullErrors(t *testing.T) { // P3.2
	for _, dir := range noDirections {
		refused(t, fmt.Sprint("Pull(", dir, ")"), used, func(p *pair) api.Errno { return p.Pull(dir) }, api.ErrArg)
	}
	for dir := range 2 {
		off := func() *pair {
			p := used()
			p.ends[dir].Write(api.RegCtl, 0)
			return p
		}
		down := func() *pair {
			p := used()
			p.ends[dir].Link(false)
			return p
		}
		empty := func() *pair {
			p := used()
			for p.Pull(dir) == api.OK {
			}
			return p
		}
		pull := func(p *pair) api.Errno { return p.Pull(dir) }
		refused(t, "Pull of a device that is off", off, pull, api.ErrNicOff)
		refused(t, "Pull of a device whose link is down", down, pull, api.ErrNicOff)
		refused(t, "Pull of nothing", empty, pull, api.ErrNone)
		refused(t, "Pull(2) of devices of which one is off", off, func(p *pair) api.Errno { return p.Pull(2) }, api.ErrArg)
	}
}

func TestPullAsksTheSenderAlone(t *testing.T) { // P3.2
	for dir := range 2 {
		p := joined()
		p.post(dir, "x")
		p.ends[1-dir].Write(api.RegCtl, 0)
		p.ends[1-dir].Link(false)
		want(t, "Pull to a device that is off", p.Pull(dir), api.OK)
		p.wantList(t, "Pull", dir, "x")
		p.wantList(t, "Pull", 1-dir, "")
		want(t, "Pull from a device that is off", p.Pull(1-dir), api.ErrNicOff)
	}
}

func TestPull(t *testing.T) { // P3.2: the last one of the list, one by one in their order
	for dir := range 2 {
		p := joined()
		p.ticks(3)
		p.post(dir, "a", "b", "c")
		p.ticks(2)
		for i, due := range []string{"a", "a b", "a b c"} {
			want(t, "Pull", p.Pull(dir), api.OK)
			p.wantList(t, "Pull", dir, due)
			p.wantList(t, "Pull", 1-dir, "")
			if f, _ := p.See(dir, i); f.Tick != 3 || f.Bad {
				t.Errorf("what was pulled: %v", f)
			}
			if at := reg(p.ends[dir], api.RegTxHead); at != i+1 {
				t.Errorf("head behind Pull: %d", at)
			}
		}
		want(t, "Pull of nothing", p.Pull(dir), api.ErrNone)
		if e := reg(p.ends[dir], api.RegEvents); e != api.EventTx {
			t.Errorf("events behind Pull: %d", e)
		}
	}
}

func TestPullOfAnEmptyFrame(t *testing.T) { // P3.2: a descriptor that nobody has set holds one
	p := joined()
	p.ends[0].Write(api.RegTxTail, 1)
	want(t, "Pull", p.Pull(0), api.OK)
	f, err := p.See(0, 0)
	if len(f.Frame) != 0 || err != api.OK || p.Len(0) != 1 {
		t.Errorf("an empty frame on its way: %v, error %d", f, err)
	}
}

func TestPullOfWhatIsOld(t *testing.T) { // P3.2: 7, 8 and 9 ticks ago
	off := func(d *nic.Nic) { d.Write(api.RegCtl, 0) }
	down := func(d *nic.Nic) { d.Link(false) }
	for name, rest := range map[string]func(*nic.Nic){"off": off, "down": down} {
		for age, due := range map[int]string{0: "x y", 6: "x y", 7: "x y", 8: "", 9: "", 30: ""} {
			for i := range 4 {
				dir, begin := i%2, 5*(i/2)
				p := joined()
				p.ticks(begin)
				p.post(dir, "x", "y")
				d := p.ends[dir]
				rest(d)
				p.ticks(age)
				d.Write(api.RegCtl, 1)
				d.Link(true)
				for at := 1; at <= 2; at++ {
					reg(d, api.RegEvents)
					want(t, "Pull", p.Pull(dir), api.OK)
					if reg(d, api.RegTxHead) != at || reg(d, api.RegEvents) != api.EventTx {
						t.Errorf("a frame that was posted %d ticks ago was not taken", age)
					}
				}
				p.wantList(t, fmt.Sprint("posted ", age, " ticks ago by a device that was ", name), dir, due)
				want(t, "Pull of nothing", p.Pull(dir), api.ErrNone)
			}
		}
	}
}

func TestPullOfSomeThatAreOld(t *testing.T) { // P3.2: each by its own age
	p := joined()
	p.post(0, "a")
	p.Tick()
	p.post(0, "b")
	p.ends[0].Write(api.RegCtl, 0)
	p.ticks(7)
	p.ends[0].Write(api.RegCtl, 1)
	want(t, "Pull of one of 8 ticks ago", p.Pull(0), api.OK)
	p.wantList(t, "8 ticks ago", 0, "")
	want(t, "Pull of one of 7 ticks ago", p.Pull(0), api.OK)
	p.wantList(t, "7 ticks ago", 0, "b")
}

// calls are those that do something with one frame, here of three, and of which each would do.
var calls = map[string]func(p *pair, dir, k int) api.Errno{
	"Drop":    func(p *pair, dir, k int) api.Errno { return p.Drop(dir, k) },
	"Double":  func(p *pair, dir, k int) api.Errno { return p.Double(dir, k) },
	"Move":    func(p *pair, dir, k int) api.Errno { return p.Move(dir, k, 0) },
	"Damage":  func(p *pair, dir, k int) api.Errno { return p.Damage(dir, k, 0) },
	"Deliver": func(p *pair, dir, k int) api.Errno { return p.Deliver(dir, k) },
	// here more than one error could be told: the direction's is first, then the place's
	"Move to -1":        func(p *pair, dir, k int) api.Errno { return p.Move(dir, k, -1) },
	"Move to Len":       func(p *pair, dir, k int) api.Errno { return p.Move(dir, k, p.Len(dir)) },
	"Damage of bit -1":  func(p *pair, dir, k int) api.Errno { return p.Damage(dir, k, -1) },
	"Damage of too far": func(p *pair, dir, k int) api.Errno { return p.Damage(dir, k, math.MaxInt) },
	"Deliver to one that is off": func(p *pair, dir, k int) api.Errno {
		defer p.ends[0].Write(api.RegCtl, 1)
		defer p.ends[1].Write(api.RegCtl, 1)
		p.ends[0].Write(api.RegCtl, 0)
		p.ends[1].Write(api.RegCtl, 0)
		return p.Deliver(dir, k)
	},
}

func TestNoSuchDirection(t *testing.T) { // P3.3
	for name, call := range calls {
		for _, dir := range noDirections {
			for _, k := range []int{-1, 0, 1, 99} {
				refused(t, fmt.Sprint(name, " in direction ", dir), used, func(p *pair) api.Errno { return call(p, dir, k) }, api.ErrArg)
			}
		}
	}
}

func TestNothingAtThisPlace(t *testing.T) { // P3.3
	empty := func() *pair {
		p := joined()
		p.send(1, "only back")
		return p
	}
	for name, call := range calls {
		for dir := range 2 {
			for _, k := range []int{-1, used().Len(dir), used().Len(dir) + 1, math.MaxInt, math.MinInt} {
				refused(t, fmt.Sprint(name, " at ", k), used, func(p *pair) api.Errno { return call(p, dir, k) }, api.ErrNone)
			}
		}
		refused(t, name+" of an empty list", empty, func(p *pair) api.Errno { return call(p, 0, 0) }, api.ErrNone)
	}
}

// four has in a direction four frames on their way, and one in the other.
func four(dir int) *pair {
	p := joined()
	p.send(dir, "aa", "bb", "cc", "dd")
	p.send(1-dir, "other")
	return p
}

func TestDrop(t *testing.T) { // P3.3
	for dir := range 2 {
		for k, due := range []string{"bb cc dd", "aa cc dd", "aa bb dd", "aa bb cc"} {
			p := four(dir)
			want(t, "Drop", p.Drop(dir, k), api.OK)
			p.wantList(t, "Drop", dir, due)
			p.wantList(t, "Drop", 1-dir, "other")
		}
		p := four(dir)
		for range 4 {
			want(t, "Drop of all", p.Drop(dir, 0), api.OK)
		}
		want(t, "Drop behind all", p.Drop(dir, 0), api.ErrNone)
		p.send(dir, "next")
		p.wantList(t, "behind all were dropped", dir, "next")
	}
}

func TestDouble(t *testing.T) { // P3.3: one more like it is the last one
	for dir := range 2 {
		for k, due := range []string{"aa bb cc dd aa", "aa bb cc dd bb", "aa bb cc dd cc", "aa bb cc dd dd"} {
			p := four(dir)
			want(t, "Double", p.Double(dir, k), api.OK)
			p.wantList(t, "Double", dir, due)
			p.wantList(t, "Double", 1-dir, "other")
		}
	}
}

func TestDoubleIsLikeIt(t *testing.T) { // P3.3: with its check, and when it was posted
	p := joined()
	p.ticks(3)
	p.send(0, "x")
	p.ticks(4)
	p.Damage(0, 0, 0)
	want(t, "Double", p.Double(0, 0), api.OK)
	f, _ := p.See(0, 1)
	if string(f.Frame) != "y" || !f.Bad || f.Tick != 3 {
		t.Errorf("doubled: %v", f)
	}
	p.ticks(3)
	p.wantList(t, "7 ticks behind its posting", 0, "y! y!")
	p.Tick()
	p.wantList(t, "8 ticks behind its posting", 0, "")
}

func TestDoublesAreApart(t *testing.T) { // P3.3: what is done with one is not done with the other
	p := joined()
	p.send(0, "x")
	p.Double(0, 0)
	p.Double(0, 1)
	p.Damage(0, 1, 0)
	p.wantList(t, "Damage of a double", 0, "x y! x")
	p.Damage(0, 0, 1)
	p.wantList(t, "Damage of the first", 0, "z! y! x")
	p.Drop(0, 0)
	p.wantList(t, "Drop of the first", 0, "y! x")
}

func TestMove(t *testing.T) { // P3.3: it stands at to
	for dir := range 2 {
		for k := range 4 {
			for to := range 4 {
				p := four(dir)
				rest := []string{"aa", "bb", "cc", "dd"}
				one := rest[k]
				rest = append(rest[:k], rest[k+1:]...)
				due := strings.Join(append(append(append([]string{}, rest[:to]...), one), rest[to:]...), " ")
				want(t, "Move", p.Move(dir, k, to), api.OK)
				p.wantList(t, fmt.Sprint("Move from ", k, " to ", to), dir, due)
				p.wantList(t, "Move", 1-dir, "other")
			}
		}
	}
	p := four(0)
	want(t, "Move of the first to the last place", p.Move(0, 0, 3), api.OK)
	p.wantList(t, "Move of the first to the last place", 0, "bb cc dd aa")
	want(t, "Move of the only one", p.Move(1, 0, 0), api.OK)
	p.wantList(t, "Move of the only one", 1, "other")
}

func TestMoveToNoPlace(t *testing.T) { // P3.3
	for dir := range 2 {
		for k := range 4 {
			for _, to := range []int{-1, 4, 5, math.MaxInt, math.MinInt} {
				refused(t, fmt.Sprint("Move to ", to), func() *pair { return four(dir) }, func(p *pair) api.Errno { return p.Move(dir, k, to) }, api.ErrArg)
			}
		}
	}
}

func TestMoveKeepsAll(t *testing.T) { // P3.3: a frame goes with its check, and when it was posted
	p := joined()
	p.send(0, "a")
	p.ticks(2)
	p.send(0, "b", "c")
	p.Damage(0, 2, 7)
	p.Move(0, 2, 0)
	p.Move(0, 1, 2)
	for k, due := range []api.OnWire{{Frame: []byte{'c' ^ 0x80}, Bad: true, Tick: 2}, {Frame: []byte("b"), Tick: 2}, {Frame: []byte("a")}} {
		f, err := p.See(0, k)
		if !bytes.Equal(f.Frame, due.Frame) || f.Bad != due.Bad || f.Tick != due.Tick || err != api.OK {
			t.Errorf("moved to %d: %v, error %d, not %v", k, f, err, due)
		}
	}
}

func TestDamage(t *testing.T) { // P3.3: every bit, of the first, a middle and the last place
	for dir := range 2 {
		for k := range 4 {
			for bit := range 16 {
				p := four(dir)
				was, _ := p.See(dir, k)
				want(t, "Damage", p.Damage(dir, k, bit), api.OK)
				was.Frame[bit/8] ^= 1 << (bit % 8)
				f, _ := p.See(dir, k)
				if !bytes.Equal(f.Frame, was.Frame) || !f.Bad || f.Tick != was.Tick {
					t.Errorf("Damage of bit %d: %v, not %v", bit, f, was)
				}
				for other := range 4 {
					if f, _ := p.See(dir, other); other != k && (f.Bad || string(f.Frame) != []string{"aa", "bb", "cc", "dd"}[other]) {
						t.Errorf("Damage at %d: at %d stands %v", k, other, f)
					}
				}
				p.wantList(t, "Damage", 1-dir, "other")
			}
		}
	}
}

func TestDamageOfNoBit(t *testing.T) { // P3.3
	for _, bit := range []int{-1, -8, 16, 17, math.MaxInt, math.MinInt} {
		for k := range 4 {
			refused(t, fmt.Sprint("Damage of bit ", bit), func() *pair { return four(0) }, func(p *pair) api.Errno { return p.Damage(0, k, bit) }, api.ErrArg)
		}
	}
	long := func() *pair {
		p := joined()
		p.send(1, strings.Repeat("l", api.MaxFrame))
		return p
	}
	want(t, "Damage of the last bit of a long frame", long().Damage(1, 0, 8*api.MaxFrame-1), api.OK)
	refused(t, "Damage of the bit behind it", long, func(p *pair) api.Errno { return p.Damage(1, 0, 8*api.MaxFrame) }, api.ErrArg)
	empty := func() *pair {
		p := joined()
		p.ends[0].Write(api.RegTxTail, 1)
		p.Pull(0)
		return p
	}
	for _, bit := range []int{-1, 0, 1} {
		refused(t, "Damage of an empty frame", empty, func(p *pair) api.Errno { return p.Damage(0, 0, bit) }, api.ErrArg)
	}
}

func TestDamageTwice(t *testing.T) { // P3.3: the bit is back, the check is not
	p := four(0)
	p.Damage(0, 1, 9)
	want(t, "Damage of the same bit", p.Damage(0, 1, 9), api.OK)
	p.wantList(t, "Damage of the same bit", 0, "aa bb! cc dd")
	p.Damage(0, 2, 0)
	p.Damage(0, 2, 8)
	p.wantList(t, "Damage of two bits", 0, "aa bb! bb! dd")
}

func TestDeliver(t *testing.T) { // P3.3: the first, a middle and the last place; Bad and not
	for dir := range 2 {
		for k, due := range []string{"bb cc dd", "aa cc dd", "aa bb dd", "aa bb cc"} {
			for _, bad := range []bool{false, true} {
				p := four(dir)
				p.receive(dir, 1, 2)
				if bad {
					p.Damage(dir, k, 3)
				}
				was, _ := p.See(dir, k)
				want(t, "Deliver", p.Deliver(dir, k), api.OK)
				p.wantList(t, "Deliver", dir, due)
				p.wantList(t, "Deliver", 1-dir, "other")
				frame, is, err := p.ends[1-dir].Rx(0)
				if !bytes.Equal(frame, was.Frame) || is != bad || err != api.OK {
					t.Errorf("delivered: %q, %v, error %d, not %q, %v", frame, is, err, was.Frame, bad)
				}
				if reg(p.ends[1-dir], api.RegRxHead) != 1 || reg(p.ends[dir], api.RegRxHead) != 0 {
					t.Errorf("direction %d was delivered to the wrong end", dir)
				}
			}
		}
	}
}

func TestDeliverInTurn(t *testing.T) { // P3.3
	p := four(0)
	p.receive(0, 4, 9)
	for _, k := range []int{2, 0, 1, 0} {
		want(t, "Deliver", p.Deliver(0, k), api.OK)
	}
	for i, due := range []string{"cc", "aa", "dd", "bb"} {
		if frame, bad, err := p.ends[1].Rx(i); string(frame) != due || bad || err != api.OK {
			t.Errorf("delivered as number %d: %q %v, error %d, not %q", i, frame, bad, err, due)
		}
	}
	want(t, "Deliver of no more", p.Deliver(0, 0), api.ErrNone)
}

func TestDeliverInVain(t *testing.T) { // P3.3: the answer is that of Give, and the frame is gone
	for dir := range 2 {
		for _, c := range []struct {
			name   string
			do     func(p *pair, d *nic.Nic)
			due    api.Errno
			missed int
		}{
			{"off", func(p *pair, d *nic.Nic) { d.Write(api.RegCtl, 0) }, api.ErrNicOff, 0},
			{"with its link down", func(p *pair, d *nic.Nic) { d.Link(false) }, api.ErrNicOff, 0},
			{"without a descriptor", func(p *pair, d *nic.Nic) { d.Write(api.RegRxTail, 0) }, api.ErrNicFull, 1},
			{"with too small a room", func(p *pair, d *nic.Nic) { p.receive(dir, 1, 1) }, api.ErrLong, 1},
			{"with enough room", func(p *pair, d *nic.Nic) { p.receive(dir, 1, 2) }, api.OK, 0},
		} {
			p := four(dir)
			d := p.ends[1-dir]
			c.do(p, d)
			want(t, "Deliver to a device "+c.name, p.Deliver(dir, 1), c.due)
			p.wantList(t, "Deliver to a device "+c.name, dir, "aa cc dd")
			p.wantList(t, "Deliver to a device "+c.name, 1-dir, "other")
			if n := reg(d, api.RegMissed); n != c.missed {
				t.Errorf("a device %s has missed %d, not %d", c.name, n, c.missed)
			}
			if _, _, err := d.Rx(0); (err == api.OK) != (c.due == api.OK) {
				t.Errorf("a device %s: error %d of what came", c.name, err)
			}
		}
	}
}

func TestDeliverAsksTheReceiverAlone(t *testing.T) { // P3.3
	p := four(0)
	p.receive(0, 1, 9)
	p.ends[0].Write(api.RegCtl, 0)
	p.ends[0].Link(false)
	want(t, "Deliver from a device that is off", p.Deliver(0, 0), api.OK)
}

func TestTickAndNow(t *testing.T) { // P3.4
	p := joined()
	for n := range 30 {
		if p.Now() != n {
			t.Errorf("Now behind %d ticks: %d", n, p.Now())
		}
		for dir := range 2 { // the devices' clocks are seen by when they post
			p.post(dir, "x")
			if at, ok := p.ends[dir].Oldest(); at != n || !ok {
				t.Errorf("clock of device %d behind %d ticks: %d", dir, n, at)
			}
			p.ends[dir].Take()
		}
		p.Tick()
	}
}

func TestTickOfDevicesThatAreOff(t *testing.T) { // P3.4: their clocks go, too
	p := joined()
	p.ends[0].Write(api.RegCtl, 0)
	p.ends[1].Link(false)
	p.ticks(5)
	for dir := range 2 {
		p.post(dir, "x")
		if at, _ := p.ends[dir].Oldest(); at != 5 {
			t.Errorf("clock of device %d: %d", dir, at)
		}
	}
}

func TestTickOnTheWay(t *testing.T) { // P3.4: gone at the eighth tick, not at the seventh
	for dir := range 2 {
		for _, begin := range []int{0, 3} {
			p := joined()
			p.ticks(begin)
			p.post(dir, "a")
			p.Tick()
			p.send(dir, "b") // takes a
			p.Pull(dir)
			p.ticks(2)
			p.send(dir, "c")
			p.Move(dir, 2, 0)
			p.Damage(dir, 1, 0)
			p.ticks(4)
			p.wantList(t, "at the seventh tick", dir, "c `! b")
			p.Tick()
			p.wantList(t, "at the eighth tick", dir, "c b")
			p.Tick()
			p.wantList(t, "at the ninth tick", dir, "c")
			p.Tick()
			p.wantList(t, "at the tenth tick", dir, "c")
			p.Tick()
			p.wantList(t, "at the eleventh tick", dir, "")
		}
	}
}

func TestTickInBothDirections(t *testing.T) { // P3.4
	p := joined()
	p.send(0, "a", "b", "c")
	p.send(1, "d", "e")
	p.ticks(api.MaxLife - 1)
	if p.Len(0) != 3 || p.Len(1) != 2 {
		t.Errorf("at the seventh tick: %d and %d", p.Len(0), p.Len(1))
	}
	p.Tick()
	if p.Len(0) != 0 || p.Len(1) != 0 {
		t.Errorf("at the eighth tick: %d and %d", p.Len(0), p.Len(1))
	}
}

// inRing is how many frames stand in a device's ring for sending.
func inRing(d *nic.Nic) int {
	return (reg(d, api.RegTxTail) - reg(d, api.RegTxHead) + api.RingSize) % api.RingSize
}

func TestTickInTheRings(t *testing.T) { // P3.4: of both devices, from the head on
	for first := range 2 {
		p := joined()
		p.ticks(2)
		p.post(first, "a", "b")
		p.Tick()
		p.post(1-first, "c")
		p.post(first, "d")
		for _, d := range p.ends {
			reg(d, api.RegEvents)
		}
		p.ticks(6)
		if inRing(p.ends[first]) != 3 || inRing(p.ends[1-first]) != 1 || reg(p.ends[first], api.RegEvents) != 0 {
			t.Errorf("at the seventh tick in the rings: %d, %d", inRing(p.ends[first]), inRing(p.ends[1-first]))
		}
		p.Tick()
		if inRing(p.ends[first]) != 1 || inRing(p.ends[1-first]) != 1 {
			t.Errorf("at the eighth tick in the rings: %d, %d", inRing(p.ends[first]), inRing(p.ends[1-first]))
		}
		if reg(p.ends[first], api.RegEvents) != api.EventTx || reg(p.ends[1-first], api.RegEvents) != 0 {
			t.Errorf("they were not taken by Take")
		}
		p.Tick()
		if inRing(p.ends[first]) != 0 || inRing(p.ends[1-first]) != 0 {
			t.Errorf("a tick later in the rings: %d, %d", inRing(p.ends[first]), inRing(p.ends[1-first]))
		}
		if p.Len(0) != 0 || p.Len(1) != 0 {
			t.Errorf("what was too old in a ring has come onto the wire")
		}
	}
}

func TestTickOfAFullRing(t *testing.T) { // P3.4: around the ring's end
	p := joined()
	for range 11 {
		p.send(0, "ahead")
	}
	p.post(0, strings.Split(strings.Repeat("x", api.RingSize-1), "")...)
	p.ticks(7)
	if n := inRing(p.ends[0]); n != api.RingSize-1 {
		t.Errorf("at the seventh tick: %d", n)
	}
	p.Tick()
	if n := inRing(p.ends[0]); n != 0 || p.Len(0) != 0 {
		t.Errorf("at the eighth tick: %d, and %d on their way", n, p.Len(0))
	}
}

func TestTickOfWhatIsPostedAnew(t *testing.T) { // P3.4: the last posting holds
	p := joined()
	p.post(0, "a", "b", "c")
	p.ticks(4)
	p.ends[0].Write(api.RegTxTail, 2) // around the ring, also over a and b, which alone are the device's now
	p.ticks(7)
	if at, ok := p.ends[0].Oldest(); inRing(p.ends[0]) != 2 || at != 4 || !ok {
		t.Errorf("seven ticks behind the second posting: %d left, the head of %d", inRing(p.ends[0]), at)
	}
	p.Tick()
	if n := inRing(p.ends[0]); n != 0 {
		t.Errorf("eight ticks behind it: %d left", n)
	}
}

func TestTickOfRingsThatRest(t *testing.T) { // P3.4: of a device that is off, or whose link is down, they stay
	for name, rest := range map[string]func(d *nic.Nic){
		"off":                func(d *nic.Nic) { d.Write(api.RegCtl, 0) },
		"with its link down": func(d *nic.Nic) { d.Link(false) },
	} {
		for dir := range 2 {
			p := joined()
			p.post(dir, "x", "y")
			p.post(1-dir, "z")
			p.send(dir, "w") // takes x
			rest(p.ends[dir])
			reg(p.ends[dir], api.RegEvents)
			p.ticks(20)
			if n := inRing(p.ends[dir]); n != 2 {
				t.Errorf("a device %s keeps %d in its ring, not 2", name, n)
			}
			if inRing(p.ends[1-dir]) != 0 || p.Len(dir) != 0 {
				t.Errorf("a device %s keeps what isn't its own", name)
			}
			if reg(p.ends[dir], api.RegEvents) != 0 {
				t.Errorf("a device %s was taken from", name)
			}
			p.ends[dir].Write(api.RegCtl, 1)
			p.ends[dir].Link(true)
			p.Tick()
			if n := inRing(p.ends[dir]); n != 0 || p.Len(dir) != 0 {
				t.Errorf("when it goes on, %d of a device that was %s are left, %d on their way", n, name, p.Len(dir))
			}
		}
	}
}

// seen is what a test knows of a frame that was posted.
type seen struct {
	bytes  string
	posted int
	taken  int
	dir    int
	times  int // how often it may be delivered
}

func TestWhatIsDelivered(t *testing.T) { // P3.5
	for seed := range int64(40) {
		r := rand.New(rand.NewSource(seed))
		p := joined()
		known := map[string]*seen{} // by the first five bytes, in which nothing is damaged
		next := 0
		for range 1500 {
			dir := r.Intn(2)
			k := r.Intn(6)
			switch r.Intn(12) {
			case 0, 1, 2:
				if inRing(p.ends[dir]) == api.RingSize-1 {
					continue
				}
				next++
				f := fmt.Sprintf("%05d %s", next, strings.Repeat("x", r.Intn(20)))
				p.post(dir, f)
				known[f[:5]] = &seen{bytes: f, posted: p.Now(), taken: -1, dir: dir, times: 1}
			case 3, 4, 5:
				n := p.Len(dir)
				if p.Pull(dir) == api.OK && p.Len(dir) > n {
					f, _ := p.See(dir, n)
					known[string(f.Frame[:5])].taken = p.Now()
				}
			case 6:
				f, err := p.See(dir, k)
				if p.Double(dir, k) == api.OK && err == api.OK {
					known[string(f.Frame[:5])].times++
				}
			case 7:
				p.Move(dir, k, r.Intn(6))
			case 8:
				p.Damage(dir, k, 40+r.Intn(60))
			case 9:
				p.deliverKnown(t, dir, k, known)
			case 10:
				p.Tick()
				p.Drop(dir, k+3)
			case 11:
				p.ends[dir].Write(api.RegCtl, min(1, r.Intn(5)))
				p.ends[dir].Link(r.Intn(5) > 0)
			}
		}
	}
}

// deliverKnown delivers, and holds what came against what was posted.
func (p *pair) deliverKnown(t *testing.T, dir, k int, known map[string]*seen) {
	d := p.ends[1-dir]
	at := reg(d, api.RegRxTail)
	p.receive(dir, 1, api.MaxFrame)
	if p.Deliver(dir, k) != api.OK {
		d.Write(api.RegRxTail, at)
		return
	}
	frame, bad, _ := d.Rx(at)
	s := known[string(frame[:5])]
	if s == nil || s.taken < 0 || s.dir != dir {
		t.Fatalf("%q was not taken in direction %d", frame, dir)
	}
	if s.taken-s.posted > api.MaxLife || p.Now()-s.posted > api.MaxLife {
		t.Errorf("%q of %d was taken at %d and delivered at %d", frame, s.posted, s.taken, p.Now())
	}
	if string(frame) != s.bytes && !bad {
		t.Errorf("%q came as %q", s.bytes, frame)
	}
	if s.times--; s.times < 0 {
		t.Errorf("%q was delivered too often", frame)
	}
}

func TestLikeAModel(t *testing.T) { // P3.1 to P3.4: held against lists that are kept by hand
	for seed := range int64(30) {
		r := rand.New(rand.NewSource(seed))
		p := joined()
		var lists [2][]string
		for step := range 400 {
			dir := r.Intn(2)
			l := lists[dir]
			k, to := r.Intn(5)-1, r.Intn(5)-1
			stands := k >= 0 && k < len(l)
			due := api.ErrNone
			if stands {
				due = api.OK
			}
			var got api.Errno
			switch r.Intn(6) {
			case 0, 1:
				f := strings.Repeat(string(rune('a'+step%26)), 1+step%3)
				p.post(dir, f)
				got, due = p.Pull(dir), api.OK
				lists[dir] = append(l, f)
			case 2:
				if got = p.Drop(dir, k); stands {
					lists[dir] = append(l[:k], l[k+1:]...)
				}
			case 3:
				if got = p.Double(dir, k); stands {
					lists[dir] = append(l, l[k])
				}
			case 4:
				got = p.Move(dir, k, to)
				if stands && (to < 0 || to >= len(l)) {
					due = api.ErrArg
				} else if stands {
					one := l[k]
					l = append(l[:k], l[k+1:]...)
					lists[dir] = append(append(append([]string{}, l[:to]...), one), l[to:]...)
				}
			case 5:
				p.receive(dir, 1, api.MaxFrame)
				at := reg(p.ends[1-dir], api.RegRxHead)
				if got = p.Deliver(dir, k); stands {
					if frame, _, _ := p.ends[1-dir].Rx(at); string(frame) != l[k] {
						t.Errorf("seed %d step %d: delivered %q, not %q", seed, step, frame, l[k])
					}
					lists[dir] = append(l[:k], l[k+1:]...)
				}
				p.ends[1-dir].Write(api.RegRxTail, reg(p.ends[1-dir], api.RegRxHead))
			}
			if got != due {
				t.Errorf("seed %d step %d: error %d, not %d", seed, step, got, due)
			}
			for dir := range 2 {
				p.wantList(t, fmt.Sprint("seed ", seed, " step ", step), dir, strings.Join(lists[dir], " "))
			}
		}
	}
}

// spoil overwrites bytes, and the spare room behind them.
func spoil(b []byte) {
	b = b[:cap(b)]
	for i := range b {
		b[i] = '#'
	}
}

func TestAnswersAreNewMemory(t *testing.T) { // R4
	p, q := used(), used()
	for dir := range 2 {
		for k := range p.Len(dir) {
			f, _ := p.See(dir, k)
			g, _ := p.See(dir, k)
			was := string(g.Frame)
			spoil(f.Frame)
			if string(g.Frame) != was {
				t.Errorf("two answers of See share memory")
			}
		}
	}
	if p.told() != q.told() {
		t.Errorf("what See has answered is the wire's own memory")
	}
}

func TestAnswersStay(t *testing.T) { // R4: what was answered is not changed by later calls
	p := four(0)
	p.receive(0, 1, 9)
	f, _ := p.See(0, 1)
	p.Damage(0, 1, 0)
	p.Double(0, 1)
	p.Move(0, 1, 0)
	p.Deliver(0, 0)
	p.ticks(9)
	if string(f.Frame) != "bb" || f.Bad || f.Tick != 0 {
		t.Errorf("an answer has become %v", f)
	}
	came, bad, _ := p.ends[1].Rx(0)
	if string(came) != "cb" || !bad {
		t.Errorf("what came has become %q, %v", came, bad)
	}
}

func TestFramesAreTheWiresOwn(t *testing.T) { // R4: neither the sender's descriptors nor the receiver's change with them
	p := joined()
	frame := []byte("mine and more")[:4]
	p.ends[0].SetTx(0, frame)
	p.ends[0].Write(api.RegTxTail, 1)
	p.Pull(0)
	spoil(frame)
	p.wantList(t, "the caller's bytes were changed", 0, "mine")
	p.Damage(0, 0, 0)
	p.ends[0].Write(api.RegTxTail, 0) // around the ring, and then over the descriptor 0 once more
	for range api.RingSize - 1 {
		p.Pull(0)
	}
	p.ends[0].Write(api.RegTxTail, 1)
	want(t, "Pull of the same descriptor", p.Pull(0), api.OK)
	f, err := p.See(0, p.Len(0)-1)
	if string(f.Frame) != "mine" || err != api.OK {
		t.Errorf("Damage on the wire has reached the descriptor: %q", f.Frame)
	}
}

func TestExamples(t *testing.T) { // the chapter's
	p := joined()
	p.post(0, "x")
	want(t, "Pull", p.Pull(0), api.OK)
	if p.Len(0) != 1 {
		t.Errorf("Len: %d", p.Len(0))
	}
	want(t, "Double", p.Double(0, 0), api.OK)
	want(t, "Move", p.Move(0, 1, 0), api.OK)
	if p.Len(0) != 2 {
		t.Errorf("Len: %d", p.Len(0))
	}
	want(t, "Damage", p.Damage(0, 1, 0), api.OK)
	if f, err := p.See(0, 1); string(f.Frame) != "y" || !f.Bad || err != api.OK {
		t.Errorf("See: %v, error %d", f, err)
	}
	want(t, "Pull(2)", p.Pull(2), api.ErrArg)
	want(t, "Drop(0, 5)", p.Drop(0, 5), api.ErrNone)
	p.ticks(8)
	if p.Len(0) != 0 {
		t.Errorf("Len behind eight ticks: %d", p.Len(0))
	}
}
