package core_test

import (
	"bytes"
	"fmt"
	"math"
	"testing"

	"packhorse/api"
	"packhorse/core"
	"packhorse/tcp"
)

// At around, numbers begin anew; what is half of it apart is ahead, both ways.
const (
	around = 1 << 32
	half   = 1 << 31
)

// states are all that there are, and some that there are not.
var states = []int{
	0, api.StSynSent, api.StSynRcvd, api.StOpen, api.StFinWait1, api.StFinWait2, api.StCloseWait, api.StClosing, api.StLastAck, api.StTimeWait,
	10, -1, -api.StOpen, 1<<32 + api.StSynSent, 1<<32 + api.StOpen, math.MinInt, math.MaxInt,
}

// shifts are laid upon the numbers of one side, so that they go around at one place or another of those below.
var shifts = []uint32{
	0, 1, around - 100, around - 105, around - 106, around - 110, around - 111, around - 1005, around - 1009, around - 1010, around - 1011, around - 1012,
	around - 1020, around - 1021, half, half - 107, half - 1013, around - 1,
}

// some is an open connection: 105 to 109 were sent and are not acknowledged, 1010 to 1019 may come.
func some() api.Ctl {
	return api.Ctl{
		State: api.StOpen, Iss: 100, Una: 105, Nxt: 110, SndWnd: 500, Wl1: 1009, Wl2: 105, Irs: 999, Rcv: 1010, Adv: 1020,
	}
}

// in is that connection in another state; with a Fin that was sent, in those that have one.
func in(state int) api.Ctl {
	c := some()
	c.State = state
	switch state {
	case api.StFinWait1, api.StFinWait2, api.StClosing, api.StLastAck, api.StTimeWait:
		c.FinSent = true
	}
	return c
}

// wide is that connection with other numbers that may come.
func wide(state int, rcv, adv uint32) api.Ctl {
	c := in(state)
	c.Rcv, c.Adv = rcv, adv
	return c
}

// seg is a segment of so many bytes.
func seg(seq, ack uint32, flags, wnd, size int) api.Seg {
	return api.Seg{From: 5, To: 7, Seq: seq, Ack: ack, Flags: flags, Wnd: wnd, Data: noise(size, size)}
}

// noise is n bytes, the same at every run.
func noise(seed, n int) []byte {
	d := dice(seed)
	b := make([]byte, n)
	for i := range b {
		b[i] = byte(d.below(256))
	}
	return b
}

// dice tell numbers, the same at every run.
type dice uint32

func (d *dice) next() uint32 {
	*d = *d*1664525 + 1013904223
	return uint32(*d)
}

func (d *dice) below(n int) int { return int(d.next()>>8) % n }

func (d *dice) is() bool { return d.below(2) == 1 }

// movedCtl and movedSeg lay a shift upon the numbers of each side.
func movedCtl(c api.Ctl, own, other uint32) api.Ctl {
	c.Iss, c.Una, c.Nxt, c.Wl2 = c.Iss+own, c.Una+own, c.Nxt+own, c.Wl2+own
	c.Irs, c.Rcv, c.Adv, c.Wl1 = c.Irs+other, c.Rcv+other, c.Adv+other, c.Wl1+other
	return c
}

func movedSeg(s api.Seg, own, other uint32) api.Seg {
	s.Ack, s.Seq = s.Ack+own, s.Seq+other
	return s
}

func textOf(s api.Seg) string {
	return fmt.Sprintf("seq %d ack %d flags %d wnd %d, %d bytes", s.Seq, s.Ack, s.Flags, s.Wnd, len(s.Data))
}

// wantOnce stops its test at the first wrong verdict: there are many that would be wrong likewise.
func wantOnce(t *testing.T, c api.Ctl, s api.Seg, due api.Verdict) {
	t.Helper()
	if v := core.Judge(c, s); v != due {
		t.Fatalf("Judge(%+v, %s):\n%+v, not\n%+v", c, textOf(s), v, due)
	}
}

// want holds a verdict against what is due, whose Next is told apart, with numbers that go around here and there.
func want(t *testing.T, c api.Ctl, s api.Seg, next api.Ctl, due api.Verdict) {
	t.Helper()
	for _, own := range shifts {
		for _, other := range shifts {
			due.Next = movedCtl(next, own, other)
			wantOnce(t, movedCtl(c, own, other), movedSeg(s, own, other), due)
		}
	}
}

// wantReply: nothing but a reply; wantEnded: nothing but an end.
func wantReply(t *testing.T, c api.Ctl, s api.Seg, reply int) {
	t.Helper()
	want(t, c, s, c, api.Verdict{Reply: reply})
}

func wantEnded(t *testing.T, c api.Ctl, s api.Seg, why api.Errno) {
	t.Helper()
	want(t, c, s, c, api.Verdict{Ended: why})
}

// wantNothing: nothing at all.
func wantNothing(t *testing.T, c api.Ctl, s api.Seg) {
	t.Helper()
	wantReply(t, c, s, api.ReplyNone)
}

// apart is by how much a lies behind b, from -2^31 to 2^31 - 1, worked out here.
func apart(a, b uint32) int64 {
	d := int64(a) - int64(b)
	for d < -half {
		d += around
	}
	for d >= half {
		d -= around
	}
	return d
}

func flagged(s api.Seg, flag int) bool { return s.Flags/flag%2 != 0 }

// numbers are those of a segment, one by one.
func numbers(s api.Seg) []uint32 {
	n := len(s.Data)
	if flagged(s, api.Syn) {
		n++
	}
	if flagged(s, api.Fin) {
		n++
	}
	all := make([]uint32, n)
	for i := range all {
		all[i] = s.Seq + uint32(i)
	}
	return all
}

// inWindow tells it by the distance from Rcv, without going around.
func inWindow(c api.Ctl, n uint32) bool {
	return apart(n, c.Rcv) >= 0 && apart(n, c.Rcv) < apart(c.Adv, c.Rcv)
}

func isPlainlyAcceptable(c api.Ctl, s api.Seg) bool {
	all := numbers(s)
	if len(all) > 0 {
		return inWindow(c, all[0]) || inWindow(c, all[len(all)-1])
	}
	return inWindow(c, s.Seq) || apart(c.Adv, c.Rcv) < 1 && s.Seq == c.Rcv
}

// judged is a plain reading of P15.2 and P15.3.
func judged(c api.Ctl, s api.Seg) api.Verdict {
	if c.State == api.StSynSent {
		return judgedAtFirst(c, s)
	}
	switch {
	case !isPlainlyAcceptable(c, s) && flagged(s, api.Rst):
		return api.Verdict{Next: c}
	case !isPlainlyAcceptable(c, s):
		return api.Verdict{Next: c, Reply: api.ReplyAck}
	case flagged(s, api.Rst) && s.Seq == c.Rcv && c.State == api.StSynRcvd:
		return api.Verdict{Next: c, Ended: api.ErrRefused}
	case flagged(s, api.Rst) && s.Seq == c.Rcv:
		return api.Verdict{Next: c, Ended: api.ErrReset}
	case flagged(s, api.Rst), flagged(s, api.Syn):
		return api.Verdict{Next: c, Reply: api.ReplyAck}
	case !flagged(s, api.Ack):
		return api.Verdict{Next: c}
	case c.State == api.StSynRcvd && s.Ack != c.Nxt:
		return api.Verdict{Next: c, Reply: api.ReplyReset}
	case c.State != api.StSynRcvd && (apart(s.Ack, c.Nxt) > 0 || apart(c.Una, s.Ack) > 65535):
		return api.Verdict{Next: c, Reply: api.ReplyAck}
	}
	return judgedByAck(c, s)
}

func judgedAtFirst(c api.Ctl, s api.Seg) api.Verdict {
	v := api.Verdict{Next: c}
	ack, rst, syn := flagged(s, api.Ack), flagged(s, api.Rst), flagged(s, api.Syn)
	if ack && s.Ack != c.Nxt {
		if !rst {
			v.Reply = api.ReplyReset
		}
		return v
	}
	if rst {
		if ack {
			v.Ended = api.ErrRefused
		}
		return v
	}
	if !syn {
		return v
	}
	v.Next.Irs, v.Next.Rcv, v.Next.Adv, v.Next.SndWnd, v.Next.Wl1 = s.Seq, s.Seq+1, s.Seq+1, s.Wnd, s.Seq
	if ack {
		v.Next.Una, v.Next.Wl2, v.Next.State, v.Reply, v.Acked = s.Ack, s.Ack, api.StOpen, api.ReplyAck, true
	} else {
		v.Next.Wl2, v.Next.State, v.Reply = c.Iss, api.StSynRcvd, api.ReplySynAck
	}
	return v
}

// judgedByAck is what is left of P15.3, of an Ack that may be.
func judgedByAck(c api.Ctl, s api.Seg) api.Verdict {
	v := api.Verdict{Next: c}
	x := &v.Next
	if c.State == api.StSynRcvd {
		x.Una, x.SndWnd, x.Wl1, x.Wl2, x.State, v.Acked = s.Ack, s.Wnd, s.Seq, s.Ack, api.StOpen, true
	} else {
		if apart(s.Ack, c.Una) > 0 {
			x.Una, v.Acked = s.Ack, true
		} else if s.Ack == c.Una && c.Nxt != c.Una && len(numbers(s)) == 0 && s.Wnd == c.SndWnd {
			v.Again = true
		}
		later := apart(s.Seq, c.Wl1) > 0 || s.Seq == c.Wl1 && apart(s.Ack, c.Wl2) >= 0
		if apart(s.Ack, x.Una) >= 0 && later {
			x.SndWnd, x.Wl1, x.Wl2 = s.Wnd, s.Seq, s.Ack
		}
		if c.FinSent && x.Una == c.Nxt {
			if c.State == api.StLastAck {
				v.Ended = api.ErrEnd
				return v
			}
			x.State = map[int]int{api.StFinWait1: api.StFinWait2, api.StClosing: api.StTimeWait}[c.State]
			if x.State == 0 {
				x.State = c.State
			}
		}
	}
	switch x.State {
	case api.StOpen, api.StFinWait1, api.StFinWait2:
		v.Skip, v.Take, v.Fin = taken(c, s)
	}
	return v
}

// taken goes through a segment's bytes one by one.
func taken(c api.Ctl, s api.Seg) (int, int, bool) {
	skip, take := 0, 0
	for i := range s.Data {
		n := s.Seq + uint32(i)
		switch {
		case take == 0 && skip == i && apart(n, c.Rcv) < 0:
			skip++
		case skip+take == i && inWindow(c, n):
			take++
		}
	}
	end := flagged(s, api.Fin) && skip+take == len(s.Data) && inWindow(c, s.Seq+uint32(len(s.Data)))
	return skip, take, end
}

// P15.1: an active one, at ticks of all kinds.
func TestActive(t *testing.T) {
	for _, x := range []struct {
		now   int
		first uint32
	}{
		{0, 0}, {1, 4096}, {2, 8192}, {3, 12288}, {100, 409600},
		{1<<20 - 1, 4294963200}, {1 << 20, 0}, {1<<20 + 1, 4096}, {1<<40 - 1, 4294963200}, {1 << 40, 0}, {1<<40 + 5, 20480},
		{-1, 4294963200}, {-2, 4294959104}, {-1 << 20, 0}, {-1<<20 - 1, 4294963200}, {-1<<20 + 1, 4096},
		{math.MaxInt, 4294963200}, {math.MinInt, 0}, {math.MinInt + 1, 4096},
	} {
		due := api.Ctl{State: api.StSynSent, Iss: x.first, Una: x.first, Nxt: x.first + 1}
		if c := core.Active(x.now); c != due {
			t.Errorf("Active(%d): %+v, not %+v", x.now, c, due)
		}
	}
}

// P15.1: a passive one, of what asks for it, at ticks of all kinds.
func TestPassive(t *testing.T) {
	for _, x := range []struct {
		now   int
		first uint32
		seq   uint32
		rcv   uint32
		wnd   int
	}{
		{0, 0, 9, 10, 7}, {3, 12288, 0, 1, 0}, {1<<20 - 1, 4294963200, math.MaxUint32, 0, 65535}, {1 << 20, 0, math.MaxUint32 - 1, math.MaxUint32, 1},
		{-1, 4294963200, 1 << 31, 1<<31 + 1, 1024}, {1<<20 + 2, 8192, 1<<31 - 1, 1 << 31, -1}, {math.MinInt, 0, 5, 6, math.MaxInt}, {math.MaxInt, 4294963200, 5, 6, math.MinInt},
	} {
		due := api.Ctl{
			State: api.StSynRcvd, Iss: x.first, Una: x.first, Nxt: x.first + 1, SndWnd: x.wnd, Wl1: x.seq, Wl2: x.first, Irs: x.seq, Rcv: x.rcv, Adv: x.rcv,
		}
		for _, size := range []int{0, 1, 100} {
			s := seg(x.seq, 77, api.Syn, x.wnd, size)
			if c, err := core.Passive(s, x.now); err != api.OK || c != due {
				t.Errorf("Passive(%s, %d): %+v, error %d, not %+v", textOf(s), x.now, c, err, due)
			}
		}
	}
}

// P15.1, R3: of all flags, only Syn without Ack, Rst and Fin begins a connection; an error stands alone.
func TestPassiveFlags(t *testing.T) {
	for low := range 32 {
		for _, high := range []int{0, 32, 1 << 20, math.MinInt} {
			s := seg(9, 8, low|high, 7, 3)
			c, err := core.Passive(s, 3)
			switch {
			case low == api.Syn || low == api.Syn|api.Psh:
				if err != api.OK || c.State != api.StSynRcvd || c.Rcv != 10 {
					t.Errorf("Passive(%s): %+v, error %d", textOf(s), c, err)
				}
			case err != api.ErrArg || c != api.Ctl{}:
				t.Errorf("Passive(%s): %+v, error %d, not error %d alone", textOf(s), c, err, api.ErrArg)
			}
		}
	}
}

// sent is one whose own Syn is on its way.
func sent() api.Ctl { return api.Ctl{State: api.StSynSent, Iss: 104, Una: 104, Nxt: 105} }

// P15.2: an Ack of what was never sent is reset, ahead of all else that it says; a Rst with it is nothing.
func TestStrayAck(t *testing.T) {
	c := sent()
	for _, ack := range []uint32{104, 106, 103, 107, 0, 105 + half, around + 105 - 65536, 105 + 65536, around - 1} {
		for _, flags := range []int{0, api.Syn, api.Fin, api.Syn | api.Fin, api.Psh, api.Syn | api.Psh, 32} {
			wantReply(t, c, seg(1010, ack, flags|api.Ack, 7, 3), api.ReplyReset)
			wantNothing(t, c, seg(1010, ack, flags|api.Ack|api.Rst, 7, 3))
		}
	}
}

// P15.2: a Rst with the right Ack refuses, also with a Syn; one without an Ack is nothing.
func TestRefusal(t *testing.T) {
	c := sent()
	for _, flags := range []int{0, api.Syn, api.Fin, api.Syn | api.Fin, api.Psh, 32} {
		wantEnded(t, c, seg(1010, 105, flags|api.Rst|api.Ack, 7, 0), api.ErrRefused)
		wantNothing(t, c, seg(1010, 105, flags|api.Rst, 7, 0))
		wantNothing(t, c, seg(1010, 104, flags|api.Rst, 7, 0))
	}
}

// P15.2: a Syn with Ack opens, one without meets another one; what is neither is nothing.
func TestMeeting(t *testing.T) {
	c := sent()
	next := api.Ctl{Iss: 104, Nxt: 105, SndWnd: 7, Wl1: 1010, Irs: 1010, Rcv: 1011, Adv: 1011}
	for _, more := range []int{0, api.Fin, api.Psh, 32} {
		for _, size := range []int{0, 3} {
			next.State, next.Una, next.Wl2 = api.StOpen, 105, 105
			want(t, c, seg(1010, 105, more|api.Syn|api.Ack, 7, size), next, api.Verdict{Reply: api.ReplyAck, Acked: true})
			next.State, next.Una, next.Wl2 = api.StSynRcvd, 104, 104
			want(t, c, seg(1010, 105, more|api.Syn, 7, size), next, api.Verdict{Reply: api.ReplySynAck})
			want(t, c, seg(1010, 4, more|api.Syn, 7, size), next, api.Verdict{Reply: api.ReplySynAck})
			wantNothing(t, c, seg(1010, 105, more|api.Ack, 7, size))
			wantNothing(t, c, seg(1010, 105, more, 7, size))
			wantNothing(t, c, seg(1010, 4, more, 7, size))
		}
	}
}

// P15.2: what another Syn said ahead of it is gone; Iss, and that no Fin was sent, stay as they were.
func TestMeetingAnew(t *testing.T) {
	c := some()
	c.State, c.FinSent = api.StSynSent, true
	next := api.Ctl{State: api.StOpen, Iss: 100, Una: 110, Nxt: 110, FinSent: true, SndWnd: 0, Wl1: 2000, Wl2: 110, Irs: 2000, Rcv: 2001, Adv: 2001}
	want(t, c, seg(2000, 110, api.Syn|api.Ack, 0, 0), next, api.Verdict{Reply: api.ReplyAck, Acked: true})
	next.State, next.Una, next.Wl2 = api.StSynRcvd, 105, 100
	want(t, c, seg(2000, 110, api.Syn, 0, 0), next, api.Verdict{Reply: api.ReplySynAck})
}

// P15.2: all flags, with Acks of all kinds, against a plain reading.
func TestSynSentFlags(t *testing.T) {
	c := sent()
	for flags := range 64 {
		for _, ack := range []uint32{0, 103, 104, 105, 106} {
			for _, seq := range []uint32{0, 1010, math.MaxUint32} {
				s := seg(seq, ack, flags, 9, 2)
				wantOnce(t, c, s, judged(c, s))
			}
		}
	}
}

// others are all states but StSynSent.
func others() []int {
	var all []int
	for _, x := range states {
		if x != api.StSynSent {
			all = append(all, x)
		}
	}
	return all
}

// wantFit: a segment is acceptable, or not, in all states. It has no Ack, so nothing else can be told.
func wantFit(t *testing.T, rcv, adv, seq uint32, flags, size int, is bool) {
	t.Helper()
	for _, state := range others() {
		c := wide(state, rcv, adv)
		s := seg(seq, 107, flags, 7, size)
		back := seg(seq, 107, flags|api.Rst, 7, size)
		switch {
		case !is:
			wantReply(t, c, s, api.ReplyAck)
			wantReply(t, c, seg(seq, 107, flags|api.Ack, 7, size), api.ReplyAck)
			wantNothing(t, c, back)
		case seq != rcv:
			wantNothing(t, c, s)
			wantReply(t, c, back, api.ReplyAck)
		case state == api.StSynRcvd:
			wantNothing(t, c, s)
			wantEnded(t, c, back, api.ErrRefused)
		default:
			wantNothing(t, c, s)
			wantEnded(t, c, back, api.ErrReset)
		}
	}
}

// P15.3: without numbers, and without a window, the very number that is wanted is acceptable alone.
func TestFitNothingInNone(t *testing.T) {
	for _, adv := range []uint32{1010, 1009, 1000, around + 1010 - half/2, 1010 + half} {
		wantFit(t, 1010, adv, 1010, 0, 0, true)
		for _, seq := range []uint32{1009, 1011, 1000, adv - 1, 1010 + half} {
			wantFit(t, 1010, adv, seq, 0, 0, false)
		}
	}
}

// P15.3: without numbers, in a window of one and of many: from Rcv on, up to Adv.
func TestFitNothingInSome(t *testing.T) {
	for _, many := range []uint32{1, 2, 10, 65535, half - 1} {
		adv := 1010 + many
		for _, seq := range []uint32{1010, adv - 1, 1010 + many/2} {
			wantFit(t, 1010, adv, seq, 0, 0, true)
		}
		for _, seq := range []uint32{1009, adv, adv + 1, 1000, 1010 + half} {
			wantFit(t, 1010, adv, seq, 0, 0, false)
		}
	}
}

// P15.3: no number is acceptable where there is no window.
func TestFitSomeInNone(t *testing.T) {
	for _, adv := range []uint32{1010, 1009, 1000, 1010 + half} {
		for _, seq := range []uint32{1010, 1009, 1008, 1011, 1000} {
			for _, size := range []int{1, 2, 3, 20} {
				wantFit(t, 1010, adv, seq, 0, size, false)
				wantFit(t, 1010, adv, seq, api.Fin, size, false)
			}
			wantFit(t, 1010, adv, seq, api.Fin, 0, false)
		}
	}
}

// P15.3: with numbers, the first or the last is to be in the window; between both does not count.
func TestFitSomeInSome(t *testing.T) {
	for _, x := range []struct {
		adv  uint32
		seq  uint32
		size int
		is   bool
	}{
		{1011, 1010, 1, true},
		{1011, 1009, 1, false},
		{1011, 1011, 1, false},
		{1011, 1009, 2, true},
		{1011, 1010, 2, true},
		{1011, 1009, 3, false},
		{1020, 1010, 10, true},
		{1020, 1010, 11, true},
		{1020, 1010, 3000, true},
		{1020, 1012, 3, true},
		{1020, 1000, 10, false},
		{1020, 1000, 11, true},
		{1020, 1000, 20, true},
		{1020, 1000, 21, false},
		{1020, 1019, 1, true},
		{1020, 1019, 5, true},
		{1020, 1020, 1, false},
		{1020, 1009, 1, false},
		{1020, 1009, 11, true},
		{1020, 1009, 12, false},
		{1010 + 65535, 1010 + 65534, 2, true},
		{1010 + 65535, 1010 + 65535, 2, false},
	} {
		wantFit(t, 1010, x.adv, x.seq, 0, x.size, x.is)
		wantFit(t, 1010, x.adv, x.seq, api.Fin, x.size-1, x.is)
	}
}

// P15.3: a Syn takes a number, too, ahead of the bytes.
func TestFitSyn(t *testing.T) {
	for _, state := range others() {
		c := in(state)
		for _, x := range []struct {
			seq  uint32
			size int
		}{{1009, 1}, {1010, 0}, {1019, 0}, {1005, 5}, {1009, 10}} {
			wantReply(t, c, seg(x.seq, 107, api.Syn, 7, x.size), api.ReplyAck)
			wantReply(t, c, seg(x.seq, 107, api.Syn|api.Ack, 7, x.size), api.ReplyAck)
			back := seg(x.seq, 107, api.Syn|api.Rst, 7, x.size)
			switch {
			case x.seq != 1010:
				wantReply(t, c, back, api.ReplyAck)
			case state == api.StSynRcvd:
				wantEnded(t, c, back, api.ErrRefused)
			default:
				wantEnded(t, c, back, api.ErrReset)
			}
		}
		for _, x := range []struct {
			seq  uint32
			size int
		}{{1009, 0}, {1020, 0}, {1005, 4}, {1009, 11}} {
			wantNothing(t, c, seg(x.seq, 107, api.Syn|api.Rst, 7, x.size))
			wantReply(t, c, seg(x.seq, 107, api.Syn, 7, x.size), api.ReplyAck)
		}
		wantEnded(t, wide(api.StOpen, 1010, 1010), seg(1010, 0, api.Rst, 0, 0), api.ErrReset)
		wantNothing(t, wide(state, 1010, 1010), seg(1010, 0, api.Rst|api.Syn, 0, 0))
		wantNothing(t, wide(state, 1010, 1010), seg(1010, 0, api.Rst|api.Fin, 0, 0))
	}
}

// P15.3: a Rst counts at Rcv alone, whatever else it says; elsewhere in the window it is acknowledged, beyond it nothing.
func TestRst(t *testing.T) {
	for _, state := range others() {
		c := in(state)
		due := api.ErrReset
		if state == api.StSynRcvd {
			due = api.ErrRefused
		}
		for _, flags := range []int{0, api.Ack, api.Psh | api.Ack, api.Syn, api.Fin | api.Ack, api.Syn | api.Ack, 32} {
			for _, ack := range []uint32{0, 104, 110, 111, 110 + half} {
				wantEnded(t, c, seg(1010, ack, flags|api.Rst, 7, 0), due)
				wantReply(t, c, seg(1011, ack, flags|api.Rst, 7, 0), api.ReplyAck)
				wantReply(t, c, seg(1019, ack, flags|api.Rst, 7, 0), api.ReplyAck)
				wantNothing(t, c, seg(1020, ack, flags|api.Rst, 7, 0))
				wantNothing(t, c, seg(1008, ack, flags|api.Rst, 7, 0))
			}
		}
		wantReply(t, c, seg(1009, 107, api.Rst, 7, 2), api.ReplyAck)
		wantEnded(t, c, seg(1010, 107, api.Rst, 7, 2), due)
	}
}

// P15.3: a Syn in the window is acknowledged, and nothing else of it counts; nor does what has no Ack.
func TestSynAndNoAck(t *testing.T) {
	for _, state := range others() {
		c := in(state)
		for _, ack := range []uint32{104, 105, 107, 110, 111} {
			wantReply(t, c, seg(1010, ack, api.Syn, 7, 0), api.ReplyAck)
			wantReply(t, c, seg(1010, ack, api.Syn|api.Ack, 7, 3), api.ReplyAck)
			wantReply(t, c, seg(1012, ack, api.Syn|api.Ack|api.Fin, 7, 3), api.ReplyAck)
			wantNothing(t, c, seg(1010, ack, 0, 7, 3))
			wantNothing(t, c, seg(1010, ack, api.Psh, 7, 3))
			wantNothing(t, c, seg(1010, ack, api.Fin, 7, 3))
			wantNothing(t, c, seg(1012, ack, api.Fin|32, 7, 3))
		}
	}
}

// rcvd is one that has answered a Syn.
func rcvd() api.Ctl {
	return api.Ctl{State: api.StSynRcvd, Iss: 104, Una: 104, Nxt: 105, SndWnd: 500, Wl1: 1009, Wl2: 104, Irs: 1009, Rcv: 1010, Adv: 1020}
}

// P15.3: in StSynRcvd the Ack of the own Syn opens, and bytes are taken at once.
func TestOpening(t *testing.T) {
	c := rcvd()
	next := c
	next.State, next.Una, next.SndWnd, next.Wl2 = api.StOpen, 105, 7, 105
	for _, x := range []struct {
		seq  uint32
		fin  int
		size int
		due  api.Verdict
	}{
		{1010, 0, 0, api.Verdict{}},
		{1012, 0, 0, api.Verdict{}},
		{1010, 0, 4, api.Verdict{Take: 4}},
		{1008, 0, 4, api.Verdict{Skip: 2, Take: 2}},
		{1012, 0, 4, api.Verdict{Take: 4}},
		{1010, api.Fin, 4, api.Verdict{Take: 4, Fin: true}},
		{1010, api.Fin, 0, api.Verdict{Fin: true}},
		{1010, api.Fin, 10, api.Verdict{Take: 10}},
	} {
		x.due.Acked = true
		next.Wl1 = x.seq
		want(t, c, seg(x.seq, 105, api.Ack|x.fin, 7, x.size), next, x.due)
	}
	// What may be sent is told whatever was heard ahead of it.
	c.Wl1, c.Wl2, next.Wl1 = 5000, 5000, 1010
	want(t, c, seg(1010, 105, api.Ack, 7, 0), next, api.Verdict{Acked: true})
	// That it has a Fin on its way changes nothing, nor how far Una is behind.
	c.FinSent, next.FinSent = true, true
	c.Una = 105 + 70000
	want(t, c, seg(1010, 105, api.Ack, 7, 0), next, api.Verdict{Acked: true})
}

// P15.3: in StSynRcvd any other Ack is reset.
func TestOpeningStray(t *testing.T) {
	c := rcvd()
	for _, ack := range []uint32{104, 106, 0, 103, 105 + half, around + 105 - 65536} {
		wantReply(t, c, seg(1010, ack, api.Ack, 7, 0), api.ReplyReset)
		wantReply(t, c, seg(1010, ack, api.Ack|api.Fin, 7, 3), api.ReplyReset)
		wantReply(t, c, seg(1015, ack, api.Ack, 500, 3), api.ReplyReset)
	}
}

// calm are the states in which an Ack of the own Fin moves nothing, and no bytes are taken.
func calm() []int {
	return []int{0, 10, -1, api.StCloseWait, api.StTimeWait, 1<<32 + api.StOpen, 1<<32 + api.StSynRcvd}
}

// P15.3: in all states but StSynSent and StSynRcvd, an Ack from Una on, up to Nxt.
func TestAck(t *testing.T) {
	for _, state := range append(calm(), api.StOpen, api.StFinWait1, api.StFinWait2, api.StClosing, api.StLastAck) {
		c := in(state)
		c.Wl1 = 2000 // so that no window is told
		for _, x := range []struct {
			ack   uint32
			una   uint32
			again bool
		}{{105, 105, true}, {106, 106, false}, {109, 109, false}, {104, 105, false}, {around + 105 - 65534, 105, false}, {around + 105 - 65535, 105, false}} {
			next := c
			next.Una = x.una
			want(t, c, seg(1012, x.ack, api.Ack, 500, 0), next, api.Verdict{Acked: x.una != 105, Again: x.again})
		}
		for _, ack := range []uint32{111, 112, around + 105 - 65536, around + 105 - 65537, 110 + half/2, 105 + half, 106 + half} {
			wantReply(t, c, seg(1010, ack, api.Ack, 7, 0), api.ReplyAck)
			wantReply(t, c, seg(1010, ack, api.Ack|api.Fin, 7, 3), api.ReplyAck)
		}
	}
}

// P15.3: an Ack of all that was sent, without a Fin among it, moves no state.
func TestAckOfAll(t *testing.T) {
	for _, state := range others() {
		c := in(state)
		if c.FinSent = false; state == api.StSynRcvd {
			continue
		}
		next := c
		next.Una, next.SndWnd, next.Wl1, next.Wl2 = 110, 7, 1010, 110
		want(t, c, seg(1010, 110, api.Ack, 7, 0), next, api.Verdict{Acked: true})
	}
}

// P15.3: Again, and what is none: other Acks, nothing on its way, numbers, another window.
func TestAgain(t *testing.T) {
	for _, state := range append(calm(), api.StOpen, api.StFinWait1, api.StFinWait2, api.StClosing) {
		c := in(state)
		c.Wl1 = 1010
		next := c
		s := seg(1010, 105, api.Ack, 500, 0)
		want(t, c, s, next, api.Verdict{Again: true})
		s.Flags = api.Ack | api.Psh
		want(t, c, s, next, api.Verdict{Again: true})
		s.Wnd, next.SndWnd = 501, 501
		want(t, c, s, next, api.Verdict{})
		s.Wnd, next.SndWnd = 499, 499
		want(t, c, s, next, api.Verdict{})
		old := seg(1010, 104, api.Ack, 500, 0)
		want(t, c, old, c, api.Verdict{})
		all := in(state)
		all.Una, all.Wl1, all.FinSent = 110, 1010, false
		next = all
		next.Wl2 = 110
		want(t, all, seg(1010, 110, api.Ack, 500, 0), next, api.Verdict{})
	}
	for _, state := range calm() {
		c := in(state)
		c.Wl1 = 1010
		want(t, c, seg(1010, 105, api.Ack, 500, 1), c, api.Verdict{})
		want(t, c, seg(1010, 105, api.Ack|api.Fin, 500, 0), c, api.Verdict{})
	}
	c := some()
	c.Wl1 = 1010
	want(t, c, seg(1010, 105, api.Ack, 500, 1), c, api.Verdict{Take: 1})
	want(t, c, seg(1010, 105, api.Ack|api.Fin, 500, 0), c, api.Verdict{Fin: true})
	// A window that is told only now is not the one that it is held against.
	c.SndWnd = 7
	next := c
	next.SndWnd = 500
	want(t, c, seg(1010, 105, api.Ack, 500, 0), next, api.Verdict{})
}

// P15.3: what may be sent is told anew by what is later than what told it: a Seq behind Wl1, or the same one, and an Ack not ahead of Wl2; an Ack ahead of Una tells it never.
func TestWindow(t *testing.T) {
	for _, x := range []struct {
		seq, ack, wl1, wl2 uint32
		told               bool
	}{
		{1012, 105, 1011, 105, true},
		{1012, 105, 1011, 109, true},
		{1012, 105, 1011, 104, true},
		{1012, 105, 1012, 105, true},
		{1012, 105, 1012, 104, true},
		{1012, 105, 1012, 106, false},
		{1012, 105, 1013, 105, false},
		{1012, 105, 1013, 104, false},
		{1012, 107, 1012, 105, true},
		{1012, 107, 1012, 107, true},
		{1012, 107, 1012, 108, false},
		{1012, 107, 1011, 108, true},
		{1012, 107, 1013, 105, false},
		{1012, 104, 1011, 104, false},
		{1012, 104, 1012, 104, false},
		{1012, 104, 1012, 103, false},
		{1012, 110, 1012, 110, true},
		{1012, 110, 1012, 111, false},
		{1012, 105, 1013 + half, 105, true},
		{1012, 105, 1011 + half, 105, false},
		{1012, 105, 1012 + half, 105, false},
		{1012, 105, 1012, 106 + half, true},
		{1012, 105, 1012, 104 + half, false},
		{1012, 105, 1012, 105 + half, false},
	} {
		for _, state := range append(calm(), api.StOpen, api.StFinWait1, api.StClosing, api.StLastAck) {
			c := in(state)
			c.FinSent, c.Wl1, c.Wl2 = false, x.wl1, x.wl2
			next := c
			if x.ack > 105 {
				next.Una = x.ack
			}
			for _, wnd := range []int{0, 7, 65535, -1, math.MaxInt} {
				if x.told {
					next.SndWnd, next.Wl1, next.Wl2 = wnd, x.seq, x.ack
				}
				want(t, c, seg(x.seq, x.ack, api.Ack, wnd, 0), next, api.Verdict{Acked: next.Una != 105})
			}
		}
	}
}

// P15.3: an Ack that is as far from Una as can be, where all is acknowledged, is ahead of it, and tells nothing.
func TestFarthestAck(t *testing.T) {
	c := some()
	c.Nxt = c.Una
	want(t, c, seg(1010, 105+half, api.Ack, 7, 0), c, api.Verdict{})
}

// P15.3: the Ack of the own Fin, in each state: with it, without it, and where it came already.
func TestOwnFin(t *testing.T) {
	for _, x := range []struct{ state, next int }{
		{api.StFinWait1, api.StFinWait2}, {api.StClosing, api.StTimeWait}, {api.StFinWait2, api.StFinWait2}, {api.StTimeWait, api.StTimeWait},
		{api.StOpen, api.StOpen}, {api.StCloseWait, api.StCloseWait}, {0, 0}, {10, 10}, {-1, -1}, {1<<32 + api.StFinWait1, 1<<32 + api.StFinWait1},
	} {
		c := in(x.state)
		c.FinSent, c.Wl1 = true, 1011 // no window is told
		next := c
		next.Una, next.State = 110, x.next
		want(t, c, seg(1010, 110, api.Ack, 500, 0), next, api.Verdict{Acked: true})
		next.Una, next.State = 109, x.state
		want(t, c, seg(1010, 109, api.Ack, 500, 0), next, api.Verdict{Acked: true})
		c.Una = 110
		next = c
		next.State = x.next
		want(t, c, seg(1010, 110, api.Ack, 500, 0), next, api.Verdict{})
		want(t, c, seg(1010, 109, api.Ack, 500, 0), next, api.Verdict{})
		c.FinSent, next.FinSent = false, false
		next.State = x.state
		want(t, c, seg(1010, 110, api.Ack, 500, 0), next, api.Verdict{})
	}
}

// P15.3: in StLastAck the Ack of the own Fin is the end, and nothing is told behind it.
func TestLastAck(t *testing.T) {
	c := in(api.StLastAck)
	next := c
	next.Una, next.SndWnd, next.Wl1, next.Wl2 = 110, 7, 1010, 110
	want(t, c, seg(1010, 110, api.Ack, 7, 0), next, api.Verdict{Acked: true, Ended: api.ErrEnd})
	want(t, c, seg(1010, 110, api.Ack|api.Fin, 7, 3), next, api.Verdict{Acked: true, Ended: api.ErrEnd})
	next.Una, next.Wl2 = 109, 109
	want(t, c, seg(1010, 109, api.Ack, 7, 0), next, api.Verdict{Acked: true})
	c.Una = 110
	want(t, c, seg(1010, 108, api.Ack, 7, 0), c, api.Verdict{Ended: api.ErrEnd})
	c.FinSent = false
	want(t, c, seg(1010, 108, api.Ack, 7, 0), c, api.Verdict{})
}

// wantTaken: bytes that are taken in three states, and in no others.
func wantTaken(t *testing.T, adv, seq uint32, flags, size, skip, take int, fin bool) {
	t.Helper()
	for _, state := range append(calm(), api.StOpen, api.StFinWait1, api.StFinWait2, api.StClosing, api.StLastAck) {
		c := wide(state, 1010, adv)
		c.Wl1 = 1005 + half/2 // no window is told
		due := api.Verdict{}
		switch state {
		case api.StOpen, api.StFinWait1, api.StFinWait2:
			due = api.Verdict{Skip: skip, Take: take, Fin: fin}
		}
		due.Again = flags&api.Fin == 0 && size == 0
		want(t, c, seg(seq, 105, api.Ack|flags, 500, size), c, due)
	}
}

// P15.3: bytes that are old, in the window, and beyond it.
func TestBytes(t *testing.T) {
	for _, x := range []struct {
		adv        uint32
		seq        uint32
		size       int
		skip, take int
	}{
		{1020, 1010, 0, 0, 0},
		{1020, 1019, 0, 0, 0},
		{1020, 1010, 1, 0, 1},
		{1020, 1010, 9, 0, 9},
		{1020, 1010, 10, 0, 10},
		{1020, 1010, 11, 0, 10},
		{1020, 1010, 3000, 0, 10},
		{1020, 1008, 4, 2, 2},
		{1020, 1009, 2, 1, 1},
		{1020, 1000, 20, 10, 10},
		{1020, 1000, 11, 10, 1},
		{1020, 10, 1005, 1000, 5},
		{1020, 1012, 3, 0, 3},
		{1020, 1012, 8, 0, 8},
		{1020, 1012, 9, 0, 8},
		{1020, 1019, 1, 0, 1},
		{1020, 1019, 2, 0, 1},
		{1011, 1010, 1, 0, 1},
		{1011, 1010, 2, 0, 1},
		{1011, 1009, 2, 1, 1},
		{1010, 1010, 0, 0, 0},
		{1000, 1010, 0, 0, 0},
		{1010 + 65535, 1010 + 65000, 535, 0, 535},
		{1010 + 65535, 1010 + 65000, 536, 0, 535},
	} {
		wantTaken(t, x.adv, x.seq, 0, x.size, x.skip, x.take, false)
	}
}

// P15.3: a Fin whose bytes are all there, and whose number is in the window; and others.
func TestFin(t *testing.T) {
	for _, x := range []struct {
		adv        uint32
		seq        uint32
		size       int
		skip, take int
		fin        bool
	}{
		{1020, 1010, 0, 0, 0, true},
		{1020, 1019, 0, 0, 0, true},
		{1020, 1015, 0, 0, 0, true},
		{1020, 1010, 3, 0, 3, true},
		{1020, 1010, 9, 0, 9, true},
		{1020, 1010, 10, 0, 10, false},
		{1020, 1010, 11, 0, 10, false},
		{1020, 1008, 4, 2, 2, true},
		{1020, 1005, 5, 5, 0, true},
		{1020, 1000, 19, 10, 9, true},
		{1020, 1012, 7, 0, 7, true},
		{1020, 1012, 8, 0, 8, false},
		{1011, 1010, 0, 0, 0, true},
		{1011, 1010, 1, 0, 1, false},
		{1011, 1000, 10, 10, 0, true},
		{1012, 1010, 1, 0, 1, true},
		{1010 + 65535, 1010 + 65000, 534, 0, 534, true},
		{1010 + 65535, 1010 + 65000, 535, 0, 535, false},
	} {
		wantTaken(t, x.adv, x.seq, api.Fin, x.size, x.skip, x.take, x.fin)
		wantTaken(t, x.adv, x.seq, api.Fin|api.Psh, x.size, x.skip, x.take, x.fin)
	}
}

// P15.3: a state that is entered here says whether bytes are taken.
func TestBytesWithOwnFin(t *testing.T) {
	for _, state := range []int{api.StFinWait1, api.StClosing} {
		c := in(state)
		next := c
		next.Una, next.SndWnd, next.Wl1, next.Wl2 = 110, 7, 1008, 110
		c.Wl1 = 1000
		due := api.Verdict{Acked: true}
		next.State = api.StTimeWait
		if state == api.StFinWait1 {
			next.State = api.StFinWait2
			due.Skip, due.Take, due.Fin = 2, 3, true
		}
		want(t, c, seg(1008, 110, api.Ack|api.Fin, 7, 5), next, due)
	}
}

// P15.2, P15.3: all states with numbers, flags and lengths of all kinds near the edges, against a plain reading.
func TestAgainstReading(t *testing.T) {
	d := dice(15)
	kinds := map[string]int{}
	for range 600000 {
		c, s := anyPair(&d)
		due := judged(c, s)
		wantOnce(t, c, s, due)
		kinds[fmt.Sprint(due.Reply, due.Ended, due.Acked, due.Again, due.Fin, due.Skip > 0, due.Take > 0)]++
	}
	// Three replies, and an Ack that opens; three ends, one of them with an Ack of something new, or without; what is taken in seven ways, with an Ack of something new, or without; Again.
	if len(kinds) != 4+4+14+1 {
		t.Errorf("%d kinds of verdicts: %v", len(kinds), kinds)
	}
}

// anyPair is a connection, and a segment whose numbers are near its own.
func anyPair(d *dice) (api.Ctl, api.Seg) {
	near := func(n uint32, by int) uint32 {
		switch d.below(20) {
		case 0:
			return n + d.next()
		case 1:
			return n + half - 1 + uint32(d.below(3))
		case 2:
			return n - 65535 - 1 + uint32(d.below(3))
		}
		return n + uint32(d.below(2*by+1)-by)
	}
	base := []uint32{0, 5, 1000, half - 3, half, around - 3, d.next()}[d.below(7)]
	from := []uint32{0, 5, 1000, half - 3, half, around - 3, d.next()}[d.below(7)]
	c := api.Ctl{
		State: d.below(11), Iss: near(base, 2), Una: base, Nxt: base + uint32(d.below(4)), FinSent: d.is(),
		SndWnd: d.below(3), Wl1: near(from, 3), Wl2: near(base, 2), Irs: near(from, 2), Rcv: from, Adv: from + uint32(d.below(12)-1),
	}
	if d.below(30) == 0 {
		c.State, c.Nxt, c.Adv = states[d.below(len(states))], near(base, 2), near(from, 9)
	}
	s := seg(near(from, 4), near([]uint32{c.Una, c.Nxt}[d.below(2)], 2), d.below(32), d.below(3), d.below(9))
	if d.below(2) == 0 {
		s.Flags = api.Ack | s.Flags&(api.Fin|api.Psh)
	}
	if d.below(3) == 0 {
		s.Data = nil
	}
	return c, s
}

// P15.5: what is taken is in the window, Una never falls back and is never behind Nxt, what is not acceptable changes nothing, a reset is one only at Rcv, and none is answered by a reset.
func TestKeeps(t *testing.T) {
	d := dice(5)
	for range 300000 {
		c, s := anyPair(&d)
		if apart(c.Nxt, c.Una) < 0 || apart(c.Nxt, c.Una) > 65535 {
			continue
		}
		if c.State == api.StSynSent || c.State == api.StSynRcvd {
			c.Nxt = c.Una + 1
		}
		v := core.Judge(c, s)
		keeps(t, c, s, v)
		if t.Failed() {
			t.Logf("Judge(%+v, %s): %+v", c, textOf(s), v)
			return
		}
	}
}

func keeps(t *testing.T, c api.Ctl, s api.Seg, v api.Verdict) {
	t.Helper()
	if v.Skip < 0 || v.Take < 0 || v.Skip+v.Take > len(s.Data) {
		t.Error("more bytes than there are")
	}
	for i := v.Skip; i < v.Skip+v.Take; i++ {
		if !inWindow(c, s.Seq+uint32(i)) {
			t.Errorf("byte %d was not let be sent", i)
		}
	}
	if apart(v.Next.Una, c.Una) < 0 || apart(v.Next.Una, v.Next.Nxt) > 0 {
		t.Error("Una falls back, or is behind Nxt")
	}
	if v.Next.Nxt != c.Nxt || v.Next.Iss != c.Iss || v.Next.FinSent != c.FinSent {
		t.Error("what was sent is another thing")
	}
	if flagged(s, api.Rst) && (v.Reply == api.ReplyReset || v.Reply == api.ReplySynAck || v.Next != c) {
		t.Error("a reset is answered by more than an Ack, or changes something")
	}
	if c.State == api.StSynSent {
		return
	}
	if v.Ended == api.ErrReset || v.Ended == api.ErrRefused {
		if !flagged(s, api.Rst) || s.Seq != c.Rcv {
			t.Error("reset by another number")
		}
	}
	if v.Next.Rcv != c.Rcv || v.Next.Adv != c.Adv || v.Next.Irs != c.Irs {
		t.Error("what is wanted is another thing")
	}
	none := api.Verdict{Next: c, Reply: v.Reply}
	if !isPlainlyAcceptable(c, s) && v != none {
		t.Error("what is not acceptable changes something")
	}
}

// P15.4: Ended of each state, with Adv ahead of Rcv, at it, and behind it.
func TestEnded(t *testing.T) {
	moves := map[int]int{
		api.StOpen: api.StCloseWait, api.StSynRcvd: api.StCloseWait, api.StFinWait1: api.StClosing, api.StFinWait2: api.StTimeWait,
	}
	for _, state := range states {
		for _, x := range []struct{ rcv, adv, next uint32 }{
			{1010, 1020, 1020}, {1010, 1012, 1012}, {1010, 1011, 1011}, {1010, 1010, 1011}, {1010, 1009, 1010}, {1010, 1000, 1001},
			{1010, 1009 + half, 1009 + half}, {1010, 1010 + half, 1010 + half}, {1010, 1011 + half, 1011 + half}, {1010, 1012 + half, 1013 + half},
		} {
			c := wide(state, x.rcv, x.adv)
			due := c
			if to, is := moves[state]; is {
				due.State = to
			}
			due.Rcv, due.Adv = x.rcv+1, x.next
			for _, own := range shifts {
				for _, other := range shifts {
					if e := core.Ended(movedCtl(c, own, other)); e != movedCtl(due, own, other) {
						t.Fatalf("Ended(%+v): %+v, not %+v", movedCtl(c, own, other), e, movedCtl(due, own, other))
					}
				}
			}
		}
	}
}

// P15.4, R3: Shut of each state, with and without a Fin that was sent; an error stands alone.
func TestShut(t *testing.T) {
	moves := map[int]int{
		api.StOpen: api.StFinWait1, api.StSynRcvd: api.StFinWait1, api.StCloseWait: api.StLastAck,
	}
	for _, state := range states {
		for _, fin := range []bool{false, true} {
			for _, own := range shifts {
				c := movedCtl(in(state), own, 3)
				c.FinSent = fin
				due, why := c, api.OK
				to, is := moves[state]
				if is && !fin {
					due.State, due.FinSent = to, true
					due.Nxt++
				} else {
					due, why = api.Ctl{}, api.ErrState
				}
				if x, err := core.Shut(c); x != due || err != why {
					t.Errorf("Shut(%+v): %+v, error %d, not %+v, error %d", c, x, err, due, why)
				}
			}
		}
	}
}

// The chapter's examples.
func TestExamples(t *testing.T) {
	c := core.Active(0)
	if c.Iss != 0 || c.Nxt != 1 {
		t.Errorf("Active(0): %+v", c)
	}
	v := core.Judge(c, seg(9, 1, api.Syn|api.Ack, 0, 0))
	if v.Next.State != api.StOpen || v.Next.Rcv != 10 || v.Reply != api.ReplyAck || !v.Acked {
		t.Errorf("Syn and Ack: %+v", v)
	}
	if x := core.Judge(c, seg(0, 5, api.Ack, 0, 0)); x.Reply != api.ReplyReset {
		t.Errorf("Ack 5: %+v", x)
	}
	o := v.Next
	o.Adv = 20
	if x := core.Judge(o, seg(8, o.Una, api.Ack, 0, 4)); x.Skip != 2 || x.Take != 2 {
		t.Errorf("Seq 8: %+v", x)
	}
	wantReply(t, o, seg(30, 1, api.Ack, 0, 0), api.ReplyAck)
	wantReply(t, o, seg(12, 1, api.Rst, 0, 0), api.ReplyAck)
	wantEnded(t, o, seg(10, 1, api.Rst, 0, 0), api.ErrReset)
}

// end is one end of a connection, moved as its layers above would.
type end struct {
	t *testing.T
	c api.Ctl
}

// told is a segment of its numbers.
func (e *end) told(flags, size int) api.Seg {
	s := seg(e.c.Nxt, e.c.Rcv, flags|api.Ack, 1024, size)
	e.c.Nxt += uint32(size)
	return s
}

func (e *end) shut() api.Seg {
	e.t.Helper()
	s := e.told(api.Fin, 0)
	c, err := core.Shut(e.c)
	if err != api.OK {
		e.t.Fatalf("Shut(%+v): error %d", e.c, err)
	}
	e.c = c
	return s
}

// gets judges a segment, takes what is told, and is in a state then.
func (e *end) gets(s api.Seg, reply, take, state int) api.Verdict {
	e.t.Helper()
	v := core.Judge(e.c, s)
	e.c = v.Next
	e.c.Rcv += uint32(v.Take)
	e.c.Adv = e.c.Rcv + 1024
	if v.Fin {
		e.c = core.Ended(e.c)
	}
	if v.Reply != reply || v.Take != take || e.c.State != state {
		e.t.Fatalf("Judge of %s: %+v, reply %d, %d bytes, not reply %d, %d bytes, state %d", textOf(s), e.c, v.Reply, v.Take, reply, take, state)
	}
	return v
}

// syn is what begins.
func (e *end) syn() api.Seg { return seg(e.c.Iss, 0, api.Syn, 1024, 0) }

// met are two ends that are open, whose numbers go around soon.
func met(t *testing.T) (*end, *end) {
	t.Helper()
	a := &end{t, core.Active(1<<20 - 1)}
	p, err := core.Passive(a.syn(), -1)
	if err != api.OK {
		t.Fatalf("Passive: error %d", err)
	}
	b := &end{t, p}
	synAck := b.syn()
	synAck.Ack, synAck.Flags = b.c.Rcv, api.Syn|api.Ack
	a.gets(synAck, api.ReplyAck, 0, api.StOpen)
	b.c.Adv = b.c.Rcv + 1024
	b.gets(a.told(0, 0), api.ReplyNone, 0, api.StOpen)
	return a, b
}

// P15.1 to P15.4: a life: bytes one way till their numbers have gone around, then one end after the other.
func TestLife(t *testing.T) {
	a, b := met(t)
	for range 30 {
		b.gets(a.told(0, 200), api.ReplyNone, 200, api.StOpen)
		if v := a.gets(b.told(0, 0), api.ReplyNone, 0, api.StOpen); !v.Acked || a.c.Una != a.c.Nxt {
			t.Fatalf("not acknowledged: %+v", v)
		}
	}
	if tcp.Diff(a.c.Nxt, a.c.Iss) != 6001 || a.c.Nxt > a.c.Iss {
		t.Errorf("numbers have not gone around: %+v", a.c)
	}
	b.gets(a.shut(), api.ReplyNone, 0, api.StCloseWait)
	a.gets(b.told(0, 0), api.ReplyNone, 0, api.StFinWait2)
	a.gets(b.told(0, 50), api.ReplyNone, 50, api.StFinWait2)
	a.gets(b.shut(), api.ReplyNone, 0, api.StTimeWait)
	if v := b.gets(a.told(0, 0), api.ReplyNone, 0, api.StLastAck); v.Ended != api.ErrEnd {
		t.Errorf("both have ended: %+v", v)
	}
}

// P15.2 to P15.4: two that begin at once, and end at once.
func TestAtOnce(t *testing.T) {
	a, b := &end{t, core.Active(7)}, &end{t, core.Active(9)}
	fromA, fromB := a.syn(), b.syn()
	a.gets(fromB, api.ReplySynAck, 0, api.StSynRcvd)
	b.gets(fromA, api.ReplySynAck, 0, api.StSynRcvd)
	a.gets(b.told(0, 0), api.ReplyNone, 0, api.StOpen)
	b.gets(a.told(0, 0), api.ReplyNone, 0, api.StOpen)
	fromA, fromB = a.shut(), b.shut()
	a.gets(fromB, api.ReplyNone, 0, api.StClosing)
	b.gets(fromA, api.ReplyNone, 0, api.StClosing)
	fromA, fromB = a.told(0, 0), b.told(0, 0)
	a.gets(fromB, api.ReplyNone, 0, api.StTimeWait)
	b.gets(fromA, api.ReplyNone, 0, api.StTimeWait)
}

// R1, R6: whatever numbers are handed in, each call ends.
func TestAnything(t *testing.T) {
	odd := []int{math.MinInt, -1 << 32, -1, 0, 1, 31, 1 << 32, math.MaxInt}
	far := []uint32{0, 1, half - 1, half, around - 1}
	d := dice(1)
	at := func() uint32 { return far[d.below(len(far))] }
	for range 100000 {
		c := api.Ctl{
			State: states[d.below(len(states))], Iss: at(), Una: at(), Nxt: at(), FinSent: d.is(), SndWnd: odd[d.below(8)], Wl1: at(), Wl2: at(), Irs: at(), Rcv: at(), Adv: at(),
		}
		s := seg(at(), at(), odd[d.below(8)], odd[d.below(8)], d.below(3))
		if v := core.Judge(c, s); v.Skip < 0 || v.Take < 0 || v.Skip+v.Take > len(s.Data) {
			t.Fatalf("Judge(%+v, %s): %+v", c, textOf(s), v)
		}
		core.Ended(c)
		core.Shut(c)
		core.Passive(s, odd[d.below(8)])
	}
}

// R4, R5: a segment is not changed, nor the room behind its ends, and a verdict hangs on nothing else.
func TestSegmentStays(t *testing.T) {
	room := bytes.Repeat([]byte{7}, 40)
	spans := []api.Span{{From: 1, To: 2}, {From: 3, To: 4}}
	s := api.Seg{From: 5, To: 7, Seq: 1008, Ack: 107, Flags: api.Ack | api.Fin, Wnd: 7, Mss: 216, Sacks: true, Got: spans[:1], Data: room[10:14]}
	c := some()
	first := core.Judge(c, s)
	core.Passive(s, 1)
	if !bytes.Equal(room, bytes.Repeat([]byte{7}, 40)) || spans[0] != (api.Span{From: 1, To: 2}) || spans[1] != (api.Span{From: 3, To: 4}) {
		t.Error("Judge has changed a segment")
	}
	for i := range room {
		room[i] = byte(i)
	}
	s.Got, s.From, s.To, s.Mss, s.Sacks = nil, 0, -1, 0, false
	if v := core.Judge(c, s); v != first {
		t.Errorf("%+v, not %+v, by what does not count", v, first)
	}
	if c != some() {
		t.Error("Judge has changed a connection")
	}
	// R2: no bytes are no bytes.
	s.Data = nil
	none := core.Judge(c, s)
	s.Data = []byte{}
	if v := core.Judge(c, s); v != none {
		t.Errorf("%+v, not %+v", v, none)
	}
}
