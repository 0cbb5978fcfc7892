package sendq_test

import (
	"bytes"
	"fmt"
	"math"
	"slices"
	"testing"

	"packhorse/api"
	"packhorse/pool"
	"packhorse/sendq"
)

// wide is a window that lets all be sent.
const wide = 65535

// noise is n bytes, the same at every run.
func noise(seed, n int) []byte {
	d := dice(seed)
	b := make([]byte, n)
	for i := range b {
		b[i] = byte(d.below(256))
	}
	return b
}

// dice tell numbers, the same at every run.
type dice uint32

func (d *dice) next() uint32 {
	*d = *d*1664525 + 1013904223
	return uint32(*d)
}

func (d *dice) below(n int) int { return int(d.next()>>8) % n }

// in tells one of so many cases, once in so many calls.
func (d *dice) in(n int) bool { return d.below(n) == 0 }

// spot is a place: how often and when it was told, and why it may be told anew.
type spot struct {
	times int
	at    int
	came  bool
	timed bool // by a timer, or a window that was opened
	said  bool // by three Agains
	lost  bool
}

func (s spot) may() bool { return s.timed || s.said || s.lost }

// held is a buffer of the queue's, and the places that lie there.
type held struct{ id, from, to int }

// mend is three Agains that came: up to where all was sent, half of that, and what Cwnd is at most since.
type mend struct{ until, half, most int }

// rig is a queue and its pool, and a plain reading of the promises that each call is held against.
type rig struct {
	t *testing.T
	p *pool.Pool
	q *sendq.Queue

	born, now int
	mss       int
	data      []byte // all that was accepted
	spots     []spot // with one more, for the Finish
	bufs      []held
	others    map[int]int // so often others hold a buffer
	una, nxt  int
	wnd       int
	tries     int
	row       int
	isAnew    bool
	mend      *mend
	probe     bool
	nodelay   bool
	finished  bool
	silent    bool
	dropped   bool
	did       []string
}

func newRig(t *testing.T, size, mss, now int) *rig {
	t.Helper()
	p, err := pool.New(size)
	if err != api.OK {
		t.Fatalf("pool of %d: error %d", size, err)
	}
	r := &rig{t: t, p: p, q: sendq.New(p, mss, now), born: now, now: now, mss: fit(mss), spots: make([]spot, 1), others: map[int]int{}}
	if s := r.q.Stat(); s != (api.SendStat{Cwnd: 2 * r.mss, Rto: 4}) {
		t.Fatalf("New(%d): %+v", mss, s)
	}
	return r
}

func fit(mss int) int {
	switch {
	case mss < 28:
		return 28
	case mss > 216:
		return 216
	}
	return mss
}

func (r *rig) note(format string, args ...any) { r.did = append(r.did, fmt.Sprintf(format, args...)) }

// fail stops the test, and tells the last calls: one that is wrong makes many others wrong.
func (r *rig) fail(format string, args ...any) {
	r.t.Helper()
	for _, x := range r.did[max(len(r.did)-12, 0):] {
		r.t.Log(x)
	}
	r.t.Fatalf("at %d: %s; %+v", r.now, fmt.Sprintf(format, args...), r.q.Stat())
}

func (r *rig) end() int { return len(r.data) }

func (r *rig) flight() int { return r.nxt - r.una }

func (r *rig) waits() bool { return r.nxt < r.end() || r.finished && r.nxt == r.end() }

func (r *rig) refs(id int) int {
	b, _ := r.p.See(id)
	return b.Refs
}

// at is the buffer in which a place lies; ok is false for that of the Finish.
func (r *rig) at(place int) (held, bool) {
	for _, h := range r.bufs {
		if h.from <= place && place < h.to {
			return h, true
		}
	}
	return held{}, false
}

func (r *rig) busy(place int) bool {
	h, ok := r.at(place)
	return ok && r.refs(h.id) > 1
}

// hold and free are somebody else's.
func (r *rig) hold(id int) {
	r.note("hold %d", id)
	r.p.Hold(id)
	r.others[id]++
}

func (r *rig) free(id int) {
	r.note("free %d", id)
	r.p.Free(id)
	if r.others[id]--; r.others[id] == 0 {
		delete(r.others, id)
	}
}

// check holds what can be told at any time against what it should be.
func (r *rig) check() {
	r.t.Helper()
	s := r.q.Stat()
	if s.Una != r.una || s.Nxt != r.nxt || s.End != r.end() || s.Wnd != r.wnd || s.Tries != r.tries {
		r.fail("not una %d nxt %d end %d wnd %d tries %d", r.una, r.nxt, r.end(), r.wnd, r.tries)
	}
	if s.Cwnd < r.mss || s.Rto < 2 || s.Rto > 32 {
		r.fail("with mss %d", r.mss)
	}
	if s.Due != 0 && (r.dropped || r.flight() == 0 && !r.waits()) || s.Due == 0 && r.flight() > 0 && !r.dropped {
		r.fail("armed")
	}
	inUse := map[int]bool{}
	for id := range r.others {
		inUse[id] = true
	}
	ids := r.q.Bufs()
	if len(ids) != len(r.bufs) {
		r.fail("Bufs: %v, not %v", ids, r.bufs)
	}
	for i, h := range r.bufs {
		b, err := r.p.See(ids[i])
		if ids[i] != h.id || err != api.OK || b.Refs != 1+r.others[h.id] || !bytes.Equal(b.Data, r.data[h.from:h.to]) {
			r.fail("Bufs: %v, not %v: %d holders", ids, r.bufs, b.Refs)
		}
		inUse[h.id] = true
	}
	if r.p.Left() != r.p.Size()-len(inUse) {
		r.fail("%d left, %d in use", r.p.Left(), len(inUse))
	}
}

// same fails, if a call has changed what it may not; due is what Due may be.
func (r *rig) same(was api.SendStat, due int) {
	r.t.Helper()
	s := r.q.Stat()
	if s.Cwnd != was.Cwnd || s.Rto != was.Rto || s.Due != due {
		r.fail("was %+v, and Due should be %d", was, due)
	}
}

// fitting is how many bytes more the buffers take: the last one, and those that are free.
func (r *rig) fitting() int {
	n := r.p.Left() * r.mss
	if len(r.bufs) > 0 {
		if h := r.bufs[len(r.bufs)-1]; r.refs(h.id) == 1 {
			n += max(r.mss-(h.to-h.from), 0)
		}
	}
	return n
}

// accepted lays n bytes behind the others, in buffers that the queue must have taken for that.
func (r *rig) accepted(b []byte) {
	r.t.Helper()
	ids := r.q.Bufs()
	for len(b) > 0 {
		if n := len(r.bufs); n == 0 || r.refs(r.bufs[n-1].id) > 1 || r.bufs[n-1].to-r.bufs[n-1].from >= r.mss {
			if n >= len(ids) {
				r.fail("Bufs: %v, and bytes without one", ids)
			}
			r.bufs = append(r.bufs, held{ids[n], r.end(), r.end()})
		}
		h := &r.bufs[len(r.bufs)-1]
		n := min(len(b), r.mss-(h.to-h.from))
		h.to += n
		r.data = append(r.data, b[:n]...)
		r.spots = append(r.spots, make([]spot, n)...)
		b = b[n:]
	}
}

func (r *rig) write(b []byte) (int, api.Errno) {
	r.t.Helper()
	room, numbers, fits := 1024-(r.end()-r.una), 4096*(r.now-r.born+1)-r.end(), r.fitting()
	n, err := min(len(b), room, numbers, fits), api.OK
	switch {
	case r.finished || r.dropped:
		n, err = 0, api.ErrState
	case n > 0 || len(b) == 0:
	case room == 0:
		err = api.ErrAgain
	case numbers == 0:
		err = api.ErrSeqSpent
	default:
		err = api.ErrNoBufs
	}
	was := r.q.Stat()
	got, e := r.q.Write(b, r.now)
	r.note("write %d: %d, %d", len(b), got, e)
	if got != n || e != err {
		r.fail("Write of %d: %d, error %d, not %d, error %d", len(b), got, e, n, err)
	}
	r.accepted(b[:n])
	r.same(was, was.Due)
	r.check()
	return got, e
}

func (r *rig) finish() {
	r.t.Helper()
	was := r.q.Stat()
	r.q.Finish()
	r.note("finish")
	r.finished = true
	r.same(was, was.Due)
	r.check()
}

func (r *rig) heard(una, wnd int, got [][2]int, again bool) {
	r.t.Helper()
	was := r.q.Stat()
	isNew, isOpened := una > r.una, r.wnd == 0 && wnd > 0
	r.q.Heard(una, wnd, got, again, r.now)
	r.note("heard %d, %d, %v, %v", una, wnd, got, again)
	r.una, r.wnd, r.tries = una, wnd, 0
	for len(r.bufs) > 0 && r.bufs[0].to <= una {
		r.bufs = r.bufs[1:]
	}
	for i := una; i < r.nxt; i++ {
		s := &r.spots[i]
		s.came = s.came || slices.ContainsFunc(got, func(x [2]int) bool { return x[0] <= i && i < x[1] })
		s.timed = s.timed || isOpened
	}
	r.row++
	if isNew || !again {
		r.row = 0
	}
	r.checkNet(was, isNew)
	s := r.q.Stat()
	switch {
	case !isNew:
		if s.Due != was.Due || s.Rto != was.Rto {
			r.fail("nothing new moves the timer; was %+v", was)
		}
	case r.dropped:
	case r.flight() > 0 && s.Due != r.now+s.Rto, r.flight() == 0 && s.Due != 0:
		r.fail("the timer; was %+v", was)
	}
	r.check()
}

// checkNet is P16.6, behind a Heard.
func (r *rig) checkNet(was api.SendStat, isNew bool) {
	r.t.Helper()
	most := was.Cwnd
	switch {
	case isNew:
		most += r.mss
	case r.row == 3:
		half := max(r.flight()/2, 2*r.mss)
		r.mend = &mend{until: r.nxt, half: half, most: half + 3*r.mss}
		most = wide
		r.isAnew = true
		for i := r.una; i < r.nxt; i++ {
			r.spots[i].said = true
		}
	case r.row > 3 && r.mend != nil:
		r.mend.most += r.mss
		most += r.mss
	}
	if m := r.mend; m != nil {
		if r.una >= m.until {
			most = min(most, max(m.half, r.mss))
			r.mend = nil
		} else {
			most = min(most, m.most)
		}
	}
	s := r.q.Stat()
	if s.Cwnd > most || !isNew && r.row < 3 && s.Cwnd != was.Cwnd {
		r.fail("Cwnd above %d; was %+v", most, was)
	}
}

// first is the first place that was sent and has not come.
func (r *rig) first() (int, bool) {
	for i := r.una; i < r.nxt; i++ {
		if !r.spots[i].came {
			return i, true
		}
	}
	return 0, false
}

// wanted is what three Agains ask for, as long as it was not told.
func (r *rig) wanted() (int, bool) {
	i, is := r.first()
	return i, is && r.isAnew && r.spots[i].may() && !r.busy(i)
}

// reach is up to where net and other side let be sent.
func (r *rig) reach() int { return r.una + min(r.wnd, r.q.Stat().Cwnd) }

func (r *rig) next() (api.Out, bool) {
	r.t.Helper()
	was := r.q.Stat()
	wanted, isWanted := r.wanted()
	o, is := r.q.Next(r.now)
	r.note("next: %+v, %v", o, is)
	switch {
	case is && (r.silent || r.dropped):
		r.fail("Next tells something")
	case is:
		if isWanted && (!o.Old || o.Off != wanted) {
			r.fail("three Agains: %d is wanted", wanted)
		}
		r.told(o)
	case o != api.Out{}:
		r.fail("Next tells nothing, and %+v", o)
	case !r.silent && !r.dropped:
		r.checkSilence(isWanted)
	}
	due := was.Due
	if due == 0 && !r.dropped && (is || r.flight() == 0 && r.waits()) {
		due = r.now + was.Rto
	}
	r.same(was, due)
	r.check()
	return o, is
}

// checkSilence is whether Next may tell nothing.
func (r *rig) checkSilence(isWanted bool) {
	r.t.Helper()
	for i := r.una; i < r.nxt; i++ {
		s := r.spots[i]
		if !s.came && !r.busy(i) && (s.lost && r.now > s.at || s.timed && !s.lost && i < max(r.reach(), r.una+1)) {
			r.fail("%d waits to be told anew", i)
		}
	}
	switch {
	case isWanted:
		r.fail("three Agains, and nothing is told")
	case r.flight() == 0 && r.waits() && (r.wnd > 0 || r.probe):
		r.fail("nothing is on its way, and nothing is told")
	case r.nxt < r.end() && r.reach() > r.nxt && (r.nodelay || r.finished || r.end()-r.nxt >= r.mss):
		r.fail("new bytes are not told")
	case r.finished && r.nxt == r.end() && r.reach() > r.nxt:
		r.fail("the Finish is not told")
	}
}

// told is whether Next may tell that.
func (r *rig) told(o api.Out) {
	r.t.Helper()
	size := o.Len
	h, ok := r.at(o.Off)
	switch {
	case o.Off < r.una:
		r.fail("what is acknowledged is told")
	case o.Fin:
		size = 1
		if !r.finished || o.Off != r.end() || o.Len != 0 || o.Buf != 0 || o.Skip != 0 {
			r.fail("no Finish")
		}
	case size < 1 || size > r.mss || !ok || o.Off+size > h.to || o.Buf != h.id || o.Skip != o.Off-h.from:
		r.fail("with mss %d, in %v", r.mss, h)
	default:
		b, _ := r.p.See(o.Buf)
		if !bytes.Equal(b.Data[o.Skip:o.Skip+o.Len], r.data[o.Off:o.Off+o.Len]) {
			r.fail("other bytes")
		}
	}
	if o.Old {
		r.toldOld(o, size)
	} else {
		r.toldNew(o, size)
	}
	for i := o.Off; i < o.Off+size; i++ {
		r.spots[i] = spot{times: r.spots[i].times + 1, at: r.now}
	}
	r.nxt = max(r.nxt, o.Off+size)
	r.probe = false
}

func (r *rig) toldOld(o api.Out, size int) {
	r.t.Helper()
	first, _ := r.first()
	isFirst := o.Off == first && r.isAnew
	for i := o.Off; i < o.Off+size; i++ {
		s := r.spots[i]
		if s.times == 0 || s.came || !s.may() || r.busy(i) {
			r.fail("%d may not be told anew: %+v", i, s)
		}
		if !isFirst && !s.lost && (!s.timed || o.Off >= max(r.reach(), r.una+1)) {
			r.fail("%d may not be told anew yet: %+v", i, s)
		}
	}
	if o.Off == first {
		r.isAnew = false
	}
}

func (r *rig) toldNew(o api.Out, size int) {
	r.t.Helper()
	isProbe := r.wnd == 0 && r.flight() == 0 && r.probe && size == 1
	switch {
	case o.Off != r.nxt || o.Off+size > r.reach() && !isProbe:
		r.fail("not let be sent")
	case !o.Fin && r.end()-r.nxt < r.mss && r.flight() > 0 && !r.nodelay && !r.finished:
		r.fail("little ones wait")
	}
}

// all is what Next tells, till it tells nothing.
func (r *rig) all() []api.Out {
	r.t.Helper()
	var out []api.Out
	for {
		o, is := r.next()
		if !is {
			return out
		}
		out = append(out, o)
	}
}

func (r *rig) lost(o api.Out) {
	r.t.Helper()
	was := r.q.Stat()
	r.q.Lost(o)
	r.note("lost %+v", o)
	for i := o.Off; i < o.Off+max(o.Len, 1); i++ {
		r.spots[i].lost = true
	}
	r.same(was, was.Due)
	r.check()
}

// tick goes on to a tick: what Tick answers there.
func (r *rig) tick(to int) bool {
	r.t.Helper()
	was := r.q.Stat()
	r.now = to
	over := r.q.Tick(to)
	r.note("tick %d: %v", to, over)
	if was.Due == 0 || was.Due > to {
		if over {
			r.fail("it gives up")
		}
		r.same(was, was.Due)
		r.check()
		return over
	}
	was.Rto = min(2*was.Rto, 32)
	if r.flight() == 0 {
		r.probe = true
	} else {
		r.tries++
		for i := r.una; i < r.nxt; i++ {
			r.spots[i].came, r.spots[i].timed = false, true
		}
		if r.wnd > 0 {
			was.Cwnd = r.mss
		}
	}
	if over != (r.tries > 10) {
		r.fail("Tick: %v", over)
	}
	r.silent = r.silent || over
	r.same(was, to+was.Rto)
	r.check()
	return over
}

func (r *rig) setMss(n int) {
	r.t.Helper()
	was := r.q.Stat()
	r.q.Mss(n)
	r.note("mss %d", n)
	r.mss = fit(n)
	was.Cwnd = max(was.Cwnd, r.mss)
	if r.mend != nil {
		r.mend.most = max(r.mend.most, r.mss)
	}
	r.same(was, was.Due)
	r.check()
}

func (r *rig) setNodelay(on bool) {
	r.t.Helper()
	r.q.Nodelay(on)
	r.note("nodelay %v", on)
	r.nodelay = on
	r.check()
}

func (r *rig) drop() {
	r.t.Helper()
	r.q.Drop()
	r.note("drop")
	r.bufs = nil
	r.dropped = true
	r.check()
}

// want is what Next must tell: so many places from one on, old or new.
func (r *rig) want(off, size int, old bool) api.Out {
	r.t.Helper()
	o, is := r.next()
	if !is || o.Off != off || o.Len != size || o.Old != old || o.Fin {
		r.fail("Next: %+v, %v, not %d from %d on, Old %v", o, is, size, off, old)
	}
	return o
}

func (r *rig) wantFin(old bool) api.Out {
	r.t.Helper()
	o, is := r.next()
	if !is || !o.Fin || o.Off != r.end() || o.Old != old {
		r.fail("Next: %+v, %v, not the Finish, Old %v", o, is, old)
	}
	return o
}

func (r *rig) wantNone() {
	r.t.Helper()
	if o, is := r.next(); is {
		r.fail("Next: %+v, not nothing", o)
	}
}

// wantWrite: so many of n bytes are accepted, or that error.
func (r *rig) wantWrite(n, due int, err api.Errno) {
	r.t.Helper()
	if got, e := r.write(noise(r.end(), n)); got != due || e != err {
		r.fail("Write of %d: %d, error %d, not %d, error %d", n, got, e, due, err)
	}
}

func (r *rig) wantStat(field string, is, due int) {
	r.t.Helper()
	if is != due {
		r.fail("%s is %d, not %d", field, is, due)
	}
}

func (r *rig) wantCwnd(due int) {
	r.t.Helper()
	r.wantStat("Cwnd", r.q.Stat().Cwnd, due)
}

func (r *rig) wantRto(due int) {
	r.t.Helper()
	r.wantStat("Rto", r.q.Stat().Rto, due)
}

func (r *rig) wantDue(due int) {
	r.t.Helper()
	r.wantStat("Due", r.q.Stat().Due, due)
}

// opened is a queue with mss 100, whose other side lets all be sent.
func opened(t *testing.T) *rig {
	t.Helper()
	r := newRig(t, 40, 100, 0)
	r.heard(0, wide, nil, false)
	return r
}

// flying is one that has sent so many bytes, 100 at once, by a net that does it all; nothing is taught of how long that takes.
func flying(t *testing.T, n int) *rig {
	t.Helper()
	r := opened(t)
	r.widen(n + 100)
	r.wantWrite(n, n, api.OK)
	r.setNodelay(true)
	for i := 0; i < n; i += 100 {
		r.want(r.una+i, min(100, n-i), false)
	}
	r.setNodelay(false)
	return r
}

// widen has something be acknowledged as often as it needs for a Cwnd of n; each was told twice, and so teaches nothing.
func (r *rig) widen(n int) {
	r.t.Helper()
	for r.q.Stat().Cwnd < n {
		r.wantWrite(1, 1, api.OK)
		o := r.want(r.una, 1, false)
		r.lost(o)
		r.tick(r.now + 1)
		r.want(r.una, 1, true)
		r.heard(r.una+1, wide, nil, false)
	}
}

// The chapter's examples.
func TestExamples(t *testing.T) {
	r := newRig(t, 9, 100, 0)
	r.wantWrite(150, 150, api.OK)
	r.heard(0, 1000, nil, false)
	r.want(0, 100, false)
	r.wantNone()
	r.tick(1)
	r.heard(100, 1000, nil, false)
	r.want(100, 50, false)
	due := r.q.Stat().Due
	if due <= 1 {
		r.fail("Due is not above 1")
	}
	r.finish()
	r.wantFin(false)
	if r.tick(due) {
		r.fail("it gives up")
	}
	r.want(100, 50, true)
	r.wantFin(true)
	r.heard(151, 1000, nil, false)
	r.wantDue(0)
	r.wantNone()
}

// P16.1: mss is taken as 28 at least and 216 at most, by New and by Mss; the first Cwnd is twice that.
func TestMssBounds(t *testing.T) {
	for _, mss := range []int{27, 28, 29, 215, 216, 217, 0, -1, 100, 1 << 32, math.MinInt, math.MaxInt} {
		r := newRig(t, 40, mss, 0)
		r.heard(0, wide, nil, false)
		r.wantWrite(1024, 1024, api.OK)
		r.want(0, r.mss, false)
		other := newRig(t, 40, 28, 0)
		other.setMss(mss)
		other.wantCwnd(max(other.mss, 56))
		other.heard(0, wide, nil, false)
		other.wantWrite(1024, 1024, api.OK)
		other.want(0, other.mss, false)
	}
}

// P16.1: what SndBuf leaves, one less and one more; nothing of nothing.
func TestWriteRoom(t *testing.T) {
	for _, first := range []int{0, 1, 99, 100, 101, 1023, 1024} {
		for _, more := range []int{-1, 0, 1, 2000} {
			r := opened(t)
			r.wantWrite(first, first, api.OK)
			left := 1024 - first
			switch n := left + more; {
			case n < 0:
			case left == 0 && n > 0:
				r.wantWrite(n, 0, api.ErrAgain)
			default:
				r.wantWrite(n, min(n, left), api.OK)
			}
			r.wantWrite(0, 0, api.OK)
		}
	}
	r := opened(t)
	r.wantWrite(5000, 1024, api.OK)
	r.wantWrite(1, 0, api.ErrAgain)
	r.want(0, 100, false)
	r.heard(0, wide, nil, true)
	r.wantWrite(1, 0, api.ErrAgain)
	r.heard(1, wide, nil, false)
	r.wantWrite(2, 1, api.OK)
	r.wantWrite(2, 0, api.ErrAgain)
	r.heard(100, wide, nil, false)
	r.wantWrite(200, 99, api.OK)
}

// spend has n bytes accepted and acknowledged.
func (r *rig) spend(n int) {
	r.t.Helper()
	for goal := r.end() + n; r.end() < goal; {
		if got, err := r.write(noise(r.end(), min(goal-r.end(), 1024))); err != api.OK || got == 0 {
			r.fail("Write: %d, error %d", got, err)
		}
		for r.una < r.end() {
			r.all()
			r.heard(r.nxt, wide, nil, false)
		}
	}
}

// P16.1: 4096 bytes for each tick, from New's on, whatever number that has.
func TestWriteNumbers(t *testing.T) {
	for _, now := range []int{0, 1, 77, 1 << 40, -5, math.MinInt} {
		r := newRig(t, 40, 200, now)
		r.heard(0, wide, nil, false)
		r.spend(4095)
		r.wantWrite(2, 1, api.OK)
		r.wantWrite(0, 0, api.OK)
		r.wantWrite(1, 0, api.ErrSeqSpent)
		r.tick(now + 1)
		r.all()
		r.heard(r.nxt, wide, nil, false)
		r.wantWrite(0, 0, api.OK)
		r.spend(4000)
		r.wantWrite(97, 96, api.OK)
		r.wantWrite(97, 0, api.ErrSeqSpent)
		r.tick(now + 4)
		r.all()
		r.heard(r.nxt, wide, nil, false)
		r.spend(3 * 4096)
		r.wantWrite(1, 0, api.ErrSeqSpent)
	}
}

// P16.1: ticks that are as far apart as ticks may be, and further.
func TestWriteFar(t *testing.T) {
	for _, x := range [][2]int{{0, 1 << 40}, {0, math.MaxInt}, {math.MinInt, math.MaxInt}, {-1 << 40, 1 << 40}, {math.MinInt, 0}} {
		p, _ := pool.New(9)
		q := sendq.New(p, 200, x[0])
		q.Heard(0, wide, nil, false, x[0])
		for range 5 {
			if n, err := q.Write(make([]byte, 1000), x[1]); n != 1000 || err != api.OK {
				t.Fatalf("Write at %d, of one from %d on: %d, error %d", x[1], x[0], n, err)
			}
			for range 12 {
				q.Next(x[1])
				q.Heard(q.Stat().Nxt, wide, nil, false, x[1])
			}
		}
	}
}

// P16.1: as many as buffers take; others have some of them.
func TestWriteBuffers(t *testing.T) {
	r := newRig(t, 3, 100, 0)
	r.heard(0, wide, nil, false)
	r.wantWrite(301, 300, api.OK)
	r.wantWrite(1, 0, api.ErrNoBufs)
	r.wantWrite(0, 0, api.OK)
	r.want(0, 100, false)
	r.heard(99, wide, nil, false)
	r.wantWrite(1, 0, api.ErrNoBufs)
	r.want(100, 100, false)
	r.heard(100, wide, nil, false)
	r.wantWrite(150, 100, api.OK)
	taken := newRig(t, 3, 100, 0)
	for range 3 {
		id, _ := taken.p.Get()
		taken.others[id]++
	}
	taken.wantWrite(1, 0, api.ErrNoBufs)
	taken.free(1)
	taken.wantWrite(50, 50, api.OK)
	taken.wantWrite(51, 50, api.OK)
	taken.wantWrite(1, 0, api.ErrNoBufs)
	taken.free(0)
	taken.wantWrite(1, 1, api.OK)
}

// P16.1: a buffer is taken when the last one is busy, or full; one with room takes more.
func TestWriteLastBuffer(t *testing.T) {
	r := opened(t)
	for _, x := range []struct{ n, bufs int }{{1, 1}, {98, 1}, {1, 1}, {1, 2}, {99, 2}, {100, 3}, {99, 4}, {2, 5}, {500, 10}} {
		r.wantWrite(x.n, x.n, api.OK)
		r.wantStat("many", len(r.q.Bufs()), x.bufs)
	}
	busy := opened(t)
	busy.wantWrite(10, 10, api.OK)
	busy.hold(busy.bufs[0].id)
	busy.wantWrite(0, 0, api.OK)
	busy.wantStat("many", len(busy.q.Bufs()), 1)
	busy.wantWrite(10, 10, api.OK)
	busy.wantStat("many", len(busy.q.Bufs()), 2)
	busy.free(busy.bufs[0].id)
	busy.wantWrite(100, 100, api.OK)
	busy.wantStat("many", len(busy.q.Bufs()), 3)
	busy.want(0, 10, false)
	busy.want(10, 100, false)
}

// P16.1: the last buffer is full by what mss is now; what is acknowledged of its bytes counts.
func TestWriteMss(t *testing.T) {
	r := opened(t)
	r.wantWrite(60, 60, api.OK)
	r.setMss(60)
	r.wantWrite(1, 1, api.OK)
	r.wantStat("many", len(r.q.Bufs()), 2)
	r.setMss(28)
	r.wantWrite(30, 30, api.OK)
	r.wantStat("many", len(r.q.Bufs()), 3)
	r.setMss(216)
	r.wantWrite(213, 213, api.OK)
	r.wantStat("many", len(r.q.Bufs()), 3)
	r.wantWrite(1, 1, api.OK)
	r.wantStat("many", len(r.q.Bufs()), 4)
	some := opened(t)
	some.wantWrite(90, 90, api.OK)
	some.want(0, 90, false)
	some.heard(80, wide, nil, false)
	some.wantWrite(11, 11, api.OK)
	some.wantStat("many", len(some.q.Bufs()), 2)
	less := opened(t)
	less.wantWrite(90, 90, api.OK)
	less.setMss(50)
	less.want(0, 50, false)
	less.wantNone()
	less.heard(50, wide, nil, false)
	less.wantWrite(1, 1, api.OK)
	less.wantStat("many", len(less.q.Bufs()), 2)
}

// P16.1: of several errors the first one: no room, no numbers, no buffer.
func TestWriteErrors(t *testing.T) {
	for _, noRoom := range []bool{false, true} {
		for _, noNumbers := range []bool{false, true} {
			for _, noBufs := range []bool{false, true} {
				r := newRig(t, 8, 200, 0)
				r.heard(0, wide, nil, false)
				r.spend(4096 - 1024)
				due := api.OK
				if noBufs {
					due = api.ErrNoBufs
				}
				if noNumbers {
					due = api.ErrSeqSpent
				} else {
					r.tick(1)
				}
				if noRoom {
					due = api.ErrAgain
				}
				if noRoom || noNumbers {
					r.wantWrite(1024, 1024, api.OK)
				}
				if noNumbers && !noRoom {
					r.all()
					r.heard(r.una+1, wide, nil, false)
				}
				if noBufs {
					for id, err := r.p.Get(); err == api.OK; id, err = r.p.Get() {
						r.others[id]++
					}
					if n := len(r.bufs); n > 0 {
						r.hold(r.bufs[n-1].id)
					}
				}
				n := 0
				if due == api.OK {
					n = 1
				}
				r.wantWrite(1, n, due)
				r.wantWrite(0, 0, api.OK)
			}
		}
	}
}

// P16.1, P16.2: behind Finish nothing is accepted, whatever there is room for, and whatever was acknowledged.
func TestFinish(t *testing.T) {
	for _, n := range []int{0, 1, 150, 1024} {
		r := opened(t)
		r.wantWrite(n, n, api.OK)
		for range 3 {
			r.finish()
			r.wantWrite(1, 0, api.ErrState)
			r.wantWrite(0, 0, api.ErrState)
			r.wantWrite(5000, 0, api.ErrState)
		}
		for r.una <= r.end() {
			r.all()
			r.heard(r.nxt, wide, nil, false)
			r.finish()
			r.wantWrite(1, 0, api.ErrState)
		}
		r.wantNone()
		r.wantDue(0)
		r.wantStat("left", r.p.Left(), 40)
	}
}

// P16.3: with nothing accepted nothing is told, and no timer is armed.
func TestNothing(t *testing.T) {
	for _, wnd := range []int{0, 1, 28, wide} {
		r := newRig(t, 9, 100, 0)
		r.wantNone()
		r.heard(0, wnd, nil, false)
		for i := range 50 {
			r.tick(i)
			r.wantNone()
			r.wantDue(0)
			r.wantRto(4)
		}
	}
}

// P16.3: fewer than mss are told at once when nothing is on its way; else they wait, but for Nodelay and Finish.
func TestLittle(t *testing.T) {
	for _, n := range []int{1, 50, 99, 100, 101, 199} {
		r := opened(t)
		r.wantWrite(n, n, api.OK)
		r.want(0, min(n, 100), false)
		r.wantNone()
		if n > 100 {
			for _, on := range []bool{false, true, false} {
				other := opened(t)
				other.wantWrite(n, n, api.OK)
				other.setNodelay(true)
				other.setNodelay(on)
				other.want(0, 100, false)
				if on {
					other.want(100, n-100, false)
				}
				other.wantNone()
			}
		}
		r.finish()
		if n > 100 {
			r.want(100, n-100, false)
		}
		r.wantFin(false)
		r.wantNone()
	}
}

// P16.3: what waits goes with what comes behind it, once both are mss, or once all is acknowledged; not ahead of that.
func TestLittleGrows(t *testing.T) {
	r := opened(t)
	r.wantWrite(1, 1, api.OK)
	r.want(0, 1, false)
	for range 98 {
		r.wantWrite(1, 1, api.OK)
		r.wantNone()
	}
	r.wantWrite(1, 1, api.OK) // in the first buffer there is room for 99
	r.wantNone()
	r.wantWrite(1, 1, api.OK)
	r.want(1, 99, false)
	r.wantNone()
	r.heard(99, wide, nil, false)
	r.wantNone()
	r.heard(100, wide, nil, false)
	r.want(100, 1, false)
}

// P16.3: as much as the window lets be sent, from Una on; less than mss, too.
func TestWindow(t *testing.T) {
	for _, wnd := range []int{1, 27, 28, 99, 100, 101, 150, 199, 200, 201, 1000, wide} {
		r := newRig(t, 20, 100, 0)
		r.wantWrite(1024, 1024, api.OK)
		r.heard(0, wnd, nil, false)
		sent := 0
		for _, o := range r.all() {
			sent += o.Len
		}
		r.wantStat("sent", sent, min(wnd, 200))
		r.heard(0, max(wnd-1, 1), nil, false)
		r.wantNone()
		r.heard(1, max(wnd-1, 1), nil, false)
		r.all()
		r.wantStat("Nxt", r.nxt, min(max(wnd, 2), 301))
	}
}

// P16.3: Cwnd is the lesser, at first and as it grows.
func TestCwndLesser(t *testing.T) {
	r := opened(t)
	r.wantWrite(1024, 1024, api.OK)
	r.want(0, 100, false)
	r.want(100, 100, false)
	r.wantNone()
	r.heard(100, wide, nil, false)
	r.wantCwnd(300)
	r.want(200, 100, false)
	r.want(300, 100, false)
	r.wantNone()
	r.heard(150, 250, nil, false)
	r.wantCwnd(400)
	r.wantNone()
	r.heard(151, 250, nil, false)
	r.want(400, 1, false)
	r.wantNone()
}

// P16.3: what is told lies in one buffer, as it was accepted, and is told as new also when that is busy.
func TestNewInBusy(t *testing.T) {
	r := newRig(t, 20, 100, 0)
	r.wantWrite(250, 250, api.OK)
	r.heard(0, 60, nil, false)
	r.hold(r.bufs[0].id)
	r.want(0, 60, false)
	r.heard(0, 1000, nil, false)
	r.want(60, 40, false)
	r.want(100, 100, false)
	r.free(r.bufs[0].id)
	r.wantNone()
}

// P16.3: with a shut window one byte is told, when nothing is on its way and the timer has come: not ahead of that, and not twice.
func TestProbe(t *testing.T) {
	for _, n := range []int{1, 2, 100, 500} {
		r := newRig(t, 20, 100, 0)
		r.wantNone()
		r.wantWrite(n, n, api.OK)
		r.wantDue(0)
		r.wantNone()
		r.wantDue(4)
		for i := 1; i < 4; i++ {
			r.tick(i)
			r.wantNone()
			r.wantDue(4)
		}
		r.tick(4)
		r.wantDue(12)
		r.want(0, 1, false)
		r.wantNone()
		r.tick(5)
		r.wantNone()
		r.heard(0, 0, nil, true)
		r.wantNone()
		r.tick(12)
		r.want(0, 1, true)
		r.wantNone()
		r.heard(1, 0, nil, false)
		r.wantNone()
		if n > 1 {
			due := 12 + r.q.Stat().Rto
			r.wantDue(due)
			r.tick(due + 3)
			r.wantDue(due + 3 + r.q.Stat().Rto)
			r.want(1, 1, false)
			r.wantNone()
		}
	}
}

// P16.3: the timer of a shut window that was opened meanwhile, or that nothing waits for, tells no more than the window lets.
func TestProbeOpened(t *testing.T) {
	r := newRig(t, 20, 100, 0)
	r.wantWrite(150, 150, api.OK)
	r.wantNone()
	r.tick(4)
	r.heard(0, 3, nil, false)
	r.want(0, 3, false)
	r.wantNone()
	r.heard(3, 0, nil, false)
	r.wantNone()
	r.tick(5)
	r.wantNone()
	r.heard(3, 60, nil, false)
	r.want(3, 60, false)
	r.tick(6)
	r.heard(63, 0, nil, false)
	r.wantNone()
}

// P16.3: the Finish has a place behind the last byte, which net and other side have to let be sent like any other.
func TestFinishTold(t *testing.T) {
	r := newRig(t, 20, 100, 0)
	r.wantWrite(100, 100, api.OK)
	r.finish()
	r.heard(0, 100, nil, false)
	r.want(0, 100, false)
	r.wantNone()
	r.heard(0, 101, nil, false)
	r.wantFin(false)
	r.wantNone()
	r.heard(100, 0, nil, false)
	r.wantNone()
	r.tick(4)
	r.wantFin(true)
	r.wantNone()
	r.heard(101, 0, nil, false)
	r.wantNone()
	alone := newRig(t, 20, 100, 0)
	alone.finish()
	alone.wantNone()
	alone.wantDue(4)
	alone.tick(4)
	alone.wantFin(false)
	alone.wantNone()
	alone.tick(12)
	alone.wantFin(true)
	alone.heard(0, 5, nil, false)
	alone.wantFin(true)
	alone.wantNone()
	alone.heard(1, 5, nil, false)
	alone.wantDue(0)
}

// P16.3: Cwnd bounds the Finish, too.
func TestFinishByCwnd(t *testing.T) {
	r := opened(t)
	r.wantWrite(200, 200, api.OK)
	r.finish()
	r.want(0, 100, false)
	r.want(100, 100, false)
	r.wantNone()
	r.heard(1, wide, nil, false)
	r.wantFin(false)
	r.wantNone()
}

// P16.3: once the timer has come, what is on its way is told anew, once, as far as net and other side let it, each as it was told.
func TestOldByTimer(t *testing.T) {
	r := flying(t, 500)
	base := r.una
	due := r.q.Stat().Due
	r.tick(due - 1)
	r.wantNone()
	r.tick(due)
	r.wantCwnd(100)
	r.want(base, 100, true)
	r.wantNone()
	r.heard(base+100, wide, nil, false)
	r.wantCwnd(200)
	r.want(base+100, 100, true)
	r.want(base+200, 100, true)
	r.wantNone()
	r.heard(base+200, 110, nil, false)
	r.want(base+300, 100, true)
	r.wantNone()
	r.heard(base+200, 201, nil, false)
	r.want(base+400, 100, true)
	r.wantNone()
	r.heard(base+500, wide, nil, false)
	r.wantNone()
	r.wantDue(0)
}

// P16.3: a timer that comes again tells anew again; with a shut window the first thing alone.
func TestOldAgain(t *testing.T) {
	r := flying(t, 300)
	base := r.una
	for range 3 {
		r.tick(r.q.Stat().Due)
		r.want(base, 100, true)
		r.wantNone()
	}
	r.heard(base, 0, nil, false)
	r.wantNone()
	for range 3 {
		r.tick(r.q.Stat().Due)
		r.wantCwnd(100)
		r.want(base, 100, true)
		r.wantNone()
	}
	r.heard(base+7, 0, nil, false)
	r.wantNone()
	r.tick(r.q.Stat().Due)
	r.want(base+7, 93, true)
	r.wantNone()
}

// P16.3: bytes in a busy buffer are not told as old; those behind them are.
func TestOldBusy(t *testing.T) {
	r := flying(t, 200)
	base := r.una
	first, second := r.bufs[0].id, r.bufs[1].id
	r.hold(first)
	r.hold(second)
	r.setMss(200)
	r.tick(r.q.Stat().Due)
	r.wantNone()
	r.free(second)
	r.want(base+100, 100, true)
	r.wantNone()
	r.free(first)
	r.want(base, 100, true)
	r.wantNone()
	r.hold(first)
	r.finish()
	r.heard(base+200, wide, nil, false)
	r.wantFin(false)
	r.tick(r.q.Stat().Due)
	r.wantFin(true)
}

// P16.3: what was told to have come is not told anew, till a timer comes; the rest is, cut where it ends.
func TestOldCame(t *testing.T) {
	r := flying(t, 500)
	base := r.una
	span := func(from, to int) [2]int { return [2]int{base + from, base + to} }
	r.setMss(216)
	r.tick(r.q.Stat().Due)
	r.heard(base, wide, [][2]int{span(0, 50), span(50, 100), span(120, 130), span(125, 150), span(160, 160), span(170, 170), span(300, 500)}, false)
	r.want(base+100, 20, true)
	r.want(base+150, 50, true)
	r.want(base+200, 100, true)
	r.wantNone()
	r.tick(r.q.Stat().Due)
	r.want(base, 50, true)
	r.want(base+50, 50, true)
	r.want(base+100, 20, true)
	r.want(base+120, 5, true)
	r.want(base+125, 5, true)
	r.want(base+130, 20, true)
	r.want(base+150, 50, true)
	r.want(base+200, 100, true)
	r.wantNone()
	r.heard(base+100, wide, nil, false)
	r.want(base+300, 100, true)
	r.want(base+400, 100, true)
	r.wantNone()
}

// P16.3: spans of all that is on its way, of none of it, of the Finish, and some that are none.
func TestSpans(t *testing.T) {
	r := flying(t, 200)
	base := r.una
	r.finish()
	r.wantFin(false)
	r.setMss(216)
	r.tick(r.q.Stat().Due)
	r.heard(base, wide, [][2]int{{base, base + 201}}, false)
	r.wantNone()
	r.tick(r.q.Stat().Due)
	r.heard(base, wide, [][2]int{{base + 200, base + 201}, {base + 100, base + 200}}, false)
	r.want(base, 100, true)
	r.wantNone()
	r.tick(r.q.Stat().Due)
	r.heard(base, wide, [][2]int{{base + 30, base + 20}, {base + 60, base + 60}, {base, base}}, false)
	r.want(base, 100, true)
	r.want(base+100, 100, true)
	r.wantFin(true)
	r.wantNone()
}

// P16.3: three Agains in a row, and the first thing that has not come is told anew, at once, and once.
func TestThreeAgains(t *testing.T) {
	r := flying(t, 500)
	base := r.una
	for range 2 {
		r.heard(base, wide, nil, true)
		r.wantNone()
	}
	r.heard(base, wide, nil, true)
	r.want(base, 100, true)
	r.wantNone()
	for range 5 {
		r.heard(base, wide, nil, true)
		r.wantNone()
	}
	r.heard(base+100, wide, nil, false)
	for range 2 {
		r.heard(base+100, wide, [][2]int{{base + 100, base + 200}, {base + 210, base + 250}}, true)
		r.wantNone()
	}
	r.heard(base+100, 0, nil, true)
	r.want(base+200, 10, true)
	r.wantNone()
}

// P16.3: what breaks the row, and what does not.
func TestRow(t *testing.T) {
	r := flying(t, 300)
	base := r.una
	again := func() { r.t.Helper(); r.heard(base, wide, nil, true) }
	again()
	again()
	r.heard(base, wide, nil, false)
	again()
	again()
	r.wantNone()
	r.heard(base+1, wide, nil, false)
	base++
	again()
	again()
	r.wantNone()
	r.tick(r.now + 1)
	r.finish()
	r.wantFin(false)
	again()
	r.want(base, 99, true)
	r.wantNone()
	r.heard(base, wide, nil, false)
	again()
	again()
	r.heard(base+1, wide, nil, true) // what is new says nothing once more
	base++
	again()
	r.wantNone()
	again()
	again()
	r.want(base, 98, true)
	r.wantNone()
}

// P16.3: what three Agains ask for waits for its buffer; it is what is first when it is told, but nothing that was sent behind them.
func TestThreeAgainsBusy(t *testing.T) {
	r := flying(t, 300)
	base := r.una
	r.hold(r.bufs[0].id)
	for range 3 {
		r.heard(base, wide, nil, true)
	}
	r.wantNone()
	r.heard(base, wide, [][2]int{{base, base + 100}}, true)
	r.want(base+100, 100, true)
	r.wantNone()
	r.free(r.bufs[0].id)
	r.wantNone()
	late := flying(t, 300)
	base = late.una
	for range 3 {
		late.heard(base, wide, nil, true)
	}
	late.heard(base+300, wide, nil, false)
	late.wantWrite(100, 100, api.OK)
	late.want(base+300, 100, false)
	late.wantNone()
}

// P16.3: three Agains without a flight ask for nothing, and leave nothing behind.
func TestThreeAgainsIdle(t *testing.T) {
	r := opened(t)
	for range 9 {
		r.heard(0, wide, nil, true)
		r.wantNone()
		r.wantCwnd(200)
	}
	r.wantWrite(100, 100, api.OK)
	r.want(0, 100, false)
	r.wantNone()
}

// P16.3: a window that was shut and is not any more has all told anew that net and other side let.
func TestOpened(t *testing.T) {
	r := flying(t, 300)
	base := r.una
	r.heard(base, 5, nil, false)
	r.wantNone()
	r.heard(base, 0, [][2]int{{base + 100, base + 200}}, false)
	r.wantNone()
	r.heard(base, 100, nil, false)
	r.want(base, 100, true)
	r.wantNone()
	r.heard(base, 200, nil, false)
	r.wantNone()
	r.heard(base, 201, nil, false)
	r.want(base+200, 100, true)
	r.wantNone()
	r.heard(base, 1, nil, false)
	r.heard(base, wide, nil, false)
	r.wantNone()
}

// P16.3: old bytes are told with what mss is now.
func TestOldMss(t *testing.T) {
	r := flying(t, 200)
	base := r.una
	r.setMss(40)
	r.tick(r.q.Stat().Due)
	r.wantCwnd(40)
	r.want(base, 40, true)
	r.wantNone()
	r.setMss(150)
	r.want(base+40, 60, true)
	r.want(base+100, 100, true)
	r.wantNone()
	for range 3 {
		r.heard(base, wide, nil, true)
	}
	r.want(base, 40, true)
	r.wantNone()
}

// P16.4: Heard tells Una and Wnd, and lets buffers go whose bytes are all acknowledged; one that others hold stays theirs.
func TestHeard(t *testing.T) {
	r := newRig(t, 5, 100, 0)
	r.wantWrite(250, 250, api.OK)
	r.heard(0, 1000, nil, false)
	r.want(0, 100, false)
	r.want(100, 100, false)
	r.heard(0, 65535, nil, false)
	for _, x := range []struct{ una, wnd, left int }{{0, 0, 2}, {0, 900, 2}, {1, 800, 2}, {99, 0, 2}, {100, 1, 3}, {100, 65535, 3}, {101, 500, 3}} {
		r.heard(x.una, x.wnd, nil, false)
		r.wantStat("left", r.p.Left(), x.left)
	}
	id := r.bufs[0].id
	r.hold(id)
	r.heard(200, 500, nil, false)
	r.wantStat("left", r.p.Left(), 3)
	r.free(id)
	r.wantStat("left", r.p.Left(), 4)
	r.want(200, 50, false)
	r.heard(250, 500, nil, false)
	r.wantStat("left", r.p.Left(), 5)
	r.wantWrite(30, 30, api.OK)
	r.want(250, 30, false)
	r.wantStat("left", r.p.Left(), 4)
}

// P16.5: the timer: armed by what is sent, once; anew by what is new; off when nothing is on its way.
func TestTimer(t *testing.T) {
	r := opened(t)
	r.wantWrite(300, 300, api.OK)
	r.wantDue(0)
	r.tick(3)
	r.want(0, 100, false)
	r.wantDue(7)
	r.tick(4)
	r.want(100, 100, false)
	r.wantDue(7)
	r.heard(0, wide, nil, true)
	r.heard(0, 1000, nil, false)
	r.heard(0, 1000, [][2]int{{100, 200}}, false)
	r.wantDue(7)
	r.tick(5)
	r.heard(50, 1000, nil, false)
	r.wantDue(5 + r.q.Stat().Rto)
	r.want(200, 100, false)
	r.tick(6)
	r.heard(300, 1000, nil, false)
	r.wantDue(0)
	r.tick(50)
	r.wantDue(0)
	r.wantNone()
}

// P16.5: Tick ahead of Due does nothing; at it, or behind it, Rto is doubled, and Due reckoned from that tick; as often as it comes, up to 32.
func TestTickDoubles(t *testing.T) {
	for _, late := range []int{0, 1, 100} {
		r := opened(t)
		r.wantWrite(1, 1, api.OK)
		r.want(0, 1, false)
		for _, rto := range []int{8, 16, 32, 32, 32} {
			due := r.q.Stat().Due
			r.tick(due - 1)
			r.wantDue(due)
			r.tick(due + late)
			r.wantRto(rto)
			r.wantDue(due + late + rto)
			r.tick(due + late)
			r.wantDue(due + late + rto)
		}
		r.heard(1, wide, nil, false)
		r.wantRto(32) // nothing was taught
	}
}

// P16.5: with Flight 0 the timer doubles Rto, and counts no Tries.
func TestTickIdle(t *testing.T) {
	r := newRig(t, 5, 100, 0)
	r.wantWrite(1, 1, api.OK)
	r.wantNone()
	for i := range 30 {
		if r.tick(r.q.Stat().Due) {
			r.fail("it gives up")
		}
		r.wantRto(min(8<<min(i, 2), 32))
		r.wantStat("Tries", r.q.Stat().Tries, 0)
		r.wantCwnd(200)
	}
	r.want(0, 1, false)
}

// taught is a queue of which bytes were heard so many ticks behind their sending, one behind the other.
func taught(t *testing.T, ticks ...int) *rig {
	t.Helper()
	r := opened(t)
	for _, n := range ticks {
		r.wantWrite(1, 1, api.OK)
		r.want(r.nxt, 1, false)
		r.now += n
		r.heard(r.nxt, wide, nil, false)
	}
	return r
}

// P16.5: what was taught, from 2 to 32.
func TestRtoTaught(t *testing.T) {
	for _, x := range []struct {
		ticks []int
		rto   int
	}{
		{[]int{0}, 2}, {[]int{0, 0, 0}, 2}, {[]int{1}, 3}, {[]int{1, 1, 1, 1, 1, 1, 1, 1}, 3}, {[]int{2}, 6}, {[]int{3}, 9}, {[]int{10}, 30}, {[]int{11}, 32}, {[]int{1000000}, 32},
		{[]int{2, 2}, 5},            // 2, and 4 less a quarter
		{[]int{2, 2, 2, 2}, 5},      // 3, less 0 quarters of it
		{[]int{8, 8, 8, 8, 8}, 14},  // 8, and 16, 12, 9, 7, 6
		{[]int{4, 8}, 14},           // 36 eighths, and 8 less 2 and 4
		{[]int{8, 4}, 23},           // 60 eighths, and 16 less 4 and 4
		{[]int{0, 8}, 9},            // 8 eighths, and 8
		{[]int{1 << 40}, 32},        // more than 32 ticks are 32
		{[]int{100, 0}, 32},         // 224 eighths, and 64 less 16 and 32
		{[]int{9, 9, 9, 9, 9}, 16},  // 9, and 18, 14, 11, 9, 7
		{[]int{16, 0, 0, 0, 0}, 32}, // 112, 98, 86, 76 eighths, far apart
	} {
		taught(t, x.ticks...).wantRto(x.rto)
	}
	long := append([]int{1000000}, slices.Repeat([]int{1}, 20)...)
	taught(t, long...).wantRto(20) // 21 eighths, and 18, 32 ticks having been the most that was learned
}

// P16.5: bytes that were told twice, or did not go out, teach nothing; what was taught ahead of them holds then, or Rto stays.
func TestRtoOfOld(t *testing.T) {
	r := taught(t, 1)
	r.wantRto(3)
	r.wantWrite(1, 1, api.OK)
	r.want(1, 1, false)
	r.tick(r.q.Stat().Due)
	r.wantRto(6)
	r.want(1, 1, true)
	r.tick(r.q.Stat().Due + 9)
	r.wantRto(12)
	r.heard(2, wide, nil, false)
	r.wantRto(3)
	r.wantWrite(1, 1, api.OK)
	r.lost(r.want(2, 1, false))
	r.tick(r.now + 1)
	r.want(2, 1, true)
	r.now += 20
	r.heard(3, wide, nil, false)
	r.wantRto(3)
	never := opened(t)
	never.wantWrite(1, 1, api.OK)
	never.want(0, 1, false)
	never.tick(4)
	never.want(0, 1, true)
	never.tick(6)
	never.heard(1, wide, nil, false)
	never.wantRto(8)
}

// P16.5: what was told to have come waits for what is missing: that teaches nothing; of what was cut each part teaches.
func TestRtoOfParts(t *testing.T) {
	r := opened(t)
	r.wantWrite(200, 200, api.OK)
	r.want(0, 100, false)
	r.want(100, 100, false)
	r.tick(1)
	for range 3 {
		r.heard(0, wide, [][2]int{{100, 200}}, true)
	}
	r.want(0, 100, true)
	r.now = 3
	r.heard(200, wide, nil, false)
	r.wantRto(4)
	parts := opened(t)
	parts.wantWrite(100, 100, api.OK)
	parts.want(0, 100, false)
	parts.tick(2)
	parts.heard(60, wide, nil, false)
	parts.wantRto(6)
	parts.heard(60, wide, nil, true)
	parts.wantRto(6)
	parts.heard(100, wide, nil, false)
	parts.wantRto(5)
}

// P16.5: when the timer has come eleven times with something on its way, and nobody was heard, it gives up; whatever is heard counts.
func TestTries(t *testing.T) {
	r := opened(t)
	r.wantWrite(150, 150, api.OK)
	r.want(0, 100, false)
	for i := 1; i <= 10; i++ {
		if r.tick(r.q.Stat().Due) {
			r.fail("it gives up")
		}
		r.wantStat("Tries", r.q.Stat().Tries, i)
		r.want(0, 100, true)
	}
	r.heard(0, wide, nil, true)
	r.wantStat("Tries", r.q.Stat().Tries, 0)
	for range 10 {
		r.tick(r.q.Stat().Due)
	}
	r.heard(0, wide, nil, false)
	for range 10 {
		r.tick(r.q.Stat().Due)
	}
	r.want(0, 100, true)
	r.wantNone()
	if r.tick(r.q.Stat().Due - 1) {
		r.fail("it gives up too soon")
	}
	if !r.tick(r.q.Stat().Due) {
		r.fail("it does not give up")
	}
	r.wantNone()
	if r.tick(r.now + 1) {
		r.fail("it gives up where no timer comes")
	}
	if !r.tick(r.q.Stat().Due) {
		r.fail("it does not give up once more")
	}
	r.wantNone()
	r.heard(50, wide, nil, false)
	r.wantNone()
	r.heard(100, wide, nil, false)
	r.wantNone()
	r.wantWrite(1, 1, api.OK)
	r.finish()
	r.wantNone()
	r.wantStat("many", len(r.q.Bufs()), 1)
}

// P16.6: Cwnd grows by mss, up to half of what the net did when the timer came; beyond that little by little.
func TestCwndGrows(t *testing.T) {
	r := opened(t)
	step := func(due int) {
		t.Helper()
		r.wantWrite(1, 1, api.OK)
		r.want(r.nxt, 1, false)
		r.heard(r.nxt, wide, nil, false)
		r.wantCwnd(due)
	}
	for i := range 8 {
		step(300 + 100*i)
	}
	r.wantWrite(800, 800, api.OK)
	r.all()
	r.tick(r.q.Stat().Due)
	r.wantCwnd(100)
	r.heard(r.una, wide, nil, true)
	r.heard(r.una, wide, nil, false)
	r.wantCwnd(100)
	for _, due := range []int{200, 300, 400} {
		r.heard(r.una+1, wide, nil, false)
		r.wantCwnd(due)
	}
	r.heard(r.nxt, wide, nil, false)
	for _, due := range []int{425 + 23, 448 + 22, 470 + 21, 491 + 20} {
		step(due)
	}
}

// P16.6: what the net did when another timer came ahead of that counts no more.
func TestCwndGrowsAnew(t *testing.T) {
	r := opened(t)
	r.wantWrite(1, 1, api.OK)
	r.want(0, 1, false)
	r.tick(4)
	r.heard(1, wide, nil, false)
	r.wantCwnd(200)
	for r.q.Stat().Cwnd < 600 {
		r.spend(1)
	}
	r.wantWrite(600, 600, api.OK)
	r.all()
	r.tick(r.q.Stat().Due)
	for _, due := range []int{200, 300, 333} {
		r.heard(r.una+1, wide, nil, false)
		r.wantCwnd(due)
	}
}

// P16.6: it grows always, also where it is more than mss times mss; and is halved to twice mss at least.
func TestCwndLittle(t *testing.T) {
	r := newRig(t, 40, 28, 0)
	r.heard(0, wide, nil, false)
	r.wantWrite(1, 1, api.OK)
	r.want(0, 1, false)
	r.tick(4)
	r.wantCwnd(28)
	r.want(0, 1, true)
	r.heard(1, wide, nil, false)
	r.wantCwnd(56)
	for _, due := range []int{70, 81, 90, 98, 106, 113, 119} {
		r.spend(1)
		r.wantCwnd(due)
	}
	for range 900 {
		r.spend(1)
	}
	was := r.q.Stat().Cwnd
	if was <= 28*28 {
		r.fail("it does not grow on")
	}
	r.spend(1)
	r.wantCwnd(was + 1)
}

// P16.6: a timer with a shut window, or with nothing on its way, leaves Cwnd; Mss lifts it, and never lessens it.
func TestCwndStays(t *testing.T) {
	r := flying(t, 300)
	was := r.q.Stat().Cwnd
	r.heard(r.una, 0, nil, false)
	r.tick(r.q.Stat().Due)
	r.wantCwnd(was)
	r.heard(r.una, 1, nil, false)
	r.tick(r.q.Stat().Due)
	r.wantCwnd(100)
	for _, x := range [][2]int{{50, 100}, {100, 100}, {101, 101}, {1000, 216}, {0, 216}} {
		r.setMss(x[0])
		r.wantCwnd(x[1])
	}
}

// P16.6: three Agains halve it, to twice mss at least, and let three mss more; each further one lets one more; at the end the half is left.
func TestCwndMends(t *testing.T) {
	for _, x := range []struct{ flight, half int }{{100, 200}, {200, 200}, {399, 200}, {402, 201}, {500, 250}, {1000, 500}} {
		r := flying(t, x.flight)
		base, was := r.una, r.q.Stat().Cwnd
		for range 2 {
			r.heard(base, wide, nil, true)
			r.wantCwnd(was)
		}
		for i := range 4 {
			r.heard(base, wide, nil, true)
			r.wantCwnd(x.half + 300 + 100*i)
		}
		r.heard(base+1, wide, nil, false)
		r.wantCwnd(x.half + 600)
		r.heard(base+1, wide, nil, true)
		r.wantCwnd(x.half + 600)
		r.heard(base+x.flight-1, wide, nil, false)
		r.wantCwnd(x.half + 600)
		r.heard(base+x.flight, wide, nil, false)
		r.wantCwnd(x.half)
		r.spend(1)
		r.wantCwnd(x.half + 100*100/x.half)
	}
}

// P16.6: three Agains anew, while it mends; a timer, while it mends; more mss, while it mends.
func TestCwndMendsAnew(t *testing.T) {
	r := flying(t, 1000)
	base := r.una
	for range 4 {
		r.heard(base, wide, nil, true)
	}
	r.wantCwnd(900)
	r.heard(base+400, wide, nil, false)
	for range 3 {
		r.heard(base+400, wide, nil, true)
	}
	r.wantCwnd(600)
	r.heard(base+1000, wide, nil, false)
	r.wantCwnd(300)
	slow := flying(t, 1000)
	base = slow.una
	for range 3 {
		slow.heard(base, wide, nil, true)
	}
	slow.heard(base+500, wide, nil, false)
	slow.wantCwnd(800)
	slow.tick(slow.q.Stat().Due)
	slow.wantCwnd(100)
	for _, due := range []int{200, 250, 250} {
		slow.heard(slow.una+1, wide, nil, false)
		slow.wantCwnd(due)
	}
	slow.heard(base+1000, wide, nil, false)
	slow.wantCwnd(250)
	more := newRig(t, 40, 28, 0)
	more.heard(0, wide, nil, false)
	more.wantWrite(28, 28, api.OK)
	more.want(0, 28, false)
	for range 3 {
		more.heard(0, wide, nil, true)
	}
	more.wantCwnd(56 + 84)
	more.setMss(200)
	more.wantCwnd(200)
	more.heard(28, wide, nil, false)
	more.wantCwnd(200)
	same := flying(t, 1000)
	base = same.una
	for range 3 {
		same.heard(base, wide, nil, true)
	}
	same.heard(base+900, wide, nil, false)
	same.tick(same.q.Stat().Due)
	same.heard(base+1000, wide, nil, false)
	same.wantCwnd(200) // half of what was on its way when the timer came is less
}

// P16.7: what was lost is told again with the next tick, as old; behind new bytes, old ones, a probe, and the Finish.
func TestLost(t *testing.T) {
	r := opened(t)
	r.wantWrite(150, 150, api.OK)
	r.lost(r.want(0, 100, false))
	r.wantNone()
	r.tick(1)
	o := r.want(0, 100, true)
	r.wantNone()
	r.lost(o)
	r.wantNone()
	r.finish()
	r.want(100, 50, false)
	r.lost(r.wantFin(false))
	r.wantNone()
	r.tick(2)
	r.lost(r.want(0, 100, true))
	r.lost(r.wantFin(true))
	r.wantNone()
	r.tick(3)
	r.want(0, 100, true)
	r.wantFin(true)
	r.wantNone()
	probe := newRig(t, 9, 100, 0)
	probe.wantWrite(100, 100, api.OK)
	probe.wantNone()
	probe.tick(4)
	probe.lost(probe.want(0, 1, false))
	probe.wantNone()
	probe.tick(5)
	probe.want(0, 1, true)
	probe.wantNone()
}

// P16.7: what was lost is told with the next tick whatever net and other side let, but not out of a busy buffer, nor when it has come.
func TestLostStill(t *testing.T) {
	r := flying(t, 300)
	base := r.una
	r.wantWrite(100, 100, api.OK)
	o := r.want(base+300, 100, false)
	r.lost(o)
	r.lost(o)
	r.heard(base, 0, nil, false)
	r.tick(1 + r.now)
	r.hold(o.Buf)
	r.wantNone()
	r.free(o.Buf)
	r.lost(r.want(base+300, 100, true))
	r.heard(base, 0, [][2]int{{base + 300, base + 350}}, false)
	r.tick(1 + r.now)
	r.want(base+350, 50, true)
	r.wantNone()
	r.heard(base+400, 0, nil, false)
	r.q.Lost(o)
	r.check()
	r.wantNone()
	r.heard(base+400, wide, nil, false)
	r.wantWrite(100, 100, api.OK)
	o = r.want(base+400, 100, false)
	r.heard(base+410, wide, [][2]int{{base + 450, base + 460}}, false)
	r.lost(o)
	r.tick(1 + r.now)
	r.want(base+410, 40, true)
	r.want(base+460, 40, true)
	r.wantNone()
}

// P16.7: Lost of what was not told last does nothing.
func TestLostOther(t *testing.T) {
	r := opened(t)
	r.wantWrite(200, 200, api.OK)
	r.q.Lost(api.Out{})
	r.q.Lost(api.Out{Len: 100})
	first := r.want(0, 100, false)
	last := r.want(100, 100, false)
	other := last
	other.Skip++
	for _, o := range []api.Out{{}, first, other, {Off: 100, Fin: true}, {Off: math.MinInt, Len: math.MaxInt}, {Off: math.MaxInt, Len: math.MaxInt}} {
		r.q.Lost(o)
		r.check()
	}
	r.tick(1)
	r.wantNone()
	r.lost(last)
	r.tick(2)
	r.want(100, 100, true)
	r.wantNone()
	r.q.Lost(last)
	r.tick(3)
	r.wantNone()
}

// P16.7: Drop lets all buffers go, but not others'; then nothing is accepted, told, or armed, whatever is called.
func TestDrop(t *testing.T) {
	for _, finished := range []bool{false, true} {
		r := newRig(t, 9, 100, 0)
		r.wantWrite(350, 350, api.OK)
		r.heard(0, 1000, nil, false)
		o := r.want(0, 100, false)
		r.want(100, 100, false)
		if finished {
			r.finish()
		}
		id := r.bufs[1].id
		r.hold(id)
		for i := range 3 {
			r.drop()
			r.wantStat("left", r.p.Left(), 8)
			r.wantWrite(1, 0, api.ErrState)
			r.wantNone()
			r.wantDue(0)
			r.heard(50+i, 1000, [][2]int{{150, 200}}, false)
			r.wantNone()
			r.heard(50+i, 0, nil, true)
			r.q.Lost(o)
			if r.q.Tick(1000 * i) {
				r.fail("it gives up")
			}
			r.setMss(50)
			r.setNodelay(true)
			r.finish()
			r.wantNone()
		}
		r.heard(200, 1000, nil, false)
		r.wantNone()
		r.free(id)
		r.wantStat("left", r.p.Left(), 9)
	}
	idle := newRig(t, 9, 100, 0)
	idle.drop()
	idle.wantWrite(1, 0, api.ErrState)
	idle.heard(0, 1000, nil, false)
	idle.finish()
	idle.wantNone()
	idle.wantDue(0)
}

// R4: what is handed in is neither changed nor kept; what is answered is new memory, its room, too.
func TestMemory(t *testing.T) {
	r := opened(t)
	room := noise(1, 400)
	b := room[:150]
	r.write(b)
	if !bytes.Equal(room, noise(1, 400)) {
		t.Fatal("Write changes what it is given")
	}
	clear(room)
	r.check()
	r.all()
	spans := [][2]int{{100, 150}, {7, 7}, {9, 9}}
	r.setNodelay(true)
	r.want(100, 50, false)
	r.heard(0, wide, spans[:1], false)
	if spans[0] != [2]int{100, 150} || spans[1] != [2]int{7, 7} || spans[2] != [2]int{9, 9} {
		t.Fatal("Heard changes what it is given")
	}
	spans[0] = [2]int{0, 100}
	for range 3 {
		r.q.Heard(0, wide, nil, true, 0)
	}
	if o, is := r.q.Next(0); !is || o.Off != 0 {
		t.Fatalf("Heard keeps what it is given: %+v, %v", o, is)
	}
	one, two := r.q.Bufs(), r.q.Bufs()
	for _, list := range [][]int{one, two} {
		for i := range list[:cap(list)] {
			list[:cap(list)][i] = -7
		}
	}
	if three := r.q.Bufs(); !slices.Equal(three, []int{0, 1}) {
		t.Fatalf("Bufs keeps what it has answered: %v", three)
	}
}

// R2, R5: nil and empty alike; two queues that are called alike answer alike.
func TestAlike(t *testing.T) {
	one, two := newRig(t, 20, 100, 0), newRig(t, 20, 100, 0)
	one.write(nil)
	two.write([]byte{})
	d := dice(5)
	for i := range 2000 {
		b, una := noise(i, d.below(150)), d.below(300)
		again, now := d.in(2), i/3
		for _, r := range []*rig{one, two} {
			r.q.Write(b, now)
			s := r.q.Stat()
			r.q.Heard(min(s.Una+una, s.Nxt), una*3, [][2]int{}[:0], again, now)
			r.q.Tick(now)
		}
		o, is := one.q.Next(now)
		if p, also := two.q.Next(now); o != p || is != also || one.q.Stat() != two.q.Stat() || !slices.Equal(one.q.Bufs(), two.q.Bufs()) {
			t.Fatalf("%+v, %v, and %+v, %v", o, is, p, also)
		}
	}
}

// odd are numbers that hardly may be.
var odd = []int{math.MinInt, math.MinInt + 1, -1 << 40, -65536, -1, 0, 1, 2, 27, 100, 216, 1024, 4096, 65535, 65536, 1 << 31, 1 << 40, math.MaxInt - 1, math.MaxInt}

// P16.7, R1: whatever is called, with whatever numbers, ends; bytes that are told are as they were accepted, from Una on and ahead of End.
func TestWrongInputs(t *testing.T) {
	for seed := range 60 {
		d := dice(seed)
		any := func() int {
			if d.in(2) {
				return odd[d.below(len(odd))]
			}
			return d.below(1500) - 100
		}
		p, _ := pool.New(12)
		q := sendq.New(p, any(), any())
		var data []byte
		var o api.Out
		for range 600 {
			switch d.below(9) {
			case 0, 1:
				b := noise(d.below(99), d.below(200))
				n, _ := q.Write(b, any())
				data = append(data, b[:n]...)
			case 2:
				q.Heard(any(), any(), [][2]int{{any(), any()}, {any(), any()}}, d.in(2), any())
			case 3:
				s := q.Stat()
				q.Heard(s.Una+d.below(s.Nxt-s.Una+1), any(), [][2]int{{s.Una - 5, any()}, {any(), s.Nxt + 9}, {math.MinInt, math.MaxInt}}[:d.below(4)], d.in(2), any())
			case 4:
				q.Tick(any())
			case 5:
				q.Mss(any())
				q.Nodelay(d.in(2))
			case 6:
				q.Lost([]api.Out{o, {Off: any(), Len: any()}, {Off: any(), Fin: true}}[d.below(3)])
			case 7:
				if d.in(50) {
					q.Finish()
				}
			}
			var is bool
			if o, is = q.Next(any()); is && !o.Fin {
				s := q.Stat()
				b, err := p.See(o.Buf)
				if err != api.OK || o.Off < s.Una || o.Off+o.Len > s.End || !bytes.Equal(b.Data[o.Skip:o.Skip+o.Len], data[o.Off:o.Off+o.Len]) {
					t.Fatalf("seed %d: Next: %+v; %+v", seed, o, s)
				}
			}
			ids := q.Bufs()
			slices.Sort(ids)
			if len(slices.Compact(ids)) != 12-p.Left() || q.Stat().End != len(data) {
				t.Fatalf("seed %d: Bufs: %v, %d left; %+v, %d accepted", seed, ids, p.Left(), q.Stat(), len(data))
			}
		}
		q.Drop()
		if p.Left() != 12 {
			t.Fatalf("seed %d: %d left", seed, p.Left())
		}
	}
}

// P16.4: a Heard of what is not on its way, or of no window, changes nothing.
func TestHeardWrong(t *testing.T) {
	r := flying(t, 300)
	r.heard(r.una+50, 1000, nil, true)
	was := r.q.Stat()
	for _, x := range [][2]int{{r.una - 1, 1000}, {0, 1000}, {-1, 1000}, {r.nxt + 1, 1000}, {math.MinInt, 5}, {math.MaxInt, 5}, {r.una + 5, -1}, {r.una + 5, 65536}, {r.una, math.MinInt}, {r.una, math.MaxInt}} {
		r.q.Heard(x[0], x[1], [][2]int{{r.una, r.nxt}}, true, r.now)
		if s := r.q.Stat(); s != was {
			r.fail("Heard(%d, %d): was %+v", x[0], x[1], was)
		}
	}
	r.check()
	r.tick(was.Due)
	r.want(r.una, 50, true)
}

// taker is the other side: what has come, and whether it is what was accepted.
type taker struct {
	r    *rig
	come map[int]bool // places
	next int          // up to here all has come
}

func (k *taker) take(o api.Out) {
	k.come[o.Off] = true
	for i := range o.Len {
		k.come[o.Off+i] = true
	}
	for k.come[k.next] {
		k.next++
	}
}

// got are spans of what has come though something ahead of it is missing.
func (k *taker) got() [][2]int {
	var out [][2]int
	for i := k.next; i < k.r.nxt; i++ {
		switch n := len(out); {
		case !k.come[i]:
		case n > 0 && out[n-1][1] == i:
			out[n-1][1]++
		default:
			out = append(out, [2]int{i, i + 1})
		}
	}
	return out
}

func (k *taker) answer(wnd int) {
	k.r.t.Helper()
	k.r.heard(k.next, wnd, k.got(), k.next == k.r.una && k.r.flight() > 0)
}

// walk is a long life of a queue by dice: what is told is taken at any time, in any order, or not at all, and anything may happen.
type walk struct {
	*rig
	d     *dice
	other *taker
	onWay []api.Out
}

func (w *walk) step() {
	w.t.Helper()
	d := w.d
	switch d.below(17) {
	case 16:
		w.lie()
	case 0, 1:
		w.write(noise(d.below(1000), d.below(300)))
	case 2:
		w.write(noise(d.below(1000), d.below(4)))
	case 3, 4, 5, 6:
		if o, is := w.next(); is {
			if d.in(8) {
				w.lost(o)
			} else {
				w.onWay = append(w.onWay, o)
			}
		}
	case 7, 8, 9:
		if n := len(w.onWay); n > 0 {
			i := d.below(n)
			if !d.in(3) {
				w.other.take(w.onWay[i])
			}
			if !d.in(4) {
				w.onWay = slices.Delete(w.onWay, i, i+1)
			}
			w.other.answer([]int{0, 1, 50, 300, 2000, wide}[d.below(6)])
		}
	case 10:
		w.other.answer([]int{0, w.wnd, w.wnd}[d.below(3)])
	case 11, 12:
		w.tick(w.now + d.below(3))
	case 13:
		w.tick(max(w.q.Stat().Due, w.now))
	case 14:
		w.holdOrFree()
	case 15:
		w.setting()
	}
}

// lie tells of spans that nobody has, and of Agains in a row.
func (w *walk) lie() {
	w.t.Helper()
	span := func() [2]int {
		from := w.una + w.d.below(w.flight()+1)
		return [2]int{from, from + w.d.below(w.nxt-from+1)}
	}
	for range w.d.below(5) {
		w.heard(w.una, w.wnd, [][2]int{span(), span(), span()}[:w.d.below(4)], !w.d.in(6))
	}
}

func (w *walk) holdOrFree() {
	if n := len(w.bufs); n > 0 && w.d.in(2) {
		w.hold(w.bufs[w.d.below(n)].id)
		return
	}
	w.freeOne()
}

func (w *walk) freeOne() bool {
	for id := range w.p.Size() {
		if w.others[id] > 0 {
			w.free(id)
			return true
		}
	}
	return false
}

func (w *walk) setting() {
	w.t.Helper()
	switch d := w.d; d.below(12) {
	case 0, 1:
		w.setMss(d.below(250))
	case 2, 3:
		w.setNodelay(d.in(2))
	case 4:
		if len(w.did) > 1500 {
			w.finish()
		}
	}
}

// prompt acknowledges each thing that is told with the next tick: within n and 40 ticks n bytes are through, and the Finish.
func (w *walk) prompt() {
	w.t.Helper()
	for w.freeOne() {
	}
	isPlain := w.d.in(3) // so it hears nothing but up to where all has come
	n, began := w.end()-w.una, w.now
	if w.finished {
		n++
	}
	for w.una < w.end() || w.finished && w.una == w.end() {
		if w.now > began+n+40 {
			w.fail("%d bytes are not through since %d", n, began)
		}
		out := w.all()
		w.now++
		for _, o := range out {
			w.other.take(o)
			if !isPlain {
				w.other.answer(w.mss + w.d.below(3)*w.mss)
			}
		}
		if isPlain && len(out) > 0 {
			w.heard(w.other.next, w.mss, nil, false)
		}
		if w.tick(w.now) {
			w.fail("it gives up")
		}
	}
}

// P16.3 to P16.8: long random lives; from some time on each thing that is told is acknowledged with the next tick.
func TestWalks(t *testing.T) {
	for seed := range 400 {
		d := dice(seed * 7919)
		r := newRig(t, 3+d.below(30), d.below(250), d.below(1000))
		w := &walk{rig: r, d: &d, other: &taker{r: r, come: map[int]bool{}}}
		for range 1 + d.below(3) {
			for i := 0; i < 100+d.below(1500) && !w.silent; i++ {
				w.step()
			}
			if w.silent {
				break
			}
			w.prompt()
		}
		w.wholeSent()
		w.drop()
		for w.freeOne() {
		}
		w.wantStat("left", w.p.Left(), w.p.Size())
	}
}

// wholeSent is P16.8: who has taken all that was told has all that is not waiting yet.
func (w *walk) wholeSent() {
	w.t.Helper()
	for i := range w.nxt {
		if w.spots[i].times == 0 {
			w.fail("%d was never told", i)
		}
	}
}

// P16.8: what is written bit by bit is through in time, from New on, with any mss, any window that is mss, and whether little ones wait or not.
func TestPrompt(t *testing.T) {
	for _, mss := range []int{28, 29, 100, 215, 216} {
		for _, n := range []int{0, 1, 2, 27, 28, 29, 100, 216, 217, 1000, 1024} {
			for _, bit := range []int{1, 7, 216, 1024} {
				for flags := range 8 {
					r := newRig(t, 40, mss, 5)
					d := dice(n)
					w := &walk{rig: r, d: &d, other: &taker{r: r, come: map[int]bool{}}}
					r.setNodelay(flags&1 != 0)
					for r.end() < n {
						if got, _ := r.write(noise(r.end(), min(bit, n-r.end()))); got == 0 {
							break
						}
						if flags&2 != 0 {
							r.all()
						}
					}
					if flags&4 != 0 {
						r.finish()
					}
					w.prompt()
					r.wantDue(0)
					r.wantStat("left", r.p.Left(), 40)
				}
			}
		}
	}
}

// R1: a buffer that somebody has let go who did not hold it takes nothing more.
func TestForeignFree(t *testing.T) {
	p, _ := pool.New(2)
	q := sendq.New(p, 100, 0)
	q.Heard(0, wide, nil, false, 0)
	q.Write(make([]byte, 10), 0)
	p.Free(0)
	if n, err := q.Write(make([]byte, 10), 0); n != 0 || err != api.ErrNoBufs {
		t.Errorf("Write: %d, error %d", n, err)
	}
	if o, is := q.Next(0); !is || o.Len != 10 {
		t.Errorf("Next: %+v, %v", o, is)
	}
	q.Drop()
}
