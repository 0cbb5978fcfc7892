package recvq_test

import (
	"bytes"
	"fmt"
	"math"
	"math/big"
	"slices"
	"testing"

	"packhorse/api"
	"packhorse/pool"
	"packhorse/recvq"
)

// noise is n bytes, the same at every run.
func noise(seed, n int) []byte {
	d := dice(seed)
	b := make([]byte, n)
	for i := range b {
		b[i] = byte(d.below(256))
	}
	return b
}

// dice tell numbers, the same at every run.
type dice uint32

func (d *dice) next() uint32 {
	*d = *d*1664525 + 1013904223
	return uint32(*d)
}

func (d *dice) below(n int) int { return int(d.next()>>8) % n }

// in tells one of so many cases, once in so many calls.
func (d *dice) in(n int) bool { return d.below(n) == 0 }

// far are numbers that no bytes have, and whose sums go around.
var far = []int{math.MinInt, math.MinInt + 1, -1025, -1, math.MaxInt - 1, math.MaxInt}

// span is a late piece.
type span struct {
	from, to int
	fin      bool
}

// rig is a queue and its pool, and a plain reading of the promises that each call is held against: which places have come, and with which bytes.
type rig struct {
	t *testing.T
	p *pool.Pool
	q *recvq.Queue

	text    []byte // by places
	has     []bool
	nxt     int
	read    int
	end     int // the END's place, or -1
	late    []span
	dropped bool

	aside int // a buffer of somebody else's
	slow  int // a walk reads once in so many calls
	seed  int
	did   []string
}

func newRig(t *testing.T, size int) *rig {
	t.Helper()
	p, err := pool.New(size + 1)
	if err != api.OK {
		t.Fatalf("pool of %d: error %d", size, err)
	}
	r := &rig{t: t, p: p, q: recvq.New(p), end: -1, slow: 4}
	r.aside, _ = p.Get()
	p.Set(r.aside, []byte("another's"))
	r.check()
	return r
}

func (r *rig) note(format string, args ...any) { r.did = append(r.did, fmt.Sprintf(format, args...)) }

// fail stops the test, and tells the last calls: one that is wrong makes many others wrong.
func (r *rig) fail(format string, args ...any) {
	r.t.Helper()
	for _, x := range r.did[max(len(r.did)-12, 0):] {
		r.t.Log(x)
	}
	r.t.Fatalf("%s; %+v", fmt.Sprintf(format, args...), r.q.Stat())
}

func (r *rig) queued() int {
	if r.dropped {
		return 0
	}
	return r.nxt - r.read
}

func (r *rig) room() int { return 1024 - r.queued() }

// check holds what can be told at any time against what it should be.
func (r *rig) check() {
	r.t.Helper()
	due := api.RecvStat{Nxt: r.nxt, Queued: r.queued(), Room: r.room(), Late: len(r.late)}
	if r.q.Stat() != due {
		r.fail("Stat: not %+v", due)
	}
	if r.q.Ended() != (r.nxt == r.end) {
		r.fail("Ended: %v, the END at %d", r.q.Ended(), r.end)
	}
	var got [][2]int
	some := 0
	for _, s := range slices.Backward(r.late) {
		if s.from < s.to {
			some++
			if len(got) < 3 {
				got = append(got, [2]int{s.from, s.to})
			}
		}
	}
	if x := r.q.Got(); !slices.Equal(x, got) {
		r.fail("Got: %v, not %v", x, got)
	}
	r.checkBuffers(some)
}

// checkBuffers is P17.5: some late pieces have bytes.
func (r *rig) checkBuffers(some int) {
	r.t.Helper()
	bufs, late := r.q.Bufs(), r.q.Late()
	if len(bufs) > 16 || len(bufs) > r.queued() || len(bufs) == 0 && r.queued() > 0 {
		r.fail("Bufs: %v", bufs)
	}
	if len(late) != some {
		r.fail("Late: %v, not those of %v", late, r.late)
	}
	seen := map[int]bool{r.aside: true}
	room := 0
	for _, id := range append(bufs, late...) {
		b, err := r.p.See(id)
		if seen[id] || err != api.OK || b.Refs != 1 || len(b.Data) == 0 {
			r.fail("Bufs: %v, Late: %v: %d has %d holders, and %d bytes", bufs, late, id, b.Refs, len(b.Data))
		}
		seen[id] = true
		room += len(b.Data)
	}
	if r.p.Left() != r.p.Size()-len(seen) {
		r.fail("%d buffers of %d left, Bufs: %v, Late: %v", r.p.Left(), r.p.Size(), bufs, late)
	}
	if room < r.queued() {
		r.fail("%d bytes in Bufs: %v, Late: %v", room, bufs, late)
	}
	for _, s := range r.late {
		if s.from < s.to && !slices.ContainsFunc(late, func(id int) bool { return r.lies(id, s) }) {
			r.fail("Late: %v, and in none lies %v", late, s)
		}
	}
	if b, _ := r.p.See(r.aside); b.Refs != 1 || string(b.Data) != "another's" {
		r.fail("another's buffer: %d holders, %q", b.Refs, b.Data)
	}
}

// lies tells whether the bytes of a late piece are in a buffer.
func (r *rig) lies(id int, s span) bool {
	b, _ := r.p.See(id)
	return bytes.Contains(b.Data, r.text[s.from:s.to])
}

// above tells whether a sum is more, as numbers that don't go around have it.
func above(a, b, most int) bool {
	sum := new(big.Int).Add(big.NewInt(int64(a)), big.NewInt(int64(b)))
	return sum.Cmp(big.NewInt(int64(most))) > 0
}

// mayBe is P17.1.
func (r *rig) mayBe(off, bytes, skip, take int, fin bool) bool {
	switch {
	case off < 0, skip < 0, take < 0, above(skip, take, bytes), above(off, take, r.nxt+r.room()), r.dropped, r.nxt == r.end:
		return false
	case r.end >= 0 && off+take > r.end:
		return false
	case !fin:
		return true
	case r.end >= 0 && off+take != r.end:
		return false
	}
	for i := off + take; i < len(r.has); i++ {
		if r.has[i] {
			return false
		}
	}
	return true
}

// wide has the reading know places up to one.
func (r *rig) wide(to int) {
	if n := to - len(r.has); n > 0 {
		r.has = append(r.has, make([]bool, n)...)
		r.text = append(r.text, make([]byte, n)...)
	}
}

// due is P17.1 to P17.3: what Put must answer; it takes what it takes.
func (r *rig) due(off int, data []byte, skip, take int, fin bool) bool {
	if !r.mayBe(off, len(data), skip, take, fin) {
		return false
	}
	r.wide(off + take)
	if off > r.nxt {
		if len(r.late) == 4 || take == 0 && !fin || slices.Contains(r.has[off:off+take], true) {
			return false
		}
		if fin && slices.ContainsFunc(r.late, func(s span) bool { return s.fin }) {
			return false
		}
		r.late = append(r.late, span{off, off + take, fin})
	} else if off+take <= r.nxt && !(fin && off+take == r.nxt) {
		return false
	}
	for i := max(off, r.nxt); i < off+take; i++ {
		r.text[i], r.has[i] = data[skip+i-off], true
	}
	if fin {
		r.end = off + take
	}
	for r.nxt < len(r.has) && r.has[r.nxt] {
		r.nxt++
	}
	r.late = slices.DeleteFunc(r.late, func(s span) bool { return s.from <= r.nxt })
	return true
}

// put lays data into a buffer, and puts some of that.
func (r *rig) put(off int, data []byte, skip, take int, fin bool) bool {
	r.t.Helper()
	id, err := r.p.Get()
	if err != api.OK {
		r.fail("no buffer")
	}
	r.p.Set(id, data)
	r.p.Front(id, []byte("head"))
	is := r.q.Put(off, id, skip, take, fin)
	r.note("put %d, %d: %d of %d bytes, skip %d, fin %v: %v", off, id, take, len(data), skip, fin, is)
	if is != r.due(off, data, skip, take, fin) {
		r.fail("Put: %v", is)
	}
	r.check()
	return is
}

// fresh is n bytes that no other piece of the rig has.
func (r *rig) fresh(n int) []byte {
	r.seed++
	return noise(r.seed, n)
}

// want puts the places from one up to another one, which lie between other bytes.
func (r *rig) want(from, to int, fin, due bool) {
	r.t.Helper()
	if is := r.put(from, r.fresh(to-from+7), 3, to-from, fin); is != due {
		r.fail("Put of %d to %d, fin %v: %v", from, to, fin, is)
	}
}

func (r *rig) take(most int) []byte {
	r.t.Helper()
	b := r.q.Read(most)
	r.note("read %d: %d", most, len(b))
	n := max(min(most, r.queued()), 0)
	if !bytes.Equal(b, r.text[r.read:r.read+n]) {
		r.fail("Read(%d): %x, not %x", most, b, r.text[r.read:r.read+n])
	}
	r.read += n
	r.check()
	return b
}

func (r *rig) drop() {
	r.t.Helper()
	r.q.Drop()
	r.note("drop")
	r.dropped = true
	r.late = nil
	r.check()
}

// wantStat: up to nxt all has come, queued bytes wait, and so many pieces are late.
func (r *rig) wantStat(nxt, queued, late int) {
	r.t.Helper()
	if s := r.q.Stat(); s != (api.RecvStat{Nxt: nxt, Queued: queued, Room: 1024 - queued, Late: late}) {
		r.fail("Stat: not %d, %d, %d", nxt, queued, late)
	}
}

func (r *rig) wantGot(due ...[2]int) {
	r.t.Helper()
	if x := r.q.Got(); !slices.Equal(x, due) {
		r.fail("Got: %v, not %v", x, due)
	}
}

func (r *rig) wantEnded(due bool) {
	r.t.Helper()
	if r.q.Ended() != due {
		r.fail("Ended: %v", !due)
	}
}

func (r *rig) wantHeld(bufs, late int) {
	r.t.Helper()
	if b, l := r.q.Bufs(), r.q.Late(); len(b) != bufs || len(l) != late {
		r.fail("Bufs: %v, Late: %v, not %d and %d", b, l, bufs, late)
	}
}

// upTo is a rig whose Nxt is some place; all ahead of that is read.
func upTo(t *testing.T, nxt int) *rig {
	t.Helper()
	r := newRig(t, 40)
	for r.nxt < nxt {
		r.want(r.nxt, min(nxt, r.nxt+200), false, true)
		r.take(1024)
	}
	return r
}

// The chapter's examples.
func TestExamples(t *testing.T) {
	r := newRig(t, 9)
	if !r.put(2, []byte("cd"), 0, 2, true) {
		r.fail("Put out of order")
	}
	r.wantGot([2]int{2, 4})
	r.wantStat(0, 0, 1)
	if !r.put(0, []byte("xab"), 1, 2, false) {
		r.fail("Put in order")
	}
	r.wantStat(4, 4, 0)
	r.wantEnded(true)
	if b := r.take(3); string(b) != "abc" {
		r.fail("Read: %q", b)
	}
	if b := r.take(9); string(b) != "d" {
		r.fail("Read: %q", b)
	}
}

// P17.1: nothing waits at first, and nothing is held.
func TestNew(t *testing.T) {
	r := newRig(t, 1)
	r.wantStat(0, 0, 0)
	r.wantEnded(false)
	r.wantGot()
	r.wantHeld(0, 0)
	r.take(9)
}

// P17.1: off, skip and take below 0, at 0 and at 1, and so far that sums go around.
func TestPutNumbers(t *testing.T) {
	numbers := append([]int{0, 1, 2, 3, 9, 1024}, far...)
	for _, fin := range []bool{false, true} {
		for _, nxt := range []int{0, 1, 700} {
			for _, off := range append(numbers, nxt-1, nxt, nxt+1) {
				for _, skip := range numbers {
					for _, take := range numbers {
						r := upTo(t, nxt)
						r.put(off, []byte("xyz"), skip, take, fin)
					}
				}
			}
		}
	}
}

// P17.1: skip and take together as many as the buffer's bytes, fewer, and more; also in buffers without any, and full ones.
func TestPutBytes(t *testing.T) {
	for _, size := range []int{0, 1, 2, 77, 287, 288} {
		for _, skip := range []int{0, 1, size / 2, size - 1, size, size + 1} {
			for _, take := range []int{0, 1, size - skip - 1, size - skip, size - skip + 1} {
				due := skip >= 0 && take >= 0 && skip+take <= size
				r := upTo(t, 5)
				if is := r.put(5, r.fresh(size), skip, take, false); is != (due && take > 0) {
					r.fail("at Nxt: %v", is)
				}
				r = upTo(t, 5)
				if is := r.put(5, r.fresh(size), skip, take, true); is != due {
					r.fail("at Nxt, with fin: %v", is)
				}
				r = upTo(t, 5)
				if is := r.put(6, r.fresh(size), skip, take, true); is != due {
					r.fail("behind Nxt: %v", is)
				}
			}
		}
	}
}

// P17.1: off and take together are Nxt and Room, fewer, and more; late pieces take nothing of the room.
func TestPutRoom(t *testing.T) {
	for _, c := range []struct{ nxt, waits, late int }{{0, 0, 0}, {0, 0, 200}, {3, 0, 0}, {0, 1, 0}, {1000, 100, 50}, {5, 1023, 0}, {5, 1024, 0}, {3000, 800, 9}} {
		for _, take := range []int{0, 1, 2, 99, 288} {
			for by := -2; by <= 2; by++ {
				for _, fin := range []bool{false, true} {
					r := upTo(t, c.nxt)
					for r.queued() < c.waits {
						r.want(r.nxt, min(r.nxt+200, c.nxt+c.waits), false, true)
					}
					if c.late > 0 {
						r.want(r.nxt+1, r.nxt+1+c.late, false, true)
					}
					off := r.nxt + 1024 - c.waits + by - take
					is := r.put(off, r.fresh(288), 288-take, take, fin)
					if by > 0 && is {
						r.fail("beyond the room by %d", by)
					}
					if by <= 0 && off > r.nxt+300 && (take > 0 || fin) && !is {
						r.fail("in the room, by %d", -by)
					}
				}
			}
		}
	}
}

// P17.1: what is read makes room.
func TestRoomGrows(t *testing.T) {
	r := newRig(t, 40)
	for r.nxt < 1024 {
		r.want(r.nxt, r.nxt+128, false, true)
	}
	r.want(1024, 1025, false, false)
	r.want(1025, 1026, false, false)
	r.want(1024, 1024, false, false)
	r.take(1)
	r.want(1024, 1026, false, false)
	r.want(1025, 1026, false, false)
	r.want(1024, 1025, false, true)
	r.take(0)
	r.want(1025, 1026, false, false)
	r.take(300)
	r.want(1100, 1325, false, true)
	r.want(1325, 1326, false, false)
	r.want(1025, 1100, true, false) // a late one is behind it
	r.want(1025, 1100, false, true)
	r.take(1024)
	r.wantStat(1325, 0, 0)
}

// P17.1: nothing comes behind Drop, whatever it is.
func TestPutDropped(t *testing.T) {
	for _, fin := range []bool{false, true} {
		for off := range 8 {
			for take := range 4 {
				r := newRig(t, 9)
				r.want(0, 3, false, true)
				r.want(5, 6, false, true)
				r.drop()
				r.want(off, off+take, fin, false)
			}
		}
	}
}

// P17.1: nothing comes behind the END, also as long as bytes wait.
func TestPutEnded(t *testing.T) {
	for _, reads := range []int{0, 1, 3} {
		for _, fin := range []bool{false, true} {
			for off := range 6 {
				for take := range 4 {
					r := newRig(t, 9)
					r.want(0, 3, true, true)
					r.wantEnded(true)
					r.take(reads)
					r.want(off, off+take, fin, false)
				}
			}
		}
	}
}

// P17.1: an END that is known: pieces that go up to it, less far, and further, with and without fin, at Nxt and behind it.
func TestPutKnownEnd(t *testing.T) {
	for from := range 11 {
		for to := from; to <= 12; to++ {
			for _, fin := range []bool{false, true} {
				r := newRig(t, 9)
				r.want(0, 2, false, true)
				r.want(8, 10, true, true) // the END is at 10
				due := to <= 10 && (from <= 2 && to > 2 || from > 2 && to > from && to <= 8)
				if fin {
					due = to == 10 && from <= 2
				}
				r.want(from, to, fin, due)
				r.wantEnded(due && from <= 2 && to >= 8)
			}
		}
	}
}

// P17.1, P17.3: an END that a piece of no bytes has told.
func TestPutKnownEmptyEnd(t *testing.T) {
	for from := range 11 {
		for to := from; to <= 12; to++ {
			for _, fin := range []bool{false, true} {
				r := newRig(t, 9)
				r.want(0, 2, false, true)
				r.want(10, 10, true, true)
				r.wantHeld(1, 0)
				due := to <= 10 && to > 2 && to > from && (!fin || to == 10 && from <= 2)
				r.want(from, to, fin, due)
				r.wantEnded(due && from <= 2 && to == 10)
			}
		}
	}
}

// P17.1: fin at a place that bytes that came are behind, at, and ahead of; Nxt, and late ones.
func TestFinPlaces(t *testing.T) {
	for place, due := range []bool{false, false, false, false, true, true, true} {
		for off := 0; off <= min(4, place); off++ { // at most Nxt, which is 4
			r := newRig(t, 9)
			r.want(0, 4, false, true)
			r.want(off, place, true, due)
			r.wantEnded(due)
			if due {
				r.wantStat(place, place, 0)
			}
		}
	}
	for place, due := range []bool{false, false, false, false, false, false, false, false, true, true, true} {
		for off := 0; off <= place; off++ { // 6 to 8 is late
			r := newRig(t, 9)
			r.want(0, 4, false, true)
			r.want(6, 8, false, true)
			r.want(off, place, true, due && (off <= 4 || off >= 8))
		}
	}
}

// P17.1: of many late ones each counts, whichever came last.
func TestFinManyLate(t *testing.T) {
	for _, order := range [][]int{{10, 20, 30}, {30, 20, 10}, {20, 30, 10}, {10, 30, 20}} {
		for place := range 34 {
			r := newRig(t, 9)
			for _, from := range order {
				r.want(from, from+2, false, true)
			}
			r.want(0, place, true, place >= 32)
			r = newRig(t, 9)
			for _, from := range order {
				r.want(from, from+2, false, true)
			}
			if place > 0 {
				r.want(place, place, true, place >= 32)
			}
		}
	}
}

// P17.2: off ahead of Nxt by more than all of the bytes, by all, by some, by one; at Nxt; and behind it.
func TestOldBytes(t *testing.T) {
	for _, fin := range []bool{false, true} {
		for off := range 12 {
			r := upTo(t, 10)
			isNew := off+4 > 10 || fin && off+4 == 10
			r.want(off, off+4, fin, isNew)
			switch {
			case off > 10:
				r.wantStat(10, 0, 1)
			case isNew:
				r.wantStat(off+4, off+4-10, 0)
				r.wantEnded(fin)
				r.take(9)
			default:
				r.wantStat(10, 0, 0)
			}
		}
	}
}

// P17.2: the bytes that came first stay, whatever comes later at their places; but what is late gives way.
func TestBytesStay(t *testing.T) {
	r := newRig(t, 9)
	r.put(0, []byte("abcd"), 0, 4, false)
	r.put(0, []byte("ABCDEF"), 0, 6, false)
	r.put(3, []byte("-DEFgh"), 1, 5, false)
	if b := r.take(99); string(b) != "abcdEFgh" {
		r.fail("Read: %q", b)
	}
	r.put(10, []byte("klm"), 0, 3, false)
	r.put(7, []byte("HIJKL"), 0, 5, false)
	if b := r.take(99); string(b) != "IJKLm" {
		r.fail("Read: %q", b)
	}
}

// P17.2, P17.3: no bytes, with and without fin, ahead of Nxt, at it, and behind it; no buffer is kept for that.
func TestNoBytes(t *testing.T) {
	for _, data := range []string{"", "x"} {
		for _, c := range []struct {
			off      int
			fin, due bool
		}{{0, false, false}, {3, false, false}, {4, false, false}, {5, false, false}, {1024, false, false}, {0, true, false}, {3, true, false}, {4, true, true}, {5, true, true}, {1024, true, true}, {1025, true, false}} {
			r := newRig(t, 9)
			r.want(0, 4, false, true)
			if is := r.put(c.off, []byte(data), 0, 0, c.fin); is != c.due {
				r.fail("Put at %d, fin %v: %v", c.off, c.fin, is)
			}
			r.wantHeld(1, 0)
			r.wantGot()
			r.wantEnded(c.due && c.off == 4)
			r.take(9)
		}
	}
	r := newRig(t, 9)
	r.want(0, 0, true, true) // there is nothing at all
	r.wantStat(0, 0, 0)
	r.wantEnded(true)
	r.wantHeld(0, 0)
}

// P17.3: late pieces that touch, that overlap by one place, that lie in one another, that are the same.
func TestLateOverlap(t *testing.T) {
	for from := 1; from <= 20; from++ {
		for to := from; to <= 20; to++ {
			for _, fin := range []bool{false, true} {
				r := newRig(t, 9)
				r.want(8, 12, false, true)
				due := to > from && (to <= 8 || from >= 12)
				if fin {
					due = from >= 12
				}
				r.want(from, to, fin, due)
				if due && to > from {
					r.wantGot([2]int{from, to}, [2]int{8, 12})
				}
			}
		}
	}
}

// P17.3: each late piece counts, not the first or the last one alone.
func TestLateOverlapMany(t *testing.T) {
	for from := 1; from <= 40; from++ {
		for _, n := range []int{1, 2, 5, 30} {
			r := newRig(t, 9)
			for _, at := range []int{20, 10, 30} {
				r.want(at, at+3, false, true)
			}
			due := true
			for i := from; i < from+n; i++ {
				due = due && (i%10 > 2 || i < 10 || i > 32)
			}
			r.want(from, from+n, false, due)
		}
	}
}

// P17.3: four pieces are late, a fifth one is not, of which kind ever; what fills the gap comes all the same.
func TestLateMany(t *testing.T) {
	for _, empty := range []bool{false, true} {
		r := newRig(t, 9)
		r.want(10, 12, false, true)
		r.want(2, 4, false, true)
		r.want(8, 9, false, true)
		if empty {
			r.want(20, 20, true, true)
		} else {
			r.want(18, 20, true, true)
		}
		r.wantStat(0, 0, 4)
		r.want(5, 6, false, false)
		r.want(4, 5, false, false)
		r.want(12, 14, false, false)
		r.want(20, 20, true, false)
		r.want(1, 2, false, false)
		r.want(0, 1, false, true)
		r.wantStat(1, 1, 4)
		r.want(1, 2, false, true)
		r.wantStat(4, 4, 3)
		r.want(5, 6, false, true)
		r.want(12, 14, false, false)
		r.want(0, 20, false, true)
		r.wantStat(20, 20, 0)
		r.wantEnded(true)
		r.take(99)
	}
}

// P17.3: a second fin is not late, also where it is at the same place.
func TestLateFins(t *testing.T) {
	for _, first := range [][2]int{{8, 10}, {10, 10}} {
		for from := 1; from <= 10; from++ {
			r := newRig(t, 9)
			r.want(first[0], first[1], true, true)
			r.want(from, 10, true, false)
			r.want(0, 8, false, true)
			r.wantEnded(first[0] == 8)
			if first[0] == 10 {
				r.want(8, 10, true, true)
			}
			r.wantEnded(true)
			r.take(99)
		}
	}
}

// P17.2: late pieces are taken when the gap is filled: one, several in a row, in whichever order they came, and what is behind another gap is not.
func TestGapFilled(t *testing.T) {
	pieces := [][2]int{{2, 4}, {4, 5}, {5, 9}, {10, 12}}
	for _, order := range [][]int{{0, 1, 2, 3}, {3, 2, 1, 0}, {2, 0, 3, 1}, {1, 3, 0, 2}, {1, 2, 3, 0}} {
		for to := 1; to <= 13; to++ {
			r := newRig(t, 9)
			for _, i := range order {
				r.want(pieces[i][0], pieces[i][1], false, true)
			}
			r.want(0, to, false, true)
			switch {
			case to < 2:
				r.wantStat(1, 1, 4)
			case to < 10:
				r.wantStat(9, 9, 1)
				r.wantGot([2]int{10, 12})
			default:
				r.wantStat(max(to, 12), max(to, 12), 0)
			}
			if to == 9 { // it lies over three of them
				r.wantHeld(1, 1)
			}
			r.take(3)
			r.take(99)
		}
	}
}

// P17.2: the END that a late piece tells is one when the gap is filled, with bytes of the piece, or over all of them.
func TestGapToEnd(t *testing.T) {
	for to := 1; to <= 8; to++ {
		for _, last := range []int{4, 5, 8} {
			r := newRig(t, 9)
			r.want(last, 8, true, true)
			r.want(0, to, false, true)
			if to >= last {
				r.wantStat(8, 8, 0)
			} else {
				r.wantStat(to, to, 1)
			}
			r.wantEnded(to >= last)
			r.take(99)
		}
	}
}

// P17.4: Read of none, of some, of all, and of more than all that waits.
func TestRead(t *testing.T) {
	for _, most := range append([]int{0, 1, 2, 3, 4, 5, 6, 7, 8, 9, 10, 11, 1024}, far...) {
		r := newRig(t, 9)
		r.take(most) // there is nothing yet
		r.want(0, 3, false, true)
		r.want(3, 4, false, true)
		r.want(4, 9, false, true)
		r.want(11, 12, false, true)
		b := r.take(most)
		if len(b) != max(min(most, 9), 0) {
			r.fail("Read(%d): %d bytes", most, len(b))
		}
		r.wantStat(9, 9-len(b), 1)
		r.take(2)
		r.want(9, 11, false, true)
		r.take(most)
		r.take(99)
	}
}

// P17.4: a buffer is let go with its last byte, not sooner.
func TestReadFrees(t *testing.T) {
	r := newRig(t, 9)
	r.want(0, 200, false, true)
	r.want(200, 400, false, true)
	r.take(199)
	before := len(r.q.Bufs())
	r.take(1)
	r.take(200)
	if before < 1 || len(r.q.Bufs()) != 0 {
		r.fail("Bufs: %v", r.q.Bufs())
	}
}

// P17.4: it has ended when all is there, not when the END is known, and not only when all is read.
func TestEnded(t *testing.T) {
	r := newRig(t, 9)
	r.want(0, 1, false, true)
	r.want(3, 5, true, true)
	r.wantEnded(false)
	r.want(1, 2, false, true)
	r.wantEnded(false)
	r.take(9)
	r.wantEnded(false)
	r.want(2, 3, false, true)
	r.wantEnded(true)
	r.take(1)
	r.wantEnded(true)
	r.take(9)
	r.wantEnded(true)
}

// P17.4: the places of late pieces: none, one, three, of four the latest; touching ones apart, and those of no bytes never.
func TestGot(t *testing.T) {
	r := newRig(t, 9)
	r.wantGot()
	r.want(0, 2, false, true)
	r.wantGot()
	r.want(10, 12, false, true)
	r.wantGot([2]int{10, 12})
	r.want(12, 15, false, true)
	r.want(9, 10, false, true)
	r.wantGot([2]int{9, 10}, [2]int{12, 15}, [2]int{10, 12})
	r.want(4, 5, false, true)
	r.wantGot([2]int{4, 5}, [2]int{9, 10}, [2]int{12, 15})
	r.want(2, 4, false, true)
	r.wantGot([2]int{9, 10}, [2]int{12, 15}, [2]int{10, 12})
	r.want(30, 30, true, true)
	r.wantGot([2]int{9, 10}, [2]int{12, 15}, [2]int{10, 12})
	r.want(5, 10, false, true)
	r.wantGot()
	r.wantStat(15, 15, 1)
}

// P17.4: a piece of no bytes that came between others takes no place among three.
func TestGotEmptyBetween(t *testing.T) {
	for at := range 4 {
		r := newRig(t, 9)
		for i := range 4 {
			if i == at {
				r.want(50, 50, true, true)
			} else {
				r.want(10*i+1, 10*i+3, false, true)
			}
		}
		if len(r.q.Got()) != 3 {
			r.fail("Got: %v", r.q.Got())
		}
		r.wantHeld(0, 3)
	}
}

// P17.5: for bytes that wait at most 16 buffers are held, with how many pieces ever, of how many bytes, in order or filled up, and read between.
func TestBufs(t *testing.T) {
	for _, size := range []int{1, 2, 3, 59, 60, 61, 62, 63, 64} {
		for _, reads := range []int{0, 1, size, size + 1, 5 * size} {
			r := newRig(t, 30)
			for i := range 300 {
				if r.room() >= size {
					r.want(r.nxt, r.nxt+size, false, true)
				}
				if i%5 == 4 {
					r.take(reads)
				}
			}
			r.take(1024)
			r.wantHeld(0, 0)
		}
	}
}

// P17.5: so it is where full buffers stand between little ones, whatever is ahead and behind of the bytes in them.
func TestBufsMixed(t *testing.T) {
	for _, sizes := range [][]int{{288, 1}, {1, 288}, {288, 288, 1, 1, 1}, {200, 1, 1}, {100, 188, 1}, {1, 1, 287}} {
		r := newRig(t, 30)
		for i := range 200 {
			if r.room() == 0 {
				r.take(1 + i%3)
			}
			n := min(sizes[i%len(sizes)], r.room())
			r.put(r.nxt, r.fresh(288), (288-n)/2, n, false)
		}
		r.take(1024)
	}
	r := newRig(t, 30)
	for i := range 1024 {
		r.put(i, r.fresh(288), i%288, 1, i == 1023)
	}
	r.wantEnded(true)
	if b := r.take(1025); len(b) != 1024 {
		r.fail("Read: %d bytes", len(b))
	}
}

// P17.5: late pieces make more of it, too, when they are taken.
func TestBufsOfLate(t *testing.T) {
	r := newRig(t, 30)
	for i := range 15 {
		r.want(i, i+1, false, true)
	}
	for _, from := range []int{18, 22, 16, 20} {
		r.want(from, from+2, false, true)
	}
	r.want(15, 16, false, true)
	r.wantStat(24, 24, 0)
	r.take(7)
	r.take(99)
}

// P17.5: no buffer need be free for that.
func TestBufsNoneFree(t *testing.T) {
	r := newRig(t, 17)
	for i := range 200 {
		r.want(i, i+1, false, true)
	}
	r.take(1024)
}

// P17.5: behind Drop nothing is held, nothing comes, and nothing is read; Drop may come twice.
func TestDrop(t *testing.T) {
	for _, end := range []int{-1, 7, 12} {
		r := newRig(t, 9)
		r.want(0, 3, false, true)
		r.want(3, 5, false, true)
		r.take(1)
		r.want(6, 7, end == 7, true)
		if end == 12 {
			r.want(12, 12, true, true)
		}
		r.drop()
		for range 2 {
			r.wantStat(5, 0, 0)
			r.wantGot()
			r.wantHeld(0, 0)
			r.wantEnded(false)
			if b := r.q.Read(9); len(b) != 0 {
				r.fail("Read: %x", b)
			}
			r.want(5, 6, false, false)
			r.want(5, 7, true, false)
			r.want(6, 9, false, false)
			r.drop()
		}
	}
	r := newRig(t, 9)
	r.drop()
	r.want(0, 0, true, false)
	r = newRig(t, 9)
	r.want(0, 2, true, true)
	r.drop()
	r.wantEnded(true)
}

// R4: what is answered is new memory.
func TestMemory(t *testing.T) {
	r := newRig(t, 9)
	r.want(0, 50, false, true)
	r.want(60, 70, false, true)
	r.want(80, 90, false, true)
	spoil := func(b []byte) {
		b = b[:cap(b)]
		for i := range b {
			b[i] ^= 0xff
		}
	}
	for range 2 {
		got, bufs, late := r.q.Got(), r.q.Bufs(), r.q.Late()
		for _, x := range [][]int{bufs, late} {
			x = x[:cap(x)]
			for i := range x {
				x[i] = 77
			}
		}
		got = got[:cap(got)]
		for i := range got {
			got[i] = [2]int{7, 7}
		}
		r.check()
	}
	a := r.q.Read(20)
	b := r.q.Read(10)
	kept := bytes.Clone(b)
	spoil(a)
	if !bytes.Equal(a[:20], flipped(r.text[:20])) || !bytes.Equal(b, kept) {
		r.fail("two answers share memory")
	}
	spoil(b)
	r.read = 30
	r.take(20)
}

func flipped(b []byte) []byte {
	out := bytes.Clone(b)
	for i := range out {
		out[i] ^= 0xff
	}
	return out
}

// R5: two that are given the same tell the same, whatever others do.
func TestAlike(t *testing.T) {
	a, b := newRig(t, 30), newRig(t, 30)
	d, e := dice(5), dice(5)
	for range 400 {
		a.step(&d)
		b.step(&e)
		if !slices.Equal(a.q.Bufs(), b.q.Bufs()) || !slices.Equal(a.q.Late(), b.q.Late()) {
			a.fail("%v and %v, not %v and %v", a.q.Bufs(), a.q.Late(), b.q.Bufs(), b.q.Late())
		}
	}
}

// R1: buffers of which there is none, or that somebody else lets go or writes to: nothing panics, and no more is told than is there.
func TestWrongBuffers(t *testing.T) {
	for _, id := range append([]int{5, 31, 1 << 31}, far...) {
		r := newRig(t, 30)
		r.want(0, 3, false, true)
		for _, take := range []int{1, 3, -1} {
			if r.q.Put(3, id, 0, take, false) || r.q.Put(4, id, 0, take, true) || r.q.Put(3, id, 0, 0, true) {
				r.fail("Put of the buffer %d", id)
			}
			r.check()
		}
		r.take(9)
	}
	for _, others := range []func(p *pool.Pool, id int){
		func(p *pool.Pool, id int) { p.Free(id) },
		func(p *pool.Pool, id int) { p.Set(id, []byte("x")) },
		func(p *pool.Pool, id int) { p.Set(id, make([]byte, 288)) },
		func(p *pool.Pool, id int) { p.Hold(id) },
	} {
		for many := range 22 {
			r := newRig(t, 60)
			for i := range 16 {
				r.want(2*i, 2*i+2, false, true)
			}
			r.want(34, 36, false, true)
			for _, id := range append(r.q.Bufs(), r.q.Late()...)[:min(many, 17)] {
				others(r.p, id)
			}
			for _, off := range []int{32, 36, 40, 38} {
				id, _ := r.p.Get()
				r.p.Set(id, []byte("ab"))
				r.q.Put(off, id, 0, 2, false)
			}
			r.q.Got()
			r.q.Ended()
			if n := len(r.q.Read(3)) + len(r.q.Read(1024)); n > 42 {
				r.fail("Read: %d bytes", n)
			}
			r.q.Drop()
			if s := r.q.Stat(); s != (api.RecvStat{Nxt: 42, Room: 1024}) {
				r.fail("behind Drop")
			}
		}
	}
}

// R1: buffers that somebody else only holds, too, lose nothing.
func TestHeldToo(t *testing.T) {
	r := newRig(t, 60)
	var text []byte
	for i := range 40 {
		id, _ := r.p.Get()
		b := noise(i, 5)
		r.p.Set(id, b)
		if i%3 == 0 {
			r.p.Hold(id)
		}
		if !r.q.Put(5*i, id, 0, 5, false) {
			r.fail("Put %d", i)
		}
		text = append(text, b...)
	}
	if b := r.q.Read(999); !bytes.Equal(b, text) {
		r.fail("Read: %x, not %x", b, text)
	}
}

// step is any call: most bytes are near Nxt.
func (r *rig) step(d *dice) {
	r.t.Helper()
	switch {
	case d.in(r.slow):
		r.take([]int{0, 1, d.below(20), d.below(300), d.below(1100), 1024, far[d.below(len(far))]}[d.below(7)])
	case d.in(900):
		r.drop()
	default:
		size := []int{d.below(8), d.below(60), d.below(289)}[d.below(3)]
		skip, take := 0, size
		if d.in(2) {
			skip = d.below(size + 1)
			take = d.below(size - skip + 1)
		}
		if d.in(40) {
			take += d.below(3) - 1
		}
		if d.in(8) {
			take = min(take, r.room())
		}
		off := r.nxt
		switch d.below(6) {
		case 0:
			off += d.below(60) - 30
		case 1:
			off += d.below(9)
		case 2:
			off += r.room() - take + d.below(5) - 2
		case 3:
			off = max(off-d.below(take+2), 0)
		case 4:
			if n := len(r.late); n > 0 {
				s := r.late[d.below(n)]
				off = []int{s.from, s.to, s.from - take, s.from - take + d.below(3) - 1}[d.below(4)]
			}
		}
		r.put(off, r.fresh(size), skip, take, d.in(30))
	}
}

// P17.1 to P17.5: long random lives, with lies about where the END is.
func TestWalks(t *testing.T) {
	ended, full, many, empty := 0, 0, 0, 0
	for seed := range 300 {
		d := dice(seed*7919 + 1)
		r := newRig(t, 30)
		r.slow = []int{2, 4, 40}[seed%3]
		for range 30 + d.below(300) {
			r.step(&d)
			if len(r.q.Bufs()) == 16 {
				many++
			}
			if r.room() == 0 {
				full++
			}
			if len(r.q.Got()) < min(len(r.late), 3) {
				empty++
			}
		}
		if r.q.Ended() {
			ended++
		}
	}
	if ended < 50 || full < 20 || empty < 20 {
		t.Errorf("the lives are too much alike: %d ended, %d full, %d with 16 buffers, %d late without bytes", ended, full, many, empty)
	}
}

// P17.6: pieces of a text in any order, doubled, overlapping, lost and sent again: what is read is the text.
func TestText(t *testing.T) {
	for seed := range 300 {
		d := dice(seed*104729 + 3)
		text := noise(seed, d.below(5000))
		r := newRig(t, 24)
		var read []byte
		for i := 0; !r.q.Ended() || len(read) < len(text); i++ {
			if i > 100000 {
				r.fail("%d of %d bytes are read", len(read), len(text))
			}
			if d.in(5) {
				read = append(read, r.take(d.below(1+d.below(1100)))...)
			} else {
				r.piece(&d, text)
			}
			if !bytes.HasPrefix(text, read) {
				r.fail("Read: not the text's %d bytes", len(read))
			}
		}
		if !bytes.Equal(read, text) {
			r.fail("Read: %d bytes of %d", len(read), len(text))
		}
		r.wantHeld(0, 0)
	}
}

// piece puts some bytes of a text, near what has come.
func (r *rig) piece(d *dice, text []byte) {
	r.t.Helper()
	off := max(min(r.nxt+d.below(400)-100, len(text)-d.below(50)), 0)
	if d.in(3) {
		off = min(max(r.nxt-d.below(5), 0), len(text))
	}
	take := min(d.below(1+d.below(280)), len(text)-off)
	skip := d.below(9 - min(take/40, 7))
	data := append(r.fresh(skip), text[off:off+take]...)
	fin := off+take == len(text) && !d.in(4)
	r.put(off, data[:min(len(data), 288)], skip, take, fin)
}
