package sendq

import (
	"iter"
	"slices"

	"packhorse/api"
)

// Whether something that was sent may be told anew; what may for one reason may for those ahead of it, too.
const (
	onWay   = iota // nobody says that it is lost
	ifFirst        // three Agains came: it may, if it is the first that is missing
	asLet          // a timer came, or the window was opened: it may, as far as net and other side let it
	unsent         // it did not go out: it may with the next tick
)

// item is what was told at once: some bytes of one buffer, or the Finish.
type item struct {
	from, to int
	at       int  // the tick when it was told last
	often    bool // it was told more than once: nobody knows which time is heard of
	came     bool // the other side has it, but misses something ahead of it
	again    int
}

// items tells what is on its way, with its index, in order.
func (q *Queue) items() iter.Seq2[int, *item] {
	return func(yield func(int, *item) bool) {
		for i := range q.sent {
			if !yield(i, &q.sent[i]) {
				return
			}
		}
	}
}

func (q *Queue) flight() int { return q.stat.Nxt - q.stat.Una }

// waits tells whether something was never sent.
func (q *Queue) waits() bool {
	return q.stat.Nxt < q.stat.End || q.finished && q.stat.Nxt == q.stat.End
}

// reach is up to where net and other side let be sent.
func (q *Queue) reach() int { return q.stat.Una + min(q.stat.Wnd, q.stat.Cwnd) }

// room is how many places may be sent that never were.
func (q *Queue) room() int {
	if q.stat.Wnd == 0 && q.mayProbe {
		return 1
	}
	return q.reach() - q.stat.Nxt
}

// tellers are those who tell what is to be sent, the most urgent first.
func (q *Queue) tellers() []func(now int) (api.Out, bool) {
	if q.silent || q.dropped {
		return nil
	}
	return []func(now int) (api.Out, bool){q.old, q.fresh, q.ending}
}

// old is the first thing that may be told anew.
func (q *Queue) old(now int) (api.Out, bool) {
	isFirst := true
	for i, t := range q.items() {
		if t.came {
			continue
		}
		if q.mayAgain(t, isFirst, now) && !q.isBeingSent(t) {
			q.isAnew = q.isAnew && !isFirst
			return q.anew(i, now), true
		}
		isFirst = false
	}
	return api.Out{}, false
}

func (q *Queue) mayAgain(t *item, isFirst bool, now int) bool {
	switch {
	case t.again == onWay:
		return false
	case t.again == asLet && t.from < max(q.reach(), q.stat.Una+1): // the first place asks whether a window is shut yet
		return true
	case t.again == unsent && now > t.at:
		return true
	}
	return isFirst && q.isAnew
}

func (q *Queue) isBeingSent(t *item) bool {
	c, is := q.chunkOf(t.from)
	return is && q.isBusy(c)
}

func (q *Queue) anew(i, now int) api.Out {
	q.cut(min(q.sent[i].from+q.mss, q.sent[i].to))
	t := &q.sent[i] // cutting may have moved it
	t.at, t.often, t.again = now, true, onWay
	return q.out(*t)
}

// fresh is bytes that were never sent.
func (q *Queue) fresh(now int) (api.Out, bool) {
	n := min(q.stat.End-q.stat.Nxt, q.mss, q.room())
	if n < 1 || q.isLittle() {
		return api.Out{}, false
	}
	c, _ := q.chunkOf(q.stat.Nxt)
	return q.send(min(n, c.to-q.stat.Nxt), now), true
}

// isLittle tells whether what waits is so little that it may become more, while something else is on its way.
func (q *Queue) isLittle() bool {
	return q.stat.End-q.stat.Nxt < q.mss && q.flight() > 0 && !q.nodelay && !q.finished
}

// ending is the Finish, for the first time; it takes a place like a byte.
func (q *Queue) ending(now int) (api.Out, bool) {
	if !q.finished || q.stat.Nxt != q.stat.End || q.room() < 1 {
		return api.Out{}, false
	}
	return q.send(1, now), true
}

func (q *Queue) send(places, now int) api.Out {
	t := item{from: q.stat.Nxt, to: q.stat.Nxt + places, at: now}
	q.sent = append(q.sent, t)
	q.stat.Nxt = t.to
	return q.out(t)
}

func (q *Queue) out(t item) api.Out {
	o := api.Out{Off: t.from, Old: t.often}
	c, is := q.chunkOf(t.from)
	if !is {
		o.Fin = true
		return o
	}
	o.Buf, o.Skip, o.Len = c.id, t.from-c.from, t.to-t.from
	return o
}

// sizeOf is how many places are told.
func sizeOf(o api.Out) int {
	if o.Fin {
		return 1
	}
	return o.Len
}

// acknowledge lets go what is ahead of a place, and learns from how long that took.
func (q *Queue) acknowledge(una, now int) {
	q.cut(una)
	gone := 0
	for i, t := range q.items() {
		if t.to > una {
			break
		}
		if !t.often && !t.came {
			q.learn(since(now, t.at))
		}
		gone = i + 1
	}
	q.sent = slices.Delete(q.sent, 0, gone)
	q.stat.Una = una
}

// mark takes which places have come though something ahead of them is missing.
func (q *Queue) mark(got [][2]int) {
	for _, span := range got {
		if span[0] < span[1] {
			q.cut(span[0])
			q.cut(span[1])
		}
	}
items:
	for _, t := range q.items() {
		for _, span := range got {
			if span[0] <= t.from && t.to <= span[1] {
				t.came = true
				continue items
			}
		}
	}
}

// cut makes two of the item that goes over a place.
func (q *Queue) cut(place int) {
	for i, t := range q.items() {
		if t.from < place && place < t.to {
			behind := *t
			behind.from = place
			t.to = place
			q.sent = slices.Insert(q.sent, i+1, behind)
			return
		}
	}
}

// let says of all that is on its way why it may be told anew.
func (q *Queue) let(why int) {
	for _, t := range q.items() {
		t.again = max(t.again, why)
	}
}

// doubt is about all that is on its way, also what is said to have come: whoever said so may have let it go again.
func (q *Queue) doubt() {
	for _, t := range q.items() {
		t.came = false
	}
	q.let(asLet)
}
