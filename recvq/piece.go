package recvq

import (
	"iter"
	"slices"

	"packhorse/api"
)

// maxBufs is how many buffers are held for bytes that wait: there are so few bytes that two of more stand side by side which fit into one.
const maxBufs = 16

// piece is some bytes of a buffer, and their places; without bytes it has no buffer.
type piece struct {
	id, skip int
	from, to int
	fin      bool // behind them the other side ends
}

func (t piece) size() int { return t.to - t.from }

// buffers are those of some pieces.
func buffers(pieces []piece) []int {
	var out []int
	for _, t := range pieces {
		if t.size() > 0 {
			out = append(out, t.id)
		}
	}
	return out
}

// setAside has a piece wait for what is missing ahead of it.
func (q *Queue) setAside(t piece) bool {
	if len(q.late) == api.MaxOoo || t.size() == 0 && !t.fin || q.isTwice(t) {
		return false
	}
	q.late = append(q.late, t)
	q.hear(t)
	return true
}

// isTwice tells whether some of a piece is late already.
func (q *Queue) isTwice(t piece) bool {
	return slices.ContainsFunc(q.late, func(l piece) bool {
		return t.fin && l.fin || max(t.from, l.from) < min(t.to, l.to)
	})
}

// follow takes a piece that begins where all has come, or ahead of that, and then those that were late only for want of it.
func (q *Queue) follow(t piece) bool {
	if t.to <= q.nxt && !t.fin {
		return false
	}
	q.take(t)
again:
	for {
		for i, l := range q.late {
			if l.from <= q.nxt {
				q.late = slices.Delete(q.late, i, i+1)
				q.take(l)
				continue again // the first one that came may have been waiting for this one
			}
		}
		return true
	}
}

// take has those bytes of a piece wait that didn't come before.
func (q *Queue) take(t piece) {
	q.hear(t)
	if t.to > q.nxt {
		q.waits = append(q.waits, t.behind(q.nxt))
		q.nxt = t.to
		q.join()
	} else if t.size() > 0 {
		q.p.Free(t.id)
	}
}

// hear takes where the other side ends, if a piece tells it.
func (q *Queue) hear(t piece) {
	if t.fin {
		q.end = t.to
	}
}

// behind is what a piece has from a place on.
func (t piece) behind(place int) piece {
	t.skip += place - t.from
	t.from = place
	return t
}

// join lays two pieces that wait into one buffer, if there are too many of them.
func (q *Queue) join() {
	if len(q.waits) <= maxBufs {
		return
	}
	for i, behind := range q.waits[1:] {
		t := q.waits[i]
		if q.p.Set(t.id, append(q.data(t), q.data(behind)...)) != api.OK {
			continue
		}
		q.p.Free(behind.id)
		q.waits[i] = piece{id: t.id, from: t.from, to: behind.to}
		q.waits = slices.Delete(q.waits, i+1, i+2)
		return
	}
}

// data is the bytes of a piece; a buffer that somebody else has let go or written to may have fewer.
func (q *Queue) data(t piece) []byte {
	b, _ := q.p.See(t.id)
	return b.Data[min(t.skip, len(b.Data)):min(t.skip+t.size(), len(b.Data))]
}

// bytes tells the first ones that wait, at most so many, buffer by buffer.
func (q *Queue) bytes(most int) iter.Seq[[]byte] {
	return func(yield func([]byte) bool) {
		left := most
		for _, t := range q.waits {
			t.to = t.from + min(t.size(), left)
			if t.size() < 1 || !yield(q.data(t)) {
				return
			}
			left -= t.size()
		}
	}
}

// forget lets the first bytes that wait go, at most so many.
func (q *Queue) forget(most int) {
	for len(q.waits) > 0 && most > 0 {
		t := q.waits[0]
		if t.size() > most {
			q.waits[0] = t.behind(t.from + most)
			return
		}
		most -= t.size()
		q.p.Free(t.id)
		q.waits = q.waits[1:]
	}
}
