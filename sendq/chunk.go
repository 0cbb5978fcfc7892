package sendq

import (
	"slices"

	"packhorse/api"
)

// chunk is a buffer, and the places of its bytes.
type chunk struct {
	id       int
	from, to int
}

// put lays bytes behind those that were accepted, as far as there are buffers: how many.
func (q *Queue) put(b []byte) int {
	n := 0
	for n < len(b) && q.hasPlace() {
		c := &q.bufs[len(q.bufs)-1]
		more := b[n:min(len(b), n+q.mss-(c.to-c.from))]
		if q.p.Append(c.id, more) != api.OK {
			break
		}
		c.to += len(more)
		q.stat.End = c.to
		n += len(more)
	}
	return n
}

// hasPlace tells whether the last buffer may take a byte more; another one is taken, if it may not.
func (q *Queue) hasPlace() bool {
	if len(q.bufs) > 0 {
		c := q.bufs[len(q.bufs)-1]
		if c.to-c.from < q.mss && !q.isBusy(c) {
			return true
		}
	}
	id, err := q.p.Get()
	if err != api.OK {
		return false
	}
	q.bufs = append(q.bufs, chunk{id: id, from: q.stat.End, to: q.stat.End})
	return true
}

// free lets the buffers go whose bytes are all ahead of a place.
func (q *Queue) free(place int) {
	for len(q.bufs) > 0 && q.bufs[0].to <= place {
		q.p.Free(q.bufs[0].id)
		q.bufs = q.bufs[1:]
	}
}

// chunkOf is the buffer in which the byte of a place lies, if there is one.
func (q *Queue) chunkOf(place int) (chunk, bool) {
	i := slices.IndexFunc(q.bufs, func(c chunk) bool { return place < c.to })
	if i < 0 {
		return chunk{}, false
	}
	return q.bufs[i], true
}

// isBusy tells whether somebody else holds a buffer, too.
func (q *Queue) isBusy(c chunk) bool {
	b, _ := q.p.See(c.id)
	return b.Refs > 1
}
