package sendq

import "packhorse/api"

const (
	tellAnew = 3     // so many Agains in a row say that something is lost
	wideOpen = 65535 // nothing is known yet of how much the net does

	// A mean weighs the last of so many, what they are apart one of so many.
	meanOf  = 8
	apartOf = 4
)

// pace is what was learned of how fast things go, and of how much the net does.
type pace struct {
	isTaught bool
	mean     int // ticks from sending to hearing, times meanOf
	apart    int // by how many they are apart, times apartOf

	row     int  // so many Agains came, one behind the other
	isAnew  bool // they ask for the first thing that is missing, which was not told since
	half    int  // beyond it the net is let do more only little by little
	mending bool // something was lost that they have told of
	until   int  // once all ahead of it is acknowledged, that is over
}

// learn takes how many ticks went by from sending to hearing.
func (p *pace) learn(ticks int) {
	ticks = min(ticks, api.MaxRto)
	if !p.isTaught {
		p.isTaught = true
		p.mean, p.apart = ticks*meanOf, ticks*apartOf/2
		return
	}
	off := ticks - p.mean/meanOf
	p.mean += off
	p.apart += max(off, -off) - p.apart/apartOf
}

// patience is how many ticks are waited for, by what was learned.
func (p *pace) patience() int {
	return min(max(p.mean/meanOf+p.apart, api.RtoMin), api.MaxRto)
}

// arm has the timer come, unless it is to come anyway.
func (q *Queue) arm(now int) {
	if q.stat.Due == 0 && !q.dropped {
		q.stat.Due = now + q.stat.Rto
	}
}

// armAnew is for something new that was heard: whoever answers is waited for no longer than was learned.
func (q *Queue) armAnew(now int) {
	if q.isTaught {
		q.stat.Rto = q.patience()
	}
	q.stat.Due = 0
	if q.flight() > 0 {
		q.arm(now)
	}
}

// weigh takes what was heard as a sign of how much the net does.
func (q *Queue) weigh(isNew, again bool) {
	q.row++
	if isNew || !again {
		q.row = 0
	}
	switch {
	case isNew:
		q.stat.Cwnd += q.more()
	case q.row == tellAnew:
		q.mend()
	case q.row > tellAnew && q.mending:
		q.stat.Cwnd += q.mss // one more has
	}
	if q.mending && q.stat.Una >= q.until {
		q.mending = false
		q.stat.Cwnd = max(min(q.stat.Cwnd, q.half), q.mss)
	}
}

// more is by how much the net is let do more, when something new was heard.
func (q *Queue) more() int {
	switch {
	case q.mending:
		return min(max(q.half-q.stat.Cwnd, 0), q.mss)
	case q.stat.Cwnd < q.half:
		return q.mss
	}
	return max(q.mss*q.mss/q.stat.Cwnd, 1)
}

// mend has the first thing that is missing told anew, and the net do less till all that is on its way now is acknowledged.
func (q *Queue) mend() {
	q.half = q.halved()
	q.stat.Cwnd = q.half + tellAnew*q.mss // each Again says that one thing has left the net
	q.mending, q.until = true, q.stat.Nxt
	q.isAnew = true
	q.let(ifFirst)
}

// slowDown is for a timer that has come: nothing is known of the net any more.
func (q *Queue) slowDown() {
	half := q.halved()
	if q.mending {
		half = min(half, q.half)
	}
	q.half = half
	q.stat.Cwnd = q.mss
}

func (q *Queue) halved() int { return max(q.flight()/2, 2*q.mss) }
