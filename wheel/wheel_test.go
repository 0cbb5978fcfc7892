package wheel_test

import (
	"fmt"
	"math"
	"math/rand"
	"slices"
	"strings"
	"testing"

	"packhorse/api"
	"packhorse/wheel"
)

const (
	lastTick = 1 << 40
	most     = 64
)

// made is a wheel at a tick.
func made(t *testing.T, now int) *wheel.Wheel {
	t.Helper()
	w, err := wheel.New(now)
	if err != api.OK || w == nil {
		t.Fatalf("New(%d): error %d", now, err)
	}
	return w
}

// usedIds are the timers of used, in the order in which they were armed last.
var usedIds = []int{7, 3, 0, math.MaxInt, 5, 4}

// used is a wheel at 100 with timers of one tick, of others, and of ticks far apart; every call makes the same one.
func used(t *testing.T) *wheel.Wheel {
	t.Helper()
	w := made(t, 100)
	for _, x := range []api.Fired{{Id: 4, At: 110}, {Id: 7, At: 110}, {Id: 3, At: 110}, {Id: 0, At: 101}, {Id: math.MaxInt, At: lastTick}, {Id: 5, At: 110 + most}, {Id: 4, At: 110}} {
		wantArm(t, w, x.Id, x.At, api.OK)
	}
	return w
}

// full is a wheel at 0 with timers 0 to 63; of each tick from 1 to 16 there are four.
func full(t *testing.T) *wheel.Wheel {
	t.Helper()
	w := made(t, 0)
	for id := range most {
		wantArm(t, w, id, 1+id%16, api.OK)
	}
	return w
}

// told is all that calls can tell of a wheel, up to which timers come. It uses the wheel up.
func told(w *wheel.Wheel) string {
	var s strings.Builder
	next, is := w.Next()
	fmt.Fprintln(&s, "now", w.Now(), "len", w.Len(), "next", next, is)
	for _, id := range slices.Concat(usedIds, []int{-1, 1, 2, 6, 8, 63, 64, 65}) {
		at, is := w.Due(id)
		fmt.Fprintln(&s, id, "due", at, is)
	}
	come, err := w.Advance(lastTick)
	fmt.Fprintln(&s, "come", come, err)
	return s.String()
}

func want(t *testing.T, what string, got, due api.Errno) {
	t.Helper()
	if got != due {
		t.Errorf("%s: error %d, not %d", what, got, due)
	}
}

func wantArm(t *testing.T, w *wheel.Wheel, id, at int, due api.Errno) {
	t.Helper()
	want(t, fmt.Sprintf("Arm(%d, %d)", id, at), w.Arm(id, at), due)
}

func wantCancel(t *testing.T, w *wheel.Wheel, id int, due api.Errno) {
	t.Helper()
	want(t, fmt.Sprintf("Cancel(%d)", id), w.Cancel(id), due)
}

func wantDue(t *testing.T, w *wheel.Wheel, id, due int) {
	t.Helper()
	if at, is := w.Due(id); at != due || !is {
		t.Errorf("Due(%d): %d, %v, not %d", id, at, is, due)
	}
}

func wantNotDue(t *testing.T, w *wheel.Wheel, id int) {
	t.Helper()
	if at, is := w.Due(id); at != 0 || is {
		t.Errorf("Due(%d): %d, %v, though it is not armed", id, at, is)
	}
}

func wantNext(t *testing.T, w *wheel.Wheel, due int) {
	t.Helper()
	if at, is := w.Next(); at != due || !is {
		t.Errorf("Next: %d, %v, not %d", at, is, due)
	}
}

func wantNoNext(t *testing.T, w *wheel.Wheel) {
	t.Helper()
	if at, is := w.Next(); at != 0 || is {
		t.Errorf("Next: %d, %v, though none is armed", at, is)
	}
}

func wantNowAndLen(t *testing.T, w *wheel.Wheel, now, armed int) {
	t.Helper()
	if w.Now() != now || w.Len() != armed {
		t.Errorf("at %d with %d timers, not at %d with %d", w.Now(), w.Len(), now, armed)
	}
}

func wantAdvance(t *testing.T, w *wheel.Wheel, to int, due ...api.Fired) {
	t.Helper()
	come, err := w.Advance(to)
	if err != api.OK || !slices.Equal(come, due) {
		t.Errorf("Advance(%d): %v, error %d, not %v", to, come, err, due)
	}
	if w.Now() != to {
		t.Errorf("Advance(%d) leaves it at %d", to, w.Now())
	}
}

// refused holds a call with an error against none at all: a later call can't tell them apart.
func refused(t *testing.T, from func(t *testing.T) *wheel.Wheel, what string, call func(w *wheel.Wheel) api.Errno, due api.Errno) {
	t.Helper()
	w := from(t)
	want(t, what, call(w), due)
	if got, as := told(w), told(from(t)); got != as {
		t.Errorf("%s has changed something:\n%s\nnot\n%s", what, got, as)
	}
}

func TestExamples(t *testing.T) {
	w := made(t, 10)
	wantArm(t, w, 1, 12, api.OK)
	wantArm(t, w, 2, 11, api.OK)
	wantArm(t, w, 3, 12, api.OK)
	wantArm(t, w, 1, 12, api.OK)
	wantNext(t, w, 11)
	wantAdvance(t, w, 12, api.Fired{Id: 2, At: 11}, api.Fired{Id: 3, At: 12}, api.Fired{Id: 1, At: 12})
	wantNowAndLen(t, w, 12, 0)
	wantArm(t, w, 1, 12, api.ErrArg)
	wantCancel(t, w, 1, api.ErrNone)
	come, err := w.Advance(11)
	want(t, "Advance(11)", err, api.ErrArg)
	if len(come) != 0 {
		t.Errorf("Advance beside an error: %v", come)
	}
}

func TestNew(t *testing.T) { // P5.1
	for _, now := range []int{0, 1, 63, 64, 65, lastTick - 1, lastTick} {
		w := made(t, now)
		wantNowAndLen(t, w, now, 0)
		wantNoNext(t, w)
		for _, id := range []int{-1, 0, 1, now} {
			wantNotDue(t, w, id)
			wantCancel(t, w, id, api.ErrNone)
		}
		wantAdvance(t, w, now)
		wantAdvance(t, w, lastTick)
	}
	for _, now := range []int{-1, -2, -64, lastTick + 1, 2 * lastTick, -lastTick, math.MaxInt, math.MinInt} {
		w, err := wheel.New(now)
		want(t, fmt.Sprint("New of ", now), err, api.ErrArg)
		if w != nil {
			t.Errorf("New(%d) answers a wheel beside an error", now)
		}
	}
}

func TestWheelsAreApart(t *testing.T) { // P5.1
	w, other := made(t, 5), made(t, 5)
	wantArm(t, w, 1, 6, api.OK)
	wantNotDue(t, other, 1)
	wantAdvance(t, other, 9)
	wantNowAndLen(t, w, 5, 1)
	wantAdvance(t, w, 9, api.Fired{Id: 1, At: 6})
}

func TestLenAndNow(t *testing.T) { // P5.1
	w := made(t, 0)
	for id := range most {
		wantArm(t, w, id, 1+id*37, api.OK)
		wantNowAndLen(t, w, 0, id+1)
	}
	wantArm(t, w, 0, 1, api.OK)
	wantArm(t, w, 1, 3000, api.OK)
	wantNowAndLen(t, w, 0, most)
	wantCancel(t, w, 1, api.OK)
	wantNowAndLen(t, w, 0, most-1)
	wantAdvance(t, w, 1, api.Fired{Id: 0, At: 1})
	wantNowAndLen(t, w, 1, most-2)
	w.Advance(lastTick)
	wantNowAndLen(t, w, lastTick, 0)
}

func TestArmEdges(t *testing.T) { // P5.2
	for _, now := range []int{0, 1, 62, 63, 64, 1000, lastTick - 2, lastTick - 1} {
		for _, id := range []int{0, 1, 63, 64, 65, math.MaxInt - 1, math.MaxInt} {
			for _, at := range []int{now + 1, lastTick - 1, lastTick} {
				if at <= now {
					continue
				}
				w := made(t, now)
				wantArm(t, w, id, at, api.OK)
				wantDue(t, w, id, at)
				wantNext(t, w, at)
				wantNowAndLen(t, w, now, 1)
				wantAdvance(t, w, at-1)
				wantAdvance(t, w, at, api.Fired{Id: id, At: at})
				wantNotDue(t, w, id)
			}
		}
	}
}

func TestArmErrors(t *testing.T) { // P5.2
	for _, x := range []api.Fired{
		{Id: -1, At: 101}, {Id: -1, At: lastTick}, {Id: -1, At: 100}, {Id: -4, At: 110}, {Id: math.MinInt, At: 110},
		{Id: 1, At: 100}, {Id: 1, At: 99}, {Id: 1, At: 0}, {Id: 1, At: -1}, {Id: 1, At: math.MinInt},
		{Id: 1, At: lastTick + 1}, {Id: 1, At: 2 * lastTick}, {Id: 1, At: math.MaxInt},
		{Id: 0, At: 100}, {Id: 4, At: 100}, {Id: 7, At: 100}, {Id: 7, At: 46}, {Id: 7, At: lastTick + 1}, {Id: 5, At: -1}, {Id: math.MaxInt, At: lastTick + 1},
	} {
		refused(t, used, fmt.Sprintf("Arm(%d, %d)", x.Id, x.At), func(w *wheel.Wheel) api.Errno { return w.Arm(x.Id, x.At) }, api.ErrArg)
	}
	end := made(t, lastTick)
	for _, at := range []int{0, lastTick - 1, lastTick, lastTick + 1} {
		wantArm(t, end, 1, at, api.ErrArg)
	}
}

func TestArmMany(t *testing.T) { // P5.2: 64 timers, and one more
	for _, id := range []int{64, 65, 1000, math.MaxInt} {
		for _, at := range []int{1, 2, 16, 17, lastTick} {
			refused(t, full, fmt.Sprintf("Arm(%d, %d) of a full wheel", id, at), func(w *wheel.Wheel) api.Errno { return w.Arm(id, at) }, api.ErrMany)
		}
	}
	for _, x := range []api.Fired{{Id: -1, At: 5}, {Id: 64, At: 0}, {Id: 64, At: -1}, {Id: 64, At: lastTick + 1}, {Id: 3, At: 0}} {
		refused(t, full, fmt.Sprintf("Arm(%d, %d) of a full wheel", x.Id, x.At), func(w *wheel.Wheel) api.Errno { return w.Arm(x.Id, x.At) }, api.ErrArg)
	}
	w := full(t)
	for id := range most { // one that is armed takes no more place
		wantArm(t, w, id, 20+id, api.OK)
		wantDue(t, w, id, 20+id)
	}
	wantNowAndLen(t, w, 0, most)
	wantArm(t, w, 64, 5, api.ErrMany)
	wantCancel(t, w, 9, api.OK)
	wantArm(t, w, 64, 5, api.OK)
	wantArm(t, w, 9, 5, api.ErrMany)
	wantAdvance(t, w, 5, api.Fired{Id: 64, At: 5})
	wantArm(t, w, 9, 6, api.OK)
	wantArm(t, w, 64, 6, api.ErrMany)
}

func TestFullOfOneTick(t *testing.T) { // P5.2, P5.3: all 64 come at once, and may be armed again
	w := made(t, 0)
	for _, at := range []int{64, 65, 128, lastTick} {
		var due []api.Fired
		for id := range most {
			wantArm(t, w, most-id, at, api.OK)
			due = append(due, api.Fired{Id: most - id, At: at})
		}
		wantArm(t, w, 0, at, api.ErrMany)
		wantAdvance(t, w, at-1)
		wantAdvance(t, w, at, due...)
		wantNoNext(t, w)
	}
}

func TestArmAnew(t *testing.T) { // P5.2: it comes at the new tick alone
	for _, at := range []int{101, 105, 109, 111, 110 + most, 110 + 2*most, 110 - most + 100*most, lastTick} {
		w := made(t, 100)
		wantArm(t, w, 1, 110, api.OK)
		wantArm(t, w, 1, at, api.OK)
		wantDue(t, w, 1, at)
		wantNext(t, w, at)
		wantNowAndLen(t, w, 100, 1)
		wantAdvance(t, w, lastTick, api.Fired{Id: 1, At: at})
		wantNotDue(t, w, 1)
	}
}

func TestArmAnewStandsBehind(t *testing.T) { // P5.2, P5.3: behind all that were armed for that tick ahead of it
	arm := func(list ...api.Fired) *wheel.Wheel {
		w := made(t, 0)
		for _, x := range list {
			wantArm(t, w, x.Id, x.At, api.OK)
		}
		return w
	}
	w := arm(api.Fired{Id: 1, At: 9}, api.Fired{Id: 2, At: 9}, api.Fired{Id: 3, At: 9}, api.Fired{Id: 2, At: 9})
	wantAdvance(t, w, 9, api.Fired{Id: 1, At: 9}, api.Fired{Id: 3, At: 9}, api.Fired{Id: 2, At: 9})
	w = arm(api.Fired{Id: 1, At: 9}, api.Fired{Id: 2, At: 9}, api.Fired{Id: 2, At: 9}) // the last one stays the last
	wantAdvance(t, w, 9, api.Fired{Id: 1, At: 9}, api.Fired{Id: 2, At: 9})
	w = arm(api.Fired{Id: 1, At: 8}, api.Fired{Id: 2, At: 9}, api.Fired{Id: 1, At: 9}) // from an earlier tick
	wantAdvance(t, w, 9, api.Fired{Id: 2, At: 9}, api.Fired{Id: 1, At: 9})
	w = arm(api.Fired{Id: 1, At: 10}, api.Fired{Id: 2, At: 9}, api.Fired{Id: 1, At: 9}) // from a later one
	wantAdvance(t, w, 9, api.Fired{Id: 2, At: 9}, api.Fired{Id: 1, At: 9})
	w = arm(api.Fired{Id: 1, At: 9}, api.Fired{Id: 2, At: 9}, api.Fired{Id: 1, At: 10}, api.Fired{Id: 1, At: 9}) // away, and back
	wantAdvance(t, w, 9, api.Fired{Id: 2, At: 9}, api.Fired{Id: 1, At: 9})
	w = arm(api.Fired{Id: 1, At: 9}, api.Fired{Id: 2, At: 9 + most}, api.Fired{Id: 3, At: 9}, api.Fired{Id: 1, At: 9 + most}, api.Fired{Id: 2, At: 9})
	wantAdvance(t, w, lastTick, api.Fired{Id: 3, At: 9}, api.Fired{Id: 2, At: 9}, api.Fired{Id: 1, At: 9 + most})
	w = arm(api.Fired{Id: 1, At: 9}, api.Fired{Id: 2, At: 9})
	wantCancel(t, w, 1, api.OK) // cancelled, its place is lost too
	wantArm(t, w, 1, 9, api.OK)
	wantAdvance(t, w, 9, api.Fired{Id: 2, At: 9}, api.Fired{Id: 1, At: 9})
}

func TestCancel(t *testing.T) { // P5.2
	for _, id := range usedIds {
		w := used(t)
		come, _ := w.Advance(lastTick)
		w = used(t)
		wantCancel(t, w, id, api.OK)
		wantNotDue(t, w, id)
		wantNowAndLen(t, w, 100, len(usedIds)-1)
		for _, other := range come {
			if other.Id != id {
				wantDue(t, w, other.Id, other.At)
			}
		}
		wantCancel(t, w, id, api.ErrNone)
		wantAdvance(t, w, lastTick, slices.DeleteFunc(come, func(x api.Fired) bool { return x.Id == id })...)
		wantCancel(t, w, id, api.ErrNone)
	}
	for _, id := range []int{-1, 1, 2, 6, 8, 64, 100, 110, math.MaxInt - 1, math.MinInt} {
		refused(t, used, fmt.Sprint("Cancel of ", id), func(w *wheel.Wheel) api.Errno { return w.Cancel(id) }, api.ErrNone)
	}
}

func TestDue(t *testing.T) { // P5.2
	w := used(t)
	for id, at := range map[int]int{7: 110, 3: 110, 0: 101, math.MaxInt: lastTick, 5: 174, 4: 110} {
		wantDue(t, w, id, at)
	}
	for _, id := range []int{-1, 1, 2, 6, 8, 64, 100, 110, math.MaxInt - 1, math.MinInt} {
		wantNotDue(t, w, id)
	}
	wantAdvance(t, w, 101, api.Fired{Id: 0, At: 101})
	wantNotDue(t, w, 0)
	wantDue(t, w, 7, 110)
}

func TestAdvance(t *testing.T) { // P5.3
	w := used(t)
	wantAdvance(t, w, 100) // to Now itself
	wantNowAndLen(t, w, 100, 6)
	wantAdvance(t, w, 109, api.Fired{Id: 0, At: 101})
	wantAdvance(t, w, 109)
	wantAdvance(t, w, 110, api.Fired{Id: 7, At: 110}, api.Fired{Id: 3, At: 110}, api.Fired{Id: 4, At: 110})
	wantAdvance(t, w, 110)
	wantNowAndLen(t, w, 110, 2)
	for _, id := range []int{0, 7, 3, 4} {
		wantNotDue(t, w, id)
	}
	wantAdvance(t, w, 173)
	wantAdvance(t, w, 174, api.Fired{Id: 5, At: 174})
	wantAdvance(t, w, lastTick-1)
	wantAdvance(t, w, lastTick, api.Fired{Id: math.MaxInt, At: lastTick})
	wantAdvance(t, w, lastTick)
	wantNowAndLen(t, w, lastTick, 0)
}

func TestAdvanceByRisingTicks(t *testing.T) { // P5.3: whatever the order in which they were armed
	ticks := []int{300, 2, 65, 1, 64, 66, 129, 128, 63, 127, 3, lastTick, 192, 5000, lastTick - 64, 193}
	rising := slices.Sorted(slices.Values(ticks))
	for _, to := range rising {
		w := made(t, 0)
		for id, at := range ticks {
			wantArm(t, w, id, at, api.OK)
		}
		var due, rest []api.Fired
		for _, at := range rising {
			x := api.Fired{Id: slices.Index(ticks, at), At: at}
			if at <= to {
				due = append(due, x)
			} else {
				rest = append(rest, x)
			}
		}
		wantAdvance(t, w, to, due...)
		wantAdvance(t, w, lastTick, rest...)
	}
}

func TestAdvanceErrors(t *testing.T) { // P5.3
	for _, to := range []int{99, 98, 36, 0, -1, math.MinInt, lastTick + 1, lastTick + 110, math.MaxInt} {
		refused(t, used, fmt.Sprint("Advance to ", to), func(w *wheel.Wheel) api.Errno {
			come, err := w.Advance(to)
			if len(come) != 0 {
				t.Errorf("Advance(%d) beside an error: %v", to, come)
			}
			return err
		}, api.ErrArg)
	}
	w := made(t, 0)
	_, err := w.Advance(-1)
	want(t, "Advance(-1) from 0", err, api.ErrArg)
	w = made(t, lastTick)
	_, err = w.Advance(lastTick - 1)
	want(t, "Advance back from the last tick", err, api.ErrArg)
	_, err = w.Advance(lastTick + 1)
	want(t, "Advance beyond the last tick", err, api.ErrArg)
	wantAdvance(t, w, lastTick)
}

func TestNext(t *testing.T) { // P5.3
	w := made(t, 0)
	wantNoNext(t, w)
	for _, x := range []struct{ id, at, next int }{
		{1, lastTick, lastTick}, {2, 500, 500}, {3, 564, 500}, {4, 436, 436}, {5, 437, 436}, {6, 1, 1}, {6, 600, 436}, {4, 1000, 437},
	} {
		wantArm(t, w, x.id, x.at, api.OK)
		wantNext(t, w, x.next)
	}
	wantCancel(t, w, 5, api.OK)
	wantNext(t, w, 500)
	wantAdvance(t, w, 499)
	wantNext(t, w, 500)
	for _, due := range []api.Fired{{Id: 2, At: 500}, {Id: 3, At: 564}, {Id: 6, At: 600}, {Id: 4, At: 1000}, {Id: 1, At: lastTick}} {
		wantNext(t, w, due.At)
		wantAdvance(t, w, due.At, due)
	}
	wantNoNext(t, w)
}

func TestLookingChangesNothing(t *testing.T) { // R5
	w := used(t)
	for range 3 {
		w.Now()
		w.Len()
		w.Next()
		for _, id := range usedIds {
			w.Due(id)
		}
	}
	if got, as := told(w), told(used(t)); got != as {
		t.Errorf("to look has changed something:\n%s\nnot\n%s", got, as)
	}
}

func TestComesOnce(t *testing.T) { // P5.4: for each time that it was armed
	w := made(t, 0)
	for at := 1; at < 300; at += 3 {
		wantArm(t, w, 1, at+1, api.OK)
		wantAdvance(t, w, at)
		wantAdvance(t, w, at+2, api.Fired{Id: 1, At: at + 1})
		wantAdvance(t, w, at+2)
	}
	wantArm(t, w, 1, 400, api.OK) // armed anew ahead of its tick: once, not twice
	wantAdvance(t, w, 399)
	wantArm(t, w, 1, 401, api.OK)
	wantAdvance(t, w, 400)
	wantAdvance(t, w, 402, api.Fired{Id: 1, At: 401})
	wantArm(t, w, 1, 403, api.OK) // cancelled ahead of its tick: never
	wantCancel(t, w, 1, api.OK)
	wantAdvance(t, w, lastTick)
}

func TestStepsDoNotMatter(t *testing.T) { // P5.4
	for _, step := range []int{1, 2, 3, 7, 63, 64, 65, 100, 128, 1000} {
		leap, steps := made(t, 50), made(t, 50)
		r := rand.New(rand.NewSource(int64(step)))
		for range 150 {
			id, at := r.Intn(most), 51+r.Intn(400)
			want(t, "Arm", leap.Arm(id, at), steps.Arm(id, at))
		}
		want(t, "Cancel", leap.Cancel(9), steps.Cancel(9))
		var bySteps []api.Fired
		for to := 50; to <= 500; to += step {
			come, _ := steps.Advance(to)
			bySteps = append(bySteps, come...)
		}
		come, _ := steps.Advance(500)
		bySteps = append(bySteps, come...)
		wantAdvance(t, leap, 500, bySteps...)
		wantNowAndLen(t, steps, 500, 0)
	}
}

func TestAnswersAreNewMemory(t *testing.T) { // R4: spare room too
	overwrite := func(list []api.Fired) {
		for i := range list[:cap(list)] {
			list[:cap(list)][i] = api.Fired{Id: -9, At: -9}
		}
	}
	for _, to := range []int{100, 101, 110, 200, lastTick} {
		w, same := used(t), used(t)
		come, _ := w.Advance(to)
		overwrite(come)
		same.Advance(to)
		if got, as := told(w), told(same); got != as {
			t.Errorf("Advance(%d) shares memory with the wheel:\n%s\nnot\n%s", to, got, as)
		}
	}
	w := made(t, 0)
	for id := range 40 { // some of one slot stay behind those that come
		wantArm(t, w, id, 5+most*(id/20), api.OK)
	}
	first, _ := w.Advance(5)
	kept := slices.Clone(first)
	for id := range 20 {
		wantArm(t, w, 100+id, 5+2*most, api.OK)
	}
	second, _ := w.Advance(lastTick)
	if !slices.Equal(first, kept) {
		t.Errorf("an answer changes with the wheel: %v", first)
	}
	overwrite(first)
	if second[0] != (api.Fired{Id: 20, At: 5 + most}) || second[39] != (api.Fired{Id: 119, At: 5 + 2*most}) {
		t.Errorf("two answers share memory: %v", second)
	}
}

// model says by the promises alone what a wheel has to answer: its timers stand in the order in which they were armed last.
type model struct {
	now    int
	timers []api.Fired
}

func (m *model) place(id int) int {
	return slices.IndexFunc(m.timers, func(x api.Fired) bool { return x.Id == id })
}

func (m *model) arm(id, at int) api.Errno {
	i := m.place(id)
	switch {
	case id < 0 || at <= m.now || at > lastTick:
		return api.ErrArg
	case i >= 0:
		m.timers = slices.Delete(m.timers, i, i+1)
	case len(m.timers) == most:
		return api.ErrMany
	}
	m.timers = append(m.timers, api.Fired{Id: id, At: at})
	return api.OK
}

func (m *model) cancel(id int) api.Errno {
	i := m.place(id)
	if i < 0 {
		return api.ErrNone
	}
	m.timers = slices.Delete(m.timers, i, i+1)
	return api.OK
}

func (m *model) due(id int) (int, bool) {
	i := m.place(id)
	if i < 0 {
		return 0, false
	}
	return m.timers[i].At, true
}

func (m *model) advance(to int) ([]api.Fired, api.Errno) {
	if to < m.now || to > lastTick {
		return nil, api.ErrArg
	}
	var come []api.Fired
	for is := true; is; {
		var next int
		next, is = m.next()
		is = is && next <= to
		for i := 0; is && i < len(m.timers); {
			if m.timers[i].At != next {
				i++
				continue
			}
			come = append(come, m.timers[i])
			m.timers = slices.Delete(m.timers, i, i+1)
		}
	}
	m.now = to
	return come, api.OK
}

func (m *model) next() (int, bool) {
	if len(m.timers) == 0 {
		return 0, false
	}
	next := m.timers[0].At
	for _, x := range m.timers {
		next = min(next, x.At)
	}
	return next, true
}

// step does the same with a wheel and with its model; ticks lie close together, or a round of the slots apart.
func step(t *testing.T, r *rand.Rand, w *wheel.Wheel, m *model) {
	t.Helper()
	ids := 20 + 60*r.Intn(2)
	id, on := r.Intn(ids)-1, r.Intn(12)-1
	if r.Intn(3) == 0 {
		on = most*r.Intn(4) + r.Intn(3) - 1
	}
	switch r.Intn(10) {
	case 0:
		if got, due := w.Cancel(id), m.cancel(id); got != due {
			t.Fatalf("Cancel(%d): error %d, not %d", id, got, due)
		}
	case 1:
		to := m.now + on/2
		got, err := w.Advance(to)
		due, dueErr := m.advance(to)
		if err != dueErr || !slices.Equal(got, due) {
			t.Fatalf("Advance(%d): %v, error %d, not %v, error %d", to, got, err, due, dueErr)
		}
	default:
		if got, due := w.Arm(id, m.now+on), m.arm(id, m.now+on); got != due {
			t.Fatalf("Arm(%d, %d) at %d: error %d, not %d", id, m.now+on, m.now, got, due)
		}
	}
}

func TestAgainstAModel(t *testing.T) { // P5.1 to P5.4
	for seed := range 60 {
		r := rand.New(rand.NewSource(int64(seed)))
		now := []int{0, 1, 63, 1000, lastTick - 2000, lastTick - 300}[seed%6]
		w, m := made(t, now), &model{now: now}
		for range 2000 {
			step(t, r, w, m)
			wantNowAndLen(t, w, m.now, len(m.timers))
			next, is := m.next()
			if got, gotIs := w.Next(); got != next || gotIs != is {
				t.Fatalf("Next: %d, %v, not %d, %v", got, gotIs, next, is)
			}
			id := r.Intn(80) - 1
			at, is := m.due(id)
			if got, gotIs := w.Due(id); got != at || gotIs != is {
				t.Fatalf("Due(%d): %d, %v, not %d, %v", id, got, gotIs, at, is)
			}
		}
	}
}
