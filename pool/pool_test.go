package pool_test

import (
	"bytes"
	"fmt"
	"math"
	"math/rand"
	"strings"
	"testing"

	"packhorse/api"
	"packhorse/pool"
)

// made is a pool of so many buffers.
func made(t *testing.T, many int) *pool.Pool {
	t.Helper()
	p, err := pool.New(many)
	if err != api.OK || p == nil {
		t.Fatalf("New(%d): error %d", many, err)
	}
	return p
}

// taken is a pool of so many buffers, all in use.
func taken(t *testing.T, many int) *pool.Pool {
	t.Helper()
	p := made(t, many)
	for range many {
		p.Get()
	}
	return p
}

// used is a pool with a buffer of each kind; every call makes the same one.
func used(t *testing.T) *pool.Pool {
	t.Helper()
	p := taken(t, 6)
	for id := range 6 {
		p.Set(id, fmt.Appendf(nil, "data of %d", id))
		p.Front(id, fmt.Appendf(nil, "head of %d", id))
	}
	p.Hold(shared)
	p.Hold(last)
	p.Hold(last)
	p.Free(freed)
	p.Free(between)
	return p
}

// The buffers of used: held by one, by two, free, free, by one, by three.
const (
	alone   = 0
	shared  = 1
	freed   = 2
	between = 3
	last    = 5
)

// none are numbers of which used has no buffer in use.
var none = []int{-1, 6, 7, freed, between, math.MaxInt, math.MinInt}

// told is all that calls can tell of a pool, up to what its buffers say when they are taken anew. It uses the pool up.
func told(p *pool.Pool) string {
	var s strings.Builder
	fmt.Fprintln(&s, p.Left(), "of", p.Size())
	for id := -1; id <= p.Size(); id++ {
		x, err := p.See(id)
		fmt.Fprintf(&s, "%d: %d %q %q, error %d\n", id, x.Refs, x.Head, x.Data, err)
	}
	for range p.Left() + 1 {
		id, err := p.Get()
		x, _ := p.See(id)
		fmt.Fprintf(&s, "taken %d: %d %q %q, error %d\n", id, x.Refs, x.Head, x.Data, err)
	}
	return s.String()
}

func want(t *testing.T, what string, got, due api.Errno) {
	t.Helper()
	if got != due {
		t.Errorf("%s: error %d, not %d", what, got, due)
	}
}

func wantBuffer(t *testing.T, p *pool.Pool, what string, id, refs int, head, data string) {
	t.Helper()
	x, err := p.See(id)
	if err != api.OK || x.Refs != refs || string(x.Head) != head || string(x.Data) != data {
		t.Errorf("%s: %d %q %q, error %d, not %d %q %q", what, x.Refs, x.Head, x.Data, err, refs, head, data)
	}
}

func wantGet(t *testing.T, p *pool.Pool, due int) {
	t.Helper()
	if id, err := p.Get(); id != due || err != api.OK {
		t.Errorf("Get: %d, error %d, not %d", id, err, due)
	}
}

func wantNoBufs(t *testing.T, p *pool.Pool) {
	t.Helper()
	if id, err := p.Get(); id != 0 || err != api.ErrNoBufs {
		t.Errorf("Get of none: %d, error %d", id, err)
	}
}

func wantLeft(t *testing.T, p *pool.Pool, due int) {
	t.Helper()
	if n := p.Left(); n != due {
		t.Errorf("Left: %d, not %d", n, due)
	}
}

// refused holds a call with an error against none at all: a later call can't tell them apart.
func refused(t *testing.T, what string, call func(p *pool.Pool) api.Errno, due api.Errno) {
	t.Helper()
	p := used(t)
	want(t, what, call(p), due)
	if got, as := told(p), told(used(t)); got != as {
		t.Errorf("%s has changed something:\n%s\nnot\n%s", what, got, as)
	}
}

// some is so many bytes, of which each differs from those beside it.
func some(n int) []byte {
	b := make([]byte, n)
	for i := range b {
		b[i] = byte(i*7 + 1)
	}
	return b
}

func TestExamples(t *testing.T) {
	p := made(t, 2)
	wantGet(t, p, 0)
	wantGet(t, p, 1)
	wantNoBufs(t, p)
	want(t, "Set", p.Set(0, []byte("abc")), api.OK)
	want(t, "Front", p.Front(0, []byte("h")), api.OK)
	want(t, "Trim", p.Trim(0, 1, 1), api.OK)
	wantBuffer(t, p, "See", 0, 1, "h", "b")
	want(t, "Hold", p.Hold(0), api.OK)
	want(t, "Set", p.Set(0, []byte("x")), api.ErrShared)
	want(t, "Free", p.Free(0), api.OK)
	want(t, "Free", p.Free(0), api.OK)
	_, err := p.See(0)
	want(t, "See", err, api.ErrNone)
	wantLeft(t, p, 1)
}

func TestNew(t *testing.T) { // P4.1
	for _, many := range []int{1, 2, api.PoolSize, 4095, 4096} {
		p := made(t, many)
		if p.Size() != many || p.Left() != many {
			t.Errorf("New(%d): %d of %d are free", many, p.Left(), p.Size())
		}
		for _, id := range []int{0, many - 1, many} {
			x, err := p.See(id)
			want(t, "See of a new pool", err, api.ErrNone)
			if x.Refs != 0 || len(x.Head) != 0 || len(x.Data) != 0 {
				t.Errorf("See beside an error: %v", x)
			}
		}
	}
	for _, many := range []int{0, -1, 4097, math.MaxInt, math.MinInt} {
		p, err := pool.New(many)
		want(t, fmt.Sprint("New of ", many), err, api.ErrArg)
		if p != nil {
			t.Errorf("New(%d) answers a pool beside the error", many)
		}
	}
}

func TestAllOfThem(t *testing.T) { // P4.1, P4.2: so many can be taken, and not one more
	for _, many := range []int{1, api.PoolSize, 4096} {
		p := made(t, many)
		for due := range many {
			wantGet(t, p, due)
			wantLeft(t, p, many-due-1)
		}
		wantNoBufs(t, p)
		wantNoBufs(t, p)
		for id := range many {
			want(t, "Free", p.Free(id), api.OK)
			wantLeft(t, p, id+1)
		}
		if p.Size() != many {
			t.Errorf("Size: %d, not %d", p.Size(), many)
		}
	}
}

func TestLeft(t *testing.T) { // P4.1: a buffer is free only when its last holder has freed it
	p := made(t, 3)
	for _, step := range []struct {
		call string
		id   int
		left int
	}{
		{"get", 0, 2}, {"get", 1, 1}, {"hold", 1, 1}, {"hold", 1, 1}, {"free", 1, 1},
		{"free", 0, 2}, {"free", 1, 2}, {"free", 1, 3}, {"free", 1, 3}, {"hold", 1, 3}, {"get", 0, 2},
	} {
		switch step.call {
		case "get":
			wantGet(t, p, step.id)
		case "hold":
			p.Hold(step.id)
		case "free":
			p.Free(step.id)
		}
		wantLeft(t, p, step.left)
		if p.Size() != 3 {
			t.Errorf("Size: %d", p.Size())
		}
	}
}

func TestPoolsAreApart(t *testing.T) { // P4.1, R5
	p, q := used(t), used(t)
	p.Set(alone, []byte("of this pool alone"))
	p.Get()
	p.Free(last)
	if told(q) != told(used(t)) {
		t.Errorf("one pool changes another one")
	}
}

func TestGetTheLeast(t *testing.T) { // P4.2
	for at := range 7 { // one alone is free: the first, one in the middle, the last
		p := taken(t, 7)
		p.Free(at)
		wantGet(t, p, at)
		wantNoBufs(t, p)
	}
	p := taken(t, 7)
	for _, id := range []int{5, 2, 6, 3} { // not in the order in which they were freed
		p.Free(id)
	}
	for _, due := range []int{2, 3, 5, 6} {
		wantGet(t, p, due)
	}
	wantNoBufs(t, p)
	p = made(t, 4)
	wantGet(t, p, 0)
	wantGet(t, p, 1)
	p.Free(0)
	wantGet(t, p, 0) // not the next one, which was never taken
}

func TestGetGivesOneHolderAndNothingElse(t *testing.T) { // P4.2
	p := made(t, 2)
	for range 2 {
		wantGet(t, p, 0)
		wantBuffer(t, p, "taken", 0, 1, "", "")
		want(t, "Set", p.Set(0, some(api.DataRoom)), api.OK)
		want(t, "Front", p.Front(0, some(api.HeadRoom)), api.OK)
		p.Hold(0)
		p.Free(0)
		p.Free(0)
	}
	wantGet(t, p, 0)
	want(t, "Append", p.Append(0, []byte("new")), api.OK)
	wantBuffer(t, p, "taken anew", 0, 1, "", "new")
}

func TestHoldAndFree(t *testing.T) { // P4.2
	for _, id := range []int{0, 3} { // the first and the last
		p := taken(t, 4)
		p.Set(id, []byte("d"))
		p.Front(id, []byte("h"))
		for refs := 2; refs <= 300; refs++ {
			want(t, "Hold", p.Hold(id), api.OK)
			wantBuffer(t, p, "held", id, refs, "h", "d")
		}
		for refs := 299; refs >= 1; refs-- {
			want(t, "Free", p.Free(id), api.OK)
			wantBuffer(t, p, "freed", id, refs, "h", "d")
			wantLeft(t, p, 0)
		}
		for other := range 4 {
			if other != id {
				wantBuffer(t, p, "another one", other, 1, "", "")
			}
		}
		want(t, "Free", p.Free(id), api.OK)
		wantLeft(t, p, 1)
		want(t, "Free of a free one", p.Free(id), api.ErrNone)
		want(t, "Hold of a free one", p.Hold(id), api.ErrNone)
		wantGet(t, p, id)
		wantBuffer(t, p, "taken anew", id, 1, "", "")
	}
}

// calls are those that are told a buffer's number.
var calls = map[string]func(p *pool.Pool, id int) api.Errno{
	"Hold":   func(p *pool.Pool, id int) api.Errno { return p.Hold(id) },
	"Free":   func(p *pool.Pool, id int) api.Errno { return p.Free(id) },
	"See":    func(p *pool.Pool, id int) api.Errno { _, err := p.See(id); return err },
	"Set":    func(p *pool.Pool, id int) api.Errno { return p.Set(id, []byte("other")) },
	"Append": func(p *pool.Pool, id int) api.Errno { return p.Append(id, []byte("more")) },
	"Trim":   func(p *pool.Pool, id int) api.Errno { return p.Trim(id, 1, 1) },
	"Front":  func(p *pool.Pool, id int) api.Errno { return p.Front(id, []byte("other")) },
	// also where there is nothing to be put or taken away
	"Set of nothing":    func(p *pool.Pool, id int) api.Errno { return p.Set(id, nil) },
	"Append of nothing": func(p *pool.Pool, id int) api.Errno { return p.Append(id, nil) },
	"Trim of nothing":   func(p *pool.Pool, id int) api.Errno { return p.Trim(id, 0, 0) },
	"Front of nothing":  func(p *pool.Pool, id int) api.Errno { return p.Front(id, nil) },
	// here more than one error could be told: ErrNone is first, then ErrShared
	"Set of 289":             func(p *pool.Pool, id int) api.Errno { return p.Set(id, some(289)) },
	"Append of 289":          func(p *pool.Pool, id int) api.Errno { return p.Append(id, some(289)) },
	"Trim with front -1":     func(p *pool.Pool, id int) api.Errno { return p.Trim(id, -1, 0) },
	"Trim with back -1":      func(p *pool.Pool, id int) api.Errno { return p.Trim(id, 0, -1) },
	"Trim with too much":     func(p *pool.Pool, id int) api.Errno { return p.Trim(id, 289, 0) },
	"Trim with the greatest": func(p *pool.Pool, id int) api.Errno { return p.Trim(id, math.MaxInt, math.MaxInt) },
	"Front of 105":           func(p *pool.Pool, id int) api.Errno { return p.Front(id, some(105)) },
}

func TestNoSuchBuffer(t *testing.T) { // P4.2, P4.3, P4.4
	for name, call := range calls {
		for _, id := range none {
			refused(t, fmt.Sprint(name, " of buffer ", id), func(p *pool.Pool) api.Errno { return call(p, id) }, api.ErrNone)
		}
	}
}

func TestSharedOnes(t *testing.T) { // P4.3
	for name, call := range calls {
		if name == "Hold" || name == "Free" || name == "See" {
			continue
		}
		for _, id := range []int{shared, last} {
			refused(t, fmt.Sprint(name, " of the shared buffer ", id), func(p *pool.Pool) api.Errno { return call(p, id) }, api.ErrShared)
		}
	}
}

func TestSharedTillOneIsLeft(t *testing.T) { // P4.3
	p := used(t)
	p.Free(last)
	want(t, "Set with two holders", p.Set(last, []byte("x")), api.ErrShared)
	p.Free(last)
	want(t, "Set with one holder", p.Set(last, []byte("x")), api.OK)
	want(t, "Append with one holder", p.Append(last, []byte("yz")), api.OK)
	want(t, "Trim with one holder", p.Trim(last, 1, 0), api.OK)
	want(t, "Front with one holder", p.Front(last, []byte("h")), api.OK)
	wantBuffer(t, p, "held alone", last, 1, "h", "yz")
}

func TestSet(t *testing.T) { // P4.3: in place of whatever stood there, with no head
	p := used(t)
	for _, n := range []int{1, 287, 288, 0, 288, 5, 0} {
		p.Front(alone, []byte("head"))
		want(t, fmt.Sprint("Set of ", n), p.Set(alone, some(n)), api.OK)
		wantBuffer(t, p, "set", alone, 1, "", string(some(n)))
	}
	for _, n := range []int{289, 290, 392, 393, 5000} {
		refused(t, fmt.Sprint("Set of ", n), func(p *pool.Pool) api.Errno { return p.Set(alone, some(n)) }, api.ErrLong)
	}
}

func TestAppend(t *testing.T) { // P4.3: behind the data, and the head stays
	for _, c := range [][]int{{1, 2, 3}, {0, 0, 288}, {288, 0}, {287, 1}, {144, 144}, {0, 1, 0, 286, 1}} {
		p := used(t)
		p.Set(alone, nil)
		p.Front(alone, []byte("head"))
		var all []byte
		for _, n := range c {
			b := some(n)
			want(t, fmt.Sprint("Append of ", n), p.Append(alone, b), api.OK)
			all = append(all, b...)
			wantBuffer(t, p, "appended", alone, 1, "head", string(all))
		}
	}
	for _, c := range []struct{ stands, more int }{{0, 289}, {1, 288}, {144, 145}, {287, 2}, {288, 1}, {288, 288}, {9, 5000}} {
		p := used(t)
		p.Set(alone, some(c.stands))
		p.Front(alone, []byte("head"))
		want(t, fmt.Sprint("Append of ", c.more, " to ", c.stands), p.Append(alone, some(c.more)), api.ErrLong)
		wantBuffer(t, p, "as it was", alone, 1, "head", string(some(c.stands)))
	}
}

func TestTrim(t *testing.T) { // P4.3
	for _, c := range []struct {
		data        string
		front, back int
		left        string
	}{
		{"abcdef", 0, 0, "abcdef"},
		{"abcdef", 1, 0, "bcdef"},
		{"abcdef", 0, 1, "abcde"},
		{"abcdef", 2, 1, "cde"},
		{"abcdef", 6, 0, ""},
		{"abcdef", 0, 6, ""},
		{"abcdef", 2, 4, ""},
		{"", 0, 0, ""},
		{string(some(288)), 0, 0, string(some(288))},
		{string(some(288)), 100, 88, string(some(288)[100:200])},
		{string(some(288)), 287, 0, string(some(288)[287:])},
		{string(some(288)), 288, 0, ""},
		{string(some(288)), 0, 288, ""},
	} {
		p := used(t)
		p.Set(alone, []byte(c.data))
		p.Front(alone, []byte("head"))
		what := fmt.Sprintf("Trim of %d bytes by %d and %d", len(c.data), c.front, c.back)
		want(t, what, p.Trim(alone, c.front, c.back), api.OK)
		wantBuffer(t, p, what, alone, 1, "head", c.left)
	}
}

func TestTrimErrors(t *testing.T) { // P4.3
	n := len("data of 0")
	for _, c := range []struct{ front, back int }{
		{-1, 0}, {0, -1}, {-1, -1}, {-1, 1}, {1, -1}, {n + 1, -1}, {-1, n + 1}, {-1, n}, {n, -1},
		{n + 1, 0}, {0, n + 1}, {n, 1}, {1, n}, {n, n}, {4, n - 3}, {288, 0}, {0, 289},
		{math.MaxInt, 0}, {0, math.MaxInt}, {math.MaxInt, math.MaxInt}, {math.MaxInt, 1}, {1, math.MaxInt}, {math.MaxInt, 2},
		{math.MinInt, 0}, {0, math.MinInt}, {math.MinInt, math.MinInt}, {math.MinInt, math.MaxInt}, {math.MaxInt, math.MinInt}, {math.MinInt, n}, {n, math.MinInt},
	} {
		refused(t, fmt.Sprint("Trim by ", c.front, " and ", c.back), func(p *pool.Pool) api.Errno { return p.Trim(alone, c.front, c.back) }, api.ErrArg)
	}
	p := taken(t, 1)
	want(t, "Trim of no data", p.Trim(0, 1, 0), api.ErrArg)
	want(t, "Trim of no data", p.Trim(0, 0, 1), api.ErrArg)
	want(t, "Trim of no data", p.Trim(0, 0, 0), api.OK)
}

func TestTrimMakesRoom(t *testing.T) { // P4.3: it is the data's bytes that count, wherever they stood
	p := used(t)
	p.Set(alone, some(288))
	p.Trim(alone, 200, 80)
	want(t, "Append of one too many", p.Append(alone, some(281)), api.ErrLong)
	want(t, "Append behind Trim", p.Append(alone, some(280)), api.OK)
	wantBuffer(t, p, "appended", alone, 1, "", string(append(some(288)[200:208], some(280)...)))
	want(t, "Trim of one too many", p.Trim(alone, 144, 145), api.ErrArg)
	want(t, "Trim of all", p.Trim(alone, 144, 144), api.OK)
	wantBuffer(t, p, "trimmed", alone, 1, "", "")
}

func TestFront(t *testing.T) { // P4.3: whatever stood there; the data stays
	p := used(t)
	for _, n := range []int{1, 104, 3, 0, 103, 104, 0} {
		want(t, fmt.Sprint("Front of ", n), p.Front(alone, some(n)), api.OK)
		wantBuffer(t, p, "head", alone, 1, string(some(n)), "data of 0")
	}
	for _, n := range []int{105, 106, 288, 5000} {
		refused(t, fmt.Sprint("Front of ", n), func(p *pool.Pool) api.Errno { return p.Front(alone, some(n)) }, api.ErrLong)
	}
}

func TestFrontAndDataAreApart(t *testing.T) { // P4.3: both may be full
	p := used(t)
	head, data := bytes.Repeat([]byte("h"), 104), bytes.Repeat([]byte("d"), 288)
	want(t, "Set", p.Set(alone, data), api.OK)
	want(t, "Front", p.Front(alone, head), api.OK)
	wantBuffer(t, p, "both", alone, 1, string(head), string(data))
	want(t, "Set", p.Set(alone, data[:1]), api.OK)
	wantBuffer(t, p, "Set behind Front", alone, 1, "", "d")
	want(t, "Front", p.Front(alone, head[:2]), api.OK)
	wantBuffer(t, p, "Front behind Set", alone, 1, "hh", "d")
	want(t, "Set", p.Set(alone, nil), api.OK)
	wantBuffer(t, p, "Set of nothing", alone, 1, "", "")
	want(t, "Front", p.Front(alone, head[:1]), api.OK)
	wantBuffer(t, p, "a head ahead of nothing", alone, 1, "h", "")
}

func TestEmptyAndNil(t *testing.T) { // R2
	for name, call := range map[string]func(p *pool.Pool, b []byte) api.Errno{
		"Set":    func(p *pool.Pool, b []byte) api.Errno { return p.Set(alone, b) },
		"Append": func(p *pool.Pool, b []byte) api.Errno { return p.Append(alone, b) },
		"Front":  func(p *pool.Pool, b []byte) api.Errno { return p.Front(alone, b) },
	} {
		p, q := used(t), used(t)
		want(t, name+" of nil", call(p, nil), api.OK)
		want(t, name+" of nothing", call(q, []byte{}), api.OK)
		if told(p) != told(q) {
			t.Errorf("%s tells nil from nothing", name)
		}
	}
}

func TestSee(t *testing.T) { // P4.4
	p := used(t)
	wantBuffer(t, p, "with one holder", alone, 1, "head of 0", "data of 0")
	wantBuffer(t, p, "with two", shared, 2, "head of 1", "data of 1")
	wantBuffer(t, p, "with one", 4, 1, "head of 4", "data of 4")
	wantBuffer(t, p, "with three", last, 3, "head of 5", "data of 5")
	for _, id := range none {
		x, err := p.See(id)
		want(t, fmt.Sprint("See of ", id), err, api.ErrNone)
		if x.Refs != 0 || len(x.Head) != 0 || len(x.Data) != 0 {
			t.Errorf("See(%d) beside an error: %v", id, x)
		}
	}
	p.Left()
	p.Size()
	if told(p) != told(used(t)) {
		t.Errorf("to look has changed something")
	}
}

func TestWhatIsHandedIn(t *testing.T) { // R4: neither changed nor kept, the room behind its end neither
	p := used(t)
	for name, call := range map[string]func(b []byte) api.Errno{
		"Set":    func(b []byte) api.Errno { return p.Set(alone, b) },
		"Append": func(b []byte) api.Errno { return p.Append(alone, b) },
		"Front":  func(b []byte) api.Errno { return p.Front(alone, b) },
	} {
		room := []byte("handed in, and behind")
		b := room[:9]
		want(t, name, call(b), api.OK)
		p.Append(alone, []byte("!"))
		p.Trim(alone, 1, 0)
		if string(room) != "handed in, and behind" {
			t.Errorf("%s has changed what was handed in: %q", name, room)
		}
		x, _ := p.See(alone)
		for i := range room {
			room[i] = '#'
		}
		wantBuffer(t, p, name+" keeps no list", alone, 1, string(x.Head), string(x.Data))
	}
}

// overwrite fills a list, and the room behind its end.
func overwrite(list []byte) {
	for i := range list[:cap(list)] {
		list[:cap(list)][i] = '#'
	}
}

func TestWhatIsAnswered(t *testing.T) { // R4: new memory, spare room too
	for _, id := range []int{alone, shared, last} {
		p := used(t)
		x, _ := p.See(id)
		y, _ := p.See(id)
		overwrite(x.Head)
		if string(x.Data) != string(y.Data) {
			t.Errorf("head and data of one answer share memory: %q", x.Data)
		}
		overwrite(x.Data)
		if string(y.Head) != fmt.Sprint("head of ", id) || string(y.Data) != fmt.Sprint("data of ", id) {
			t.Errorf("two answers share memory: %q %q", y.Head, y.Data)
		}
		if got, as := told(p), told(used(t)); got != as {
			t.Errorf("an answer shares memory with the pool:\n%s\nnot\n%s", got, as)
		}
	}
	p := used(t)
	p.Set(alone, some(10))
	p.Trim(alone, 0, 10)
	x, _ := p.See(alone) // empty lists could have the arrays' room behind them
	overwrite(x.Head)
	overwrite(x.Data)
	p.Append(alone, some(3))
	wantBuffer(t, p, "appended", alone, 1, "", string(some(3)))
}

func TestAnswersStay(t *testing.T) { // R4
	p := used(t)
	x, _ := p.See(alone)
	p.Set(alone, []byte("other"))
	p.Front(alone, []byte("another"))
	p.Free(alone)
	wantGet(t, p, alone)
	p.Append(alone, []byte("once more"))
	if x.Refs != 1 || string(x.Head) != "head of 0" || string(x.Data) != "data of 0" {
		t.Errorf("an answer changes with the pool: %d %q %q", x.Refs, x.Head, x.Data)
	}
}

func TestHeldOnesStay(t *testing.T) { // P4.5: whatever others take, hold, free and change
	p := taken(t, 3)
	p.Set(1, []byte("mine"))
	p.Front(1, []byte("head"))
	p.Hold(1)
	p.Free(0)
	p.Free(2)
	for range 3 {
		for _, due := range []int{0, 2} {
			wantGet(t, p, due)
			p.Set(due, some(288))
			p.Front(due, some(104))
			p.Trim(due, 9, 9)
			p.Append(due, some(18))
		}
		wantNoBufs(t, p)
		p.Set(1, []byte("yours"))
		p.Append(1, []byte("yours"))
		p.Trim(1, 1, 1)
		p.Front(1, []byte("yours"))
		wantBuffer(t, p, "held by two", 1, 2, "head", "mine")
		p.Free(0)
		p.Free(2)
	}
	p.Free(1)
	wantGet(t, p, 0)
	wantGet(t, p, 2)
	wantNoBufs(t, p)
	wantBuffer(t, p, "held by one", 1, 1, "head", "mine")
	p.Free(1)
	wantGet(t, p, 1)
}

// model says by the promises alone what a pool has to answer.
type model []api.Buffer

func (m model) get() (int, api.Errno) {
	for id := range m {
		if m[id].Refs == 0 {
			m[id] = api.Buffer{Refs: 1}
			return id, api.OK
		}
	}
	return 0, api.ErrNoBufs
}

func (m model) err(id int, changes, wrong bool, as api.Errno) api.Errno {
	switch {
	case id < 0 || id >= len(m) || m[id].Refs == 0:
		return api.ErrNone
	case changes && m[id].Refs > 1:
		return api.ErrShared
	case changes && wrong:
		return as
	}
	return api.OK
}

func (m model) data(id int) []byte {
	if id < 0 || id >= len(m) {
		return nil
	}
	return m[id].Data
}

// step does the same with a pool and with its model.
func step(t *testing.T, r *rand.Rand, p *pool.Pool, m model) {
	t.Helper()
	id, b, front, back := r.Intn(len(m)+2)-1, some(r.Intn(120)), r.Intn(60)-5, r.Intn(60)-5
	if r.Intn(8) == 0 {
		b = some(r.Intn(300))
	}
	data := m.data(id)
	both := len(data) + len(b)
	var got, due api.Errno
	call := r.Intn(9)
	switch call {
	case 0, 1:
		var at, dueAt int
		at, got = p.Get()
		dueAt, due = m.get()
		if at != dueAt {
			t.Fatalf("Get: %d, not %d", at, dueAt)
		}
	case 2:
		got, due = p.Hold(id), m.err(id, false, false, 0)
		if due == api.OK {
			m[id].Refs++
		}
	case 3, 4:
		got, due = p.Free(id), m.err(id, false, false, 0)
		if due == api.OK {
			m[id].Refs--
		}
	case 5:
		got, due = p.Set(id, b), m.err(id, true, len(b) > 288, api.ErrLong)
		if due == api.OK {
			m[id] = api.Buffer{Refs: 1, Data: b}
		}
	case 6:
		got, due = p.Append(id, b), m.err(id, true, both > 288, api.ErrLong)
		if due == api.OK {
			m[id].Data = append(bytes.Clone(data), b...)
		}
	case 7:
		got, due = p.Trim(id, front, back), m.err(id, true, front < 0 || back < 0 || front+back > len(data), api.ErrArg)
		if due == api.OK {
			m[id].Data = data[front : len(data)-back]
		}
	case 8:
		got, due = p.Front(id, b), m.err(id, true, len(b) > 104, api.ErrLong)
		if due == api.OK {
			m[id].Head = b
		}
	}
	if got != due {
		t.Fatalf("call %d of buffer %d: error %d, not %d", call, id, got, due)
	}
}

func TestAgainstAModel(t *testing.T) { // P4.1 to P4.5
	for seed := range 40 {
		r := rand.New(rand.NewSource(int64(seed)))
		m := make(model, 1+r.Intn(6))
		p := made(t, len(m))
		for range 1500 {
			step(t, r, p, m)
			inUse := 0
			for id, x := range m {
				if x.Refs == 0 {
					_, err := p.See(id)
					want(t, "See of a free one", err, api.ErrNone)
					continue
				}
				inUse++
				wantBuffer(t, p, fmt.Sprint("buffer ", id), id, x.Refs, string(x.Head), string(x.Data))
			}
			if inUse+p.Left() != p.Size() || p.Size() != len(m) {
				t.Fatalf("%d in use and %d left of %d, which are %d", inUse, p.Left(), p.Size(), len(m))
			}
		}
	}
}
