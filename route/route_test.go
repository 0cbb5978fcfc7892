package route_test

import (
	"fmt"
	"math"
	"math/rand"
	"slices"
	"testing"

	"packhorse/api"
	"packhorse/route"
)

const most = 8

// near is a way that leads there directly, far one by a gate.
func near(net api.Ip, bits int) api.Way { return api.Way{Net: net, Bits: bits} }

func far(net api.Ip, bits int, gate api.Ip) api.Way {
	return api.Way{Net: net, Bits: bits, Gate: gate, Via: true}
}

// made has these ways, which came in this order.
func made(t *testing.T, ways ...api.Way) *route.Routes {
	t.Helper()
	r := route.New()
	for _, w := range ways {
		wantAdd(t, r, w, api.OK)
	}
	return r
}

// eight are as many ways as may be, of several Bits, with gates and without.
func eight() []api.Way {
	return []api.Way{
		near(api.Ip{10}, 8),
		far(api.Ip{}, 0, api.Ip{10, 0, 0, 9}),
		far(api.Ip{10, 1}, 16, api.Ip{10, 0, 0, 7}),
		near(api.Ip{10, 1, 2}, 24),
		far(api.Ip{10, 1, 2, 3}, 32, api.Ip{10, 0, 0, 6}),
		far(api.Ip{192, 168}, 16, api.Ip{}),
		near(api.Ip{128}, 1),
		far(api.Ip{10, 1, 2, 2}, 31, api.Ip{10, 0, 0, 5}),
	}
}

// asked are addresses that the ways of eight tell apart.
var asked = []api.Ip{
	{}, {9, 9, 9, 9}, {10, 0, 0, 1}, {10, 1, 0, 0}, {10, 1, 2, 0}, {10, 1, 2, 2}, {10, 1, 2, 3}, {10, 1, 2, 4},
	{10, 1, 3, 3}, {10, 2, 2, 3}, {11, 1, 2, 3}, {127, 255, 255, 255}, {128}, {192, 168, 1, 1}, {192, 169, 1, 1}, {255, 255, 255, 255},
}

// told is what calls tell of a table.
func told(r *route.Routes) string {
	s := fmt.Sprintln(r.All())
	for _, ip := range asked {
		gate, err := r.Find(ip)
		s += fmt.Sprintln(ip, gate, err)
	}
	return s
}

// wantKept makes a call, and looks that it has changed nothing, if an error is due (R3).
func wantKept(t *testing.T, r *route.Routes, due api.Errno, call func()) {
	t.Helper()
	if due == api.OK {
		call()
		return
	}
	ahead := told(r)
	call()
	if behind := told(r); ahead != behind {
		t.Errorf("beside an error, a call changes\n%sto\n%s", ahead, behind)
	}
}

func wantAdd(t *testing.T, r *route.Routes, w api.Way, due api.Errno) {
	t.Helper()
	wantKept(t, r, due, func() {
		if err := r.Add(w); err != due {
			t.Errorf("Add(%v): error %d, not %d", w, err, due)
		}
	})
}

func wantDrop(t *testing.T, r *route.Routes, net api.Ip, bits int, due api.Errno) {
	t.Helper()
	wantKept(t, r, due, func() {
		if err := r.Drop(net, bits); err != due {
			t.Errorf("Drop(%v, %d): error %d, not %d", net, bits, err, due)
		}
	})
}

func wantFind(t *testing.T, r *route.Routes, ip, due api.Ip) {
	t.Helper()
	if got, err := r.Find(ip); got != due || err != api.OK {
		t.Errorf("Find(%v): %v, error %d, not %v", ip, got, err, due)
	}
}

func wantNoFind(t *testing.T, r *route.Routes, ip api.Ip) {
	t.Helper()
	if got, err := r.Find(ip); got != (api.Ip{}) || err != api.ErrRouteNone {
		t.Errorf("Find(%v): %v, error %d, though there is no way", ip, got, err)
	}
}

func wantAll(t *testing.T, r *route.Routes, due ...api.Way) {
	t.Helper()
	if got := r.All(); !slices.Equal(got, due) {
		t.Errorf("All: %v, not %v", got, due)
	}
}

// bit is an address with one bit that is 1; the first one is bit 0.
func bit(n int) api.Ip {
	var ip api.Ip
	ip[n/8] = 128 >> (n % 8)
	return ip
}

// ones is an address whose first n bits are 1.
func ones(n int) api.Ip {
	var ip api.Ip
	for i := range n {
		ip = turned(ip, i)
	}
	return ip
}

// turned is an address with one bit turned.
func turned(ip api.Ip, n int) api.Ip {
	ip[n/8] ^= 128 >> (n % 8)
	return ip
}

// number is an address as a number, address a number as one.
func number(ip api.Ip) uint64 {
	return uint64(ip[0])<<24 + uint64(ip[1])<<16 + uint64(ip[2])<<8 + uint64(ip[3])
}

func address(n uint64) api.Ip {
	return api.Ip{byte(n >> 24), byte(n >> 16), byte(n >> 8), byte(n)}
}

// size is of how many addresses a net with so many Bits is.
func size(bits int) uint64 { return 1 << (32 - bits) }

func TestExamples(t *testing.T) { // P10.1, P10.2: the chapter's table
	r := route.New()
	wantAdd(t, r, near(api.Ip{10}, 8), api.OK)
	wantAdd(t, r, far(api.Ip{}, 0, api.Ip{10, 0, 0, 9}), api.OK)
	wantFind(t, r, api.Ip{10, 1, 2, 3}, api.Ip{10, 1, 2, 3})
	wantFind(t, r, api.Ip{9, 9, 9, 9}, api.Ip{10, 0, 0, 9})
	wantAdd(t, r, far(api.Ip{10, 1}, 16, api.Ip{10, 0, 0, 7}), api.OK)
	wantFind(t, r, api.Ip{10, 1, 2, 3}, api.Ip{10, 0, 0, 7})
	wantDrop(t, r, api.Ip{10, 1}, 16, api.OK)
	wantFind(t, r, api.Ip{10, 1, 2, 3}, api.Ip{10, 1, 2, 3})
	wantAdd(t, r, near(api.Ip{10, 0, 0, 1}, 8), api.ErrArg)
	wantAdd(t, r, near(api.Ip{10}, 33), api.ErrArg)
}

func TestNew(t *testing.T) { // P10.1: no ways
	r := route.New()
	if r == nil {
		t.Fatal("New: nil")
	}
	wantAll(t, r)
	for _, ip := range asked {
		wantNoFind(t, r, ip)
	}
	wantDrop(t, r, api.Ip{}, 0, api.ErrNone)
}

func TestAddBits(t *testing.T) { // P10.1: 0 to 32
	for bits := -70; bits <= 330; bits++ {
		due := api.ErrArg
		if bits >= 0 && bits <= 32 {
			due = api.OK
		}
		wantAdd(t, route.New(), near(api.Ip{}, bits), due)
		wantAdd(t, route.New(), far(api.Ip{}, bits, api.Ip{1, 2, 3, 4}), due)
		if bits > 32 {
			wantAdd(t, route.New(), near(ones(32), bits), due)
		}
	}
	for _, bits := range []int{math.MinInt, math.MinInt + 8, -1 << 32, math.MinInt32, 1<<32 + 8, math.MaxInt32, math.MaxInt - 1, math.MaxInt} {
		wantAdd(t, route.New(), near(api.Ip{}, bits), api.ErrArg)
		wantAdd(t, made(t, near(api.Ip{}, 0), near(api.Ip{}, 8)), near(api.Ip{}, bits), api.ErrArg)
	}
}

func TestAddNet(t *testing.T) { // P10.1: no bit behind the first Bits is 1; all bits, with all Bits
	for bits := 0; bits <= 32; bits++ {
		wantAdd(t, route.New(), near(api.Ip{}, bits), api.OK)
		wantAdd(t, route.New(), near(ones(bits), bits), api.OK)
		for n := range 32 {
			due := api.OK
			if n >= bits {
				due = api.ErrArg
			}
			wantAdd(t, route.New(), near(bit(n), bits), due)
			wantAdd(t, route.New(), far(bit(n), bits, api.Ip{10, 0, 0, 9}), due)
			if n >= bits {
				wantAdd(t, route.New(), near(turned(ones(bits), n), bits), due)
			}
		}
	}
}

func TestAddGate(t *testing.T) { // P10.1: without Via it is 0.0.0.0; with it, anything
	for n := range 32 {
		w := near(api.Ip{10}, 8)
		w.Gate = bit(n)
		wantAdd(t, route.New(), w, api.ErrArg)
		wantAdd(t, made(t, eight()...), w, api.ErrArg)
		w.Via = true
		wantAdd(t, route.New(), w, api.OK)
	}
	wantAdd(t, route.New(), near(api.Ip{10}, 8), api.OK)
	r := made(t, far(api.Ip{10}, 8, api.Ip{}))
	wantFind(t, r, api.Ip{10, 1, 2, 3}, api.Ip{}) // a gate of 0.0.0.0 is one all the same
	wantAll(t, r, far(api.Ip{10}, 8, api.Ip{}))
}

func TestAddInPlace(t *testing.T) { // P10.1: w takes the place of the one with its Net and Bits, wherever that is, with eight ways and with fewer
	for n := 1; n <= most; n++ {
		for i := range n {
			for _, other := range []api.Way{
				near(eight()[i].Net, eight()[i].Bits), far(eight()[i].Net, eight()[i].Bits, api.Ip{10, 9, 9, 9}), eight()[i],
			} {
				due := eight()[:n]
				r := made(t, due...)
				wantAdd(t, r, other, api.OK)
				due[i] = other
				wantAll(t, r, due...)
				if got, fresh := told(r), told(made(t, due...)); got != fresh {
					t.Errorf("way %d of %d is now %v:\n%snot\n%s", i, n, other, got, fresh)
				}
			}
		}
	}
}

func TestAddNinth(t *testing.T) { // P10.1: ErrMany, and that behind ErrArg and behind a place that is taken over
	r := made(t, eight()...)
	wantAll(t, r, eight()...)
	wantAdd(t, r, near(api.Ip{11}, 8), api.ErrMany)
	wantAdd(t, r, far(api.Ip{11}, 8, api.Ip{10, 0, 0, 9}), api.ErrMany)
	wantAdd(t, r, near(api.Ip{10}, 9), api.ErrMany)     // the same Net with other Bits
	wantAdd(t, r, near(api.Ip{10, 2}, 16), api.ErrMany) // the same Bits with another Net
	wantAdd(t, r, near(api.Ip{11}, 7), api.ErrArg)
	wantAdd(t, r, near(api.Ip{}, 33), api.ErrArg)
	wantAdd(t, r, near(api.Ip{}, -1), api.ErrArg)
	wantAdd(t, r, api.Way{Net: api.Ip{11}, Bits: 8, Gate: api.Ip{1}}, api.ErrArg)
	wantAdd(t, r, near(api.Ip{10}, 8), api.OK)
	wantAdd(t, r, near(api.Ip{11}, 8), api.ErrMany)
	wantDrop(t, r, api.Ip{10, 1}, 16, api.OK)
	wantAdd(t, r, near(api.Ip{11}, 8), api.OK)
	wantAdd(t, r, far(api.Ip{10, 1}, 16, api.Ip{10, 0, 0, 7}), api.ErrMany)
	wantAll(t, r, append(slices.Delete(eight(), 2, 3), near(api.Ip{11}, 8))...)
}

func TestSameNet(t *testing.T) { // P10.1, P10.2: one Net with several Bits makes several ways
	ways := []api.Way{
		far(api.Ip{10}, 16, api.Ip{1}), far(api.Ip{10}, 7, api.Ip{2}), far(api.Ip{10}, 32, api.Ip{3}), far(api.Ip{10}, 31, api.Ip{4}),
	}
	r := made(t, ways...)
	wantAll(t, r, ways...)
	wantFind(t, r, api.Ip{10, 0, 0, 0}, api.Ip{3})
	wantFind(t, r, api.Ip{10, 0, 0, 1}, api.Ip{4})
	wantFind(t, r, api.Ip{10, 0, 0, 2}, api.Ip{1})
	wantFind(t, r, api.Ip{10, 1, 0, 0}, api.Ip{2})
	wantFind(t, r, api.Ip{11, 0, 0, 0}, api.Ip{2})
	wantNoFind(t, r, api.Ip{12, 0, 0, 0})
	wantDrop(t, r, api.Ip{10}, 8, api.ErrNone)
	wantDrop(t, r, api.Ip{10}, 31, api.OK)
	wantAll(t, r, ways[0], ways[1], ways[2])
}

func TestDrop(t *testing.T) { // P10.1: each one of eight, twice
	for i, w := range eight() {
		r := made(t, eight()...)
		wantDrop(t, r, w.Net, w.Bits, api.OK)
		left := slices.Delete(eight(), i, i+1)
		wantAll(t, r, left...)
		if got, fresh := told(r), told(made(t, left...)); got != fresh {
			t.Errorf("without way %d:\n%snot\n%s", i, got, fresh)
		}
		wantDrop(t, r, w.Net, w.Bits, api.ErrNone)
		wantAdd(t, r, w, api.OK)
		wantAll(t, r, append(left, w)...)
	}
}

func TestDropNone(t *testing.T) { // P10.1: Net alone, or Bits alone, or neither is there
	r := made(t, eight()...)
	for bits := -300; bits <= 600; bits++ {
		if bits != 8 {
			wantDrop(t, r, api.Ip{10}, bits, api.ErrNone)
		}
		wantDrop(t, r, api.Ip{77, 7, 7, 7}, bits, api.ErrNone)
	}
	for _, bits := range []int{math.MinInt, math.MinInt + 8, -1<<32 + 8, 1<<32 + 8, 1<<16 + 8, math.MaxInt} {
		wantDrop(t, r, api.Ip{10}, bits, api.ErrNone)
	}
	wantDrop(t, r, api.Ip{10, 0, 0, 1}, 8, api.ErrNone) // an address of that net is not the net
	wantDrop(t, r, api.Ip{11}, 8, api.ErrNone)
	wantDrop(t, r, api.Ip{0, 0, 0, 1}, 0, api.ErrNone)
	wantAll(t, r, eight()...)
}

func TestDropAll(t *testing.T) { // P10.1: in any order, till there are none
	rnd := rand.New(rand.NewSource(50))
	for range 200 {
		r := made(t, eight()...)
		left := eight()
		for len(left) > 0 {
			i := rnd.Intn(len(left))
			wantDrop(t, r, left[i].Net, left[i].Bits, api.OK)
			left = slices.Delete(left, i, i+1)
			wantAll(t, r, left...)
		}
		for _, ip := range asked {
			wantNoFind(t, r, ip)
		}
	}
}

func TestFindOfZeroBits(t *testing.T) { // P10.2: a way of 0 Bits holds every address
	direct, by := made(t, near(api.Ip{}, 0)), made(t, far(api.Ip{}, 0, api.Ip{10, 0, 0, 9}))
	for _, ip := range asked {
		wantFind(t, direct, ip, ip)
		wantFind(t, by, ip, api.Ip{10, 0, 0, 9})
	}
}

func TestFindEveryBit(t *testing.T) { // P10.2: the first Bits bits count, each of them, and no other
	rnd := rand.New(rand.NewSource(51))
	for range 20 {
		whole := address(uint64(rnd.Uint32()))
		for bits := 0; bits <= 32; bits++ {
			net := address(number(whole) / size(bits) * size(bits))
			direct, by := made(t, near(net, bits)), made(t, far(net, bits, api.Ip{1, 2, 3, 4}))
			wantFind(t, direct, whole, whole)
			wantFind(t, by, whole, api.Ip{1, 2, 3, 4})
			for n := range 32 {
				ip := turned(whole, n)
				if n < bits {
					wantNoFind(t, direct, ip)
					wantNoFind(t, by, ip)
					continue
				}
				wantFind(t, direct, ip, ip)
				wantFind(t, by, ip, api.Ip{1, 2, 3, 4})
			}
		}
	}
}

func TestFindEdges(t *testing.T) { // P10.2: the first and the last address of a net, and those beside it
	r := made(t, near(api.Ip{10, 128}, 9), far(api.Ip{1, 2, 3, 4}, 32, api.Ip{9}), far(api.Ip{1, 2, 3, 6}, 31, api.Ip{8}))
	for _, ip := range []api.Ip{{10, 128, 0, 0}, {10, 255, 255, 255}} {
		wantFind(t, r, ip, ip)
	}
	wantFind(t, r, api.Ip{1, 2, 3, 4}, api.Ip{9})
	wantFind(t, r, api.Ip{1, 2, 3, 6}, api.Ip{8})
	wantFind(t, r, api.Ip{1, 2, 3, 7}, api.Ip{8})
	for _, ip := range []api.Ip{{10, 127, 255, 255}, {11, 0, 0, 0}, {1, 2, 3, 3}, {1, 2, 3, 5}, {1, 2, 3, 8}} {
		wantNoFind(t, r, ip)
	}
}

func TestFindMostBits(t *testing.T) { // P10.2: wherever the longest stands, with Via and without
	longest := []api.Way{near(api.Ip{10, 1, 2}, 24), far(api.Ip{10, 1, 2}, 24, api.Ip{10, 0, 0, 5})}
	others := []api.Way{near(api.Ip{10}, 8), far(api.Ip{10, 1}, 16, api.Ip{10, 0, 0, 6}), far(api.Ip{}, 0, api.Ip{10, 0, 0, 7}), far(api.Ip{10, 1, 3}, 24, api.Ip{10, 0, 0, 8})}
	ip := api.Ip{10, 1, 2, 3}
	for _, w := range longest {
		due := ip
		if w.Via {
			due = w.Gate
		}
		for i := range len(others) + 1 {
			r := made(t, slices.Insert(slices.Clone(others), i, w)...)
			wantFind(t, r, ip, due)
			wantFind(t, r, api.Ip{10, 1, 4, 3}, api.Ip{10, 0, 0, 6})
			wantFind(t, r, api.Ip{10, 4, 4, 3}, api.Ip{10, 4, 4, 3})
			wantFind(t, r, api.Ip{9, 4, 4, 3}, api.Ip{10, 0, 0, 7})
			wantFind(t, r, api.Ip{10, 1, 3, 3}, api.Ip{10, 0, 0, 8})
		}
	}
}

func TestAllInOrder(t *testing.T) { // P10.2: as they came, whatever their Bits and Nets are
	rnd := rand.New(rand.NewSource(52))
	for range 500 {
		due := eight()
		rnd.Shuffle(most, func(i, k int) { due[i], due[k] = due[k], due[i] })
		r := route.New()
		for i, w := range due {
			wantAll(t, r, due[:i]...)
			wantAdd(t, r, w, api.OK)
		}
		wantAll(t, r, due...)
		wantAll(t, r, due...)
	}
}

func TestAllAfterMany(t *testing.T) { // P10.2: the order holds however many came and went
	r := route.New()
	var due []api.Way
	for i := range 3000 {
		w := near(address(uint64(i)*256), 24)
		if len(due) == most {
			wantDrop(t, r, due[0].Net, due[0].Bits, api.OK)
			due = due[1:]
		}
		wantAdd(t, r, w, api.OK)
		due = append(due, w)
		wantAll(t, r, due...)
	}
}

// holds tells by numbers whether an address is of a way's net.
func holds(w api.Way, ip api.Ip) bool { return number(ip)/size(w.Bits) == number(w.Net)/size(w.Bits) }

// anyWay is one that may be, of few nets, so that they meet.
func anyWay(r *rand.Rand) api.Way {
	bits := []int{0, 1, 7, 8, 9, 15, 16, 24, 30, 31, 32}[r.Intn(11)]
	w := near(address(number(anyIp(r))/size(bits)*size(bits)), bits)
	if r.Intn(2) == 0 {
		w.Via = true
		w.Gate = api.Ip{172, 16, byte(r.Intn(256)), byte(r.Intn(2))}
	}
	return w
}

func anyIp(r *rand.Rand) api.Ip {
	return api.Ip{byte(10 + r.Intn(2)), byte(r.Intn(2)), byte(r.Intn(2) * 255), byte(r.Intn(4))}
}

func TestFewerBits(t *testing.T) { // P10.3: what happens to a way of fewer Bits changes nothing where there is one of more
	rnd := rand.New(rand.NewSource(53))
	tried := 0
	for range 4000 {
		r := route.New()
		for range 1 + rnd.Intn(most-1) {
			r.Add(anyWay(rnd))
		}
		w, ip := anyWay(rnd), anyIp(rnd)
		if !holds(w, ip) || !slices.ContainsFunc(r.All(), func(x api.Way) bool { return x.Bits > w.Bits && holds(x, ip) }) {
			continue
		}
		tried++
		due, err := r.Find(ip)
		if err != api.OK {
			t.Fatalf("Find(%v) with %v: error %d", ip, r.All(), err)
		}
		wantAdd(t, r, w, api.OK)
		wantFind(t, r, ip, due)
		wantAdd(t, r, far(w.Net, w.Bits, api.Ip{9, 9, 9, 9}), api.OK)
		wantFind(t, r, ip, due)
		wantDrop(t, r, w.Net, w.Bits, api.OK)
		wantFind(t, r, ip, due)
	}
	if tried < 500 {
		t.Errorf("%d times alone there was a way of more Bits", tried)
	}
}

// model is the promises read plainly: a list.
type model []api.Way

func (m model) at(net api.Ip, bits int) int {
	return slices.IndexFunc(m, func(w api.Way) bool { return w.Net == net && w.Bits == bits })
}

func (m *model) add(w api.Way) api.Errno {
	if w.Bits < 0 || w.Bits > 32 || number(w.Net)%size(w.Bits) != 0 || !w.Via && number(w.Gate) != 0 {
		return api.ErrArg
	}
	if i := m.at(w.Net, w.Bits); i >= 0 {
		(*m)[i] = w
		return api.OK
	}
	if len(*m) == most {
		return api.ErrMany
	}
	*m = append(*m, w)
	return api.OK
}

func (m *model) drop(net api.Ip, bits int) api.Errno {
	i := m.at(net, bits)
	if i < 0 {
		return api.ErrNone
	}
	*m = slices.Delete(*m, i, i+1)
	return api.OK
}

func (m model) find(ip api.Ip) (api.Ip, api.Errno) {
	best := -1
	for i, w := range m {
		if holds(w, ip) && (best < 0 || w.Bits > m[best].Bits) {
			best = i
		}
	}
	if best < 0 {
		return api.Ip{}, api.ErrRouteNone
	}
	if m[best].Via {
		return m[best].Gate, api.OK
	}
	return ip, api.OK
}

// anyHow is a way of which much may not be.
func anyHow(r *rand.Rand) api.Way {
	w := anyWay(r)
	switch r.Intn(12) {
	case 0:
		w.Bits = r.Intn(80) - 24
	case 1:
		w.Net = anyIp(r)
	case 2:
		w.Gate = anyIp(r)
	case 3:
		w.Via = !w.Via
	}
	return w
}

func TestAgainstModel(t *testing.T) { // P10.1, P10.2: random calls
	rnd := rand.New(rand.NewSource(54))
	seen := map[string]int{}
	for range 100 {
		r, m := route.New(), model{}
		for range 200 {
			w := anyHow(rnd)
			if n := len(m); n > 0 && rnd.Intn(3) == 0 {
				w.Net, w.Bits = m[rnd.Intn(n)].Net, m[rnd.Intn(n)].Bits
			}
			if rnd.Intn(3) == 0 {
				due := m.drop(w.Net, w.Bits)
				seen[fmt.Sprint("drop ", due)]++
				wantDrop(t, r, w.Net, w.Bits, due)
			} else {
				due := m.add(w)
				seen[fmt.Sprint("add ", due)]++
				wantAdd(t, r, w, due)
			}
			wantAll(t, r, m...)
			for range 4 {
				ip := anyIp(rnd)
				due, err := m.find(ip)
				seen[fmt.Sprint("find ", err)]++
				if got, e := r.Find(ip); got != due || e != err {
					t.Fatalf("Find(%v) with %v: %v, error %d, not %v, error %d", ip, m, got, e, due, err)
				}
			}
		}
	}
	for _, what := range []string{"add 0", "add 1", "add 6", "drop 0", "drop 7", "find 0", "find 100"} {
		if seen[what] < 300 {
			t.Errorf("%d times alone: %s", seen[what], what)
		}
	}
}

func TestAllMemory(t *testing.T) { // R4: what was answered is nobody else's, spare room too
	for n := range most + 1 {
		r := made(t, eight()[:n]...)
		first, second := r.All(), r.All()
		first = first[:cap(first)]
		for i := range first {
			first[i] = near(api.Ip{1, 1, 1, 1}, 32)
		}
		if !slices.Equal(second, eight()[:n]) {
			t.Errorf("two answers of All share memory: %v", second)
		}
		wantAll(t, r, eight()[:n]...)
		second = append(second, near(api.Ip{2}, 8))
		if n < most {
			wantAdd(t, r, near(api.Ip{3}, 8), api.OK)
			wantAll(t, r, append(eight()[:n:n], near(api.Ip{3}, 8))...)
		}
		if second[n] != near(api.Ip{2}, 8) {
			t.Errorf("an Add writes into an answer of All: %v", second)
		}
	}
}

func TestTwoTables(t *testing.T) { // R5: no table hangs on another one
	first, second := made(t, eight()...), route.New()
	wantAll(t, second)
	wantAdd(t, second, far(api.Ip{10}, 8, api.Ip{7}), api.OK)
	wantDrop(t, first, api.Ip{10}, 8, api.OK)
	wantAll(t, second, far(api.Ip{10}, 8, api.Ip{7}))
	wantAll(t, first, eight()[1:]...)
	wantFind(t, second, api.Ip{10, 1, 2, 3}, api.Ip{7})
	wantFind(t, first, api.Ip{10, 1, 2, 3}, api.Ip{10, 0, 0, 6})
}

func TestTheSameCalls(t *testing.T) { // R5: the same calls, the same answers
	due := told(made(t, eight()...))
	for range 200 {
		if got := told(made(t, eight()...)); got != due {
			t.Fatalf("%s, and then %s", due, got)
		}
	}
}
