package word_test

import (
	"bytes"
	"math"
	"testing"

	"packhorse/api"
	"packhorse/word"
)

// plainSum works a sum out another way than the package: over one joined text, folded at every word.
func plainSum(parts ...[]byte) int {
	text := bytes.Join(parts, nil)
	if len(text)%2 == 1 {
		text = append(text, 0)
	}
	s := 0
	for i := 0; i < len(text); i += 2 {
		s += int(text[i])*256 + int(text[i+1])
		if s > 0xffff {
			s -= 0xffff
		}
	}
	return 0xffff - s
}

// bytesFrom is a text of n bytes that looks like noise and is the same at every run.
func bytesFrom(seed, n int) []byte {
	x := uint32(seed)*2654435761 + 12345
	b := make([]byte, n)
	for i := range b {
		x = x*1664525 + 1013904223
		b[i] = byte(x >> 24)
	}
	return b
}

func TestPut16(t *testing.T) { // P1.1
	for _, x := range []struct {
		b    string
		n    int
		want string
	}{
		{"", 0, "\x00\x00"},
		{"", 1, "\x00\x01"},
		{"", 0x1234, "\x12\x34"},
		{"", 0xff00, "\xff\x00"},
		{"", 0xffff, "\xff\xff"},
		{"", 0x10000, "\x00\x00"},
		{"", 70000, "\x11\x70"},
		{"", -1, "\xff\xff"},
		{"", -2, "\xff\xfe"},
		{"", -0x10000, "\x00\x00"},
		{"", -70000, "\xee\x90"},
		{"", math.MaxInt, "\xff\xff"},
		{"", math.MinInt, "\x00\x00"},
		{"\x09", 0x0102, "\x09\x01\x02"},
		{"\x09\x08\x07", -1, "\x09\x08\x07\xff\xff"},
		{"\x00\x00", 0x12345, "\x00\x00\x23\x45"},
	} {
		if got := word.Put16([]byte(x.b), x.n); string(got) != x.want {
			t.Errorf("Put16(%x, %d): %x, not %x", x.b, x.n, got, x.want)
		}
	}
}

func TestPut32(t *testing.T) { // P1.1
	for _, x := range []struct {
		b    string
		n    uint32
		want string
	}{
		{"", 0, "\x00\x00\x00\x00"},
		{"", 258, "\x00\x00\x01\x02"},
		{"", 0x12345678, "\x12\x34\x56\x78"},
		{"", 0x80000000, "\x80\x00\x00\x00"},
		{"", math.MaxUint32, "\xff\xff\xff\xff"},
		{"\x09", 258, "\x09\x00\x00\x01\x02"},
		{"\x01\x02\x03", 0xa0b0c0d0, "\x01\x02\x03\xa0\xb0\xc0\xd0"},
	} {
		if got := word.Put32([]byte(x.b), x.n); string(got) != x.want {
			t.Errorf("Put32(%x, %x): %x, not %x", x.b, x.n, got, x.want)
		}
	}
}

func TestPutBehindNil(t *testing.T) { // P1.1, R2
	if got := word.Put16(nil, 0x0203); string(got) != "\x02\x03" {
		t.Errorf("Put16(nil): %x", got)
	}
	if got := word.Put32(nil, 0x02030405); string(got) != "\x02\x03\x04\x05" {
		t.Errorf("Put32(nil): %x", got)
	}
}

// puts are both calls with one shape, for what holds of each.
func puts() map[string]func(b []byte) []byte {
	return map[string]func(b []byte) []byte{
		"Put16": func(b []byte) []byte { return word.Put16(b, 0x0102) },
		"Put32": func(b []byte) []byte { return word.Put32(b, 0x01020304) },
	}
}

func TestPutAnswersNewMemory(t *testing.T) { // P1.1, R4
	for name, put := range puts() {
		for _, size := range []int{0, 1, 3, 8} {
			room := bytes.Repeat([]byte{0xaa}, 16)
			whole := bytes.Clone(room)
			first, second := put(room[:size]), put(room[:size])
			if !bytes.Equal(room, whole) {
				t.Errorf("%s behind %d bytes changed what it was given, or the room behind it: %x", name, size, room)
			}
			want := bytes.Clone(second)
			fill(first, 0x55)
			if !bytes.Equal(room, whole) {
				t.Errorf("%s behind %d bytes: the answer shares memory with the argument", name, size)
			}
			if !bytes.Equal(second, want) {
				t.Errorf("%s behind %d bytes: two answers share memory", name, size)
			}
			fill(room, 0x77)
			if !bytes.Equal(second, want) {
				t.Errorf("%s behind %d bytes: the argument reaches into the answer", name, size)
			}
		}
	}
}

// fill writes over b and the spare room behind it.
func fill(b []byte, with byte) {
	b = b[:cap(b)]
	for i := range b {
		b[i] = with
	}
}

func TestAt16(t *testing.T) { // P1.1
	for _, x := range []struct {
		b    string
		at   int
		want int
		err  api.Errno
	}{
		{"\x01\x02\x03", 0, 0x102, api.OK},
		{"\x01\x02\x03", 1, 0x203, api.OK},
		{"\x01\x02\x03", 2, 0, api.ErrShort},
		{"\x01\x02\x03", 3, 0, api.ErrShort},
		{"\x01\x02\x03", 4, 0, api.ErrShort},
		{"\x01\x02\x03", -1, 0, api.ErrShort},
		{"\x01\x02\x03", -2, 0, api.ErrShort},
		{"\x01\x02\x03", math.MaxInt, 0, api.ErrShort},
		{"\x01\x02\x03", math.MaxInt - 1, 0, api.ErrShort},
		{"\x01\x02\x03", math.MinInt, 0, api.ErrShort},
		{"\xff\xfe", 0, 0xfffe, api.OK},
		{"\xff\xff", 0, 0xffff, api.OK},
		{"\x80\x00", 0, 0x8000, api.OK},
		{"\x07", 0, 0, api.ErrShort},
		{"", 0, 0, api.ErrShort},
		{"", -1, 0, api.ErrShort},
		{"", -2, 0, api.ErrShort},
	} {
		if got, err := word.At16([]byte(x.b), x.at); got != x.want || err != x.err {
			t.Errorf("At16(%x, %d): %x, %d, not %x, %d", x.b, x.at, got, err, x.want, x.err)
		}
	}
}

func TestAt32(t *testing.T) { // P1.1
	for _, x := range []struct {
		b    string
		at   int
		want uint32
		err  api.Errno
	}{
		{"\x01\x02\x03\x04\x05", 0, 0x01020304, api.OK},
		{"\x01\x02\x03\x04\x05", 1, 0x02030405, api.OK},
		{"\x01\x02\x03\x04\x05", 2, 0, api.ErrShort},
		{"\x01\x02\x03\x04\x05", 3, 0, api.ErrShort},
		{"\x01\x02\x03\x04\x05", 4, 0, api.ErrShort},
		{"\x01\x02\x03\x04\x05", 5, 0, api.ErrShort},
		{"\x01\x02\x03\x04\x05", -1, 0, api.ErrShort},
		{"\x01\x02\x03\x04\x05", math.MaxInt, 0, api.ErrShort},
		{"\x01\x02\x03\x04\x05", math.MaxInt - 3, 0, api.ErrShort},
		{"\x01\x02\x03\x04\x05", math.MinInt, 0, api.ErrShort},
		{"\xff\xff\xff\xff", 0, math.MaxUint32, api.OK},
		{"\x80\x00\x00\x00", 0, 0x80000000, api.OK},
		{"\x01\x02\x03", 0, 0, api.ErrShort},
		{"", 0, 0, api.ErrShort},
		{"", -4, 0, api.ErrShort},
	} {
		if got, err := word.At32([]byte(x.b), x.at); got != x.want || err != x.err {
			t.Errorf("At32(%x, %d): %x, %d, not %x, %d", x.b, x.at, got, err, x.want, x.err)
		}
	}
}

func TestAtStopsAtTheEnd(t *testing.T) { // P1.1: the room behind the end is no part of b
	room := []byte{1, 2, 3, 4, 5, 6, 7, 8}
	if n, err := word.At16(room[:3], 2); n != 0 || err != api.ErrShort {
		t.Errorf("At16 reads behind the end: %x, %d", n, err)
	}
	if n, err := word.At32(room[:5], 2); n != 0 || err != api.ErrShort {
		t.Errorf("At32 reads behind the end: %x, %d", n, err)
	}
}

func TestAtReadsWhatPutLaid(t *testing.T) { // P1.1
	head := []byte{9, 9, 9}
	for n := 0; n <= 0xffff; n++ {
		if got, err := word.At16(word.Put16(head, n), len(head)); got != n || err != api.OK {
			t.Fatalf("At16 of Put16(%x): %x, %d", n, got, err)
		}
		wide := uint32(n) * 65537
		if got, err := word.At32(word.Put32(head, wide), len(head)); got != wide || err != api.OK {
			t.Fatalf("At32 of Put32(%x): %x, %d", wide, got, err)
		}
	}
}

func TestSum(t *testing.T) { // P1.2
	for _, x := range []struct {
		parts []string
		want  int
	}{
		{nil, 0xffff},
		{[]string{""}, 0xffff},
		{[]string{"", "", ""}, 0xffff},
		{[]string{"\x00"}, 0xffff},
		{[]string{"\x00\x00"}, 0xffff},
		{[]string{"\x00\x01"}, 0xfffe},
		{[]string{"\x01\x00"}, 0xfeff},
		{[]string{"\xff\xff"}, 0},
		{[]string{"\x01"}, 0xfeff},
		{[]string{"\x01\x02\x03"}, 0xffff - 0x102 - 0x300},
		{[]string{"\x45\x00\x00\x1c"}, 0xbae3},
		{[]string{"\x45", "\x00\x00\x1c"}, 0xbae3},
		{[]string{"\x45\x00", "\x00\x1c"}, 0xbae3},
		{[]string{"\x45", "\x00", "\x00", "\x1c"}, 0xbae3},
		{[]string{"\x45\x00\x00", "", "\x1c"}, 0xbae3},
		{[]string{"", "\x45", "", "\x00\x00", "\x1c", ""}, 0xbae3},
		{[]string{"\x01\x02", "\x03"}, 0xffff - 0x102 - 0x300},
		{[]string{"\x01", "\x02", "\x03"}, 0xffff - 0x102 - 0x300},
		{[]string{"\x01", "\x02\x03"}, 0xffff - 0x102 - 0x300},
		{[]string{"\x01\x02\x03", "\x04\x05"}, 0xffff - 0x102 - 0x304 - 0x500},
		{[]string{"\xff\xff\x00\x01"}, 0xfffe},         // 10000
		{[]string{"\xff\xff\xff\xff"}, 0},              // 1fffe
		{[]string{"\xff\xff\xff\xff\x00\x01"}, 0xfffe}, // 1ffff: folded, it has more than 16 bits still
		{[]string{"\x80\x00\x80\x00"}, 0xfffe},
		{[]string{"\xf0\x00\xf0\x00\xf0\x00"}, 0xffff - 0xd002},
	} {
		var parts [][]byte
		for _, p := range x.parts {
			parts = append(parts, []byte(p))
		}
		if got := word.Sum(parts...); got != x.want {
			t.Errorf("Sum(%x): %x, not %x", x.parts, got, x.want)
		}
	}
}

func TestSumOfNilParts(t *testing.T) { // P1.2, R2
	if got := word.Sum(nil); got != 0xffff {
		t.Errorf("Sum(nil): %x", got)
	}
	if got := word.Sum([]byte{1}, nil, []byte{2}); got != 0xffff-0x102 {
		t.Errorf("Sum(01, nil, 02): %x", got)
	}
}

func TestSumOfEveryCut(t *testing.T) { // P1.2: the parts stand one behind the other
	for n := range 24 {
		text := bytesFrom(n, n)
		want := plainSum(text)
		if got := word.Sum(text); got != want {
			t.Fatalf("Sum(%x): %x, not %x", text, got, want)
		}
		for i := 0; i <= n; i++ {
			for j := i; j <= n; j++ {
				if got := word.Sum(text[:i], text[i:j], text[j:]); got != want {
					t.Fatalf("Sum(%x, %x, %x): %x, not %x", text[:i], text[i:j], text[j:], got, want)
				}
			}
		}
	}
}

func TestSumOfMuch(t *testing.T) { // P1.2: words whose sum has more than 16 and more than 32 bits
	for _, n := range []int{1000, 4097, 1 << 16, 1<<19 + 1} {
		ones := bytes.Repeat([]byte{0xff}, n)
		if got, want := word.Sum(ones), plainSum(ones); got != want {
			t.Errorf("Sum of %d bytes ff: %x, not %x", n, got, want)
		}
		noise := bytesFrom(n, n)
		if got, want := word.Sum(noise, ones, noise), plainSum(noise, ones, noise); got != want {
			t.Errorf("Sum of three parts of %d bytes: %x, not %x", n, got, want)
		}
	}
}

func TestSumLeavesItsParts(t *testing.T) { // R4
	room := bytesFrom(5, 64)
	whole := bytes.Clone(room)
	parts := [][]byte{room[:7], room[7:20], room[20:31]}
	first, second := word.Sum(parts...), word.Sum(parts...)
	if !bytes.Equal(room, whole) {
		t.Errorf("Sum changed its parts: %x", room)
	}
	if len(parts[0]) != 7 || len(parts[1]) != 13 || len(parts[2]) != 11 || &parts[1][0] != &room[7] {
		t.Errorf("Sum changed the list of its parts")
	}
	if first != second {
		t.Errorf("Sum of the same parts: %x, then %x", first, second)
	}
}

func TestPatch(t *testing.T) { // P1.3
	for _, x := range []struct{ sum, old, next, want int }{
		{0xfffe, 1, 2, 0xfffd},
		{0xfffe, 1, 1, 0xfffe},
		{0xfffd, 2, 1, 0xfffe},
		{0xffff, 0xffff, 0, 0xffff},     // s is 0
		{0xffff, 0, 0, 0},               // s is ffff
		{0xffff, 0, 1, 0xfffe},          // s is 10000
		{0, 0, 0, 0},                    // s is 1fffe
		{0, 0, 1, 0xfffe},               // s is 1ffff: folded, it has more than 16 bits still
		{0, 0, 0xffff, 0},               // s is 2fffd
		{0, 0xffff, 0, 0},               // s is ffff
		{0xbae3, 0x1c, 0x1d, 0xbae2},    // a length one greater
		{0x1bae3, 0x1c, 0x1d, 0xbae2},   // only the lowest 16 bits count
		{0xbae3, 0x5001c, 0x1d, 0xbae2}, //
		{0xbae3, 0x1c, 0x7001d, 0xbae2}, //
		{-2, 1, 2, 0xfffd},              // fffe
		{0xfffe, -0xffff, 2, 0xfffd},    // 1
		{0xfffe, 1, -0xfffe, 0xfffd},    // 2
		{-1, -1, -0x10000, 0xffff},      // ffff, ffff, 0
		{math.MinInt, math.MinInt, 1, 0xfffe},
		{math.MaxInt, math.MaxInt, math.MinInt, 0xffff},
		{math.MinInt, math.MinInt, math.MaxInt, 0},
	} {
		if got := word.Patch(x.sum, x.old, x.next); got != x.want {
			t.Errorf("Patch(%x, %x, %x): %x, not %x", x.sum, x.old, x.next, got, x.want)
		}
	}
}

// edgeWords are the words at which carries come and go.
func edgeWords() []int {
	return []int{0, 1, 2, 0xff, 0x100, 0x7fff, 0x8000, 0x8001, 0xff00, 0xfffe, 0xffff}
}

func TestPatchTakesTheLowest16Bits(t *testing.T) { // P1.3
	far := []int{0, 0x10000, -0x10000, 0x7fff0000, -0x80000000}
	for _, sum := range edgeWords() {
		for _, old := range edgeWords() {
			for _, next := range edgeWords() {
				s := 0xffff - sum + 0xffff - old + next
				for s > 0xffff {
					s = s/0x10000 + s%0x10000
				}
				for _, f := range far {
					if got := word.Patch(sum+f, old-f, next+2*f); got != 0xffff-s {
						t.Fatalf("Patch(%x, %x, %x): %x, not %x", sum+f, old-f, next+2*f, got, 0xffff-s)
					}
				}
			}
		}
	}
}

func TestSumWithItsSumIsZero(t *testing.T) { // P1.4
	for n := 0; n <= 300; n += 2 {
		text := bytesFrom(n, n)
		if got := word.Sum(word.Put16(text, word.Sum(text))); got != 0 {
			t.Errorf("Sum of %d bytes with their Sum: %x", n, got)
		}
		if got := word.Sum(text, word.Put16(nil, word.Sum(text))); got != 0 {
			t.Errorf("Sum of %d bytes with their Sum as a part: %x", n, got)
		}
	}
	for w := 0; w <= 0xffff; w++ {
		text := word.Put16(nil, w)
		if got := word.Sum(word.Put16(text, word.Sum(text))); got != 0 {
			t.Fatalf("Sum of the word %x with its Sum: %x", w, got)
		}
	}
}

func TestSumInAnyOrder(t *testing.T) { // P1.4
	text := bytesFrom(3, 32)
	want := word.Sum(text)
	for i := 0; i < len(text); i += 2 {
		turned := word.Sum(text[i:], text[:i])
		if turned != want {
			t.Errorf("from the word at %d on: %x, not %x", i, turned, want)
		}
		for j := i + 2; j < len(text); j += 2 {
			other := bytes.Clone(text)
			copy(other[i:], text[j:j+2])
			copy(other[j:], text[i:i+2])
			if got := word.Sum(other); got != want {
				t.Errorf("words at %d and %d in each other's place: %x, not %x", i, j, got, want)
			}
		}
	}
	if word.Sum([]byte{1, 2}) == word.Sum([]byte{2, 1}) {
		t.Errorf("bytes in another order within a word have the same Sum")
	}
}

func TestSumWithOneBitTurned(t *testing.T) { // P1.4
	texts := [][]byte{{0}, {0, 0}, {0xff, 0xff}, {0, 0, 0xff, 0xff}, bytes.Repeat([]byte{0xff}, 40), make([]byte, 40)}
	for n := 1; n < 60; n++ {
		texts = append(texts, bytesFrom(n, n))
	}
	for _, text := range texts {
		was := word.Sum(text)
		for bit := range 8 * len(text) {
			other := bytes.Clone(text)
			other[bit/8] ^= 1 << (bit % 8)
			if word.Sum(other) == was {
				t.Errorf("%x with bit %d turned has the Sum %x still", text, bit, was)
			}
		}
	}
}

// sameSum holds two sums against each other where 0 and ffff stand for one another.
func sameSum(a, b int) bool {
	return a == b || a == 0 && b == 0xffff || a == 0xffff && b == 0
}

func TestPatchIsTheSum(t *testing.T) { // P1.5
	differ := 0
	for n := 2; n <= 12; n += 2 {
		for _, text := range [][]byte{bytesFrom(n, n), make([]byte, n), bytes.Repeat([]byte{0xff}, n)} {
			for at := 0; at < n; at += 2 {
				for _, old := range edgeWords() {
					for _, next := range edgeWords() {
						before := bytes.Join([][]byte{text[:at], word.Put16(nil, old), text[at+2:]}, nil)
						after := bytes.Join([][]byte{text[:at], word.Put16(nil, next), text[at+2:]}, nil)
						got, want := word.Patch(word.Sum(before), old, next), word.Sum(after)
						if !sameSum(got, want) {
							t.Fatalf("%x becomes %x: Patch %x, Sum %x", before, after, got, want)
						}
						if got != want {
							differ++
						}
					}
				}
			}
		}
	}
	if differ == 0 {
		t.Errorf("no text was tried where 0 and ffff stand for one another")
	}
}

func TestPatchOfEveryWord(t *testing.T) { // P1.5
	for w := 0; w <= 0xffff; w++ {
		before := []byte{0x45, 0x00, byte(w >> 8), byte(w), 0x11, 0x22}
		next := (w*40503 + 977) & 0xffff
		after := []byte{0x45, 0x00, byte(next >> 8), byte(next), 0x11, 0x22}
		if got, want := word.Patch(word.Sum(before), w, next), word.Sum(after); got != want {
			t.Fatalf("%x becomes %x: Patch %x, Sum %x", w, next, got, want)
		}
	}
}

func TestWhereZeroAndAllOnesDiffer(t *testing.T) { // P1.5: a text that becomes all 0
	for _, old := range []int{1, 0x1234, 0xffff} {
		sum := word.Sum(word.Put16(nil, old))
		if got := word.Patch(sum, old, 0); got != 0 {
			t.Errorf("Patch(%x, %x, 0): %x, not 0", sum, old, got)
		}
	}
	if got := word.Sum([]byte{0, 0}); got != 0xffff {
		t.Errorf("Sum(00 00): %x", got)
	}
}

func TestExamples(t *testing.T) { // the chapter's table
	if b := word.Put16(nil, 70000); string(b) != "\x11\x70" {
		t.Errorf("Put16(nothing, 70000): %x", b)
	}
	if b := word.Put32(nil, 258); string(b) != "\x00\x00\x01\x02" {
		t.Errorf("Put32(nothing, 258): %x", b)
	}
	sums := []int{word.Sum(), word.Sum([]byte{0, 1}), word.Sum([]byte{0xff, 0xff}), word.Sum([]byte{1}), word.Sum([]byte{0x45, 0, 0, 0x1c}), word.Sum([]byte{0x45}, []byte{0, 0, 0x1c})}
	for i, want := range []int{0xffff, 0xfffe, 0, 0xfeff, 0xbae3, 0xbae3} {
		if sums[i] != want {
			t.Errorf("Sum, example %d: %x, not %x", i, sums[i], want)
		}
	}
	if n := word.Patch(0xfffe, 1, 2); n != 0xfffd {
		t.Errorf("Patch(fffe, 1, 2): %x", n)
	}
	if n, err := word.At16([]byte{1, 2, 3}, 1); n != 0x203 || err != api.OK {
		t.Errorf("At16(01 02 03, 1): %x, %d", n, err)
	}
	if n, err := word.At16([]byte{1, 2, 3}, 2); n != 0 || err != api.ErrShort {
		t.Errorf("At16(01 02 03, 2): %x, %d", n, err)
	}
}
