package crc_test

import (
	"bytes"
	"encoding/binary"
	"hash/crc32"
	"math"
	"math/rand"
	"slices"
	"strings"
	"testing"

	"tantalus/crc"
)

// The signatures, as the chapter lists them.
var (
	_ func(...[]byte) uint32      = crc.Sum
	_ func(uint32, []byte) uint32 = crc.More
	_ func(uint32) uint32         = crc.Mask
	_ func(uint32) uint32         = crc.Unmask
)

// told is More by the chapter's words, bit behind bit: what the program is held against.
func told(sum uint32, b ...byte) uint32 {
	x := math.MaxUint32 - sum
	for _, c := range b {
		x = x/256*256 + (x%256 ^ uint32(c))
		for range 8 {
			if x%2 == 1 {
				x = x/2 ^ 2197175160
			} else {
				x = x / 2
			}
		}
	}
	return math.MaxUint32 - x
}

// numbers are the edges of 32 bits, each bit alone, and some that are drawn.
func numbers() []uint32 {
	l := []uint32{0, 1, 2, 300, 2726488791, 2726488792, 2726488793, 2197175160, math.MaxUint32 - 1, math.MaxUint32}
	for bit := range 32 {
		n := uint32(1) << bit
		l = append(l, n-1, n, n+1, ^n)
	}
	draw := rand.New(rand.NewSource(1))
	for range 1000 {
		l = append(l, draw.Uint32())
	}
	return l
}

// drawn are so many bytes, drawn from a seed that is written down, so that each run draws the same.
func drawn(draw *rand.Rand, many int) []byte {
	b := make([]byte, many)
	draw.Read(b)
	return b
}

// texts are bytes of many lengths: none, few, many, all alike, of every value.
func texts() [][]byte {
	draw := rand.New(rand.NewSource(2))
	all := make([]byte, 256)
	for i := range all {
		all[i] = byte(i)
	}
	l := [][]byte{nil, {}, {0}, {255}, []byte("a"), []byte("123456789"), all,
		make([]byte, 32), bytes.Repeat([]byte{255}, 32), make([]byte, 1000), []byte(strings.Repeat("tantalus", 999))}
	for many := range 70 {
		l = append(l, drawn(draw, many))
	}
	return append(l, drawn(draw, 1<<16+1))
}

// P2.1

func TestExamplesOfSums(t *testing.T) {
	for _, x := range []struct {
		b    string
		want uint32
	}{
		{"", 0}, {"123456789", 3808858755}, {"\x00", 1383945041}, {strings.Repeat("\x00", 32), 0x8a9136aa},
		{strings.Repeat("\xff", 32), 0x62a8ab43}, {"a", 0xc1d04330},
	} {
		if n := crc.Sum([]byte(x.b)); n != x.want {
			t.Errorf("Sum of %q: %d, want %d", x.b, n, x.want)
		}
		if n := crc.More(0, []byte(x.b)); n != x.want {
			t.Errorf("More of 0 and %q: %d, want %d", x.b, n, x.want)
		}
	}
}

func TestSumOfNothing(t *testing.T) {
	var none [][]byte
	for name, n := range map[string]uint32{
		"no list":       crc.Sum(),
		"nil of lists":  crc.Sum(none...),
		"none of lists": crc.Sum([][]byte{}...),
		"nil":           crc.Sum(nil),
		"empty":         crc.Sum([]byte{}),
		"several":       crc.Sum(nil, []byte{}, nil, []byte{}),
	} {
		if n != 0 {
			t.Errorf("%s: %d", name, n)
		}
	}
}

func TestMoreOfNothing(t *testing.T) {
	for _, sum := range numbers() {
		if crc.More(sum, nil) != sum || crc.More(sum, []byte{}) != sum {
			t.Errorf("%d: %d, %d", sum, crc.More(sum, nil), crc.More(sum, []byte{}))
		}
	}
}

func TestMoreOfOneByte(t *testing.T) {
	for _, sum := range numbers() {
		for c := range 256 {
			if n := crc.More(sum, []byte{byte(c)}); n != told(sum, byte(c)) {
				t.Fatalf("%d and %d: %d, want %d", sum, c, n, told(sum, byte(c)))
			}
		}
	}
}

func TestMoreOfManyBytes(t *testing.T) {
	starts := []uint32{0, 1, 1 << 31, math.MaxUint32, 3808858755}
	for _, b := range texts() {
		for _, sum := range starts {
			n := crc.More(sum, b)
			if n != told(sum, b...) {
				t.Errorf("%d and %d bytes: %d, want %d", sum, len(b), n, told(sum, b...))
			}
			if known := crc32.Update(sum, crc32.MakeTable(crc32.Castagnoli), b); n != known {
				t.Errorf("%d and %d bytes: %d, the library says %d", sum, len(b), n, known)
			}
		}
	}
}

func TestSumIsMoreOfEachList(t *testing.T) {
	draw := rand.New(rand.NewSource(3))
	for range 300 {
		var l [][]byte
		var want uint32
		for range draw.Intn(9) {
			b := drawn(draw, draw.Intn(5))
			l = append(l, b)
			want = told(want, b...)
		}
		if n := crc.Sum(l...); n != want {
			t.Fatalf("%x: %d, want %d", l, n, want)
		}
	}
}

func TestTheOrderOfListsCounts(t *testing.T) {
	if crc.Sum([]byte("a"), []byte("b")) == crc.Sum([]byte("b"), []byte("a")) {
		t.Error("lists in another order have one sum")
	}
	if crc.Sum([]byte("a"), []byte("b")) != told(0, 'a', 'b') {
		t.Error("the lists are not taken in their order")
	}
}

// Rules 3, 4 and 6 of all layers.

func TestWhatIsHandedInStays(t *testing.T) {
	room := []byte("abcdefghij")
	l := [][]byte{room[:2], nil, room[4:6]}
	crc.Sum(l...)
	crc.More(7, room[:3])
	if string(room) != "abcdefghij" {
		t.Errorf("the bytes were changed: %q", room)
	}
	if len(l) != 3 || string(l[0]) != "ab" || l[1] != nil || string(l[2]) != "ef" {
		t.Errorf("the lists were changed: %q", l)
	}
}

func TestWhatIsBehindAListIsNotRead(t *testing.T) {
	one, two := []byte("abcde"), []byte("abxyz")
	if crc.Sum(one[:2]) != crc.Sum(two[:2]) || crc.More(5, one[:2]) != crc.More(5, two[:2]) {
		t.Error("bytes behind a list")
	}
	if crc.Sum(one[:0]) != 0 || crc.More(5, one[:0]) != 5 {
		t.Error("bytes behind an empty list")
	}
	lists := [][]byte{one, two, one}
	if crc.Sum(lists[:1]...) != crc.Sum(one) || crc.Sum(lists[:0]...) != 0 {
		t.Error("lists behind the lists")
	}
}

func TestTheSameCallsAnswerTheSame(t *testing.T) {
	for _, b := range texts() {
		first := crc.Sum(b)
		crc.More(9, []byte("something between"))
		crc.Mask(first)
		if crc.Sum(b) != first {
			t.Errorf("%d bytes have two sums", len(b))
		}
	}
}

// P2.2

// toldMask is Mask by the chapter's words, bit for bit.
func toldMask(sum uint32) uint32 {
	var moved uint64
	for bit := range 32 {
		to := bit - 15
		if bit < 15 {
			to = bit + 17
		}
		moved += uint64(sum>>bit&1) << to
	}
	return uint32((moved + 2726488792) % (1 << 32))
}

func TestExamplesOfMasks(t *testing.T) {
	for _, x := range []struct{ sum, mask uint32 }{
		{0, 2726488792}, {1, 2726619864}, {1 << 14, 579005144},
		{1 << 15, 2726488793}, {1 << 31, 2726554328}, {math.MaxUint32, 2726488791},
	} {
		if n := crc.Mask(x.sum); n != x.mask {
			t.Errorf("Mask of %d: %d, want %d", x.sum, n, x.mask)
		}
		if n := crc.Unmask(x.mask); n != x.sum {
			t.Errorf("Unmask of %d: %d, want %d", x.mask, n, x.sum)
		}
	}
}

func TestMask(t *testing.T) {
	for _, n := range numbers() {
		if crc.Mask(n) != toldMask(n) {
			t.Errorf("%d: %d, want %d", n, crc.Mask(n), toldMask(n))
		}
	}
}

func TestMasksThereAndBack(t *testing.T) {
	for _, n := range numbers() {
		if back := crc.Unmask(crc.Mask(n)); back != n {
			t.Errorf("%d comes back as %d", n, back)
		}
		if there := crc.Mask(crc.Unmask(n)); there != n {
			t.Errorf("the mask %d comes back as %d", n, there)
		}
		if toldMask(crc.Unmask(n)) != n {
			t.Errorf("%d is no mask of %d", n, crc.Unmask(n))
		}
	}
}

// P2.3

// parted is b in parts, one ending behind each byte whose bit of cuts is 1.
func parted(b []byte, cuts int) [][]byte {
	var l [][]byte
	from := 0
	for i := range b {
		if cuts>>i&1 == 1 {
			l = append(l, b[from:i+1])
			from = i + 1
		}
	}
	return append(l, b[from:])
}

// more is More of each part, in order.
func more(sum uint32, l [][]byte) uint32 {
	for _, b := range l {
		sum = crc.More(sum, b)
	}
	return sum
}

func TestPartsHaveTheSumOfTheWhole(t *testing.T) {
	b := []byte("123456789")
	for cuts := range 1 << len(b) {
		l := parted(b, cuts)
		if n := crc.Sum(l...); n != 3808858755 {
			t.Fatalf("%q: %d", l, n)
		}
		if n := more(0, l); n != 3808858755 {
			t.Fatalf("More of %q: %d", l, n)
		}
		for i := range len(l) + 1 {
			if n := crc.Sum(slices.Insert(slices.Clone(l), i, nil, []byte{})...); n != 3808858755 {
				t.Fatalf("%q with nothing at %d: %d", l, i, n)
			}
		}
	}
}

func TestPartsOfLongBytes(t *testing.T) {
	draw := rand.New(rand.NewSource(4))
	for range 200 {
		b, sum := drawn(draw, draw.Intn(3000)), draw.Uint32()
		at := draw.Intn(len(b) + 1)
		if crc.Sum(b[:at], b[at:]) != crc.Sum(b) {
			t.Fatalf("%d bytes, parted at %d", len(b), at)
		}
		if crc.More(crc.More(sum, b[:at]), b[at:]) != crc.More(sum, b) {
			t.Fatalf("%d bytes behind %d, parted at %d", len(b), sum, at)
		}
		ones := slices.Collect(slices.Chunk(b, 1))
		if crc.Sum(ones...) != crc.Sum(b) {
			t.Fatalf("%d bytes, one by one", len(b))
		}
	}
}

// wantOthers fails if b has the sum that it has with another byte at that place.
func wantOthers(t *testing.T, b []byte, at int) {
	t.Helper()
	sum, other := crc.Sum(b), slices.Clone(b)
	for c := range 256 {
		other[at] = byte(c)
		if like := crc.Sum(other) == sum; like != (b[at] == byte(c)) {
			t.Fatalf("%d bytes, %d at %d instead of %d: alike is %t", len(b), c, at, b[at], like)
		}
	}
}

func TestOneByteThatIsAnother(t *testing.T) {
	for _, b := range []string{"\x00", "a", "\xff", "123456789", strings.Repeat("\x00", 20), strings.Repeat("\xff", 20)} {
		for at := range b {
			wantOthers(t, []byte(b), at)
		}
	}
	draw := rand.New(rand.NewSource(5))
	for range 100 {
		b := drawn(draw, 1+draw.Intn(500))
		wantOthers(t, b, 0)
		wantOthers(t, b, draw.Intn(len(b)))
		wantOthers(t, b, len(b)-1)
	}
}

// P2.4

// twin is b with the divisor put to it by exclusive or at that bit: bytes of one length and one sum.
func twin(b []byte, bit int) []byte {
	other := slices.Clone(b)
	pattern := binary.LittleEndian.AppendUint64(nil, (2197175160<<1|1)<<(bit%8))
	for i, c := range pattern[:5] {
		other[bit/8+i] ^= c
	}
	return other
}

// wantLike fails if one and two do not have like sums, or unlike ones, as told, with each byte behind both.
func wantLike(t *testing.T, one, two []byte, like bool) {
	t.Helper()
	if (crc.Sum(one) == crc.Sum(two)) != like {
		t.Fatalf("%x and %x: %d and %d, alike should be %t", one, two, crc.Sum(one), crc.Sum(two), like)
	}
	for c := range 256 {
		a, b := append(slices.Clone(one), byte(c)), append(slices.Clone(two), byte(c))
		if (crc.Sum(a) == crc.Sum(b)) != like {
			t.Fatalf("%x and %x: %d and %d, alike should be %t", a, b, crc.Sum(a), crc.Sum(b), like)
		}
	}
}

func TestLikeSumsStayAlike(t *testing.T) {
	draw := rand.New(rand.NewSource(6))
	for range 100 {
		b := drawn(draw, 5+draw.Intn(40))
		wantLike(t, b, twin(b, draw.Intn(8*len(b)-32)), true)
	}
	for bit := range 8 {
		wantLike(t, make([]byte, 5), twin(make([]byte, 5), bit), true)
	}
	wantLike(t, nil, []byte{}, true)
	wantLike(t, []byte("a"), []byte("a"), true)
}

func TestUnlikeSumsStayUnlike(t *testing.T) {
	draw := rand.New(rand.NewSource(7))
	for range 300 {
		many := 1 + draw.Intn(40)
		one, two := drawn(draw, many), drawn(draw, many)
		wantLike(t, one, two, bytes.Equal(one, two))
	}
	for c := range 255 {
		wantLike(t, []byte{byte(c)}, []byte{byte(c + 1)}, false)
	}
}

func TestAByteBehindSumsIsOneToOne(t *testing.T) {
	l := numbers()
	slices.Sort(l)
	l = slices.Compact(l)
	for _, c := range []byte{0, 1, 127, 128, 255} {
		met := map[uint32]uint32{}
		for _, sum := range l {
			n := crc.More(sum, []byte{c})
			if other, is := met[n]; is {
				t.Fatalf("%d and %d come to %d by a byte %d", other, sum, n, c)
			}
			met[n] = sum
		}
	}
}
