package bloom_test

import (
	"bytes"
	"fmt"
	"hash/crc32"
	"math"
	"math/big"
	"math/rand"
	"slices"
	"strconv"
	"strings"
	"testing"

	"tantalus/bloom"
)

// The signatures, as the chapter lists them.
var (
	_ func([]string, int) []byte = bloom.Make
	_ func([]byte, string) bool  = bloom.May
)

// toldPlaces are the places of a key by the chapter's words, with numbers that don't go round by themselves.
func toldPlaces(key string, m, k int64) []int64 {
	h := int64(crc32.Checksum([]byte(key), crc32.MakeTable(crc32.Castagnoli)))
	d := h/(1<<17) + h%(1<<17)*(1<<15)
	var l []int64
	for i := range k {
		l = append(l, (h+i*d)%(1<<32)%m)
	}
	return l
}

// toldProbes is k by the chapter's words.
func toldProbes(bits int) int64 {
	k := new(big.Rat).SetFrac64(69*toldBits(bits), 100)
	n := new(big.Int).Quo(k.Num(), k.Denom()).Int64()
	switch {
	case n < 1:
		return 1
	case n > 30:
		return 30
	}
	return n
}

// toldBits is b by the chapter's words.
func toldBits(bits int) int64 {
	switch {
	case bits < 1:
		return 1
	case bits > 64:
		return 64
	}
	return int64(bits)
}

// toldMany is m by the chapter's words.
func toldMany(keys, bits int) int64 {
	m := int64(keys) * toldBits(bits)
	if m < 64 {
		m = 64
	}
	for m%8 != 0 {
		m++
	}
	return m
}

// toldMake is Make by the chapter's words.
func toldMake(l []string, bits int) []byte {
	k, m := toldProbes(bits), toldMany(len(l), bits)
	in := map[int64]bool{}
	for _, key := range l {
		for _, p := range toldPlaces(key, m, k) {
			in[p] = true
		}
	}
	var f []byte
	for at := int64(0); at < m; at += 8 {
		sum := 0
		for i, worth := range []int{1, 2, 4, 8, 16, 32, 64, 128} {
			if in[at+int64(i)] {
				sum += worth
			}
		}
		f = append(f, byte(sum))
	}
	return append(f, byte(k))
}

// toldMay is May by the chapter's words.
func toldMay(f []byte, key string) bool {
	if len(f) < 2 {
		return true
	}
	k := f[len(f)-1]
	if k == 0 || k > 30 {
		return true
	}
	for _, p := range toldPlaces(key, 8*int64(len(f)-1), int64(k)) {
		if f[p/8]/(1<<(p%8))%2 == 0 {
			return false
		}
	}
	return true
}

// brief is a text as it is told in a fault: long ones are cut.
func brief(s string) string {
	if len(s) > 60 {
		return fmt.Sprintf("%q.. (%d bytes)", s[:60], len(s))
	}
	return fmt.Sprintf("%q", s)
}

// keysTold are keys as they are told in a fault.
func keysTold(l []string) string {
	var s []string
	for _, key := range l[:min(len(l), 12)] {
		s = append(s, brief(key))
	}
	if len(l) > 12 {
		s = append(s, ".. "+strconv.Itoa(len(l))+" keys")
	}
	return "[" + strings.Join(s, " ") + "]"
}

// told is a filter as it is told in a fault.
func told(f []byte) string {
	if len(f) > 40 {
		return fmt.Sprintf("%d.. (%d bytes, the last one %d)", f[:40], len(f), f[len(f)-1])
	}
	return fmt.Sprint(f)
}

// allBits are numbers of bits of all sorts: too few, few, as many as may be, too many.
func allBits() []int {
	l := []int{math.MinInt, math.MinInt + 1, math.MinInt32, -1 << 20, -64, -10, -2, -1, 100, 127, 128, 255, 256, 257, 1 << 20, math.MaxInt32, 1 << 32, 1<<32 + 10, 1 << 40, math.MaxInt - 1, math.MaxInt}
	for bits := range 67 {
		l = append(l, bits)
	}
	return l
}

// oddKeys are keys of all sorts: of no byte, of one, of bytes that are no runes, long ones.
func oddKeys() []string {
	return []string{
		"", "\x00", "\x00\x00", "a", "b", "ab", "ba", "aa", "\xff", "\xff\xff\xff\xff", "\x80", "\xc3\xa9", "123456789", "key with spaces",
		strings.Repeat("x", 1023), strings.Repeat("x", 1024), strings.Repeat("x", 1025), strings.Repeat("\x00", 5000), strings.Repeat("long", 5000),
	}
}

// numbered are so many keys, none like another one.
func numbered(what string, many int) []string {
	l := make([]string, many)
	for i := range l {
		l[i] = what + strconv.Itoa(i)
	}
	return l
}

// drawnKey is a key that was drawn: mostly few bytes, that are met again.
func drawnKey(draw *rand.Rand) string {
	b := make([]byte, draw.Intn(4))
	if draw.Intn(20) == 0 {
		b = make([]byte, draw.Intn(300))
	}
	draw.Read(b)
	return string(b)
}

// drawnKeys are up to so many keys that were drawn.
func drawnKeys(draw *rand.Rand, many int) []string {
	l := make([]string, draw.Intn(many+1))
	for i := range l {
		l[i] = drawnKey(draw)
		if i > 0 && draw.Intn(8) == 0 {
			l[i] = l[draw.Intn(i)]
		}
	}
	return l
}

// drawnBits is a number of bits that was drawn: mostly one that may be.
func drawnBits(draw *rand.Rand) int {
	if draw.Intn(8) == 0 {
		l := allBits()
		return l[draw.Intn(len(l))]
	}
	return draw.Intn(70) - 2
}

// made asks that a filter is made as the chapter's words say, and answers it.
func made(t *testing.T, l []string, bits int) []byte {
	t.Helper()
	f := bloom.Make(l, bits)
	if want := toldMake(l, bits); !bytes.Equal(f, want) {
		t.Fatalf("%s, %d bits: %s, want %s", keysTold(l), bits, told(f), told(want))
	}
	return f
}

// asked asks that May answers as the chapter's words say.
func asked(t *testing.T, f []byte, key string) bool {
	t.Helper()
	ok := bloom.May(f, key)
	if want := toldMay(f, key); ok != want {
		t.Fatalf("%s, %s: %t, want %t", told(f), brief(key), ok, want)
	}
	return ok
}

// P9.1

func TestKnownFilters(t *testing.T) {
	for _, x := range []struct {
		l    []string
		bits int
		want []byte
	}{
		{nil, 10, []byte{0, 0, 0, 0, 0, 0, 0, 0, 6}},
		{nil, 0, []byte{0, 0, 0, 0, 0, 0, 0, 0, 1}},
		{nil, 64, []byte{0, 0, 0, 0, 0, 0, 0, 0, 30}},
		{[]string{}, 10, []byte{0, 0, 0, 0, 0, 0, 0, 0, 6}},
		{[]string{""}, 10, []byte{1, 0, 0, 0, 0, 0, 0, 0, 6}}, // its sum is 0, and so is each place
		{[]string{""}, 64, []byte{1, 0, 0, 0, 0, 0, 0, 0, 30}},
		{[]string{"", ""}, 64, []byte{1, 0, 0, 0, 0, 0, 0, 0, 0, 0, 0, 0, 0, 0, 0, 0, 30}},
		{[]string{"a"}, 10, []byte{1, 0, 1, 1, 0, 1, 1, 1, 6}},
		{[]string{"a"}, 1, []byte{0, 0, 0, 0, 0, 0, 1, 0, 1}},
		{[]string{"a"}, 2, []byte{0, 0, 0, 0, 0, 0, 1, 0, 1}},
		{[]string{"a"}, 64, []byte{1, 1, 1, 1, 1, 1, 1, 1, 30}},
		{[]string{"a"}, 65, []byte{1, 1, 1, 1, 1, 1, 1, 1, 30}},
		{[]string{"123456789"}, 10, []byte{72, 146, 4, 0, 0, 0, 0, 0, 6}},
		{[]string{"a", "b"}, 33, []byte{17, 17, 17, 17, 17, 17, 17, 17, 17, 22}},
		{[]string{"a", "b"}, 64, []byte{17, 1, 1, 1, 1, 1, 1, 1, 17, 1, 1, 1, 1, 1, 1, 1, 30}},
		{[]string{"a", "b", "c", "d", "e", "f", "g"}, 10, []byte{16, 153, 17, 83, 115, 17, 149, 145, 24, 6}},
	} {
		if f := bloom.Make(x.l, x.bits); !bytes.Equal(f, x.want) {
			t.Errorf("%s, %d bits: %s, want %s", keysTold(x.l), x.bits, told(f), told(x.want))
		}
	}
}

func TestKnownBytesAndProbes(t *testing.T) {
	for _, x := range []struct{ keys, bits, many, probes int }{
		{0, 10, 9, 6}, {1, 10, 9, 6}, {6, 10, 9, 6}, {7, 10, 10, 6}, {8, 10, 11, 6}, {1000, 10, 1251, 6}, // 60 bits, 70, 80
		{64, 1, 9, 1}, {65, 1, 10, 1}, {72, 1, 10, 1}, {73, 1, 11, 1}, {63, 1, 9, 1},
		{64, 0, 9, 1}, {65, 0, 10, 1}, {64, -1, 9, 1}, {65, -1, 10, 1}, {65, math.MinInt, 10, 1}, {1000, math.MinInt, 126, 1},
		{32, 2, 9, 1}, {33, 2, 10, 1}, {36, 2, 10, 1}, {37, 2, 11, 1},
		{21, 3, 9, 2}, {22, 3, 10, 2}, {12, 5, 9, 3}, {13, 5, 10, 3}, {7, 9, 9, 6}, {8, 9, 10, 6}, {9, 7, 9, 4}, {10, 7, 10, 4},
		{1, 63, 9, 30}, {2, 63, 17, 30}, {1, 64, 9, 30}, {2, 64, 17, 30}, {3, 64, 25, 30},
		{1, 65, 9, 30}, {2, 65, 17, 30}, {2, math.MaxInt, 17, 30}, {1000, math.MaxInt, 8001, 30},
		{1, 11, 9, 7}, {1, 12, 9, 8}, {1, 13, 9, 8}, {1, 14, 9, 9}, {1, 20, 9, 13}, {1, 42, 9, 28}, {1, 43, 9, 29}, {1, 44, 9, 30}, {1, 45, 9, 30},
	} {
		f := bloom.Make(numbered("k", x.keys), x.bits)
		if len(f) != x.many || int(f[len(f)-1]) != x.probes {
			t.Errorf("%d keys, %d bits: %s, want %d bytes, the last one %d", x.keys, x.bits, told(f), x.many, x.probes)
		}
	}
}

func TestFiltersAreAsTold(t *testing.T) {
	for _, bits := range allBits() {
		for keys := range 75 {
			made(t, numbered("key", keys), bits)
		}
		made(t, oddKeys(), bits)
		for _, key := range oddKeys() {
			made(t, []string{key}, bits)
			made(t, []string{key, key}, bits)
		}
	}
	for _, bits := range []int{1, 3, 10, 64} {
		made(t, numbered("many", 5000), bits)
	}
}

func TestDrawnFiltersAreAsTold(t *testing.T) {
	draw := rand.New(rand.NewSource(1))
	for range 4000 {
		made(t, drawnKeys(draw, 60), drawnBits(draw))
	}
}

// The rests of 64 bits are the same whether a sum goes round 2^32 or not, those of 72 and of 80 are not: keys are looked for of which just those tell.
func TestSumsGoRound(t *testing.T) {
	met := 0
	for i := range 300 {
		l := []string{"round" + strconv.Itoa(i), "", "", "", "", "", "", ""}
		h := int64(crc32.Checksum([]byte(l[0]), crc32.MakeTable(crc32.Castagnoli)))
		d := h>>17 | h&(1<<17-1)<<15
		f := made(t, l[:7+i%2], 10)
		m := 8 * int64(len(f)-1)
		for k := range int64(6) {
			if at := (h + k*d) % m; h+k*d >= 1<<32 && f[at/8]>>(at%8)&1 == 0 {
				met++ // a place of a sum that did not go round would be 1
			}
		}
	}
	if met < 500 {
		t.Errorf("of the sums that go round %d tell of it only", met)
	}
}

// P9.2

func TestOddFiltersRuleNothingOut(t *testing.T) {
	for _, key := range append(oddKeys(), numbered("odd", 50)...) {
		for _, f := range [][]byte{nil, {}, {0}, {1}, {6}, {30}, {31}, {255}} {
			if !bloom.May(f, key) {
				t.Errorf("%s, %s: false, want true", told(f), brief(key))
			}
		}
		for last := range 256 {
			for _, many := range []int{1, 2, 3, 8, 9, 40} {
				f := append(make([]byte, many), byte(last))
				if ok, want := bloom.May(f, key), last == 0 || last > 30; ok != want {
					t.Errorf("%s, %s: %t, want %t", told(f), brief(key), ok, want)
				}
				f = append(bytes.Repeat([]byte{255}, many), byte(last))
				if !bloom.May(f, key) {
					t.Errorf("%s, %s: false, want true", told(f), brief(key))
				}
			}
		}
	}
}

// Of filters in which just the places of a key are 1, each of these is needed, and no other bit.
func TestAllPlacesAndNoOthersAreAsked(t *testing.T) {
	keys := append(oddKeys(), numbered("place", 20)...)
	for _, key := range keys {
		for _, many := range []int{1, 2, 5, 8, 9, 10, 16, 33} {
			for _, k := range []int{1, 2, 3, 6, 29, 30} {
				f := append(make([]byte, many), byte(k))
				places := toldPlaces(key, int64(8*many), int64(k))
				for _, p := range places {
					f[p/8] |= 1 << (p % 8)
				}
				if !bloom.May(f, key) {
					t.Fatalf("%s, %s: false, want true", told(f), brief(key))
				}
				for _, p := range places {
					f[p/8] ^= 1 << (p % 8)
					if bloom.May(f, key) {
						t.Fatalf("%s, %s: true, want false", told(f), brief(key))
					}
					f[p/8] ^= 1 << (p % 8)
				}
				g := append(bytes.Repeat([]byte{255}, many), byte(k))
				for i, c := range f[:many] {
					g[i] ^= c
				}
				if bloom.May(g, key) {
					t.Fatalf("%s, %s: true, want false", told(g), brief(key))
				}
			}
		}
	}
}

func TestShortFilters(t *testing.T) {
	for a := range 256 {
		for _, last := range []byte{0, 1, 2, 6, 30, 31, 255} {
			for _, key := range []string{"", "a", "b", "123456789"} {
				asked(t, []byte{byte(a), last}, key)
				asked(t, []byte{0, byte(a), last}, key)
				asked(t, []byte{255, byte(a), last}, key)
			}
		}
		asked(t, []byte{byte(a)}, "a")
	}
}

func TestMayIsAsTold(t *testing.T) {
	draw := rand.New(rand.NewSource(2))
	met := map[bool]int{}
	for range 100000 {
		f := make([]byte, draw.Intn(20))
		draw.Read(f)
		for i := range f {
			if draw.Intn(2) == 0 {
				f[i] = 255
			}
		}
		if len(f) > 0 && draw.Intn(8) > 0 {
			f[len(f)-1] = byte(draw.Intn(33))
		}
		met[asked(t, f, drawnKey(draw))]++
	}
	if met[true] < 10000 || met[false] < 10000 {
		t.Errorf("%v: one answer is hardly met", met)
	}
}

func TestMayOfFiltersThatWereMade(t *testing.T) {
	draw := rand.New(rand.NewSource(3))
	for range 1500 {
		f := bloom.Make(drawnKeys(draw, 40), drawnBits(draw))
		for range 20 {
			asked(t, f, drawnKey(draw))
		}
	}
}

// The bits of so many bytes are more than 32 bits count. The memory is made once, and few of its bytes are ever touched.
func TestFilterOfVeryManyBits(t *testing.T) {
	room := make([]byte, 1<<29+2)
	for _, many := range []int{1 << 29, 1<<29 + 1} {
		f := room[:many+1]
		f[many] = 2
		if bloom.May(f, "a") {
			t.Errorf("%d bytes 0: a may be", many)
		}
		places := toldPlaces("a", 8*int64(many), 2)
		for _, p := range places {
			f[p/8] |= 1 << (p % 8)
		}
		if !bloom.May(f, "a") || bloom.May(f, "b") {
			t.Errorf("%d bytes, in which the places of a are 1: not as told", many)
		}
		for _, p := range places {
			f[p/8] = 0
		}
		f[many] = 0
	}
}

func TestFewOthersMayBe(t *testing.T) {
	for _, x := range []struct{ bits, most int }{{10, 30}, {20, 3}, {64, 0}} {
		f := bloom.Make(numbered("in", 1000), x.bits)
		met := 0
		for _, key := range numbered("out", 1000) {
			if bloom.May(f, key) {
				met++
			}
		}
		if met > x.most {
			t.Errorf("%d bits: of 1000 others %d may be", x.bits, met)
		}
	}
}

// P9.3

func TestOfEachKeyItMayBe(t *testing.T) {
	draw := rand.New(rand.NewSource(4))
	for range 1500 {
		l, bits := drawnKeys(draw, 60), drawnBits(draw)
		f := bloom.Make(l, bits)
		for _, key := range l {
			if !bloom.May(f, key) {
				t.Fatalf("%s, %d bits: %s is ruled out", keysTold(l), bits, brief(key))
			}
		}
	}
	for _, bits := range allBits() {
		l := append(oddKeys(), numbered("each", 300)...)
		f := bloom.Make(l, bits)
		for _, key := range l {
			if !bloom.May(f, key) {
				t.Errorf("%s, %d bits: %s is ruled out", keysTold(l), bits, brief(key))
			}
		}
	}
}

// Filters of up to 64 bits have as many bits, so that keys can be laid beside others.
func TestMoreKeysTakeNoneAway(t *testing.T) {
	draw := rand.New(rand.NewSource(5))
	for range 3000 {
		l := append(drawnKeys(draw, 5), drawnKey(draw), drawnKey(draw))
		bits := 1 + draw.Intn(64/len(l))
		few := l[:1+draw.Intn(len(l)-1)]
		f, g := bloom.Make(few, bits), bloom.Make(l, bits)
		if len(f) != len(g) || f[8] != g[8] {
			t.Fatalf("%s, %s, %d bits: %s, %s, that are not alike", keysTold(few), keysTold(l), bits, told(f), told(g))
		}
		for i := range f[:8] {
			if f[i]&^g[i] != 0 {
				t.Fatalf("%s, %s, %d bits: %s, %s, of which a bit was taken away", keysTold(few), keysTold(l), bits, told(f), told(g))
			}
		}
		for range 20 {
			if key := drawnKey(draw); bloom.May(f, key) && !bloom.May(g, key) {
				t.Fatalf("%s, %s, %d bits: %s was taken away", keysTold(few), keysTold(l), bits, brief(key))
			}
		}
	}
}

func TestMoreBitsTakeNoKeyAway(t *testing.T) {
	draw := rand.New(rand.NewSource(6))
	met := map[bool]int{}
	for range 20000 {
		f := make([]byte, 2+draw.Intn(12))
		draw.Read(f)
		f[len(f)-1] = byte(1 + draw.Intn(3))
		key := drawnKey(draw)
		ok := bloom.May(f, key)
		g := bytes.Clone(f)
		for range 1 + draw.Intn(20) {
			g[draw.Intn(len(f)-1)] |= 1 << draw.Intn(8)
		}
		more := bloom.May(g, key)
		if ok && !more {
			t.Fatalf("%s, %s: %s was taken away", told(f), told(g), brief(key))
		}
		met[ok != more]++
	}
	if met[true] < 1000 {
		t.Errorf("%v: hardly a key came by more bits", met)
	}
}

// P9.4

func TestOrderHasNoPart(t *testing.T) {
	draw := rand.New(rand.NewSource(7))
	for range 2000 {
		l, bits := drawnKeys(draw, 60), drawnBits(draw)
		f := bloom.Make(l, bits)
		other := slices.Clone(l)
		slices.Reverse(other)
		if g := bloom.Make(other, bits); !bytes.Equal(f, g) {
			t.Fatalf("%s, %d bits: %s, and the other way round %s", keysTold(l), bits, told(f), told(g))
		}
		draw.Shuffle(len(l), func(i, k int) { other[i], other[k] = other[k], other[i] })
		if g := bloom.Make(other, bits); !bytes.Equal(f, g) {
			t.Fatalf("%s, %s, %d bits: %s, %s", keysTold(l), keysTold(other), bits, told(f), told(g))
		}
	}
}

// Of each two lists of as many keys, of which one has some twice in the place of others that it has anyway, the filters are alike.
func TestTwiceHasNoPart(t *testing.T) {
	a, b := []string{"a", "b", "b", "c", "b"}, []string{"c", "c", "a", "b", "a"}
	for _, bits := range allBits() {
		if f, g := bloom.Make(a, bits), bloom.Make(b, bits); !bytes.Equal(f, g) {
			t.Errorf("%s, %s, %d bits: %s, %s", keysTold(a), keysTold(b), bits, told(f), told(g))
		}
	}
	draw := rand.New(rand.NewSource(8))
	for range 2000 {
		l := append(drawnKeys(draw, 10), drawnKey(draw))
		bits := drawnBits(draw)
		once, twice := slices.Clone(l), slices.Clone(l)
		for range 1 + draw.Intn(20) {
			once = append(once, l[0])
			twice = append(twice, l[draw.Intn(len(l))])
		}
		if f, g := bloom.Make(once, bits), bloom.Make(twice, bits); !bytes.Equal(f, g) {
			t.Fatalf("%s, %s, %d bits: %s, %s", keysTold(once), keysTold(twice), bits, told(f), told(g))
		}
	}
	for n := 1; n <= 6; n++ { // all of 64 bits
		l := slices.Repeat([]string{"again"}, n)
		if f, g := bloom.Make(l, 10), bloom.Make(l[:1], 10); !bytes.Equal(f, g) {
			t.Errorf("%s: %s, and once %s", keysTold(l), told(f), told(g))
		}
	}
}

// The chapter's examples.

func TestExamples(t *testing.T) {
	f := bloom.Make(nil, 10)
	if want := append(make([]byte, 8), 6); !bytes.Equal(f, want) {
		t.Errorf("%s, want %s", told(f), told(want))
	}
	keys := append(oddKeys(), numbered("example", 1000)...)
	for _, key := range keys {
		if bloom.May(f, key) {
			t.Errorf("%s may be among no keys", brief(key))
		}
		for c := range 256 {
			if !bloom.May([]byte{byte(c)}, key) {
				t.Errorf("the byte %d alone: %s is ruled out", c, brief(key))
			}
		}
	}
}

// Rules 3 to 6 of all layers.

func TestNilAndEmptyAreTheSame(t *testing.T) {
	for _, bits := range allBits() {
		if f, g := bloom.Make(nil, bits), bloom.Make([]string{}, bits); !bytes.Equal(f, g) {
			t.Errorf("%d bits: of nil %s, of an empty list %s", bits, told(f), told(g))
		}
	}
	if bloom.May(nil, "a") != bloom.May([]byte{}, "a") {
		t.Error("nil and an empty list are asked otherwise")
	}
}

func TestWhatIsHandedInStays(t *testing.T) {
	draw := rand.New(rand.NewSource(9))
	for range 1000 {
		l, bits := drawnKeys(draw, 30), drawnBits(draw)
		was := slices.Clone(l)
		f := bloom.Make(l, bits)
		if !slices.Equal(l, was) {
			t.Fatalf("%s became %s", keysTold(was), keysTold(l))
		}
		before := bytes.Clone(f)
		for _, key := range append(l, drawnKey(draw)) {
			bloom.May(f, key)
		}
		if !bytes.Equal(f, before) {
			t.Fatalf("%s became %s", told(before), told(f))
		}
		for i := range l {
			l[i] = "other"
		}
		if !bytes.Equal(f, before) {
			t.Fatalf("%s: the filter changes with what was handed in", keysTold(was))
		}
	}
}

func TestWhatIsBehindAListIsNotRead(t *testing.T) {
	keys := append(numbered("behind", 40), "x", "y")
	for many := range len(keys) {
		for _, bits := range []int{1, 10, 64} {
			was := slices.Clone(keys)
			if f, g := bloom.Make(keys[:many], bits), bloom.Make(slices.Clip(slices.Clone(keys[:many])), bits); !bytes.Equal(f, g) {
				t.Errorf("%d keys, %d bits: %s, and without more behind them %s", many, bits, told(f), told(g))
			}
			if !slices.Equal(keys, was) {
				t.Errorf("%d keys: what stands behind them was changed", many)
			}
		}
	}
	for many := range 12 {
		for _, last := range []byte{0, 1, 6, 30, 31, 255} {
			f := bytes.Repeat([]byte{last}, 20)
			was := bytes.Clone(f)
			for _, key := range keys {
				if bloom.May(f[:many], key) != bloom.May(slices.Clip(bytes.Clone(f[:many])), key) {
					t.Errorf("%s of %s, %s: what stands behind has a part", told(f[:many]), told(f), brief(key))
				}
			}
			if !bytes.Equal(f, was) {
				t.Errorf("%s became %s", told(was), told(f))
			}
		}
	}
}

func TestWhatIsAnsweredIsTheCallers(t *testing.T) {
	for _, l := range [][]string{nil, {"a"}, numbered("caller", 30)} {
		f, g := bloom.Make(l, 10), bloom.Make(l, 10)
		was := bytes.Clone(g)
		for i := range f[:cap(f)] {
			f[:cap(f)][i] ^= 255
		}
		if !bytes.Equal(g, was) || !bytes.Equal(bloom.Make(l, 10), was) {
			t.Errorf("%s: an answer changes with another one", keysTold(l))
		}
	}
}

func TestTheSameCallsAnswerTheSame(t *testing.T) {
	draw := rand.New(rand.NewSource(10))
	for range 1000 {
		l, bits, key := drawnKeys(draw, 30), drawnBits(draw), drawnKey(draw)
		f := bloom.Make(l, bits)
		ok := bloom.May(f, key)
		bloom.Make(drawnKeys(draw, 30), drawnBits(draw)) // others between change nothing
		bloom.May(f, drawnKey(draw))
		if g := bloom.Make(l, bits); !bytes.Equal(f, g) || bloom.May(g, key) != ok {
			t.Fatalf("%s, %d bits, %s: the same calls answer otherwise", keysTold(l), bits, brief(key))
		}
	}
}
