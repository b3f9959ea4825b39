package sha_test

import (
	"bytes"
	"crypto/sha256"
	"encoding/binary"
	"encoding/hex"
	"math"
	"math/rand"
	"slices"
	"strings"
	"sync"
	"testing"

	"tantalus/api"
	"tantalus/sha"
)

// The signatures, as the chapter lists them.
var (
	_ func(...[]byte) api.Digest  = sha.Sum
	_ func() *sha.State           = sha.New
	_ func(*sha.State, []byte)    = (*sha.State).Write
	_ func(*sha.State) int        = (*sha.State).Len
	_ func(*sha.State) api.Digest = (*sha.State).Sum
)

// round is a number modulo 2^32, as the chapter's sums go.
func round(n uint64) uint64 {
	return n % (1 << 32)
}

// moved is turn k of x by the chapter's words: its lowest k bits at the top.
func moved(x uint64, k int) uint64 {
	return x>>k + x%(1<<k)<<(32-k)
}

// factors are the words k0 to k63 by another way than the chapter's table: the first 32 bits behind the point of the cube roots of the first 64 primes.
func factors() []uint64 {
	var l []uint64
	for n := uint64(2); len(l) < 64; n++ {
		prime := true
		for d := uint64(2); d < n; d++ {
			prime = prime && n%d > 0
		}
		if prime {
			_, part := math.Modf(math.Cbrt(float64(n)))
			l = append(l, uint64(part*(1<<32)))
		}
	}
	return l
}

// toldBlock is what a block makes of the state, by the chapter's words: numbers and lists, that are made anew for each step.
func toldBlock(state []uint64, block []byte) []uint64 {
	var w []uint64
	for i := range 64 {
		if i < 16 {
			w = append(w, uint64(binary.BigEndian.Uint32(block[4*i:])))
			continue
		}
		s0 := moved(w[i-15], 7) ^ moved(w[i-15], 18) ^ w[i-15]/8
		s1 := moved(w[i-2], 17) ^ moved(w[i-2], 19) ^ w[i-2]/1024
		w = append(w, round(w[i-16]+s0+w[i-7]+s1))
	}
	x := state
	for i, k := range factors() {
		a, b, c, e, f, g := x[0], x[1], x[2], x[4], x[5], x[6]
		t := x[7] + (moved(e, 6) ^ moved(e, 11) ^ moved(e, 25)) + (e&f ^ (math.MaxUint32-e)&g) + k + w[i]
		u := (moved(a, 2) ^ moved(a, 13) ^ moved(a, 22)) + (a&b ^ a&c ^ b&c)
		x = []uint64{round(t + u), a, b, c, round(x[3] + t), e, f, g}
	}
	var sums []uint64
	for i := range x {
		sums = append(sums, round(state[i]+x[i]))
	}
	return sums
}

// told is the digest of b by the chapter's words: what the program is held against, beside the library.
func told(b []byte) api.Digest {
	all := append(slices.Clone(b), 128)
	for len(all)%64 != 56 {
		all = append(all, 0)
	}
	all = binary.BigEndian.AppendUint64(all, 8*uint64(len(b)))
	state := []uint64{1779033703, 3144134277, 1013904242, 2773480762, 1359893119, 2600822924, 528734635, 1541459225}
	for block := range slices.Chunk(all, 64) {
		state = toldBlock(state, block)
	}
	var d api.Digest
	for i, n := range state {
		binary.BigEndian.PutUint32(d[4*i:], uint32(n))
	}
	return d
}

// drawn are so many bytes, drawn from a seed that is written down, so that each run draws the same.
func drawn(draw *rand.Rand, many int) []byte {
	b := make([]byte, many)
	draw.Read(b)
	return b
}

// edges are lengths about a block's and about what stands behind the bytes.
func edges() []int {
	return []int{0, 1, 2, 3, 4, 54, 55, 56, 57, 62, 63, 64, 65, 66, 111, 118, 119, 120, 121, 127, 128, 129, 183, 184, 191, 192, 193, 1000}
}

// texts are bytes of many lengths: none, few, many, all alike, of every value.
func texts() [][]byte {
	draw := rand.New(rand.NewSource(1))
	all := make([]byte, 256)
	for i := range all {
		all[i] = byte(i)
	}
	l := [][]byte{nil, {}, {0}, {128}, {255}, []byte("a"), []byte("abc"), all, []byte(strings.Repeat("tantalus", 999))}
	for _, many := range edges() {
		l = append(l, make([]byte, many), bytes.Repeat([]byte{255}, many), bytes.Repeat([]byte{128}, many))
	}
	for many := range 300 {
		l = append(l, drawn(draw, many))
	}
	return append(l, drawn(draw, 1<<16+1))
}

// written is a state that was handed those lists, in order.
func written(l ...[]byte) *sha.State {
	s := sha.New()
	for _, b := range l {
		s.Write(b)
	}
	return s
}

// wantState fails if the state is not that of b.
func wantState(t *testing.T, s *sha.State, b []byte) {
	t.Helper()
	if s.Len() != len(b) {
		t.Errorf("Len is %d, want %d", s.Len(), len(b))
	}
	if d := s.Sum(); d != sha256.Sum256(b) {
		t.Errorf("%d bytes: %x, want %x", len(b), d, sha256.Sum256(b))
	}
}

// P3.1

func TestExamplesOfDigests(t *testing.T) {
	for _, x := range []struct {
		b     string
		first []byte
	}{
		{"abc", []byte{186, 120, 22, 191, 143, 1, 207, 234}},
		{"", []byte{227, 176, 196, 66, 152, 252, 28, 20}},
	} {
		if d := sha.Sum([]byte(x.b)); !bytes.Equal(d[:8], x.first) {
			t.Errorf("Sum of %q begins with %d, want %d", x.b, d[:8], x.first)
		}
		if d := written([]byte(x.b)).Sum(); !bytes.Equal(d[:8], x.first) {
			t.Errorf("a state of %q begins with %d, want %d", x.b, d[:8], x.first)
		}
	}
}

func TestKnownDigests(t *testing.T) {
	for _, x := range []struct{ b, want string }{
		{"", "e3b0c44298fc1c149afbf4c8996fb92427ae41e4649b934ca495991b7852b855"},
		{"abc", "ba7816bf8f01cfea414140de5dae2223b00361a396177a9cb410ff61f20015ad"},
		{"abcdbcdecdefdefgefghfghighijhijkijkljklmklmnlmnomnopnopq", "248d6a61d20638b8e5c026930c3e6039a33ce45964ff2167f6ecedd419db06c1"},
		{strings.Repeat("a", 1000000), "cdc76e5c9914fb9281a1c7e284d73e67f1809a48a497200e046d39ccc7112cd0"},
	} {
		if d := sha.Sum([]byte(x.b)); hex.EncodeToString(d[:]) != x.want {
			t.Errorf("%d bytes: %x, want %s", len(x.b), d, x.want)
		}
	}
}

func TestDigestsAreAsTold(t *testing.T) {
	for _, b := range texts() {
		d := sha.Sum(b)
		if len(b) <= 1000 && d != told(b) {
			t.Errorf("%d bytes: %x, the chapter says %x", len(b), d, told(b))
		}
		if d != sha256.Sum256(b) {
			t.Errorf("%d bytes: %x, the library says %x", len(b), d, sha256.Sum256(b))
		}
	}
}

func TestSumOfNothing(t *testing.T) {
	var none [][]byte
	want := told(nil)
	for name, d := range map[string]api.Digest{
		"no list":       sha.Sum(),
		"nil of lists":  sha.Sum(none...),
		"none of lists": sha.Sum([][]byte{}...),
		"nil":           sha.Sum(nil),
		"empty":         sha.Sum([]byte{}),
		"several":       sha.Sum(nil, []byte{}, nil, []byte{}),
		"a new state":   sha.New().Sum(),
		"written none":  written(nil, []byte{}).Sum(),
	} {
		if d != want {
			t.Errorf("%s: %x, want %x", name, d, want)
		}
	}
}

func TestListsStandBehindOneAnother(t *testing.T) {
	draw := rand.New(rand.NewSource(2))
	for range 300 {
		var l [][]byte
		for range draw.Intn(9) {
			l = append(l, drawn(draw, draw.Intn(50)))
		}
		if d := sha.Sum(l...); d != sha256.Sum256(slices.Concat(l...)) {
			t.Fatalf("%x: %x, want %x", l, d, sha256.Sum256(slices.Concat(l...)))
		}
	}
}

func TestTheOrderOfListsCounts(t *testing.T) {
	if sha.Sum([]byte("a"), []byte("b")) == sha.Sum([]byte("b"), []byte("a")) {
		t.Error("lists in another order have one digest")
	}
	if sha.Sum([]byte("a"), []byte("b")) != told([]byte("ab")) {
		t.Error("the lists are not taken in their order")
	}
}

func TestHowManyBitsThereAreCounts(t *testing.T) {
	met := map[api.Digest]int{}
	for many := range 300 {
		d := sha.Sum(make([]byte, many))
		if other, is := met[d]; is {
			t.Fatalf("%d and %d bytes 0 have one digest", other, many)
		}
		met[d] = many
	}
	for _, many := range edges() {
		b := make([]byte, many)
		if sha.Sum(b, []byte{128}) == sha.Sum(b) || sha.Sum(b, []byte{128, 0}) == sha.Sum(b) {
			t.Errorf("%d bytes have the digest of those with what stands behind them", many)
		}
	}
}

// So many bytes have bits whose number needs more than 32 bits itself.
func TestMoreBitsThanAWordTells(t *testing.T) {
	s, known := sha.New(), sha256.New()
	b := drawn(rand.New(rand.NewSource(3)), 1<<20)
	for range 1 << 9 {
		s.Write(b)
		known.Write(b)
	}
	if s.Len() != 1<<29 {
		t.Errorf("Len is %d", s.Len())
	}
	if d := s.Sum(); !bytes.Equal(d[:], known.Sum(nil)) {
		t.Errorf("2^29 bytes: %x, the library says %x", d, known.Sum(nil))
	}
}

func TestOneBitThatIsAnother(t *testing.T) {
	for _, many := range edges() {
		b := make([]byte, many)
		met := map[api.Digest]bool{sha.Sum(b): true}
		for bit := range 8 * many {
			b[bit/8] ^= 1 << (bit % 8)
			d := sha.Sum(b)
			if met[d] {
				t.Fatalf("%d bytes: with bit %d another one the digest is one that was met", many, bit)
			}
			met[d] = true
			b[bit/8] = 0
		}
	}
}

// P3.2

func TestANewStateHasNoBytes(t *testing.T) {
	wantState(t, sha.New(), nil)
	wantState(t, &sha.State{}, nil)
	var s sha.State
	s.Write([]byte("abc"))
	wantState(t, &s, []byte("abc"))
}

func TestNewStatesShareNothing(t *testing.T) {
	one := written([]byte("one"))
	two := sha.New()
	wantState(t, two, nil)
	two.Write([]byte("2"))
	wantState(t, one, []byte("one"))
	wantState(t, two, []byte("2"))
}

func TestWritesStandBehindOneAnother(t *testing.T) {
	s := sha.New()
	var all []byte
	draw := rand.New(rand.NewSource(4))
	for range 300 {
		b := drawn(draw, draw.Intn(150))
		s.Write(b)
		all = append(all, b...)
		wantState(t, s, all)
	}
}

func TestWriteOfNothing(t *testing.T) {
	for _, many := range edges() {
		b := drawn(rand.New(rand.NewSource(5)), many)
		s := written(nil, b, nil)
		s.Write([]byte{})
		wantState(t, s, b)
		s.Write([]byte("x"))
		wantState(t, s, append(b, 'x'))
	}
}

func TestSumChangesNothing(t *testing.T) {
	for _, many := range edges() {
		b := drawn(rand.New(rand.NewSource(6)), many)
		s := written(b)
		was := *s
		first := s.Sum()
		for range 3 {
			if s.Sum() != first {
				t.Errorf("%d bytes: asked again, the digest is another one", many)
			}
		}
		if s.Len() != many {
			t.Errorf("%d bytes: Len is %d once the digest was asked", many, s.Len())
		}
		if *s != was {
			t.Errorf("%d bytes: the state is another one once the digest was asked", many)
		}
	}
}

func TestOneStateAskedByMany(t *testing.T) {
	s := written(make([]byte, 100))
	want := s.Sum()
	got := make([]api.Digest, 8)
	var all sync.WaitGroup
	for i := range got {
		all.Go(func() { got[i] = s.Sum() })
	}
	all.Wait()
	for i, d := range got {
		if d != want {
			t.Errorf("asker %d: %x, want %x", i, d, want)
		}
	}
}

func TestANilState(t *testing.T) {
	var s *sha.State
	for _, b := range texts() {
		s.Write(b)
		if s.Len() != 0 || s.Sum() != told(nil) {
			t.Fatalf("%d bytes written: Len %d, Sum %x", len(b), s.Len(), s.Sum())
		}
	}
}

// P3.3

func TestPartedInAllWays(t *testing.T) {
	b := []byte("123456789")
	want := told(b)
	for cuts := range 1 << len(b) {
		var l [][]byte
		from := 0
		for i := range b {
			if cuts>>i&1 == 1 {
				l = append(l, b[from:i+1])
				from = i + 1
			}
		}
		l = append(l, b[from:])
		if d := sha.Sum(l...); d != want {
			t.Fatalf("%q: %x, want %x", l, d, want)
		}
		if d := written(l...).Sum(); d != want {
			t.Fatalf("a state of %q: %x, want %x", l, d, want)
		}
	}
}

func TestPartedAtEveryPlace(t *testing.T) {
	for _, many := range edges() {
		b := drawn(rand.New(rand.NewSource(7)), many)
		want := sha256.Sum256(b)
		for at := range many + 1 {
			if sha.Sum(b[:at], b[at:]) != want || sha.Sum(nil, b[:at], []byte{}, b[at:]) != want {
				t.Fatalf("%d bytes, parted at %d", many, at)
			}
			s := written(b[:at])
			between := s.Sum()
			if between != sha256.Sum256(b[:at]) {
				t.Fatalf("%d bytes, asked at %d: %x", many, at, between)
			}
			s.Write(b[at:])
			wantState(t, s, b)
		}
	}
}

func TestPartedIntoLikeParts(t *testing.T) {
	b := drawn(rand.New(rand.NewSource(8)), 1000)
	want := sha256.Sum256(b)
	for _, many := range edges()[1:] {
		l := slices.Collect(slices.Chunk(b, many))
		if sha.Sum(l...) != want || written(l...).Sum() != want {
			t.Errorf("parts of %d bytes", many)
		}
	}
}

func TestAskedBehindEachByte(t *testing.T) {
	b := drawn(rand.New(rand.NewSource(9)), 300)
	s := sha.New()
	for i := range b {
		wantState(t, s, b[:i])
		s.Write(b[i : i+1])
	}
	wantState(t, s, b)
}

// P3.4

func TestLikeStatesGoOnAlike(t *testing.T) {
	draw := rand.New(rand.NewSource(10))
	for _, many := range edges() {
		b, more := drawn(draw, many), drawn(draw, 200)
		asked := written(b[:many/2])
		asked.Sum()
		asked.Write(b[many/2:])
		asked.Sum()
		copied := *asked
		states := map[string]*sha.State{
			"at once": written(b), "asked": asked, "copied": &copied, "byte by byte": written(slices.Collect(slices.Chunk(b, 1))...),
		}
		all := b
		for part := range slices.Chunk(more, 1+draw.Intn(70)) {
			all = slices.Concat(all, part)
			for name, s := range states {
				s.Write(part)
				if s.Len() != len(all) || s.Sum() != sha256.Sum256(all) {
					t.Errorf("%d bytes, %s: at %d %x, want %x", many, name, s.Len(), s.Sum(), sha256.Sum256(all))
				}
			}
		}
	}
}

func TestLikeStatesPartWays(t *testing.T) {
	for _, many := range edges() {
		b := drawn(rand.New(rand.NewSource(11)), many)
		one, two := written(b), written(b)
		one.Write([]byte("1"))
		wantState(t, two, b)
		two.Write([]byte("22"))
		wantState(t, one, append(slices.Clone(b), "1"...))
		wantState(t, two, append(slices.Clone(b), "22"...))
	}
}

// Rules 4 to 6 of all layers.

func TestWhatIsHandedInStays(t *testing.T) {
	room := []byte(strings.Repeat("abcdefghij", 20))
	was := string(room)
	l := [][]byte{room[:2], nil, room[4:140]}
	sha.Sum(l...)
	s := written(room[:64], room[64:70])
	s.Sum()
	if string(room) != was {
		t.Errorf("the bytes were changed: %q", room)
	}
	if len(l) != 3 || string(l[0]) != was[:2] || l[1] != nil || string(l[2]) != was[4:140] {
		t.Errorf("the lists were changed: %q", l)
	}
}

func TestWhatIsHandedInIsNotKept(t *testing.T) {
	for _, many := range edges() {
		b := drawn(rand.New(rand.NewSource(12)), many)
		was := slices.Clone(b)
		s := written(b)
		for i := range b {
			b[i] ^= 255
		}
		wantState(t, s, was)
		s.Write([]byte("x"))
		wantState(t, s, append(was, 'x'))
	}
}

func TestWhatIsBehindAListIsNotRead(t *testing.T) {
	draw := rand.New(rand.NewSource(13))
	for _, many := range edges() {
		b := drawn(draw, many+100)
		other := append(slices.Clone(b[:many]), drawn(draw, 100)...)
		if sha.Sum(b[:many]) != sha.Sum(other[:many]) || written(b[:many]).Sum() != written(other[:many]).Sum() {
			t.Errorf("bytes behind a list of %d", many)
		}
		lists := [][]byte{b, other}
		if sha.Sum(lists[:1]...) != sha.Sum(b) || sha.Sum(lists[:0]...) != told(nil) {
			t.Errorf("lists behind the lists")
		}
	}
}

func TestADigestIsTheCallers(t *testing.T) {
	s := written([]byte("abc"))
	one := s.Sum()
	for i := range one {
		one[i] = 0
	}
	wantState(t, s, []byte("abc"))
	if sha.Sum([]byte("abc")) != told([]byte("abc")) {
		t.Error("a digest that was changed shows in another one")
	}
}

func TestTheSameCallsAnswerTheSame(t *testing.T) {
	for _, b := range texts() {
		first := sha.Sum(b)
		written([]byte("something between")).Sum()
		if sha.Sum(b) != first || written(b).Sum() != first {
			t.Errorf("%d bytes have two digests", len(b))
		}
	}
}
