package mac_test

import (
	"bytes"
	"crypto/hkdf"
	"crypto/hmac"
	"crypto/sha256"
	"encoding/hex"
	"math"
	"math/rand"
	"slices"
	"strings"
	"testing"

	"tantalus/api"
	"tantalus/mac"
)

// The signatures, as the chapter lists them.
var (
	_ func([]byte, ...[]byte) api.Digest            = mac.Sum
	_ func([]byte, []byte) api.Digest               = mac.Extract
	_ func([]byte, []byte, int) ([]byte, api.Errno) = mac.Expand
	_ func([]byte, []byte) bool                     = mac.Equal
	_ func(api.Digest, []byte) api.Key              = mac.Derive
)

// told is Sum by the chapter's words: what the program is held against, beside the library.
func told(key []byte, l ...[]byte) api.Digest {
	k := slices.Clone(key)
	if len(k) > 64 {
		d := sha256.Sum256(k)
		k = d[:]
	}
	for len(k) < 64 {
		k = append(k, 0)
	}
	var in, out []byte
	for _, x := range k {
		in = append(in, x^54)
		out = append(out, x^92)
	}
	for _, b := range l {
		in = append(in, b...)
	}
	d := sha256.Sum256(in)
	return sha256.Sum256(append(out, d[:]...))
}

// toldBytes is Expand by the chapter's words, of an n that may be.
func toldBytes(key, use []byte, n int) []byte {
	t := told(key, use, []byte{1})
	all := slices.Clone(t[:])
	for b := byte(2); len(all) < n; b++ {
		t = told(key, t[:], use, []byte{b})
		all = append(all, t[:]...)
	}
	return all[:n]
}

// library is Sum by the library.
func library(key []byte, l ...[]byte) api.Digest {
	h := hmac.New(sha256.New, key)
	for _, b := range l {
		h.Write(b)
	}
	return api.Digest(h.Sum(nil))
}

// drawn are so many bytes, drawn from a seed that is written down, so that each run draws the same.
func drawn(draw *rand.Rand, many int) []byte {
	b := make([]byte, many)
	draw.Read(b)
	return b
}

// lengths are those of keys and texts: about a digest's and about a block's.
func lengths() []int {
	return []int{0, 1, 2, 20, 31, 32, 33, 54, 55, 56, 62, 63, 64, 65, 66, 96, 127, 128, 129, 131, 1000}
}

// numbers are how many bytes may be made of a key: none, about each digest's end, about the most.
func numbers() []int {
	return []int{0, 1, 2, 31, 32, 33, 42, 63, 64, 65, 95, 96, 97, 1000, 8127, 8128, 8129, 8159, 8160}
}

// bytesOf is what the hexadecimal digits tell.
func bytesOf(t *testing.T, digits string) []byte {
	t.Helper()
	b, err := hex.DecodeString(digits)
	if err != nil {
		t.Fatal(err)
	}
	return b
}

// expanded is what Expand answers, where it may not answer an error.
func expanded(t *testing.T, key, use []byte, n int) []byte {
	t.Helper()
	b, e := mac.Expand(key, use, n)
	if e != api.OK {
		t.Fatalf("Expand to %d: error %d", n, e)
	}
	if len(b) != n {
		t.Fatalf("Expand to %d: %d bytes", n, len(b))
	}
	return b
}

// P4.1

func TestExampleOfASum(t *testing.T) {
	d := mac.Sum([]byte("key"), []byte("The quick brown fox jumps over the lazy dog"))
	if want := []byte{247, 188, 131, 244, 48, 83, 132, 36}; !bytes.Equal(d[:8], want) {
		t.Errorf("it begins with %d, want %d", d[:8], want)
	}
}

// The texts that are known are those of RFC 4231.
func TestKnownSums(t *testing.T) {
	long := strings.Repeat("aa", 131)
	for _, x := range []struct{ key, text, want string }{
		{strings.Repeat("0b", 20), hex.EncodeToString([]byte("Hi There")), "b0344c61d8db38535ca8afceaf0bf12b881dc200c9833da726e9376c2e32cff7"},
		{hex.EncodeToString([]byte("Jefe")), hex.EncodeToString([]byte("what do ya want for nothing?")), "5bdcc146bf60754e6a042426089575c75a003f089d2739839dec58b964ec3843"},
		{strings.Repeat("aa", 20), strings.Repeat("dd", 50), "773ea91e36800e46854db8ebd09181a72959098b3ef8c122d9635514ced565fe"},
		{"0102030405060708090a0b0c0d0e0f10111213141516171819", strings.Repeat("cd", 50), "82558a389a443c0ea4cc819899f2083a85f0faa3e578f8077a2e3ff46729665b"},
		{long, hex.EncodeToString([]byte("Test Using Larger Than Block-Size Key - Hash Key First")), "60e431591ee0b67f0d8a26aacbf5b77f8e0bc6213728c5140546040f0ee37f54"},
		{long, hex.EncodeToString([]byte("This is a test using a larger than block-size key and a larger than block-size data. The key needs to be hashed before being used by the HMAC algorithm.")), "9b09ffa71b942fcb27635fbcd5b0e944bfdc63644f0713938a7f51535c3a35e2"},
	} {
		d := mac.Sum(bytesOf(t, x.key), bytesOf(t, x.text))
		if !bytes.Equal(d[:], bytesOf(t, x.want)) {
			t.Errorf("key %s: %x, want %s", x.key, d, x.want)
		}
	}
}

func TestSumsAreAsTold(t *testing.T) {
	draw := rand.New(rand.NewSource(1))
	for _, many := range lengths() {
		for _, key := range [][]byte{drawn(draw, many), make([]byte, many), bytes.Repeat([]byte{255}, many)} {
			for _, more := range lengths() {
				b := drawn(draw, more)
				d := mac.Sum(key, b)
				if d != told(key, b) || d != library(key, b) {
					t.Errorf("key of %d, %d bytes: %x, the chapter says %x, the library %x", many, more, d, told(key, b), library(key, b))
				}
			}
		}
	}
}

func TestSumsOfKeysOfAllLengths(t *testing.T) {
	draw := rand.New(rand.NewSource(2))
	for many := range 300 {
		key, b := drawn(draw, many), drawn(draw, draw.Intn(300))
		if d := mac.Sum(key, b); d != told(key, b) || d != library(key, b) {
			t.Errorf("key of %d, %d bytes: %x, want %x", many, len(b), d, told(key, b))
		}
	}
}

func TestSumOfNothing(t *testing.T) {
	var none [][]byte
	draw := rand.New(rand.NewSource(3))
	for _, many := range lengths() {
		key := drawn(draw, many)
		want := told(key)
		for name, d := range map[string]api.Digest{
			"no list":       mac.Sum(key),
			"nil of lists":  mac.Sum(key, none...),
			"none of lists": mac.Sum(key, [][]byte{}...),
			"nil":           mac.Sum(key, nil),
			"empty":         mac.Sum(key, []byte{}),
			"several":       mac.Sum(key, nil, []byte{}, nil),
		} {
			if d != want {
				t.Errorf("key of %d, %s: %x, want %x", many, name, d, want)
			}
		}
	}
	if mac.Sum(nil) != mac.Sum([]byte{}) || mac.Sum(nil) != told(nil) {
		t.Error("a nil key is another one than an empty one")
	}
}

func TestListsStandBehindOneAnother(t *testing.T) {
	draw := rand.New(rand.NewSource(4))
	for range 300 {
		key := drawn(draw, draw.Intn(100))
		var l [][]byte
		for range draw.Intn(9) {
			l = append(l, drawn(draw, draw.Intn(50)))
		}
		if d := mac.Sum(key, l...); d != told(key, slices.Concat(l...)) {
			t.Fatalf("key %x, lists %x: %x, want %x", key, l, d, told(key, l...))
		}
	}
}

func TestPartedAtEveryPlace(t *testing.T) {
	draw := rand.New(rand.NewSource(5))
	for _, many := range lengths() {
		key, b := drawn(draw, 32), drawn(draw, many)
		want := told(key, b)
		for at := range many + 1 {
			if mac.Sum(key, b[:at], b[at:]) != want || mac.Sum(key, nil, b[:at], []byte{}, b[at:], nil) != want {
				t.Fatalf("%d bytes, parted at %d", many, at)
			}
		}
	}
}

func TestTheOrderOfListsCounts(t *testing.T) {
	key := []byte("key")
	if mac.Sum(key, []byte("a"), []byte("b")) == mac.Sum(key, []byte("b"), []byte("a")) {
		t.Error("lists in another order have one digest")
	}
	if mac.Sum(key, []byte("a"), []byte("b")) != told(key, []byte("ab")) {
		t.Error("the lists are not taken in their order")
	}
	if mac.Sum([]byte("a"), []byte("b")) == mac.Sum([]byte("b"), []byte("a")) || mac.Sum([]byte("ab")) == mac.Sum([]byte("a"), []byte("b")) {
		t.Error("a key is as good as a list")
	}
}

func TestOneBitThatIsAnother(t *testing.T) {
	for _, many := range lengths()[1:] {
		key, b := make([]byte, many), make([]byte, many)
		met := map[api.Digest]bool{mac.Sum(key, b): true}
		for bit := range 8 * min(many, 140) {
			key[bit/8] ^= 1 << (bit % 8)
			one := mac.Sum(key, b)
			key[bit/8] = 0
			b[bit/8] ^= 1 << (bit % 8)
			two := mac.Sum(key, b)
			b[bit/8] = 0
			if met[one] || met[two] || one == two {
				t.Fatalf("%d bytes: with bit %d another one the digest is one that was met", many, bit)
			}
			met[one], met[two] = true, true
		}
	}
}

// P4.2

func TestExtractIsASum(t *testing.T) {
	draw := rand.New(rand.NewSource(6))
	for _, many := range lengths() {
		for _, more := range lengths() {
			salt, in := drawn(draw, many), drawn(draw, more)
			want, err := hkdf.Extract(sha256.New, in, salt)
			if err != nil {
				t.Fatal(err)
			}
			if d := mac.Extract(salt, in); d != told(salt, in) || !bytes.Equal(d[:], want) || d != mac.Sum(salt, in) {
				t.Errorf("salt of %d, %d bytes: %x, want %x", many, more, d, want)
			}
		}
	}
	if mac.Extract(nil, nil) != told(nil) || mac.Extract([]byte{}, []byte{}) != told(nil) {
		t.Error("of nothing")
	}
	if mac.Extract([]byte("a"), []byte("b")) == mac.Extract([]byte("b"), []byte("a")) {
		t.Error("the salt is as good as what is taken in")
	}
}

// What is known is from RFC 5869.
func TestKnownBytesOfKeys(t *testing.T) {
	var in, salt, use string
	for i := range 80 {
		in += hex.EncodeToString([]byte{byte(i)})
		salt += hex.EncodeToString([]byte{byte(96 + i)})
		use += hex.EncodeToString([]byte{byte(176 + i)})
	}
	for _, x := range []struct{ in, salt, use, key, want string }{
		{strings.Repeat("0b", 22), "000102030405060708090a0b0c", "f0f1f2f3f4f5f6f7f8f9", "077709362c2e32df0ddc3f0dc47bba6390b6c73bb50f9c3122ec844ad7c2b3e5", "3cb25f25faacd57a90434f64d0362f2a2d2d0a90cf1a5a4c5db02d56ecc4c5bf34007208d5b887185865"},
		{in, salt, use, "06a6b88c5853361a06104c9ceb35b45cef760014904671014a193f40c15fc244", "b11e398dc80327a1c8e7f78c596a49344f012eda2d4efad8a050cc4c19afa97c59045a99cac7827271cb41c65e590e09da3275600c2f09b8367793a9aca3db71cc30c58179ec3e87c14c01d5c1f3434f1d87"},
		{strings.Repeat("0b", 22), "", "", "19ef24a32c717b167f33a91d6f648bdf96596776afdb6377ac434c1c293ccb04", "8da4e775a563c18f715f802a063c5a31b8a11f5c5ee1879ec3454e5f3c738d2d9d201395faa4b61a96c8"},
	} {
		d := mac.Extract(bytesOf(t, x.salt), bytesOf(t, x.in))
		if !bytes.Equal(d[:], bytesOf(t, x.key)) {
			t.Errorf("Extract of %s: %x, want %s", x.in, d, x.key)
		}
		want := bytesOf(t, x.want)
		if b := expanded(t, d[:], bytesOf(t, x.use), len(want)); !bytes.Equal(b, want) {
			t.Errorf("Expand of %x: %x, want %x", d, b, want)
		}
	}
}

func TestExpandIsAsTold(t *testing.T) {
	draw := rand.New(rand.NewSource(7))
	for _, many := range lengths() {
		key, use := drawn(draw, many), drawn(draw, lengths()[draw.Intn(len(lengths()))])
		for _, n := range numbers() {
			want, err := hkdf.Expand(sha256.New, key, string(use), n)
			if err != nil {
				t.Fatal(err)
			}
			if b := expanded(t, key, use, n); !bytes.Equal(b, want) || !bytes.Equal(b, toldBytes(key, use, n)) {
				t.Errorf("key of %d, use of %d, %d bytes: not as told", many, len(use), n)
			}
		}
	}
}

func TestExpandToAllNumbers(t *testing.T) {
	key, use := []byte("key"), []byte("use")
	all := toldBytes(key, use, api.MaxExpand)
	for n := range api.MaxExpand + 1 {
		if n > 300 && n < 8100 && n%97 > 0 {
			continue
		}
		if b := expanded(t, key, use, n); !bytes.Equal(b, all[:n]) {
			t.Fatalf("%d bytes: not as told", n)
		}
	}
}

func TestExpandOfNothing(t *testing.T) {
	want := toldBytes(nil, nil, 40)
	for _, x := range [][2][]byte{{nil, nil}, {{}, nil}, {nil, {}}, {{}, {}}} {
		if b := expanded(t, x[0], x[1], 40); !bytes.Equal(b, want) {
			t.Errorf("%v: %x, want %x", x, b, want)
		}
		expanded(t, x[0], x[1], 0)
	}
}

// The example of the chapter among them: -1.
func TestExpandToWhatMayNotBe(t *testing.T) {
	draw := rand.New(rand.NewSource(8))
	for _, n := range []int{math.MinInt, math.MinInt32, -8160, -256, -32, -1, 8161, 8192, 1 << 16, math.MaxInt32, math.MaxInt - 1, math.MaxInt} {
		for _, many := range lengths() {
			if b, e := mac.Expand(drawn(draw, many), drawn(draw, many), n); e != api.ErrLong || len(b) != 0 {
				t.Errorf("%d: error %d, %d bytes", n, e, len(b))
			}
		}
		if b, e := mac.Expand(nil, nil, n); e != api.ErrLong || len(b) != 0 {
			t.Errorf("%d of nothing: error %d, %d bytes", n, e, len(b))
		}
	}
	if api.MaxExpand != 8160 || api.ErrLong != 4 {
		t.Error("api has other numbers than the chapter")
	}
}

func TestTheUseCounts(t *testing.T) {
	met := map[string]bool{}
	for _, x := range [][2]string{{"", ""}, {"k", ""}, {"", "k"}, {"k", "u"}, {"u", "k"}, {"ku", ""}, {"", "ku"}, {"k", "u\x01"}, {"k", "\x01"}} {
		b := string(expanded(t, []byte(x[0]), []byte(x[1]), 64))
		if met[b] || b[:32] == b[32:] {
			t.Errorf("%q: bytes that were met", x)
		}
		met[b] = true
	}
}

// P4.3 and P4.6

func TestEqual(t *testing.T) {
	draw := rand.New(rand.NewSource(9))
	for _, many := range lengths() {
		b := drawn(draw, many)
		if !mac.Equal(b, b) || !mac.Equal(b, slices.Clone(b)) || !mac.Equal(slices.Clone(b), b) {
			t.Errorf("%d bytes are not equal to themselves", many)
		}
		if !mac.Equal(make([]byte, many), make([]byte, many)) {
			t.Errorf("%d bytes 0 are not equal to as many", many)
		}
	}
	for _, x := range [][2][]byte{{nil, nil}, {{}, nil}, {nil, {}}, {{}, {}}} {
		if !mac.Equal(x[0], x[1]) {
			t.Errorf("%v are not equal", x)
		}
	}
}

func TestEqualOfOtherLengths(t *testing.T) {
	b := make([]byte, 1001)
	for _, many := range lengths() {
		for _, more := range []int{1, 2, 256} {
			if many+more > len(b) {
				continue
			}
			if mac.Equal(b[:many], b[:many+more]) || mac.Equal(b[:many+more], b[:many]) {
				t.Errorf("%d and %d bytes are equal", many, many+more)
			}
		}
	}
	if mac.Equal(nil, []byte{0}) || mac.Equal([]byte{0}, nil) || mac.Equal([]byte{}, []byte{0}) || mac.Equal([]byte{0}, []byte{}) {
		t.Error("nothing is equal to a byte 0")
	}
}

func TestEqualAsksEachByte(t *testing.T) {
	draw := rand.New(rand.NewSource(10))
	for _, many := range lengths() {
		a := drawn(draw, many)
		b := slices.Clone(a)
		for i := range b {
			for bit := range 8 {
				b[i] ^= 1 << bit
				if mac.Equal(a, b) || mac.Equal(b, a) {
					t.Fatalf("%d bytes, of which bit %d of byte %d is another one, are equal", many, bit, i)
				}
				b[i] ^= 1 << bit
			}
		}
	}
}

func TestEqualOfAllPairsOfBytes(t *testing.T) {
	for a := range 256 {
		for b := range 256 {
			if mac.Equal([]byte{byte(a)}, []byte{byte(b)}) != (a == b) {
				t.Fatalf("%d and %d", a, b)
			}
		}
	}
}

// Bytes whose differences would go out against one another, were they put together by xor or by a sum.
func TestEqualOfSeveralOtherBytes(t *testing.T) {
	for _, x := range [][2][]byte{
		{{1, 1}, {2, 2}}, {{1, 2}, {2, 1}}, {{0, 0, 0, 0}, {64, 64, 64, 64}}, {{0, 0}, {128, 128}}, {{5, 0}, {0, 5}}, {{1, 2, 3}, {3, 2, 1}},
	} {
		if mac.Equal(x[0], x[1]) || mac.Equal(x[1], x[0]) {
			t.Errorf("%v are equal", x)
		}
	}
}

// P4.4

func TestDeriveIsAsTold(t *testing.T) {
	draw := rand.New(rand.NewSource(11))
	for _, many := range lengths() {
		for _, root := range []api.Digest{{}, api.Digest(drawn(draw, 32)), api.Digest(bytes.Repeat([]byte{255}, 32))} {
			use := drawn(draw, many)
			k := mac.Derive(root, use)
			from := told([]byte{116, 97, 110, 116, 97, 108, 117, 115}, root[:])
			want := toldBytes(from[:], use, 64)
			if !bytes.Equal(k.Enc[:], want[:32]) || !bytes.Equal(k.Mac[:], want[32:]) {
				t.Errorf("use of %d: %x, want %x", many, k, want)
			}
			known, err := hkdf.Key(sha256.New, root[:], []byte("tantalus"), string(use), 64)
			if err != nil || !bytes.Equal(known, slices.Concat(k.Enc[:], k.Mac[:])) {
				t.Errorf("use of %d: %x, the library says %x (%v)", many, k, known, err)
			}
		}
	}
	if mac.Derive(api.Digest{1}, nil) != mac.Derive(api.Digest{1}, []byte{}) {
		t.Error("a nil use is another one than an empty one")
	}
}

func TestDerivedKeysAreUnlike(t *testing.T) {
	met := map[[32]byte]bool{}
	for i := range 32 {
		for _, use := range []string{"", "a", "b", "ab", "a\x00", "tantalus"} {
			var root api.Digest
			root[i] = 1
			k := mac.Derive(root, []byte(use))
			if met[k.Enc] || met[k.Mac] || k.Enc == k.Mac {
				t.Errorf("root %x, use %q: a key that was met", root, use)
			}
			met[k.Enc], met[k.Mac] = true, true
		}
	}
}

// P4.5

func TestLessBytesAreTheBeginningOfMore(t *testing.T) {
	draw := rand.New(rand.NewSource(12))
	for _, many := range lengths() {
		key, use := drawn(draw, many), drawn(draw, 10)
		all := expanded(t, key, use, api.MaxExpand)
		for _, n := range numbers() {
			if !bytes.Equal(expanded(t, key, use, n), all[:n]) {
				t.Errorf("key of %d: %d bytes are not the beginning of %d", many, n, len(all))
			}
		}
	}
}

// wantOneKey fails if the two keys are not as good as each other, or are though they should not be.
func wantOneKey(t *testing.T, one, two []byte, want bool) {
	t.Helper()
	b := []byte("text")
	for name, same := range map[string]bool{
		"Sum":         mac.Sum(one, b) == mac.Sum(two, b),
		"Sum of none": mac.Sum(one) == mac.Sum(two),
		"Extract":     mac.Extract(one, b) == mac.Extract(two, b),
		"Expand":      bytes.Equal(expanded(t, one, b, 100), expanded(t, two, b, 100)),
	} {
		if same != want {
			t.Errorf("%s: keys of %d and %d bytes: %v", name, len(one), len(two), same)
		}
	}
}

func TestAKeyWithBytesZeroBehindIt(t *testing.T) {
	draw := rand.New(rand.NewSource(13))
	for many := range 65 {
		key := drawn(draw, many)
		for more := many; more <= 64; more++ {
			wantOneKey(t, key, append(slices.Clone(key), make([]byte, more-many)...), true)
		}
		wantOneKey(t, key, append(slices.Clone(key), make([]byte, 65-many)...), false)
	}
	wantOneKey(t, nil, make([]byte, 64), true)
	wantOneKey(t, []byte("a"), []byte("\x00a"), false)
	wantOneKey(t, []byte("a"), []byte("a\x01"), false)
}

func TestALongerKeyIsAsGoodAsItsDigest(t *testing.T) {
	draw := rand.New(rand.NewSource(14))
	for _, many := range lengths() {
		key := drawn(draw, many)
		d := sha256.Sum256(key)
		wantOneKey(t, key, d[:], many > 64)
		wantOneKey(t, key, append(d[:], make([]byte, 32)...), many > 64)
	}
	wantOneKey(t, make([]byte, 65), make([]byte, 66), false)
}

// Rules 4 to 6 of all layers.

// called are all calls of the package, once each, with these bytes.
func called(t *testing.T, a, b []byte) [][]byte {
	t.Helper()
	one, two := mac.Sum(a, b, a), mac.Extract(a, b)
	k := mac.Derive(api.Digest{1}, b)
	same := []byte{0}
	if mac.Equal(a, b) {
		same[0] = 1
	}
	return [][]byte{one[:], two[:], expanded(t, a, b, 100), same, k.Enc[:], k.Mac[:]}
}

func TestWhatIsHandedInStays(t *testing.T) {
	for _, many := range lengths() {
		room := drawn(rand.New(rand.NewSource(15)), 2*many+200)
		was := slices.Clone(room)
		a, b := room[:many], room[many:2*many]
		called(t, a, b)
		if !bytes.Equal(room, was) {
			t.Errorf("%d bytes: they were changed, or the room behind them", many)
		}
		l := [][]byte{a, nil, b, a}
		mac.Sum(a, l[:3]...)
		if len(l) != 4 || !bytes.Equal(l[0], a) || l[1] != nil || !bytes.Equal(l[2], b) || !bytes.Equal(l[3], a) {
			t.Errorf("%d bytes: the lists were changed", many)
		}
	}
}

func TestWhatIsBehindAListIsNotRead(t *testing.T) {
	draw := rand.New(rand.NewSource(16))
	for _, many := range lengths() {
		a := drawn(draw, many+100)
		b := append(slices.Clone(a[:many]), drawn(draw, 100)...)
		for i, x := range called(t, a[:many], a[:many]) {
			if !bytes.Equal(x, called(t, b[:many], b[:many])[i]) {
				t.Errorf("%d bytes: answer %d hangs on what is behind them", many, i)
			}
		}
		lists := [][]byte{a, b}
		if mac.Sum(a, lists[:1]...) != told(a, a) || mac.Sum(a, lists[:0]...) != told(a) {
			t.Error("lists behind the lists are read")
		}
	}
}

func TestWhatIsAnsweredIsTheCallers(t *testing.T) {
	key, use := []byte("key"), []byte("use")
	for _, n := range numbers() {
		one, two := expanded(t, key, use, n), expanded(t, key, use, n)
		for i := range one {
			one[i] ^= 255
		}
		one = append(one, "behind it"...)
		if !bytes.Equal(two, toldBytes(key, use, n)) || !bytes.Equal(expanded(t, key, use, n), two) {
			t.Errorf("%d bytes: an answer that was changed shows in another one", n)
		}
	}
	if string(key) != "key" || string(use) != "use" {
		t.Error("an answer shares what was handed in")
	}
}

func TestWhatIsHandedInIsNotKept(t *testing.T) {
	draw := rand.New(rand.NewSource(17))
	for _, many := range lengths() {
		a, b := drawn(draw, many), drawn(draw, many)
		first := called(t, a, b)
		was := slices.Clone(first[2])
		clear(a)
		clear(b)
		if !bytes.Equal(first[2], was) {
			t.Errorf("%d bytes: an answer shares what was handed in", many)
		}
	}
}

func TestTheSameCallsAnswerTheSame(t *testing.T) {
	draw := rand.New(rand.NewSource(18))
	for _, many := range lengths() {
		a, b := drawn(draw, many), drawn(draw, many)
		first := called(t, a, b)
		called(t, b, a)
		for i, x := range called(t, slices.Clone(a), slices.Clone(b)) {
			if !bytes.Equal(x, first[i]) {
				t.Errorf("%d bytes: answer %d is another one the second time", many, i)
			}
		}
	}
}
