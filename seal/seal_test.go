package seal_test

import (
	"bytes"
	"crypto/hmac"
	"crypto/sha256"
	"encoding/binary"
	"encoding/hex"
	"math/rand"
	"slices"
	"testing"

	"tantalus/api"
	"tantalus/seal"
	"tantalus/stream"
)

// The signatures, as the chapter lists them.
var (
	_ func(api.Key, api.Nonce, []byte, []byte) [api.TagSize]byte   = seal.Tag
	_ func(api.Key, api.Nonce, []byte, []byte) []byte              = seal.Seal
	_ func(api.Key, api.Nonce, []byte, []byte) ([]byte, api.Errno) = seal.Open
)

// told is Tag by the chapter's words, the digest by the library.
func told(k api.Key, nonce api.Nonce, ad, crossed []byte) [16]byte {
	b := binary.LittleEndian.AppendUint64(nil, uint64(len(ad)))
	b = append(b, ad...)
	b = append(b, nonce[:]...)
	b = append(b, crossed...)
	h := hmac.New(sha256.New, k.Mac[:])
	h.Write(b)
	return [16]byte(h.Sum(nil)[:16])
}

// toldCross is text, crossed block by block from the count 1 on.
func toldCross(k api.Key, nonce api.Nonce, text []byte) []byte {
	var out []byte
	for count := uint32(1); len(out) < len(text); count++ {
		for _, x := range stream.Block(k.Enc, nonce, count) {
			if len(out) < len(text) {
				out = append(out, x^text[len(out)])
			}
		}
	}
	return out
}

// toldSeal is Seal by the chapter's words.
func toldSeal(k api.Key, nonce api.Nonce, ad, text []byte) []byte {
	crossed := toldCross(k, nonce, text)
	tag := told(k, nonce, ad, crossed)
	return append(crossed, tag[:]...)
}

// toldOpen is Open by the chapter's words.
func toldOpen(k api.Key, nonce api.Nonce, ad, sealed []byte) ([]byte, api.Errno) {
	if len(sealed) < 16 {
		return nil, api.ErrSeal
	}
	ahead, last := sealed[:len(sealed)-16], sealed[len(sealed)-16:]
	if tag := told(k, nonce, ad, ahead); !bytes.Equal(tag[:], last) {
		return nil, api.ErrSeal
	}
	return toldCross(k, nonce, ahead), api.OK
}

// drawn are so many bytes, drawn from a seed that is written down, so that each run draws the same.
func drawn(draw *rand.Rand, many int) []byte {
	b := make([]byte, many)
	draw.Read(b)
	return b
}

// mixed are a key and a nonce that were drawn.
func mixed(draw *rand.Rand) (api.Key, api.Nonce) {
	return api.Key{Enc: [32]byte(drawn(draw, 32)), Mac: [32]byte(drawn(draw, 32))}, api.Nonce(drawn(draw, 12))
}

// lengths are those of texts: none, about a tag's, about each block's end, and some.
func lengths() []int {
	return []int{0, 1, 2, 14, 15, 16, 17, 18, 31, 32, 33, 62, 63, 64, 65, 66, 126, 127, 128, 129, 130, 1000}
}

// ads are what goes with a text: none, an empty one, short ones, about a nonce's length, and those whose length takes two bytes, and three.
func ads(draw *rand.Rand) [][]byte {
	l := [][]byte{nil, {}, {0}, {255}, []byte("ad"), make([]byte, 8)}
	for _, many := range []int{11, 12, 13, 16, 63, 64, 65, 255, 256, 257, 65535, 65536} {
		l = append(l, drawn(draw, many))
	}
	return l
}

// key is the one with rising bytes, of the known texts.
func key() (api.Key, api.Nonce) {
	var k api.Key
	var nonce api.Nonce
	for i := range 32 {
		k.Enc[i], k.Mac[i] = byte(i), byte(32+i)
	}
	for i := range nonce {
		nonce[i] = byte(64 + i)
	}
	return k, nonce
}

// bytesOf is what the hexadecimal digits tell.
func bytesOf(t *testing.T, digits string) []byte {
	t.Helper()
	b, err := hex.DecodeString(digits)
	if err != nil {
		t.Fatal(err)
	}
	return b
}

// opens asks that sealed opens to text.
func opens(t *testing.T, what string, k api.Key, nonce api.Nonce, ad, sealed, text []byte) {
	t.Helper()
	if b, e := seal.Open(k, nonce, ad, sealed); e != api.OK || !bytes.Equal(b, text) {
		t.Errorf("%s: %x, error %d, want %x", what, b, e, text)
	}
}

// refused asks that sealed is not opened, and that nothing is answered beside the error.
func refused(t *testing.T, what string, k api.Key, nonce api.Nonce, ad, sealed []byte) {
	t.Helper()
	if b, e := seal.Open(k, nonce, ad, sealed); e != api.ErrSeal || len(b) != 0 {
		t.Errorf("%s: %x, error %d, want error %d alone", what, b, e, api.ErrSeal)
	}
}

// P6.1

func TestTagsAreAsTold(t *testing.T) {
	draw := rand.New(rand.NewSource(1))
	for _, ad := range ads(draw) {
		for _, many := range lengths() {
			k, nonce := mixed(draw)
			crossed := drawn(draw, many)
			if tag, want := seal.Tag(k, nonce, ad, crossed), told(k, nonce, ad, crossed); tag != want {
				t.Fatalf("ad of %d bytes, %d crossed: %x, want %x", len(ad), many, tag, want)
			}
		}
	}
}

func TestTagsOfZerosAndOfAllBits(t *testing.T) {
	all := func(n int) []byte { return bytes.Repeat([]byte{255}, n) }
	full := api.Key{Enc: [32]byte(all(32)), Mac: [32]byte(all(32))}
	for _, k := range []api.Key{{}, full, {Enc: full.Enc}, {Mac: full.Mac}} {
		for _, nonce := range []api.Nonce{{}, api.Nonce(all(12))} {
			for _, b := range [][]byte{nil, make([]byte, 70), all(70)} {
				if tag, want := seal.Tag(k, nonce, b, b), told(k, nonce, b, b); tag != want {
					t.Errorf("%x, want %x", tag, want)
				}
			}
		}
	}
}

// A tag is of the Mac, not of the Enc.
func TestATagHangsOnTheMacAlone(t *testing.T) {
	draw := rand.New(rand.NewSource(2))
	k, nonce := mixed(draw)
	tag := seal.Tag(k, nonce, []byte("ad"), []byte("crossed"))
	for i := range 32 {
		other := k
		other.Enc[i] ^= 1
		if seal.Tag(other, nonce, []byte("ad"), []byte("crossed")) != tag {
			t.Errorf("a key whose Enc's byte %d is another one has another tag", i)
		}
		other = k
		other.Mac[i] ^= 1
		if seal.Tag(other, nonce, []byte("ad"), []byte("crossed")) == tag {
			t.Errorf("a key whose Mac's byte %d is another one has the same tag", i)
		}
	}
}

// All eight bytes of ad's length are told: that of 2^24 bytes has its highest one at the fourth place.
func TestTagsOfLongAds(t *testing.T) {
	draw := rand.New(rand.NewSource(3))
	k, nonce := mixed(draw)
	for _, many := range []int{1 << 16, 1<<16 + 1, 1<<24 - 1, 1 << 24, 1<<24 + 258} {
		ad := make([]byte, many)
		if tag, want := seal.Tag(k, nonce, ad, []byte("x")), told(k, nonce, ad, []byte("x")); tag != want {
			t.Errorf("ad of %d bytes: %x, want %x", many, tag, want)
		}
	}
}

func TestATagOfManyBytes(t *testing.T) {
	draw := rand.New(rand.NewSource(4))
	k, nonce := mixed(draw)
	b := drawn(draw, 1<<20)
	if tag, want := seal.Tag(k, nonce, nil, b), told(k, nonce, nil, b); tag != want {
		t.Errorf("%x, want %x", tag, want)
	}
}

// Without ad's length the bytes that the tag is of would be the same on both sides.
func TestBytesThatMoveFromAd(t *testing.T) {
	draw := rand.New(rand.NewSource(5))
	k, _ := mixed(draw)
	for range 20 {
		b := drawn(draw, 60)
		met := map[[16]byte]int{}
		for at := range 40 {
			tag := seal.Tag(k, api.Nonce(b[at:at+12]), b[:at], b[at+12:])
			if was, ok := met[tag]; ok {
				t.Fatalf("parted at %d and at %d the tag is the same", was, at)
			}
			met[tag] = at
		}
	}
}

// P6.2

// The known texts were made by another program, of the chapter's words.
func known() [](struct{ ad, text, want string }) {
	var ad []byte
	for i := range 300 {
		ad = append(ad, byte(i))
	}
	return [](struct{ ad, text, want string }){
		{"", "", "d15751ff485ebeec45997aaaac37c2e0"},
		{"ad", "", "673b6e1014a9336ae3f143fafac0b97a"},
		{"", "a", "99eb79f7de3ece811e0412f68f24a0eb21"},
		{"ad", "a text", "997408e40a3ef92e81be1e0c61a091737660366ebac0"},
		{string(ad), "Ladies and Gentlemen of the class of '99: If I could offer you only one tip for the future, sunscreen would be it.", "b43518e81739ce6036abd647de8119a1d1a106766493274f8a64b77b894b5b198393f616066c5bcf304f66214a1dcefd8e2600adde19eb49beb02f42671e130ea55c507d3c7d820b36671da9a541574aa933f50e9ac8941bcf14800d7f29ec07fd4aeb3f42a4621877b7f4e469dc46d0d6d73b4fb329b322396864aa7e6d246f6899"},
	}
}

func TestKnownTexts(t *testing.T) {
	k, nonce := key()
	for _, x := range known() {
		want := bytesOf(t, x.want)
		if b := seal.Seal(k, nonce, []byte(x.ad), []byte(x.text)); !bytes.Equal(b, want) {
			t.Errorf("%q: %x, want %x", x.text, b, want)
		}
		opens(t, x.text, k, nonce, []byte(x.ad), want, []byte(x.text))
	}
}

func TestKnownZeros(t *testing.T) {
	want := bytesOf(t, "9f07e7be5551387a98ba977c732d080dcb0f29a048e3656912c6533e32ee7aed29b721769ce64e43d57133b074d839d531ed1f28510afb45ace10a1f4b794d6f2df767da68aaefebedb4dce88960840526")
	if b := seal.Seal(api.Key{}, api.Nonce{}, nil, make([]byte, 65)); !bytes.Equal(b, want) {
		t.Errorf("%x, want %x", b, want)
	}
	want = bytesOf(t, "600933d0f4553b3e019a240fcef903b1")
	if b := seal.Seal(api.Key{}, api.Nonce{}, nil, nil); !bytes.Equal(b, want) {
		t.Errorf("%x, want %x", b, want)
	}
}

func TestSealIsAsTold(t *testing.T) {
	draw := rand.New(rand.NewSource(6))
	for _, ad := range ads(draw) {
		for _, many := range lengths() {
			k, nonce := mixed(draw)
			text := drawn(draw, many)
			b, want := seal.Seal(k, nonce, ad, text), toldSeal(k, nonce, ad, text)
			if !bytes.Equal(b, want) {
				t.Fatalf("ad of %d bytes, text of %d: %x, want %x", len(ad), many, b, want)
			}
			if len(b) != many+16 {
				t.Fatalf("a text of %d bytes has %d, sealed", many, len(b))
			}
		}
	}
}

func TestSealOfAllLengths(t *testing.T) {
	draw := rand.New(rand.NewSource(7))
	k, nonce := mixed(draw)
	text := drawn(draw, 300)
	for many := range len(text) + 1 {
		b, want := seal.Seal(k, nonce, []byte("ad"), text[:many]), toldSeal(k, nonce, []byte("ad"), text[:many])
		if !bytes.Equal(b, want) {
			t.Fatalf("text of %d bytes: %x, want %x", many, b, want)
		}
	}
}

// Zeros crossed are the blocks: the one with the count 0 is not among them.
func TestTheFirstCountIsOne(t *testing.T) {
	draw := rand.New(rand.NewSource(8))
	k, nonce := mixed(draw)
	b := seal.Seal(k, nonce, []byte("ad"), make([]byte, 192))
	for i := range 3 {
		block := stream.Block(k.Enc, nonce, uint32(1+i))
		if got := b[64*i : 64*i+64]; !bytes.Equal(got, block[:]) {
			t.Errorf("block %d: %x, want %x", i, got, block)
		}
	}
}

func TestTheTagIsOfTheCrossedBytes(t *testing.T) {
	draw := rand.New(rand.NewSource(9))
	for _, many := range lengths() {
		k, nonce := mixed(draw)
		text, ad := drawn(draw, many), drawn(draw, 20)
		b := seal.Seal(k, nonce, ad, text)
		if !bytes.Equal(b[:many], stream.Cross(k.Enc, nonce, 1, text)) {
			t.Errorf("text of %d bytes: it is not crossed from 1 on", many)
		}
		if [16]byte(b[many:]) != seal.Tag(k, nonce, ad, b[:many]) {
			t.Errorf("text of %d bytes: what is behind it is not the tag", many)
		}
	}
}

func TestSealOfNoTextAndNoAd(t *testing.T) {
	draw := rand.New(rand.NewSource(10))
	k, nonce := mixed(draw)
	want := told(k, nonce, nil, nil)
	for _, ad := range [][]byte{nil, {}} {
		for _, text := range [][]byte{nil, {}} {
			b := seal.Seal(k, nonce, ad, text)
			if !bytes.Equal(b, want[:]) {
				t.Errorf("ad nil %t, text nil %t: %x, want %x", ad == nil, text == nil, b, want)
			}
			opens(t, "no text", k, nonce, nil, b, nil)
			opens(t, "no text", k, nonce, []byte{}, b, nil)
		}
	}
}

func TestSealOfAllBytes(t *testing.T) {
	k, nonce := key()
	for x := range 256 {
		for _, many := range []int{1, 65} {
			text := bytes.Repeat([]byte{byte(x)}, many)
			if b, want := seal.Seal(k, nonce, text, text), toldSeal(k, nonce, text, text); !bytes.Equal(b, want) {
				t.Fatalf("%d bytes %d: %x, want %x", many, x, b, want)
			}
		}
	}
}

// P6.3

func TestFewBytes(t *testing.T) {
	draw := rand.New(rand.NewSource(11))
	k, nonce := mixed(draw)
	tag := told(k, nonce, nil, nil)
	for many := range 16 {
		refused(t, "few zeros", k, nonce, nil, make([]byte, many))
		refused(t, "few that were drawn", k, nonce, []byte("ad"), drawn(draw, many))
		refused(t, "a tag's beginning", k, nonce, nil, tag[:many])
		refused(t, "a tag's end", k, nonce, nil, tag[16-many:])
	}
	refused(t, "nil", k, nonce, nil, nil)
	refused(t, "nil and zeros", api.Key{}, api.Nonce{}, nil, nil)
}

func TestJustATag(t *testing.T) {
	draw := rand.New(rand.NewSource(12))
	for _, ad := range ads(draw) {
		k, nonce := mixed(draw)
		tag := told(k, nonce, ad, nil)
		opens(t, "a tag of no bytes", k, nonce, ad, tag[:], nil)
		refused(t, "another tag", k, nonce, ad, drawn(draw, 16))
		refused(t, "zeros", k, nonce, ad, make([]byte, 16))
	}
}

func TestOneBitThatIsAnother(t *testing.T) {
	draw := rand.New(rand.NewSource(13))
	for _, many := range []int{0, 1, 15, 16, 17, 63, 64, 65, 129} {
		k, nonce := mixed(draw)
		ad := drawn(draw, 5)
		b := seal.Seal(k, nonce, ad, drawn(draw, many))
		for bit := range 8 * len(b) {
			c := slices.Clone(b)
			c[bit/8] ^= 1 << (bit % 8)
			refused(t, "one bit", k, nonce, ad, c)
		}
	}
}

// Two bits that are others at two places of the tag: what an xor of all bytes, or a sum, would not see.
func TestTwoBitsThatAreOthers(t *testing.T) {
	draw := rand.New(rand.NewSource(14))
	k, nonce := mixed(draw)
	b := seal.Seal(k, nonce, nil, []byte("text"))
	for i := range 16 {
		for j := range i {
			c := slices.Clone(b)
			c[4+i] ^= 128
			c[4+j] ^= 128
			refused(t, "two bits", k, nonce, nil, c)
			c = slices.Clone(b)
			c[4+i], c[4+j] = c[4+j], c[4+i]
			if c[4+i] != c[4+j] {
				refused(t, "two bytes in each other's place", k, nonce, nil, c)
			}
		}
	}
}

func TestCutAndWithMore(t *testing.T) {
	draw := rand.New(rand.NewSource(15))
	for _, many := range lengths() {
		k, nonce := mixed(draw)
		b := seal.Seal(k, nonce, []byte("ad"), drawn(draw, many))
		for cut := range min(len(b), 200) {
			refused(t, "cut behind", k, nonce, []byte("ad"), b[:len(b)-cut-1])
			refused(t, "cut ahead", k, nonce, []byte("ad"), b[cut+1:])
		}
		for _, x := range []byte{0, 1, 255, b[0], b[len(b)-1]} {
			refused(t, "a byte more behind", k, nonce, []byte("ad"), append(slices.Clone(b), x))
			refused(t, "a byte more ahead", k, nonce, []byte("ad"), append([]byte{x}, b...))
			refused(t, "a byte more ahead of the tag", k, nonce, []byte("ad"), slices.Insert(slices.Clone(b), many, x))
		}
		refused(t, "a tag more", k, nonce, []byte("ad"), append(slices.Clone(b), b[many:]...))
	}
}

func TestOpenIsAsTold(t *testing.T) {
	draw := rand.New(rand.NewSource(16))
	for _, ad := range ads(draw) {
		for _, many := range lengths() {
			k, nonce := mixed(draw)
			good := toldSeal(k, nonce, ad, drawn(draw, many))
			bad := slices.Clone(good)
			bad[draw.Intn(len(bad))] ^= byte(1 + draw.Intn(255))
			for _, sealed := range [][]byte{good, bad, drawn(draw, many)} {
				text, e := seal.Open(k, nonce, ad, sealed)
				want, f := toldOpen(k, nonce, ad, sealed)
				if e != f || !bytes.Equal(text, want) {
					t.Fatalf("ad of %d bytes, text of %d: %x, error %d, want %x, error %d", len(ad), many, text, e, want, f)
				}
			}
		}
	}
}

// P6.4

func TestWhatWasSealedOpens(t *testing.T) {
	draw := rand.New(rand.NewSource(17))
	for _, ad := range ads(draw) {
		for _, many := range lengths() {
			k, nonce := mixed(draw)
			for _, text := range [][]byte{make([]byte, many), bytes.Repeat([]byte{255}, many), drawn(draw, many)} {
				opens(t, "sealed", k, nonce, ad, seal.Seal(k, nonce, ad, text), text)
			}
		}
	}
}

func TestALongText(t *testing.T) {
	draw := rand.New(rand.NewSource(18))
	k, nonce := mixed(draw)
	text := drawn(draw, 1<<20+3)
	b := seal.Seal(k, nonce, []byte("ad"), text)
	opens(t, "a long text", k, nonce, []byte("ad"), b, text)
	b[700000] ^= 1
	refused(t, "a long text with another bit", k, nonce, []byte("ad"), b)
}

// Whatever bytes have their tag behind them are opened; and what they open to is sealed to the same bytes.
func TestWhatIsOpenedSealedAgain(t *testing.T) {
	draw := rand.New(rand.NewSource(19))
	for _, ad := range ads(draw) {
		for _, many := range lengths() {
			k, nonce := mixed(draw)
			sealed := drawn(draw, many)
			tag := seal.Tag(k, nonce, ad, sealed)
			sealed = append(sealed, tag[:]...)
			text, e := seal.Open(k, nonce, ad, sealed)
			if e != api.OK || !bytes.Equal(seal.Seal(k, nonce, ad, text), sealed) {
				t.Fatalf("ad of %d bytes, %d crossed: error %d, or sealed again they are others", len(ad), many, e)
			}
		}
	}
}

func TestUnlikeTextsAreSealedUnlike(t *testing.T) {
	k, nonce := key()
	met := map[string]int{}
	for x := range 1 << 16 {
		b := string(seal.Seal(k, nonce, nil, []byte{byte(x), byte(x >> 8)}))
		if was, ok := met[b]; ok {
			t.Fatalf("%d and %d are sealed to the same", was, x)
		}
		met[b] = x
	}
}

// P6.5

func TestAnotherAd(t *testing.T) {
	draw := rand.New(rand.NewSource(20))
	for _, ad := range ads(draw) {
		k, nonce := mixed(draw)
		text := drawn(draw, 40)
		b := seal.Seal(k, nonce, ad, text)
		for i := range min(len(ad), 300) {
			other := slices.Clone(ad)
			other[i] ^= 1 << draw.Intn(8)
			refused(t, "a byte of ad that is another one", k, nonce, other, b)
		}
		refused(t, "a byte more behind ad", k, nonce, append(slices.Clone(ad), 0), b)
		refused(t, "a byte more ahead of ad", k, nonce, append([]byte{0}, ad...), b)
		if len(ad) > 0 {
			refused(t, "no ad", k, nonce, nil, b)
			refused(t, "ad that is cut behind", k, nonce, ad[:len(ad)-1], b)
			refused(t, "ad that is cut ahead", k, nonce, ad[1:], b)
		}
		opens(t, "the ad", k, nonce, slices.Clone(ad), b, text)
	}
}

func TestAnotherNonce(t *testing.T) {
	draw := rand.New(rand.NewSource(21))
	k, nonce := mixed(draw)
	for _, many := range []int{0, 1, 64, 100} {
		b := seal.Seal(k, nonce, []byte("ad"), drawn(draw, many))
		for bit := range 8 * 12 {
			other := nonce
			other[bit/8] ^= 1 << (bit % 8)
			refused(t, "another nonce", k, other, []byte("ad"), b)
		}
	}
}

func TestAnotherMac(t *testing.T) {
	draw := rand.New(rand.NewSource(22))
	k, nonce := mixed(draw)
	for _, many := range []int{0, 1, 64, 100} {
		b := seal.Seal(k, nonce, []byte("ad"), drawn(draw, many))
		for bit := range 8 * 32 {
			other := k
			other.Mac[bit/8] ^= 1 << (bit % 8)
			refused(t, "another Mac", other, nonce, []byte("ad"), b)
		}
		refused(t, "Enc for Mac", api.Key{Enc: k.Enc, Mac: k.Enc}, nonce, []byte("ad"), b)
		refused(t, "Enc and Mac in each other's place", api.Key{Enc: k.Mac, Mac: k.Enc}, nonce, []byte("ad"), b)
	}
}

// The tag is not of the Enc: under another one the bytes open, to another text.
func TestAnotherEnc(t *testing.T) {
	draw := rand.New(rand.NewSource(23))
	k, nonce := mixed(draw)
	text := drawn(draw, 100)
	b := seal.Seal(k, nonce, []byte("ad"), text)
	for bit := range 8 * 32 {
		other := k
		other.Enc[bit/8] ^= 1 << (bit % 8)
		want := stream.Cross(other.Enc, nonce, 1, b[:100])
		opens(t, "another Enc", other, nonce, []byte("ad"), b, want)
		if bytes.Equal(want, text) {
			t.Errorf("bit %d of Enc is none that texts are crossed by", bit)
		}
	}
	empty := seal.Seal(k, nonce, []byte("ad"), nil)
	opens(t, "another Enc, no text", api.Key{Mac: k.Mac}, nonce, []byte("ad"), empty, nil)
}

// Sealed under one, opened under all others: it opens just where the tag is the same.
func TestOpensJustWhereTheTagIsTheSame(t *testing.T) {
	draw := rand.New(rand.NewSource(24))
	type under struct {
		k     api.Key
		nonce api.Nonce
		ad    string
		text  string
	}
	var l []under
	for _, enc := range [][32]byte{{}, {1}} {
		for _, m := range [][32]byte{{}, {31: 1}} {
			for _, nonce := range []api.Nonce{{}, {11: 1}} {
				for _, ad := range []string{"", "\x00", "a"} {
					for _, text := range []string{"", "\x00", string(drawn(draw, 65))} {
						l = append(l, under{api.Key{Enc: enc, Mac: m}, nonce, ad, text})
					}
				}
			}
		}
	}
	for _, x := range l {
		b := seal.Seal(x.k, x.nonce, []byte(x.ad), []byte(x.text))
		for _, y := range l {
			same := x.k.Mac == y.k.Mac && x.nonce == y.nonce && x.ad == y.ad
			if tag := seal.Tag(y.k, y.nonce, []byte(y.ad), b[:len(x.text)]); same != bytes.Equal(tag[:], b[len(x.text):]) {
				t.Fatalf("a tag that should be the same is not, or one that should not be is")
			}
			if same {
				opens(t, "the same tag", y.k, y.nonce, []byte(y.ad), b, stream.Cross(y.k.Enc, y.nonce, 1, b[:len(x.text)]))
			} else {
				refused(t, "another tag", y.k, y.nonce, []byte(y.ad), b)
			}
		}
	}
}

// A byte goes from ad's end into the nonce, and the nonce's last one ahead of the crossed ones: the bytes behind ad's length stay.
func TestAByteThatMovesFromAdsEnd(t *testing.T) {
	draw := rand.New(rand.NewSource(25))
	for range 50 {
		k, nonce := mixed(draw)
		ad := drawn(draw, 1+draw.Intn(40))
		b := seal.Seal(k, nonce, ad, drawn(draw, draw.Intn(70)))
		all := slices.Concat(ad, nonce[:], b)
		for at := range len(all) - 12 - 16 {
			if at == len(ad) {
				continue
			}
			refused(t, "bytes that moved", k, api.Nonce(all[at:at+12]), all[:at], all[at+12:])
		}
	}
}

// Rules 4 to 6 of all layers.

func TestWhatIsHandedInStays(t *testing.T) {
	draw := rand.New(rand.NewSource(26))
	for _, many := range lengths() {
		k, nonce := mixed(draw)
		wasKey, wasNonce := k, nonce
		ad, text := drawn(draw, 60), drawn(draw, many+200)
		sealed := append(seal.Seal(k, nonce, ad[:20], text[:many]), drawn(draw, 200)...)
		bad := append(drawn(draw, many+16), drawn(draw, 200)...)
		wasAd, wasText, wasSealed, wasBad := slices.Clone(ad), slices.Clone(text), slices.Clone(sealed), slices.Clone(bad)
		seal.Tag(k, nonce, ad[:20], text[:many])
		seal.Seal(k, nonce, ad[:20], text[:many])
		opens(t, "with room behind it", k, nonce, ad[:20], sealed[:many+16], text[:many])
		refused(t, "with room behind it", k, nonce, ad[:20], bad[:many+16])
		if !bytes.Equal(ad, wasAd) || !bytes.Equal(text, wasText) || !bytes.Equal(sealed, wasSealed) || !bytes.Equal(bad, wasBad) || k != wasKey || nonce != wasNonce {
			t.Errorf("%d bytes: what was handed in was changed, or the room behind it", many)
		}
	}
}

func TestWhatIsBehindAListIsNotRead(t *testing.T) {
	draw := rand.New(rand.NewSource(27))
	for _, many := range lengths() {
		k, nonce := mixed(draw)
		ad, text := drawn(draw, 20), drawn(draw, many)
		sealed := seal.Seal(k, nonce, ad, text)
		roomy := func(b []byte) []byte { return append(slices.Clone(b), drawn(draw, 100)...)[:len(b)] }
		if seal.Tag(k, nonce, roomy(ad), roomy(text)) != seal.Tag(k, nonce, ad, text) {
			t.Errorf("%d bytes: the tag hangs on what is behind them", many)
		}
		if !bytes.Equal(seal.Seal(k, nonce, roomy(ad), roomy(text)), sealed) {
			t.Errorf("%d bytes: what they are sealed to hangs on what is behind them", many)
		}
		opens(t, "with other room", k, nonce, roomy(ad), roomy(sealed), text)
		for cut := range 17 {
			refused(t, "cut, with the rest in the room behind it", k, nonce, ad, sealed[:len(sealed)-min(cut+1, len(sealed))])
		}
	}
}

func TestWhatIsAnsweredIsTheCallers(t *testing.T) {
	draw := rand.New(rand.NewSource(28))
	for _, many := range lengths() {
		k, nonce := mixed(draw)
		ad, text := drawn(draw, 20), drawn(draw, many)
		wasText, want := slices.Clone(text), toldSeal(k, nonce, ad, text)
		one, two := seal.Seal(k, nonce, ad, text), seal.Seal(k, nonce, ad, text)
		handed := slices.Clone(want)
		first, _ := seal.Open(k, nonce, ad, handed)
		second, _ := seal.Open(k, nonce, ad, handed)
		for i := range one {
			one[i] ^= 255
		}
		for i := range first {
			first[i] ^= 255
		}
		_, _ = append(one, "behind it"...), append(first, "behind it"...)
		if !bytes.Equal(two, want) || !bytes.Equal(second, wasText) {
			t.Errorf("%d bytes: an answer that was changed shows in another one", many)
		}
		if !bytes.Equal(text, wasText) || !bytes.Equal(handed, want) {
			t.Errorf("%d bytes: an answer shares what was handed in", many)
		}
		clear(text)
		clear(handed)
		clear(ad)
		if !bytes.Equal(two, want) || !bytes.Equal(second, wasText) {
			t.Errorf("%d bytes: what was handed in is kept", many)
		}
	}
}

func TestTheSameCallsAnswerTheSame(t *testing.T) {
	draw := rand.New(rand.NewSource(29))
	for _, many := range lengths() {
		k, nonce := mixed(draw)
		ad, text := drawn(draw, 20), drawn(draw, many)
		tag, sealed := seal.Tag(k, nonce, ad, text), seal.Seal(k, nonce, ad, text)
		other, one := mixed(draw)
		seal.Seal(other, one, nil, drawn(draw, 100))
		refused(t, "another one", other, one, nil, sealed)
		if seal.Tag(k, nonce, slices.Clone(ad), slices.Clone(text)) != tag || !bytes.Equal(seal.Seal(k, nonce, ad, slices.Clone(text)), sealed) {
			t.Errorf("%d bytes: the second time the answer is another one", many)
		}
		opens(t, "once", k, nonce, ad, sealed, text)
		opens(t, "and again", k, nonce, ad, sealed, text)
	}
}

// Examples

func TestExamples(t *testing.T) {
	k, nonce := key()
	for many := range 100 {
		if b := seal.Seal(k, nonce, nil, make([]byte, many)); len(b) != many+16 {
			t.Errorf("a text of %d bytes has %d, sealed", many, len(b))
		}
	}
	refused(t, "15 bytes", k, nonce, nil, make([]byte, 15))
	refused(t, "another nonce", k, api.Nonce{1}, nil, seal.Seal(k, nonce, nil, []byte("a text")))
}
