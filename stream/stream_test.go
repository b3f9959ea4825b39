package stream_test

import (
	"bytes"
	"encoding/binary"
	"encoding/hex"
	"math"
	"math/bits"
	"math/rand"
	"slices"
	"testing"

	"tantalus/stream"
)

// The signatures, as the chapter lists them.
var (
	_ func([32]byte, [12]byte, uint32) [64]byte       = stream.Block
	_ func([32]byte, [12]byte, uint32, []byte) []byte = stream.Cross
)

// toldQuarters are the places of a round's quarters, as the chapter lists them.
var toldQuarters = [8][4]int{
	{0, 4, 8, 12}, {1, 5, 9, 13}, {2, 6, 10, 14}, {3, 7, 11, 15},
	{0, 5, 10, 15}, {1, 6, 11, 12}, {2, 7, 8, 13}, {3, 4, 9, 14},
}

// toldTurn is x with its highest k bits moved to the bottom.
func toldTurn(x uint32, k int) uint32 {
	return x<<k | x>>(32-k)
}

// told is Block by the chapter's words: what the program is held against, beside the texts that are known.
func told(key [32]byte, nonce [12]byte, count uint32) [64]byte {
	x := []uint32{1634760805, 857760878, 2036477234, 1797285236}
	for b := key[:]; len(b) > 0; b = b[4:] {
		x = append(x, binary.LittleEndian.Uint32(b))
	}
	x = append(x, count)
	for b := nonce[:]; len(b) > 0; b = b[4:] {
		x = append(x, binary.LittleEndian.Uint32(b))
	}
	y := slices.Clone(x)
	for range 10 {
		for _, p := range toldQuarters {
			a, b, c, d := p[0], p[1], p[2], p[3]
			y[a] = y[a] + y[b]
			y[d] = toldTurn(y[d]^y[a], 16)
			y[c] = y[c] + y[d]
			y[b] = toldTurn(y[b]^y[c], 12)
			y[a] = y[a] + y[b]
			y[d] = toldTurn(y[d]^y[a], 8)
			y[c] = y[c] + y[d]
			y[b] = toldTurn(y[b]^y[c], 7)
		}
	}
	var out []byte
	for i := range y {
		out = binary.LittleEndian.AppendUint32(out, y[i]+x[i])
	}
	return [64]byte(out)
}

// toldCross is Cross by the chapter's words.
func toldCross(key [32]byte, nonce [12]byte, count uint32, b []byte) []byte {
	var out []byte
	for len(out) < len(b) {
		block := told(key, nonce, count)
		for _, x := range block {
			if len(out) < len(b) {
				out = append(out, x^b[len(out)])
			}
		}
		count++
	}
	return out
}

// drawn are so many bytes, drawn from a seed that is written down, so that each run draws the same.
func drawn(draw *rand.Rand, many int) []byte {
	b := make([]byte, many)
	draw.Read(b)
	return b
}

// keys are those of zeros, of all bits, the one of the chapter's example, some with one bit, and mixed ones.
func keys(draw *rand.Rand) [][32]byte {
	var all, rising [32]byte
	for i := range all {
		all[i], rising[i] = 255, byte(i)
	}
	l := [][32]byte{{}, all, rising, {0: 1}, {0: 128}, {15: 7}, {16: 7}, {31: 1}, {31: 128}}
	for range 4 {
		l = append(l, [32]byte(drawn(draw, 32)))
	}
	return l
}

// nonces are those of zeros, of all bits, the one of the chapter's example, some with one bit, and mixed ones.
func nonces(draw *rand.Rand) [][12]byte {
	all := [12]byte(bytes.Repeat([]byte{255}, 12))
	l := [][12]byte{{}, all, {3: 9, 7: 74}, {0: 1}, {4: 128}, {11: 1}, {11: 128}}
	for range 4 {
		l = append(l, [12]byte(drawn(draw, 12)))
	}
	return l
}

// counts are none, all bits, the ones about where the count goes round, about each half, and mixed ones.
func counts(draw *rand.Rand) []uint32 {
	l := []uint32{0, 1, 2, 255, 256, 65535, 65536, 1<<31 - 1, 1 << 31, 1<<31 + 1, math.MaxUint32 - 2, math.MaxUint32 - 1, math.MaxUint32}
	for range 4 {
		l = append(l, draw.Uint32())
	}
	return l
}

// lengths are those of what is crossed: nothing, about each block's end, and some.
func lengths() []int {
	return []int{0, 1, 2, 3, 4, 31, 32, 33, 62, 63, 64, 65, 66, 126, 127, 128, 129, 130, 191, 192, 193, 256, 1000}
}

// mixed are a key, a nonce and a count that were drawn.
func mixed(draw *rand.Rand) ([32]byte, [12]byte, uint32) {
	return [32]byte(drawn(draw, 32)), [12]byte(drawn(draw, 12)), draw.Uint32()
}

// bytesOf is what the hexadecimal digits tell.
func bytesOf(t *testing.T, digits string) []byte {
	t.Helper()
	b, err := hex.DecodeString(digits)
	if err != nil {
		t.Fatal(err)
	}
	return b
}

// P5.1

func TestExampleOfABlock(t *testing.T) {
	var key [32]byte
	for i := range key {
		key[i] = byte(i)
	}
	b := stream.Block(key, [12]byte{0, 0, 0, 9, 0, 0, 0, 74, 0, 0, 0, 0}, 1)
	if want := []byte{16, 241, 231, 228, 209, 59, 89, 21}; !bytes.Equal(b[:8], want) {
		t.Errorf("it begins with %d, want %d", b[:8], want)
	}
}

// The blocks that are known are those of RFC 8439.
func TestKnownBlocks(t *testing.T) {
	const zeros = "0000000000000000000000000000000000000000000000000000000000000000"
	for _, x := range []struct {
		key, nonce string
		count      uint32
		want       string
	}{
		{"000102030405060708090a0b0c0d0e0f101112131415161718191a1b1c1d1e1f", "000000090000004a00000000", 1, "10f1e7e4d13b5915500fdd1fa32071c4c7d1f4c733c068030422aa9ac3d46c4ed2826446079faa0914c2d705d98b02a2b5129cd1de164eb9cbd083e8a2503c4e"},
		{zeros, zeros[:24], 0, "76b8e0ada0f13d90405d6ae55386bd28bdd219b8a08ded1aa836efcc8b770dc7da41597c5157488d7724e03fb8d84a376a43b8f41518a11cc387b669b2ee6586"},
		{zeros, zeros[:24], 1, "9f07e7be5551387a98ba977c732d080dcb0f29a048e3656912c6533e32ee7aed29b721769ce64e43d57133b074d839d531ed1f28510afb45ace10a1f4b794d6f"},
		{zeros[:62] + "01", zeros[:24], 1, "3aeb5224ecf849929b9d828db1ced4dd832025e8018b8160b82284f3c949aa5a8eca00bbb4a73bdad192b5c42f73f2fd4e273644c8b36125a64addeb006c13a0"},
		{"00ff" + zeros[:60], zeros[:24], 2, "72d54dfbf12ec44b362692df94137f328fea8da73990265ec1bbbea1ae9af0ca13b25aa26cb4a648cb9b9d1be65b2c0924a66c54d545ec1b7374f4872e99f096"},
		{zeros, zeros[:22] + "02", 0, "c2c64d378cd536374ae204b9ef933fcd1a8b2288b3dfa49672ab765b54ee27c78a970e0e955c14f3a88e741b97c286f75f8fc299e8148362fa198a39531bed6d"},
	} {
		b := stream.Block([32]byte(bytesOf(t, x.key)), [12]byte(bytesOf(t, x.nonce)), x.count)
		if !bytes.Equal(b[:], bytesOf(t, x.want)) {
			t.Errorf("key %s, nonce %s, count %d: %x, want %s", x.key, x.nonce, x.count, b, x.want)
		}
	}
}

func TestBlocksAreAsTold(t *testing.T) {
	draw := rand.New(rand.NewSource(1))
	for _, key := range keys(draw) {
		for _, nonce := range nonces(draw) {
			for _, count := range counts(draw) {
				if b, want := stream.Block(key, nonce, count), told(key, nonce, count); b != want {
					t.Fatalf("key %x, nonce %x, count %d: %x, want %x", key, nonce, count, b, want)
				}
			}
		}
	}
}

func TestDrawnBlocksAreAsTold(t *testing.T) {
	draw := rand.New(rand.NewSource(2))
	for range 3000 {
		key, nonce, count := mixed(draw)
		if b, want := stream.Block(key, nonce, count), told(key, nonce, count); b != want {
			t.Fatalf("key %x, nonce %x, count %d: %x, want %x", key, nonce, count, b, want)
		}
	}
}

func TestOneBitThatIsAnother(t *testing.T) {
	met := map[[64]byte]bool{}
	meet := func(what string, bit int, key [32]byte, nonce [12]byte, count uint32) {
		b := stream.Block(key, nonce, count)
		if met[b] || b != told(key, nonce, count) {
			t.Errorf("%s with bit %d alone: a block that was met, or not as told", what, bit)
		}
		met[b] = true
	}
	meet("nothing", 0, [32]byte{}, [12]byte{}, 0)
	for bit := range 256 {
		var key [32]byte
		key[bit/8] = 1 << (bit % 8)
		meet("a key", bit, key, [12]byte{}, 0)
	}
	for bit := range 96 {
		var nonce [12]byte
		nonce[bit/8] = 1 << (bit % 8)
		meet("a nonce", bit, [32]byte{}, nonce, 0)
	}
	for bit := range 32 {
		meet("a count", bit, [32]byte{}, [12]byte{}, 1<<bit)
	}
}

// A block is far from the one of a key with another bit: what a round less, or a word that is left out, would show too.
func TestHalfOfTheBitsDiffer(t *testing.T) {
	draw := rand.New(rand.NewSource(3))
	differ := 0
	for range 256 {
		key, nonce, count := mixed(draw)
		a := stream.Block(key, nonce, count)
		bit := draw.Intn(256)
		key[bit/8] ^= 1 << (bit % 8)
		b := stream.Block(key, nonce, count)
		for i := range a {
			differ += bits.OnesCount8(a[i] ^ b[i])
		}
	}
	if mean := differ / 256; mean < 240 || mean > 272 {
		t.Errorf("of 512 bits %d differ", mean)
	}
}

// P5.2

// The text that is known is the one of RFC 8439.
func TestKnownCross(t *testing.T) {
	var key [32]byte
	for i := range key {
		key[i] = byte(i)
	}
	text := "Ladies and Gentlemen of the class of '99: If I could offer you only one tip for the future, sunscreen would be it."
	want := "6e2e359a2568f98041ba0728dd0d6981e97e7aec1d4360c20a27afccfd9fae0bf91b65c5524733ab8f593dabcd62b3571639d624e65152ab8f530c359f0861d807ca0dbf500d6a6156a38e088a22b65e52bc514d16ccf806818ce91ab77937365af90bbf74a35be6b40b8eedf2785e42874d"
	if b := stream.Cross(key, [12]byte{7: 74}, 1, []byte(text)); !bytes.Equal(b, bytesOf(t, want)) {
		t.Errorf("%x, want %s", b, want)
	}
}

func TestCrossIsAsTold(t *testing.T) {
	draw := rand.New(rand.NewSource(4))
	for _, many := range lengths() {
		for _, count := range counts(draw) {
			key, nonce, _ := mixed(draw)
			for _, b := range [][]byte{make([]byte, many), bytes.Repeat([]byte{255}, many), drawn(draw, many)} {
				if out, want := stream.Cross(key, nonce, count, b), toldCross(key, nonce, count, b); !bytes.Equal(out, want) {
					t.Fatalf("%d bytes from %d on: %x, want %x", many, count, out, want)
				}
			}
		}
	}
}

func TestCrossOfKeysAndNonces(t *testing.T) {
	draw := rand.New(rand.NewSource(5))
	for _, key := range keys(draw) {
		for _, nonce := range nonces(draw) {
			b, count := drawn(draw, 150), draw.Uint32()
			if out, want := stream.Cross(key, nonce, count, b), toldCross(key, nonce, count, b); !bytes.Equal(out, want) {
				t.Fatalf("key %x, nonce %x: %x, want %x", key, nonce, out, want)
			}
		}
	}
}

func TestCrossOfAllLengths(t *testing.T) {
	draw := rand.New(rand.NewSource(6))
	key, nonce, count := mixed(draw)
	b := drawn(draw, 400)
	want := toldCross(key, nonce, count, b)
	for many := range len(b) + 1 {
		if out := stream.Cross(key, nonce, count, b[:many]); !bytes.Equal(out, want[:many]) {
			t.Fatalf("%d bytes: %x, want %x", many, out, want[:many])
		}
	}
}

func TestCrossOfNothing(t *testing.T) {
	draw := rand.New(rand.NewSource(7))
	for _, count := range counts(draw) {
		key, nonce, _ := mixed(draw)
		if len(stream.Cross(key, nonce, count, nil)) != 0 || len(stream.Cross(key, nonce, count, []byte{})) != 0 {
			t.Errorf("count %d: of no bytes there are some", count)
		}
	}
}

// Bytes 0 crossed are the blocks, of the counts one behind the other, 0 behind 2^32 - 1.
func TestTheCountGoesRound(t *testing.T) {
	draw := rand.New(rand.NewSource(8))
	key, nonce, _ := mixed(draw)
	for count := uint32(math.MaxUint32 - 4); count != 5; count++ {
		out := stream.Cross(key, nonce, count, make([]byte, 5*64+7))
		for i := range uint32(6) {
			block := stream.Block(key, nonce, count+i)
			if got := out[64*i : min(64*int(i)+64, len(out))]; !bytes.Equal(got, block[:len(got)]) {
				t.Fatalf("from %d on, block %d: %x, want %x", count, i, got, block)
			}
		}
	}
	if stream.Block(key, nonce, math.MaxUint32) == stream.Block(key, nonce, 0) {
		t.Error("the count 2^32 - 1 is as good as 0")
	}
}

func TestManyBlocks(t *testing.T) {
	draw := rand.New(rand.NewSource(9))
	key, nonce, _ := mixed(draw)
	for _, count := range []uint32{0, 1<<16 - 3, math.MaxUint32 - 250} {
		b := drawn(draw, 70000)
		if !bytes.Equal(stream.Cross(key, nonce, count, b), toldCross(key, nonce, count, b)) {
			t.Errorf("%d bytes from %d on: not as told", len(b), count)
		}
	}
}

// P5.3

func TestCrossedTwice(t *testing.T) {
	draw := rand.New(rand.NewSource(10))
	for _, many := range lengths() {
		for _, count := range counts(draw) {
			key, nonce, _ := mixed(draw)
			b := drawn(draw, many)
			if out := stream.Cross(key, nonce, count, stream.Cross(key, nonce, count, b)); !bytes.Equal(out, b) {
				t.Fatalf("%d bytes from %d on, crossed twice: %x, were %x", many, count, out, b)
			}
		}
	}
}

func TestCrossedUnderAnother(t *testing.T) {
	draw := rand.New(rand.NewSource(11))
	key, nonce, count := mixed(draw)
	b := drawn(draw, 64)
	out := stream.Cross(key, nonce, count, b)
	for i := range key {
		other := key
		other[i] ^= 1
		if bytes.Equal(stream.Cross(other, nonce, count, out), b) {
			t.Errorf("a key whose byte %d is another one undoes it", i)
		}
	}
	for i := range nonce {
		other := nonce
		other[i] ^= 1
		if bytes.Equal(stream.Cross(key, other, count, out), b) {
			t.Errorf("a nonce whose byte %d is another one undoes it", i)
		}
	}
	if bytes.Equal(stream.Cross(key, nonce, count+1, out), b) || bytes.Equal(stream.Cross(key, nonce, count-1, out), b) {
		t.Error("a count beside it undoes it")
	}
}

func TestFromABlocksBeginningOn(t *testing.T) {
	draw := rand.New(rand.NewSource(12))
	for _, many := range append(lengths(), 64*9+5) {
		for _, count := range counts(draw) {
			key, nonce, _ := mixed(draw)
			b := drawn(draw, many)
			all := stream.Cross(key, nonce, count, b)
			for ahead := 0; 64*ahead <= many; ahead++ {
				if out := stream.Cross(key, nonce, count+uint32(ahead), b[64*ahead:]); !bytes.Equal(out, all[64*ahead:]) {
					t.Fatalf("%d bytes from %d on, without %d blocks: %x, want %x", many, count, ahead, out, all[64*ahead:])
				}
			}
		}
	}
}

// P5.4

func TestOneByteThatIsAnother(t *testing.T) {
	draw := rand.New(rand.NewSource(13))
	for _, many := range lengths() {
		key, nonce, count := mixed(draw)
		a := drawn(draw, many)
		first := stream.Cross(key, nonce, count, a)
		for i := range a {
			by := byte(1 + draw.Intn(255))
			b := slices.Clone(a)
			b[i] ^= by
			want := slices.Clone(first)
			want[i] ^= by
			if out := stream.Cross(key, nonce, count, b); !bytes.Equal(out, want) {
				t.Fatalf("%d bytes, of which %d is another one: %x, want %x", many, i, out, want)
			}
		}
	}
}

func TestAllBytesAtAPlace(t *testing.T) {
	draw := rand.New(rand.NewSource(14))
	key, nonce, count := mixed(draw)
	zeros := stream.Cross(key, nonce, count, make([]byte, 129))
	for _, at := range []int{0, 1, 63, 64, 65, 127, 128} {
		for x := range 256 {
			b := make([]byte, 129)
			b[at] = byte(x)
			want := slices.Clone(zeros)
			want[at] ^= byte(x)
			if !bytes.Equal(stream.Cross(key, nonce, count, b), want) {
				t.Fatalf("byte %d at %d", x, at)
			}
		}
	}
}

func TestCrossedListsDifferWhereTheyDo(t *testing.T) {
	draw := rand.New(rand.NewSource(15))
	for range 500 {
		key, nonce, count := mixed(draw)
		a, b := drawn(draw, draw.Intn(300)), drawn(draw, draw.Intn(300))
		for i := range min(len(a), len(b)) {
			if draw.Intn(2) == 0 {
				b[i] = a[i]
			}
		}
		x, y := stream.Cross(key, nonce, count, a), stream.Cross(key, nonce, count, b)
		if len(x) != len(a) || len(y) != len(b) {
			t.Fatalf("of %d and %d bytes there are %d and %d", len(a), len(b), len(x), len(y))
		}
		for i := range min(len(a), len(b)) {
			if (x[i] == y[i]) != (a[i] == b[i]) {
				t.Fatalf("%d and %d bytes: place %d", len(a), len(b), i)
			}
		}
	}
}

func TestAListsBeginning(t *testing.T) {
	draw := rand.New(rand.NewSource(16))
	for _, count := range counts(draw) {
		key, nonce, _ := mixed(draw)
		b := drawn(draw, 1000)
		all := stream.Cross(key, nonce, count, b)
		for _, many := range lengths() {
			if out := stream.Cross(key, nonce, count, b[:many]); !bytes.Equal(out, all[:many]) {
				t.Fatalf("the first %d bytes from %d on: %x, want %x", many, count, out, all[:many])
			}
		}
	}
}

// Rules 4 to 6 of all layers.

func TestWhatIsHandedInStays(t *testing.T) {
	draw := rand.New(rand.NewSource(17))
	for _, many := range lengths() {
		key, nonce, count := mixed(draw)
		wasKey, wasNonce := key, nonce
		room := drawn(draw, many+200)
		was := slices.Clone(room)
		stream.Block(key, nonce, count)
		stream.Cross(key, nonce, count, room[:many])
		if !bytes.Equal(room, was) || key != wasKey || nonce != wasNonce {
			t.Errorf("%d bytes: they were changed, or the room behind them", many)
		}
	}
}

func TestWhatIsBehindAListIsNotRead(t *testing.T) {
	draw := rand.New(rand.NewSource(18))
	for _, many := range lengths() {
		key, nonce, count := mixed(draw)
		a := drawn(draw, many+100)
		b := append(slices.Clone(a[:many]), drawn(draw, 100)...)
		x, y := stream.Cross(key, nonce, count, a[:many]), stream.Cross(key, nonce, count, b[:many])
		if len(x) != many || !bytes.Equal(x, y) {
			t.Errorf("%d bytes: the answer hangs on what is behind them", many)
		}
	}
}

func TestWhatIsAnsweredIsTheCallers(t *testing.T) {
	draw := rand.New(rand.NewSource(19))
	for _, many := range lengths() {
		key, nonce, count := mixed(draw)
		b := drawn(draw, many)
		was, want := slices.Clone(b), toldCross(key, nonce, count, b)
		one, two := stream.Cross(key, nonce, count, b), stream.Cross(key, nonce, count, b)
		for i := range one {
			one[i] ^= 255
		}
		one = append(one, "behind it"...)
		if !bytes.Equal(two, want) || !bytes.Equal(stream.Cross(key, nonce, count, b), want) {
			t.Errorf("%d bytes: an answer that was changed shows in another one", many)
		}
		if !bytes.Equal(b, was) {
			t.Errorf("%d bytes: an answer shares what was handed in", many)
		}
		clear(b)
		if !bytes.Equal(two, want) {
			t.Errorf("%d bytes: what was handed in is kept", many)
		}
	}
}

func TestTheSameCallsAnswerTheSame(t *testing.T) {
	draw := rand.New(rand.NewSource(20))
	for _, many := range lengths() {
		key, nonce, count := mixed(draw)
		b := drawn(draw, many)
		block, out := stream.Block(key, nonce, count), stream.Cross(key, nonce, count, b)
		other, one, at := mixed(draw)
		stream.Block(other, one, at)
		stream.Cross(other, one, at, drawn(draw, 100))
		if stream.Block(key, nonce, count) != block || !bytes.Equal(stream.Cross(key, nonce, count, slices.Clone(b)), out) {
			t.Errorf("%d bytes: the second time the answer is another one", many)
		}
	}
}
