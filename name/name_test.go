package name_test

import (
	"bytes"
	"crypto/hkdf"
	"crypto/sha256"
	"encoding/binary"
	"encoding/hex"
	"fmt"
	"math"
	"math/big"
	"math/rand"
	"regexp"
	"slices"
	"strings"
	"testing"

	"tantalus/api"
	"tantalus/mac"
	"tantalus/name"
)

// The signatures, as the chapter lists them.
var (
	_ func(uint8, uint64) string         = name.Name
	_ func(string) (uint8, uint64, bool) = name.Parse
	_ func(api.Head) bool                = name.Right
	_ func(api.Head) []byte              = name.Lay
	_ func([]byte) (api.Head, api.Errno) = name.Take
	_ func(api.Digest, api.Head) api.Key = name.KeyOf
	_ func(uint64) api.Nonce             = name.Nonce
)

const top = uint64(math.MaxUint64)

// toldName is Name by the chapter's words.
func toldName(kind uint8, n uint64) string {
	switch kind {
	case 1:
		return fmt.Sprintf("%06d.log", n)
	case 2:
		return fmt.Sprintf("%06d.tab", n)
	case 3:
		return fmt.Sprintf("manifest-%06d", n)
	case 4:
		return "current"
	case 5:
		return "current.tmp"
	}
	return ""
}

// six are digits as a name has them: just six, or more of which the first is no 0.
const six = `([0-9]{6}|[1-9][0-9]{6,})`

// patterns are what the names with a number look like, in the order of their kinds.
var patterns = []*regexp.Regexp{
	regexp.MustCompile(`\A` + six + `\.log\z`),
	regexp.MustCompile(`\A` + six + `\.tab\z`),
	regexp.MustCompile(`\Amanifest-` + six + `\z`),
}

// toldParse is Parse by the chapter's words, without a name that is made.
func toldParse(s string) (uint8, uint64, bool) {
	switch s {
	case "current":
		return 4, 0, true
	case "current.tmp":
		return 5, 0, true
	}
	for i, p := range patterns {
		if m := p.FindStringSubmatch(s); m != nil {
			n, _ := new(big.Int).SetString(m[1], 10)
			if !n.IsUint64() {
				return 0, 0, false
			}
			return uint8(i + 1), n.Uint64(), true
		}
	}
	return 0, 0, false
}

// toldRight is Right by the chapter's words.
func toldRight(h api.Head) bool {
	if h.Kind < 1 || h.Kind > 3 || h.Level >= 5 {
		return false
	}
	return h.Kind == 2 || h.Level == 0 && h.Gen == 0
}

// toldLay is Lay by the chapter's words.
func toldLay(h api.Head) []byte {
	b := []byte{116, 97, 110, 116, h.Kind, h.Level}
	b = binary.LittleEndian.AppendUint64(b, h.Gen)
	b = binary.LittleEndian.AppendUint64(b, h.Epoch)
	return binary.LittleEndian.AppendUint64(b, h.Number)
}

// toldTake is Take by the chapter's words.
func toldTake(b []byte) (api.Head, api.Errno) {
	if len(b) < 30 {
		return api.Head{}, 10
	}
	h := api.Head{
		Kind:   b[4],
		Level:  b[5],
		Gen:    binary.LittleEndian.Uint64(b[6:]),
		Epoch:  binary.LittleEndian.Uint64(b[14:]),
		Number: binary.LittleEndian.Uint64(b[22:]),
	}
	if string(b[:4]) != "tant" || !toldRight(h) {
		return api.Head{}, 70
	}
	return h, 0
}

// toldKey is KeyOf by the chapter's words and layer 4's, by the library.
func toldKey(t *testing.T, root api.Digest, h api.Head) api.Key {
	t.Helper()
	b, err := hkdf.Key(sha256.New, root[:], []byte("tantalus"), string(toldLay(h)), 64)
	if err != nil {
		t.Fatal(err)
	}
	return api.Key{Enc: [32]byte(b[:32]), Mac: [32]byte(b[32:])}
}

// drawn are so many bytes, drawn from a seed that is written down, so that each run draws the same.
func drawn(draw *rand.Rand, many int) []byte {
	b := make([]byte, many)
	draw.Read(b)
	return b
}

// some is a number that was drawn, of any count of bits.
func some(draw *rand.Rand) uint64 {
	return draw.Uint64() >> draw.Intn(64)
}

// numbers are those about each count of digits and of bytes, and the edges.
func numbers() []uint64 {
	l := []uint64{0, 1, 9, 12, 258, 1234567, top, top - 1}
	for ten := uint64(10); ; ten *= 10 {
		l = append(l, ten-1, ten, ten+1)
		if ten > top/10 {
			break
		}
	}
	for bit := range 64 {
		l = append(l, 1<<bit-1, 1<<bit, 1<<bit+1)
	}
	return l
}

// rights are heads that are right: of each kind, at each level, with numbers of all sizes.
func rights() []api.Head {
	var l []api.Head
	for _, n := range []uint64{0, 1, 255, 256, 1 << 32, 1 << 63, top} {
		for _, epoch := range []uint64{0, 1, 1 << 56, top} {
			l = append(l, api.Head{Kind: 1, Epoch: epoch, Number: n}, api.Head{Kind: 3, Epoch: epoch, Number: n})
			for level := range uint8(5) {
				for _, gen := range []uint64{0, 1, 258, 1 << 63, top} {
					l = append(l, api.Head{Kind: 2, Level: level, Gen: gen, Epoch: epoch, Number: n})
				}
			}
		}
	}
	return l
}

// anyHead is a head that was drawn; about one in two is right.
func anyHead(draw *rand.Rand) api.Head {
	h := api.Head{Kind: uint8(draw.Intn(6)), Level: uint8(draw.Intn(7)), Gen: some(draw), Epoch: some(draw), Number: some(draw)}
	switch draw.Intn(3) {
	case 0:
		h.Level, h.Gen = 0, 0
	case 1:
		h.Kind, h.Level = uint8(draw.Intn(256)), uint8(draw.Intn(256))
	}
	return h
}

// named asks that s is the name of kind and n, and that it is parsed to them.
func named(t *testing.T, s string, kind uint8, n uint64) {
	t.Helper()
	if got := name.Name(kind, n); got != s {
		t.Errorf("kind %d, number %d: %q, want %q", kind, n, got, s)
	}
	if k, m, ok := name.Parse(s); k != kind || m != n || !ok {
		t.Errorf("%q: %d, %d, %t, want %d, %d, true", s, k, m, ok, kind, n)
	}
}

// nameless asks that s is no name, and that nothing is answered beside the false.
func nameless(t *testing.T, s string) {
	t.Helper()
	if kind, n, ok := name.Parse(s); kind != 0 || n != 0 || ok {
		t.Errorf("%q: %d, %d, %t, want 0, 0, false", s, kind, n, ok)
	}
}

// parsed asks that s is parsed as the chapter's words say.
func parsed(t *testing.T, s string) {
	t.Helper()
	kind, n, ok := name.Parse(s)
	if k, m, y := toldParse(s); kind != k || n != m || ok != y {
		t.Fatalf("%q: %d, %d, %t, want %d, %d, %t", s, kind, n, ok, k, m, y)
	}
}

// takes asks that b is taken to h.
func takes(t *testing.T, what string, b []byte, h api.Head) {
	t.Helper()
	if got, e := name.Take(b); got != h || e != api.OK {
		t.Errorf("%s: %v, error %d, want %v", what, got, e, h)
	}
}

// refused asks for an error of b, and that nothing is answered beside it.
func refused(t *testing.T, what string, b []byte, want api.Errno) {
	t.Helper()
	if h, e := name.Take(b); h != (api.Head{}) || e != want {
		t.Errorf("%s: %v, error %d, want error %d alone", what, h, e, want)
	}
}

// taken asks that b is taken as the chapter's words say.
func taken(t *testing.T, b []byte) {
	t.Helper()
	h, e := name.Take(b)
	if want, f := toldTake(b); h != want || e != f {
		t.Fatalf("%x: %v, error %d, want %v, error %d", b, h, e, want, f)
	}
}

// P7.1

func TestKnownNames(t *testing.T) {
	for _, x := range []struct {
		kind uint8
		n    uint64
		want string
	}{
		{1, 0, "000000.log"},
		{1, 7, "000007.log"},
		{1, 12, "000012.log"},
		{1, 99999, "099999.log"},
		{1, 100000, "100000.log"},
		{1, 999999, "999999.log"},
		{1, 1000000, "1000000.log"},
		{1, 9999999, "9999999.log"},
		{1, 10000000, "10000000.log"},
		{1, top, "18446744073709551615.log"},
		{2, 0, "000000.tab"},
		{2, 345, "000345.tab"},
		{2, 999999, "999999.tab"},
		{2, 1000000, "1000000.tab"},
		{2, 1 << 63, "9223372036854775808.tab"},
		{2, top, "18446744073709551615.tab"},
		{3, 0, "manifest-000000"},
		{3, 1, "manifest-000001"},
		{3, 999999, "manifest-999999"},
		{3, 1000000, "manifest-1000000"},
		{3, 1234567, "manifest-1234567"},
		{3, top, "manifest-18446744073709551615"},
		{4, 0, "current"},
		{5, 0, "current.tmp"},
	} {
		named(t, x.want, x.kind, x.n)
	}
}

func TestNamesAreAsTold(t *testing.T) {
	for _, n := range numbers() {
		for kind := range 256 {
			if s, want := name.Name(uint8(kind), n), toldName(uint8(kind), n); s != want {
				t.Errorf("kind %d, number %d: %q, want %q", kind, n, s, want)
			}
		}
	}
}

// The kinds as api calls them, too.
func TestNamesOfTheKinds(t *testing.T) {
	named(t, "000012.log", api.FLog, 12)
	named(t, "000012.tab", api.FTable, 12)
	named(t, "manifest-000012", api.FManifest, 12)
	named(t, "current", api.FCurrent, 0)
	named(t, "current.tmp", api.FTemp, 0)
}

func TestKindsThatAreNone(t *testing.T) {
	for kind := range 256 {
		if kind >= 1 && kind <= 5 {
			continue
		}
		for _, n := range []uint64{0, 1, 12, 1000000, top} {
			if s := name.Name(uint8(kind), n); s != "" {
				t.Errorf("kind %d, number %d: %q, want none", kind, n, s)
			}
		}
	}
}

func TestNamesWithoutANumber(t *testing.T) {
	for _, n := range numbers() {
		if a, b := name.Name(4, n), name.Name(5, n); a != "current" || b != "current.tmp" {
			t.Errorf("number %d: %q and %q", n, a, b)
		}
	}
}

// P7.2

func TestNamesAreParsed(t *testing.T) {
	for _, n := range numbers() {
		for kind := uint8(1); kind <= 3; kind++ {
			named(t, toldName(kind, n), kind, n)
		}
	}
	named(t, "current", 4, 0)
	named(t, "current.tmp", 5, 0)
}

// framed are the digits, in a name of each kind that has a number.
func framed(digits string) []string {
	return []string{digits + ".log", digits + ".tab", "manifest-" + digits}
}

func TestFewDigits(t *testing.T) {
	for _, digits := range []string{"", "0", "1", "9", "00", "12", "012", "999", "0000", "1234", "00000", "00012", "12345", "99999"} {
		for _, s := range framed(digits) {
			nameless(t, s)
		}
	}
}

func TestAZeroAhead(t *testing.T) {
	for _, digits := range []string{"0000000", "0000001", "0000012", "0100000", "0999999", "01000000", "00000000", "000000000000012", "018446744073709551615", "00000000000000000000000001"} {
		for _, s := range framed(digits) {
			nameless(t, s)
		}
	}
	for i, s := range framed("000012") {
		named(t, s, uint8(i+1), 12)
	}
}

// Numbers that eight bytes can't hold, and those among them whose lowest eight bytes are a small number.
func TestNumbersThatAreTooGreat(t *testing.T) {
	for _, digits := range []string{
		"18446744073709551616", "18446744073709551617", "18446744073709551625", "18446744073709551628",
		"18446744073710551616", "18446744073709651616", "20000000000000000000", "99999999999999999999", "36893488147419103232", "100000000000000000000",
		"184467440737095516150", "184467440737095516160", "340282366920938463463374607431768211456", "340282366920938463463374607431768211455",
		strings.Repeat("9", 100), "1" + strings.Repeat("0", 64), "1" + strings.Repeat("0", 1000), strings.Repeat("1", 5000),
	} {
		for _, s := range framed(digits) {
			nameless(t, s)
			parsed(t, s)
		}
	}
	past := new(big.Int).Lsh(big.NewInt(1), 64)
	for _, n := range numbers() {
		more := new(big.Int).Add(past, new(big.Int).SetUint64(n))
		for _, s := range framed(more.String()) {
			nameless(t, s)
		}
	}
}

// strangers are signs that are no digit: of one byte, about the digits and others, of more bytes, bytes that are no rune, digits of other scripts, and runes whose lowest byte is a digit's.
func strangers() []string {
	return []string{
		"/", ":", " ", "\x00", "\n", "\x7f", "a", "A", "x", "-", "+", ".", "_", ",", "e", "l",
		"é", "€", "ü", "世", "😀", "\u00a0", "\u200b", "\ufeff", "\ufffd",
		"\xff", "\x80", "\xc0", "\xb0", "\xc0\xb0", "\xe2\x82", "\xed\xa0\x80", "\xf4\x90\x80\x80", "\xf0\x9f\x98", "\xe0\x80\xb1",
		"٣", "۳", "०", "５", "０", "９", "১", "𝟎", "𝟗", "²", "½", "①", "Ⅴ", "〇", "三",
		"\u0130", "\u0131", "\u0139", "\u0230", "\u1035", "\U00010030", "\U00010036",
	}
}

func TestASignThatIsNoDigit(t *testing.T) {
	for _, digits := range []string{"000012", "1234567", "18446744073709551615"} {
		for at := range len(digits) + 1 {
			for _, sign := range strangers() {
				for _, s := range framed(digits[:at] + sign + digits[at:]) {
					nameless(t, s)
				}
				if at < len(digits) {
					for _, s := range framed(digits[:at] + sign + digits[at+1:]) {
						nameless(t, s)
					}
				}
			}
		}
	}
	for _, sign := range strangers() {
		for many := range 8 {
			for _, s := range framed(strings.Repeat(sign, many)) {
				nameless(t, s)
			}
		}
	}
}

func TestSomethingAheadOrBehind(t *testing.T) {
	names := []string{"000012.log", "000000.tab", "1234567.tab", "manifest-000003", "manifest-1234567", "current", "current.tmp"}
	more := append(strangers(), "log", ".log", ".tab", ".tmp", "manifest-", "current", "tant", "./", "../", "dir/", "000012.log", "\r\n")
	for _, s := range names {
		for _, x := range more {
			if x == ".tmp" && s == "current" {
				continue
			}
			nameless(t, x+s)
			nameless(t, s+x)
			nameless(t, x+s+x)
		}
	}
	for digit := range 10 { // behind the endings, ahead of the letters, about the two names without a number
		for _, s := range names[:3] {
			nameless(t, s+fmt.Sprint(digit))
		}
		for _, s := range names[5:] {
			nameless(t, s+fmt.Sprint(digit))
			nameless(t, fmt.Sprint(digit)+s)
		}
		nameless(t, fmt.Sprint(digit)+"manifest-000003")
	}
}

func TestTextsThatAreNoName(t *testing.T) {
	for _, s := range []string{
		"", " ", ".", "..", "0", "000000", "000012", "1234567", ".log", ".tab", ".tmp", "log", "tab", "tmp", "manifest", "manifest-", "-",
		"000012.", "000012log", "000012.lo", "000012.logs", "000012..log", "000012.LOG", "000012.Log", "000012.tmp", "000012.tabs", "000012.TAB", "000012.lag", "000012.log.log", "000012.log.tab", "000012-log",
		"log.000012", ".log000012", ".log.000012", "tab.000012", "000012-manifest", "000012manifest-",
		"manifest000012", "manifest_000012", "manifest--000012", "manifest.000012", "Manifest-000012", "MANIFEST-000012", "manifest-000012.log", "manifest-000012.tab", "manifest-000012.tmp", "manifes-000012", "mani-000012", "manifest-+00012", "manifest--00012", "manifest-12", "manifest-0000012", "manifest-current",
		"Current", "CURRENT", "currenT", "curren", "urrent", "current.", "current.t", "current.tm", "current.tmpp", "current.TMP", "current.Tmp", "current.tmp.tmp", "current.log", "current.tab", "currenttmp", "current-000012", "current000000", "current.000000", "000000current", "000012.current", "000000.current", "tmp.current", ".tmpcurrent",
		"+00012.log", "-00012.log", "0x0012.log", "1e0006.log", "1_0000.log", "0001 2.log", "00 012.log", "000.012.log", "000012 .log", "000012. log", "000,012.log", "١٢٣٤٥٦.log", "००००१२.log", "００００１２.log", "manifest-००००१२",
		"\x00000012.log", "000012.log\x00", "0000\x0012.log", "000012\x00.log", "\xff\xff\xff\xff\xff\xff.log",
	} {
		nameless(t, s)
		parsed(t, s)
	}
}

// Each name with each byte left out, each byte another one, each byte more at each place.
func TestNamesWithOneByteThatIsAnother(t *testing.T) {
	for _, s := range []string{"000000.log", "000012.log", "999999.tab", "1000000.tab", "100000.log", "manifest-000003", "manifest-1234567", "current", "current.tmp", "18446744073709551615.log", "18446744073709551609.tab"} {
		for at := range len(s) + 1 {
			for x := range 256 {
				parsed(t, s[:at]+string([]byte{byte(x)})+s[at:])
				if at < len(s) {
					parsed(t, s[:at]+string([]byte{byte(x)})+s[at+1:])
				}
			}
			if at < len(s) {
				parsed(t, s[:at]+s[at+1:])
			}
			for behind := range len(s) - at {
				parsed(t, s[:at]+s[at+behind:])
			}
		}
	}
}

// All that up to four pieces of names can be put together to.
func TestPiecesOfNames(t *testing.T) {
	pieces := []string{"", "0", "9", "12", "000012", "999999", "1844674407370955161", "5", ".log", ".tab", "manifest-", "current", ".tmp", "٣"}
	texts := []string{""}
	for range 4 {
		var more []string
		for _, s := range texts {
			for _, x := range pieces {
				parsed(t, s+x)
				more = append(more, s+x)
			}
		}
		texts = more
	}
}

func TestParseOfTextsThatWereDrawn(t *testing.T) {
	draw := rand.New(rand.NewSource(1))
	for range 20000 {
		parsed(t, string(drawn(draw, draw.Intn(30))))
		digits := make([]byte, draw.Intn(24))
		for i := range digits {
			digits[i] = "0123456789/:"[draw.Intn(10+draw.Intn(3))]
		}
		for _, s := range framed(string(digits)) {
			parsed(t, s)
		}
	}
}

func TestLongTexts(t *testing.T) {
	many := 1 << 20
	for _, s := range []string{
		strings.Repeat("0", many) + "12.log", strings.Repeat("1", many) + ".log", "manifest-" + strings.Repeat("0", many), strings.Repeat("current", many/7),
		"000012.log" + strings.Repeat("\x00", many), strings.Repeat("\xff", many), strings.Repeat("०", many/3),
	} {
		if kind, n, ok := name.Parse(s); kind != 0 || n != 0 || ok {
			t.Errorf("%q.. : %d, %d, %t, want 0, 0, false", s[:20], kind, n, ok)
		}
	}
}

// P7.3

func TestHeadsAreRight(t *testing.T) {
	gens := []uint64{0, 1, 2, 255, 256, 1 << 32, 1 << 56, 1 << 63, top}
	for kind := range 256 {
		for level := range 256 {
			for _, gen := range gens {
				h := api.Head{Kind: uint8(kind), Level: uint8(level), Gen: gen, Epoch: gen, Number: top - gen}
				if ok, want := name.Right(h), toldRight(h); ok != want {
					t.Fatalf("%v: %t, want %t", h, ok, want)
				}
			}
		}
	}
}

func TestKnownRightHeads(t *testing.T) {
	for _, x := range []struct {
		h    api.Head
		want bool
	}{
		{api.Head{}, false},
		{api.Head{Kind: api.FLog}, true},
		{api.Head{Kind: api.FLog, Epoch: top, Number: top}, true},
		{api.Head{Kind: api.FLog, Level: 1}, false},
		{api.Head{Kind: api.FLog, Gen: 1}, false},
		{api.Head{Kind: api.FLog, Gen: 1 << 63}, false},
		{api.Head{Kind: api.FLog, Level: 4}, false},
		{api.Head{Kind: api.FLog, Level: 5}, false},
		{api.Head{Kind: api.FTable}, true},
		{api.Head{Kind: api.FTable, Level: 1}, true},
		{api.Head{Kind: api.FTable, Level: 4}, true},
		{api.Head{Kind: api.FTable, Level: 4, Gen: top, Epoch: top, Number: top}, true},
		{api.Head{Kind: api.FTable, Level: 5}, false},
		{api.Head{Kind: api.FTable, Level: 6}, false},
		{api.Head{Kind: api.FTable, Level: 255}, false},
		{api.Head{Kind: api.FManifest}, true},
		{api.Head{Kind: api.FManifest, Epoch: 1, Number: 1}, true},
		{api.Head{Kind: api.FManifest, Level: 1}, false},
		{api.Head{Kind: api.FManifest, Gen: 1}, false},
		{api.Head{Kind: api.FManifest, Gen: top}, false},
		{api.Head{Kind: api.FCurrent}, false},
		{api.Head{Kind: api.FTemp}, false},
		{api.Head{Kind: 6}, false},
		{api.Head{Kind: 255}, false},
	} {
		if ok := name.Right(x.h); ok != x.want {
			t.Errorf("%v: %t, want %t", x.h, ok, x.want)
		}
	}
}

// The known bytes and keys were made by another program, of the words of this chapter and of layer 4's.
func known() [](struct {
	h              api.Head
	laid, enc, mac string
	rising         bool
}) {
	return [](struct {
		h              api.Head
		laid, enc, mac string
		rising         bool
	}){
		{api.Head{}, "74616e740000000000000000000000000000000000000000000000000000",
			"a1b703f905aac0ce082ebaf236502cca2968dd5d39d9576e03898ee4f4912c42", "eb5aba5b856f5aa70b5796890f2b6286d2e096bf56af5159f32c39f59d367dc1", false},
		{api.Head{Kind: 1, Epoch: 1, Number: 12}, "74616e740100000000000000000001000000000000000c00000000000000",
			"b8c2589555f6ee3b88ddd44f6207a59c68f528821c57c912dd10a4fdc4f6361f", "d470136f819aa0220454cd56e9fa98655c49da4d15033ce62e517cc7cd99d145", true},
		{api.Head{Kind: 2, Level: 4, Gen: 258, Epoch: 1, Number: top}, "74616e74020402010000000000000100000000000000ffffffffffffffff",
			"3850f25bd4e888c5ff1910936f3ab80e35d212522dcefeb3338284e352f1935e", "ce9b02316b68806993bfbcc363ee130a218b5a596f6e8a8bae8ebc258db5a824", true},
		{api.Head{Kind: 3, Epoch: 7, Number: 1234567}, "74616e7403000000000000000000070000000000000087d6120000000000",
			"4fdfd6f13af071cfc9d7d10a62cf5f46e9fc1fe0de8917178922d594ea9befa6", "e826975d7d6e2eb96735244f59fbf088bca38a91401f9c0c1114dc9d66af9c2d", true},
	}
}

// hexed is what the hexadecimal digits tell.
func hexed(t *testing.T, digits string) []byte {
	t.Helper()
	b, err := hex.DecodeString(digits)
	if err != nil {
		t.Fatal(err)
	}
	return b
}

func TestKnownBytesOfHeads(t *testing.T) {
	for _, x := range known() {
		want := hexed(t, x.laid)
		if b := name.Lay(x.h); !bytes.Equal(b, want) {
			t.Errorf("%v: %x, want %x", x.h, b, want)
		}
		taken(t, want)
	}
}

func TestHeadsAreLaidAsTold(t *testing.T) {
	draw := rand.New(rand.NewSource(2))
	l := rights()
	for range 5000 {
		l = append(l, anyHead(draw))
	}
	for _, h := range l {
		b := name.Lay(h)
		if want := toldLay(h); !bytes.Equal(b, want) {
			t.Fatalf("%v: %x, want %x", h, b, want)
		}
		if len(b) != api.HeadSize {
			t.Fatalf("%v: %d bytes", h, len(b))
		}
	}
}

// Each bit of each field stands at its place.
func TestBitsOfHeads(t *testing.T) {
	for bit := range 64 {
		for at, h := range map[int]api.Head{6: {Gen: 1 << bit}, 14: {Epoch: 1 << bit}, 22: {Number: 1 << bit}} {
			want := append([]byte("tant"), make([]byte, 26)...)
			want[at+bit/8] = 1 << (bit % 8)
			if b := name.Lay(h); !bytes.Equal(b, want) {
				t.Errorf("%v: %x, want %x", h, b, want)
			}
		}
	}
	for x := range 256 {
		want := append([]byte("tant"), make([]byte, 26)...)
		want[4], want[5] = byte(x), byte(255-x)
		if b := name.Lay(api.Head{Kind: byte(x), Level: byte(255 - x)}); !bytes.Equal(b, want) {
			t.Errorf("kind %d: %x, want %x", x, b, want)
		}
	}
}

func TestFewBytes(t *testing.T) {
	refused(t, "nil", nil, api.ErrShort)
	b := toldLay(api.Head{Kind: 2, Level: 3, Gen: 4, Epoch: 5, Number: 6})
	for many := range 30 {
		refused(t, "a head that is cut behind", b[:many:many], api.ErrShort)
		refused(t, "a head that is cut ahead", b[30-many:], api.ErrShort)
		refused(t, "few zeros", make([]byte, many), api.ErrShort) // no head in any case: the bytes that are missing are told first
		refused(t, "few bytes", bytes.Repeat([]byte{255}, many), api.ErrShort)
	}
}

func TestBytesThatAreNoHead(t *testing.T) {
	for _, many := range []int{30, 31, 60, 1000} {
		refused(t, "zeros", make([]byte, many), api.ErrHead)
		refused(t, "bytes of all bits", bytes.Repeat([]byte{255}, many), api.ErrHead)
	}
	b := toldLay(api.Head{Kind: 1, Epoch: 2, Number: 3})
	refused(t, "a head with a byte ahead", append([]byte{0}, b...), api.ErrHead)
	refused(t, "a head that is cut ahead", append(slices.Clone(b[1:]), 0), api.ErrHead)
	refused(t, "a head behind another kind's", append(toldLay(api.Head{Kind: 4}), b...), api.ErrHead)
}

func TestHeadsThatAreNotRightAreNotTaken(t *testing.T) {
	for kind := range 256 {
		for level := range 256 {
			for _, gen := range []uint64{0, 1, top} {
				taken(t, toldLay(api.Head{Kind: uint8(kind), Level: uint8(level), Gen: gen, Epoch: 258, Number: 12}))
			}
		}
	}
	for _, h := range []api.Head{{}, {Kind: 4}, {Kind: 5}, {Kind: 255}, {Kind: 1, Level: 1}, {Kind: 1, Gen: 1}, {Kind: 3, Level: 1}, {Kind: 3, Gen: 1 << 63}, {Kind: 2, Level: 5}, {Kind: 2, Level: 255}} {
		refused(t, fmt.Sprint(h), toldLay(h), api.ErrHead)
	}
}

func TestLettersThatAreOthers(t *testing.T) {
	for _, letters := range []string{"Tant", "TANT", "tanT", "tnat", "tan\x00", "\x00ant", "tatn", "ttna", "tnta", "ant ", " tan", "tent", "\x00\x00\x00\x00"} {
		b := toldLay(api.Head{Kind: 2})
		copy(b, letters)
		refused(t, letters, b, api.ErrHead)
	}
}

// Each of the first bytes another one: it is another head, or none.
func TestHeadsWithOneByteThatIsAnother(t *testing.T) {
	for _, h := range []api.Head{{Kind: 1, Epoch: 1, Number: 12}, {Kind: 2, Level: 4, Gen: 258, Epoch: 1, Number: top}, {Kind: 2}, {Kind: 3, Epoch: 7, Number: 1234567}} {
		for at := range 30 {
			for x := range 256 {
				b := toldLay(h)
				b[at] = byte(x)
				taken(t, b)
				taken(t, append(b, 9, 9))
				if got, e := name.Take(b); at < 4 && b[at] != "tant"[at] && (e != api.ErrHead || got != (api.Head{})) {
					t.Errorf("letter %d another one: %v, error %d", at, got, e)
				}
				if got, _ := name.Take(b); at >= 14 && b[at] != toldLay(h)[at] && got == h {
					t.Errorf("byte %d is another one, and the head the same", at)
				}
			}
		}
	}
}

func TestTakeIsAsTold(t *testing.T) {
	draw := rand.New(rand.NewSource(3))
	for range 20000 {
		b := append(toldLay(anyHead(draw)), drawn(draw, draw.Intn(40))...)
		taken(t, b)
		taken(t, b[:draw.Intn(len(b))])
		b[draw.Intn(len(b))] ^= byte(1 + draw.Intn(255))
		taken(t, b)
		taken(t, drawn(draw, draw.Intn(70)))
	}
}

// P7.4

func TestKnownKeys(t *testing.T) {
	for _, x := range known() {
		var root api.Digest
		if x.rising {
			for i := range root {
				root[i] = byte(i)
			}
		}
		want := api.Key{Enc: [32]byte(hexed(t, x.enc)), Mac: [32]byte(hexed(t, x.mac))}
		if k := name.KeyOf(root, x.h); k != want {
			t.Errorf("%v: %x, want %x", x.h, k, want)
		}
	}
}

func TestKeysAreAsTold(t *testing.T) {
	draw := rand.New(rand.NewSource(4))
	l := rights()
	for range 300 {
		l = append(l, anyHead(draw))
	}
	for _, h := range l {
		root := api.Digest(drawn(draw, 32))
		k := name.KeyOf(root, h)
		if want := toldKey(t, root, h); k != want {
			t.Fatalf("%v: %x, want %x", h, k, want)
		}
		if want := mac.Derive(root, name.Lay(h)); k != want {
			t.Fatalf("%v: %x, by layer 4 %x", h, k, want)
		}
	}
}

// A key hangs on each bit of the root, and on each of the head, right or not.
func TestKeysOfUnlikeFiles(t *testing.T) {
	var root api.Digest
	met := map[api.Key]string{}
	see := func(what string, k api.Key) {
		if was, ok := met[k]; ok {
			t.Errorf("%s has the key of %s", what, was)
		}
		met[k] = what
	}
	h := api.Head{Kind: 2, Level: 1, Gen: 1, Epoch: 1, Number: 1}
	see("the head", name.KeyOf(root, h))
	for bit := range 64 {
		other := h
		other.Gen ^= 1 << bit
		see(fmt.Sprint(other), name.KeyOf(root, other))
		other = h
		other.Epoch ^= 1 << bit
		see(fmt.Sprint(other), name.KeyOf(root, other))
		other = h
		other.Number ^= 1 << bit
		see(fmt.Sprint(other), name.KeyOf(root, other))
	}
	for bit := range 8 {
		see(fmt.Sprint("kind bit ", bit), name.KeyOf(root, api.Head{Kind: h.Kind ^ 1<<bit, Level: 1, Gen: 1, Epoch: 1, Number: 1}))
		see(fmt.Sprint("level bit ", bit), name.KeyOf(root, api.Head{Kind: 2, Level: h.Level ^ 1<<bit, Gen: 1, Epoch: 1, Number: 1}))
	}
	for bit := range 256 {
		other := root
		other[bit/8] ^= 1 << (bit % 8)
		see(fmt.Sprint("root bit ", bit), name.KeyOf(other, h))
	}
}

func TestNonces(t *testing.T) {
	for _, x := range []struct {
		place uint64
		want  api.Nonce
	}{
		{0, api.Nonce{}},
		{1, api.Nonce{1}},
		{255, api.Nonce{255}},
		{256, api.Nonce{0, 1}},
		{258, api.Nonce{2, 1}},
		{1 << 32, api.Nonce{4: 1}},
		{0x0102030405060708, api.Nonce{8, 7, 6, 5, 4, 3, 2, 1}},
		{1 << 63, api.Nonce{7: 128}},
		{top, api.Nonce{255, 255, 255, 255, 255, 255, 255, 255, 0, 0, 0, 0}},
	} {
		if nonce := name.Nonce(x.place); nonce != x.want {
			t.Errorf("%d: %v, want %v", x.place, nonce, x.want)
		}
	}
	draw := rand.New(rand.NewSource(5))
	for range 1000 {
		place := some(draw)
		want := append(binary.LittleEndian.AppendUint64(nil, place), 0, 0, 0, 0)
		if nonce := name.Nonce(place); !bytes.Equal(nonce[:], want) {
			t.Fatalf("%d: %v, want %v", place, nonce, want)
		}
	}
}

// P7.5

func TestWhatWasNamedIsParsed(t *testing.T) {
	draw := rand.New(rand.NewSource(6))
	l := numbers()
	for range 5000 {
		l = append(l, some(draw))
	}
	for _, n := range l {
		for kind := uint8(1); kind <= 5; kind++ {
			want := n
			if kind >= 4 {
				want = 0
			}
			if k, m, ok := name.Parse(name.Name(kind, n)); k != kind || m != want || !ok {
				t.Fatalf("kind %d, number %d: parsed to %d, %d, %t", kind, n, k, m, ok)
			}
		}
	}
}

// What is parsed is named again, to the same text: a text that only looks like a name is none.
func TestWhatIsParsedIsNamedAgain(t *testing.T) {
	draw := rand.New(rand.NewSource(7))
	for range 20000 {
		digits := fmt.Sprintf("%0*d", 1+draw.Intn(9), some(draw))
		for _, s := range append(framed(digits), "current", "current.tmp") {
			if kind, n, ok := name.Parse(s); ok && name.Name(kind, n) != s {
				t.Fatalf("%q: parsed to %d, %d, which is named %q", s, kind, n, name.Name(kind, n))
			}
		}
	}
}

func TestUnlikeNames(t *testing.T) {
	type file struct {
		kind uint8
		n    uint64
	}
	met := map[string]file{}
	for kind := uint8(1); kind <= 3; kind++ {
		l := append(numbers(), 4, 5)
		for n := range uint64(3000) {
			l = append(l, n, 999000+n, 1<<32+n, top-n)
		}
		for _, n := range l {
			x := file{kind, n}
			s := name.Name(kind, n)
			if was, ok := met[s]; ok && was != x {
				t.Fatalf("%v and %v have the name %q", was, x, s)
			}
			met[s] = x
		}
	}
	for _, s := range []string{name.Name(4, 0), name.Name(5, 0)} {
		if was, ok := met[s]; ok {
			t.Errorf("%q is the name of %v too", s, was)
		}
		met[s] = file{}
	}
}

// P7.6

func TestWhatWasLaidIsTaken(t *testing.T) {
	draw := rand.New(rand.NewSource(8))
	for _, h := range rights() {
		b := name.Lay(h)
		takes(t, "a head", b, h)
		for _, behind := range [][]byte{{0}, {9}, {255}, b, make([]byte, 30), []byte("tant"), drawn(draw, draw.Intn(300))} {
			takes(t, "a head and more", append(slices.Clone(b), behind...), h)
		}
	}
}

func TestWhatIsTakenIsLaidAgain(t *testing.T) {
	draw := rand.New(rand.NewSource(9))
	met := 0
	for range 20000 {
		b := append(toldLay(anyHead(draw)), drawn(draw, draw.Intn(9))...)
		if h, e := name.Take(b); e == api.OK {
			met++
			if !name.Right(h) || !bytes.Equal(name.Lay(h), b[:30]) {
				t.Fatalf("%x: taken to %v", b, h)
			}
		}
	}
	if met < 1000 {
		t.Errorf("only %d were taken", met)
	}
}

func TestAHeadAheadOfManyBytes(t *testing.T) {
	h := api.Head{Kind: 2, Level: 2, Gen: 3, Epoch: 4, Number: 5}
	takes(t, "a head and a file", append(toldLay(h), make([]byte, 1<<20)...), h)
}

func TestUnlikeHeads(t *testing.T) {
	draw := rand.New(rand.NewSource(10))
	l := rights()
	for range 5000 {
		l = append(l, anyHead(draw))
	}
	few := []uint64{0, 1, 2, 256, top}
	for kind := range uint8(7) { // right or not
		for level := range uint8(7) {
			for i := range 125 {
				l = append(l, api.Head{Kind: kind, Level: level, Gen: few[i%5], Epoch: few[i/5%5], Number: few[i/25]})
			}
		}
	}
	met := map[string]api.Head{}
	for _, h := range l {
		s := string(name.Lay(h))
		if was, ok := met[s]; ok && was != h {
			t.Fatalf("%v and %v have the bytes %x", was, h, s)
		}
		met[s] = h
	}
}

func TestUnlikePlaces(t *testing.T) {
	draw := rand.New(rand.NewSource(11))
	met := map[api.Nonce]uint64{}
	l := numbers()
	for n := range uint64(70000) {
		l = append(l, n, top-n, n<<32, some(draw))
	}
	for _, place := range l {
		nonce := name.Nonce(place)
		if was, ok := met[nonce]; ok && was != place {
			t.Fatalf("%d and %d have the nonce %v", was, place, nonce)
		}
		met[nonce] = place
	}
}

// The chapter's examples.

func TestExamples(t *testing.T) {
	if s := name.Name(api.FLog, 12); s != "000012.log" {
		t.Errorf("%q", s)
	}
	if s := name.Name(api.FManifest, 1234567); s != "manifest-1234567" {
		t.Errorf("%q", s)
	}
	nameless(t, "00012.log")
	nameless(t, "0000012.log")
	if kind, n, ok := name.Parse("current"); kind != api.FCurrent || n != 0 || !ok {
		t.Errorf("%d, %d, %t", kind, n, ok)
	}
	refused(t, "29 bytes", make([]byte, 29), api.ErrShort)
	refused(t, "30 bytes 0", make([]byte, 30), api.ErrHead)
}

// Rules 4 to 6 of all layers.

func TestWhatIsHandedInStays(t *testing.T) {
	draw := rand.New(rand.NewSource(12))
	for range 500 {
		whole := append(toldLay(anyHead(draw)), drawn(draw, 40)...)
		was := slices.Clone(whole)
		for _, many := range []int{0, 29, 30, 31, 50} {
			name.Take(whole[:many])
			if !bytes.Equal(whole, was) {
				t.Fatalf("%d bytes of %x are changed, or what is behind them, to %x", many, was, whole)
			}
		}
	}
	h := api.Head{Kind: 2, Level: 1, Gen: 2, Epoch: 3, Number: 4}
	b := toldLay(h)
	got, e := name.Take(b)
	clear(b)
	if got != h || e != api.OK {
		t.Errorf("what was handed in was kept: %v, error %d", got, e)
	}
}

func TestWhatIsBehindAListIsNotRead(t *testing.T) {
	h := api.Head{Kind: 2, Level: 1, Gen: 2, Epoch: 3, Number: 4}
	b := append(toldLay(h), 1, 2, 3)
	for many := range 30 {
		refused(t, "a head whose end is behind the length", b[:many], api.ErrShort)
	}
	takes(t, "a head with more behind the length", b[:30], h)
	for at := 30; at < 33; at++ {
		b[at] ^= 255
		takes(t, "a head with other bytes behind the length", b[:30], h)
	}
}

func TestWhatIsAnsweredIsTheCallers(t *testing.T) {
	for _, h := range []api.Head{{}, {Kind: 1, Epoch: 1, Number: 12}, {Kind: 2, Level: 4, Gen: top, Epoch: top, Number: top}} {
		a, b := name.Lay(h), name.Lay(h)
		for i := range a {
			a[i] ^= 255
		}
		a = a[:cap(a)]
		for i := range a {
			a[i] = 7
		}
		_ = append(a[:30], 1, 2, 3)
		if want := toldLay(h); !bytes.Equal(b, want) || !bytes.Equal(name.Lay(h), want) {
			t.Errorf("%v: %x and %x, want %x", h, b, name.Lay(h), want)
		}
	}
}

func TestTheSameCallsAnswerTheSame(t *testing.T) {
	draw := rand.New(rand.NewSource(13))
	for range 200 {
		kind, n, h := uint8(draw.Intn(7)), some(draw), anyHead(draw)
		root := api.Digest(drawn(draw, 32))
		s, laid, k, nonce := name.Name(kind, n), name.Lay(h), name.KeyOf(root, h), name.Nonce(n)
		kindWas, nWas, okWas := name.Parse(s)
		headWas, errWas := name.Take(laid)
		name.Parse("18446744073709551616.log") // others between change nothing
		name.Take(nil)
		name.KeyOf(api.Digest{}, api.Head{})
		if name.Name(kind, n) != s || !bytes.Equal(name.Lay(h), laid) || name.KeyOf(root, h) != k || name.Nonce(n) != nonce {
			t.Fatalf("kind %d, number %d, %v: the same calls answer otherwise", kind, n, h)
		}
		if x, y, ok := name.Parse(s); x != kindWas || y != nWas || ok != okWas {
			t.Fatalf("%q: parsed otherwise", s)
		}
		if x, e := name.Take(laid); x != headWas || e != errWas {
			t.Fatalf("%x: taken otherwise", laid)
		}
	}
}
