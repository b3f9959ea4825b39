package codec_test

import (
	"bytes"
	"encoding/binary"
	"math"
	"math/rand"
	"slices"
	"strings"
	"testing"

	"tantalus/api"
	"tantalus/codec"
)

// The signatures, as the chapter lists them.
var (
	_ func([]byte, uint64) []byte      = codec.Num
	_ func([]byte, string) []byte      = codec.Str
	_ func([]byte, uint64, int) []byte = codec.Fix
	_ func([]byte) *codec.Reader       = codec.New
	_ func(*codec.Reader) uint64       = (*codec.Reader).Num
	_ func(*codec.Reader, int) string  = (*codec.Reader).Str
	_ func(*codec.Reader, int) uint64  = (*codec.Reader).Fix
	_ func(*codec.Reader) int          = (*codec.Reader).Left
	_ func(*codec.Reader) api.Errno    = (*codec.Reader).Fault
	_ func(*codec.Reader) api.Errno    = (*codec.Reader).End
)

const (
	nines = "\xff\xff\xff\xff\xff\xff\xff\xff\xff"
	zeros = "\x80\x80\x80\x80\x80\x80\x80\x80\x80"
)

// edges are the numbers about each border of seven and of eight bits.
func edges() []uint64 {
	var l []uint64
	for bit := range 64 {
		if bit%7 == 0 || bit%8 == 0 {
			n := uint64(1) << bit
			l = append(l, n-1, n, n+1)
		}
	}
	return append(l, 300, 1<<63, math.MaxUint64-1, math.MaxUint64)
}

// take is one thing that a reader is asked for.
type take struct {
	name string
	do   func(r *codec.Reader) (uint64, string)
}

func num() take {
	return take{"Num", func(r *codec.Reader) (uint64, string) { return r.Num(), "" }}
}

func str(most int) take {
	return take{"Str", func(r *codec.Reader) (uint64, string) { return 0, r.Str(most) }}
}

func fix(many int) take {
	return take{"Fix", func(r *codec.Reader) (uint64, string) { return r.Fix(many), "" }}
}

// takes are all that may be asked for, what is wrong among them.
func takes() []take {
	return []take{num(), str(math.MaxInt), str(0), str(-1), fix(0), fix(1), fix(8), fix(9), fix(-1)}
}

// wantFault fails if the take meets another fault than e, or if anything goes on behind it.
func wantFault(t *testing.T, b string, x take, e api.Errno) {
	t.Helper()
	r := codec.New([]byte(b))
	wantStuck(t, r, x, e, len(b))
	for _, more := range takes() {
		wantStuck(t, r, more, e, len(b))
	}
}

func wantStuck(t *testing.T, r *codec.Reader, x take, e api.Errno, left int) {
	t.Helper()
	if n, s := x.do(r); n != 0 || s != "" {
		t.Errorf("%s took %d, %q", x.name, n, s)
	}
	if r.Fault() != e || r.End() != e || r.Left() != left {
		t.Errorf("%s: fault %d, end %d, left %d; want %d, %d", x.name, r.Fault(), r.End(), r.Left(), e, left)
	}
}

// wantTaken fails if the take is not n and s, and the reader behind so many bytes.
func wantTaken(t *testing.T, b string, x take, n uint64, s string, many int) {
	t.Helper()
	r := codec.New([]byte(b))
	if m, u := x.do(r); m != n || u != s || r.Fault() != api.OK || r.Left() != len(b)-many {
		t.Errorf("%s out of %x: %d, %q, fault %d, left %d", x.name, b, m, u, r.Fault(), r.Left())
	}
}

// P1.1

func TestNumIsLaid(t *testing.T) {
	for _, x := range []struct {
		n    uint64
		want string
	}{
		{0, "\x00"}, {1, "\x01"}, {127, "\x7f"}, {128, "\x80\x01"}, {300, "\xac\x02"},
		{16383, "\xff\x7f"}, {16384, "\x80\x80\x01"},
		{1<<63 - 1, nines[:8] + "\x7f"}, {1 << 63, zeros + "\x01"}, {math.MaxUint64, nines + "\x01"},
	} {
		if got := codec.Num([]byte("ab"), x.n); string(got) != "ab"+x.want {
			t.Errorf("%d: %x", x.n, got)
		}
	}
	for _, n := range edges() {
		if got := codec.Num(nil, n); !bytes.Equal(got, binary.AppendUvarint(nil, n)) {
			t.Errorf("%d: %x", n, got)
		}
	}
}

func TestStrIsLaid(t *testing.T) {
	long := strings.Repeat("x", 300)
	for _, x := range []struct{ s, want string }{
		{"", "\x00"}, {"ab", "\x02ab"}, {"\x00\xff\x80", "\x03\x00\xff\x80"}, {long, "\xac\x02" + long},
	} {
		if got := codec.Str(nil, x.s); string(got) != x.want {
			t.Errorf("%q: %x", x.s, got)
		}
		if got := codec.Str([]byte("ab"), x.s); string(got) != "ab"+x.want {
			t.Errorf("%q behind others: %x", x.s, got)
		}
	}
}

func TestFixIsLaid(t *testing.T) {
	const n = 0x8877665544332211
	all := "\x11\x22\x33\x44\x55\x66\x77\x88"
	for many := range 9 {
		if got := codec.Fix([]byte("ab"), n, many); string(got) != "ab"+all[:many] {
			t.Errorf("%d: %x", many, got)
		}
	}
	for _, many := range []int{-1, math.MinInt} {
		if got := codec.Fix([]byte("ab"), n, many); string(got) != "ab" {
			t.Errorf("%d: %x", many, got)
		}
	}
	for _, many := range []int{9, 64, math.MaxInt} {
		if got := codec.Fix([]byte("ab"), n, many); string(got) != "ab"+all {
			t.Errorf("%d: %x", many, got)
		}
	}
	if got := codec.Fix(nil, 258, 3); string(got) != "\x02\x01\x00" {
		t.Errorf("258: %x", got)
	}
	if got := codec.Fix(nil, 258, 0); len(got) != 0 {
		t.Errorf("no bytes: %x", got)
	}
}

func TestWhatIsLaidIsNewMemory(t *testing.T) {
	for name, lay := range map[string]func(b []byte) []byte{
		"Num":   func(b []byte) []byte { return codec.Num(b, 300) },
		"Str":   func(b []byte) []byte { return codec.Str(b, "xy") },
		"Fix":   func(b []byte) []byte { return codec.Fix(b, 258, 2) },
		"Fix 0": func(b []byte) []byte { return codec.Fix(b, 258, 0) },
		"Str 0": func(b []byte) []byte { return codec.Str(b, "") },
	} {
		room := []byte("abcdefghijklmnopqrstuvwxyz")
		one, two := lay(room[:2]), lay(room[:2])
		if string(room) != "abcdefghijklmnopqrstuvwxyz" {
			t.Errorf("%s wrote into what it was given: %q", name, room)
		}
		if !bytes.Equal(one, two) {
			t.Errorf("%s: %x, then %x", name, one, two)
		}
		spoil(one)
		if string(room) != "abcdefghijklmnopqrstuvwxyz" || string(two[:2]) != "ab" {
			t.Errorf("%s shares what it answers", name)
		}
		spoil(room)
		if string(two[:2]) != "ab" {
			t.Errorf("%s keeps what it was given", name)
		}
	}
}

// spoil writes over a list and the room behind it.
func spoil(b []byte) {
	for i := range b[:cap(b)] {
		b[:cap(b)][i] = '#'
	}
}

// P1.2

func TestNewHasTheBytesAsTheyWere(t *testing.T) {
	b := codec.Str(codec.Num(nil, 300), "ab")
	r := codec.New(b)
	if r.Left() != 5 || r.Fault() != api.OK {
		t.Error("a new reader stands elsewhere")
	}
	spoil(b)
	if r.Num() != 300 || r.Str(2) != "ab" || r.End() != api.OK {
		t.Error("a reader's bytes were changed from outside")
	}
}

func TestNewReadsNothingBehindTheList(t *testing.T) {
	b := []byte{0x80, 1, 2, 3}
	wantRoom := func(x take) {
		r := codec.New(b[:1])
		wantStuck(t, r, x, api.ErrShort, 1)
	}
	wantRoom(num())
	wantRoom(str(99))
	wantRoom(fix(2))
}

func TestTwoReadersStandApart(t *testing.T) {
	b := []byte{1, 2, 3}
	one, two := codec.New(b), codec.New(b)
	one.Num()
	one.Fix(9)
	if two.Left() != 3 || two.Fault() != api.OK || two.Num() != 1 {
		t.Error("a reader moved another one")
	}
}

func TestNumIsTaken(t *testing.T) {
	for _, n := range edges() {
		b := string(binary.AppendUvarint(nil, n))
		wantTaken(t, b, num(), n, "", len(b))
		wantTaken(t, b+"\xff\x00", num(), n, "", len(b))
	}
}

func TestNumFaults(t *testing.T) {
	for _, x := range []struct {
		b string
		e api.Errno
	}{
		{"", api.ErrShort}, {"\x80", api.ErrShort}, {"\xff", api.ErrShort}, {"\x80\x80", api.ErrShort},
		{nines, api.ErrShort}, {zeros, api.ErrShort},
		{"\x80\x00", api.ErrForm}, {"\xff\x00", api.ErrForm}, {"\x80\x80\x00", api.ErrForm},
		{"\x80\x00\x01", api.ErrForm}, {nines[:8] + "\x00", api.ErrForm},
		{nines + "\x00", api.ErrForm}, {zeros + "\x00", api.ErrForm},
		{nines + "\x02", api.ErrForm}, {zeros + "\x02", api.ErrForm}, {zeros + "\x03", api.ErrForm},
		{zeros + "\x7f", api.ErrForm}, {zeros + "\x40\x01", api.ErrForm},
		{nines + "\xff", api.ErrForm}, {zeros + "\x80", api.ErrForm}, {zeros + "\x81", api.ErrForm},
		{zeros + "\x80\x01", api.ErrForm}, {zeros + "\x81\x00", api.ErrForm},
		{zeros + zeros, api.ErrForm}, {nines + nines + nines + "\x01", api.ErrForm},
	} {
		wantFault(t, x.b, num(), x.e)
		wantFault(t, x.b, str(math.MaxInt), x.e)
		wantFault(t, x.b, str(-1), x.e)
	}
}

func TestStrIsTaken(t *testing.T) {
	wantTaken(t, "\x00", str(0), 0, "", 1)
	wantTaken(t, "\x00\x05", str(-1), 0, "", 1)
	wantTaken(t, "\x00", str(math.MinInt), 0, "", 1)
	wantTaken(t, "\x02abc", str(2), 0, "ab", 3)
	wantTaken(t, "\x02ab", str(math.MaxInt), 0, "ab", 3)
	wantTaken(t, "\x03\x00\xff\x80\x01", str(3), 0, "\x00\xff\x80", 4)
	long := strings.Repeat("x", 300)
	wantTaken(t, "\xac\x02"+long+"y", str(300), 0, long, 302)
}

func TestStrFaults(t *testing.T) {
	long := strings.Repeat("x", 300)
	for _, x := range []struct {
		b    string
		most int
		e    api.Errno
	}{
		{"\x02ab", 1, api.ErrLong}, {"\x02ab", 0, api.ErrLong}, {"\x02ab", -1, api.ErrLong},
		{"\x01a", math.MinInt, api.ErrLong}, {"\xac\x02" + long, 299, api.ErrLong},
		{"\x02", 1, api.ErrLong}, {nines + "\x01", math.MaxInt, api.ErrLong},
		{zeros + "\x01", math.MaxInt, api.ErrLong}, {zeros + "\x01abc", math.MaxInt, api.ErrLong},
		{"\x01", 1, api.ErrShort}, {"\x03ab", 3, api.ErrShort}, {"\x03ab", math.MaxInt, api.ErrShort},
		{nines[:8] + "\x7f", math.MaxInt, api.ErrShort}, {nines[:8] + "\x7fabc", math.MaxInt, api.ErrShort},
		{"\xac\x02" + long[:299], 300, api.ErrShort},
	} {
		wantFault(t, x.b, str(x.most), x.e)
	}
}

func TestFixIsTaken(t *testing.T) {
	all := "\x11\x22\x33\x44\x55\x66\x77\x88\x99"
	for many := range 9 {
		n := uint64(0x8877665544332211) & (1<<(8*many) - 1)
		wantTaken(t, all, fix(many), n, "", many)
		wantTaken(t, all[:many], fix(many), n, "", many)
	}
}

func TestFixFaults(t *testing.T) {
	for _, many := range []int{-1, 9, math.MinInt, math.MaxInt} {
		wantFault(t, "", fix(many), api.ErrArg)
		wantFault(t, "\x01\x02", fix(many), api.ErrArg)
		wantFault(t, nines, fix(many), api.ErrArg)
	}
	for many := 1; many <= 8; many++ {
		wantFault(t, nines[:many-1], fix(many), api.ErrShort)
	}
}

func TestTheFirstFaultStays(t *testing.T) {
	r := codec.New([]byte{1, 0x80})
	if r.Num() != 1 {
		t.Error("first")
	}
	wantStuck(t, r, num(), api.ErrShort, 1)
	wantStuck(t, r, fix(9), api.ErrShort, 1)
	wantStuck(t, r, fix(1), api.ErrShort, 1)
	wantStuck(t, r, fix(0), api.ErrShort, 1)
}

// P1.3

func TestLeftFaultEnd(t *testing.T) {
	r := codec.New([]byte{0xac, 2, 1, 'a', 7})
	for _, x := range []struct {
		take take
		left int
		end  api.Errno
	}{
		{fix(0), 5, api.ErrTail}, {num(), 3, api.ErrTail}, {str(1), 1, api.ErrTail}, {fix(1), 0, api.OK},
		{fix(0), 0, api.OK},
	} {
		x.take.do(r)
		if r.Left() != x.left || r.End() != x.end || r.Fault() != api.OK {
			t.Errorf("left %d, end %d, fault %d; want %d, %d", r.Left(), r.End(), r.Fault(), x.left, x.end)
		}
	}
	wantStuck(t, r, num(), api.ErrShort, 0)
}

func TestTailIsNoFault(t *testing.T) {
	r := codec.New([]byte{5, 6})
	if r.End() != api.ErrTail || r.Fault() != api.OK || r.Num() != 5 || r.Num() != 6 || r.End() != api.OK {
		t.Error("a reader that has bytes left was stopped by End")
	}
}

func TestNoBytes(t *testing.T) {
	for _, b := range [][]byte{nil, {}} {
		r := codec.New(b)
		if r == nil || r.Left() != 0 || r.Fault() != api.OK || r.End() != api.OK {
			t.Error("a reader of nothing")
		}
		wantFault(t, string(b), num(), api.ErrShort)
		wantFault(t, string(b), str(9), api.ErrShort)
		wantFault(t, string(b), fix(1), api.ErrShort)
	}
}

func TestNilReader(t *testing.T) {
	for _, x := range takes() {
		wantStuck(t, nil, x, api.OK, 0)
	}
}

func TestReaderThatNobodyMade(t *testing.T) {
	var r codec.Reader
	if r.Left() != 0 || r.Fault() != api.OK || r.End() != api.OK {
		t.Error("it is not one of no bytes")
	}
	wantStuck(t, &r, num(), api.ErrShort, 0)
}

// P1.4

// item is one thing that was laid, and how it is taken.
type item struct {
	n    uint64
	s    string
	lay  func(b []byte) []byte
	take take
}

func numItem(n uint64) item {
	return item{n, "", func(b []byte) []byte { return codec.Num(b, n) }, num()}
}

func strItem(s string) item {
	return item{0, s, func(b []byte) []byte { return codec.Str(b, s) }, str(len(s))}
}

func fixItem(n uint64, many int) item {
	low := n & (1<<(8*many) - 1)
	return item{low, "", func(b []byte) []byte { return codec.Fix(b, n, many) }, fix(many)}
}

// someItem is drawn from a seed that is written down, so that each run draws the same.
func someItem(draw *rand.Rand) item {
	n := draw.Uint64() >> draw.Intn(65)
	switch draw.Intn(3) {
	case 0:
		return numItem(n)
	case 1:
		s := make([]byte, draw.Intn(200))
		draw.Read(s)
		return strItem(string(s))
	}
	return fixItem(n, draw.Intn(9))
}

func TestWhatWasLaidIsTakenAgain(t *testing.T) {
	draw := rand.New(rand.NewSource(1))
	for range 500 {
		var l []item
		var b []byte
		for range draw.Intn(20) {
			x := someItem(draw)
			l = append(l, x)
			b = x.lay(b)
		}
		r := codec.New(b)
		for i, x := range l {
			if n, s := x.take.do(r); n != x.n || s != x.s {
				t.Fatalf("item %d, %s: %d, %q; want %d, %q", i, x.take.name, n, s, x.n, x.s)
			}
		}
		if r.End() != api.OK || r.Left() != 0 {
			t.Fatalf("end %d, left %d", r.End(), r.Left())
		}
	}
}

// P1.5

// wantOneForm fails if the bytes are taken as a number that is laid otherwise.
func wantOneForm(t *testing.T, b []byte) {
	r := codec.New(b)
	n := r.Num()
	if r.Fault() != api.OK {
		return
	}
	if taken := b[:len(b)-r.Left()]; !bytes.Equal(codec.Num(nil, n), taken) {
		t.Fatalf("%x is taken as %d, which is laid as %x", taken, n, codec.Num(nil, n))
	}
}

func TestANumberHasOneForm(t *testing.T) {
	for n := range 1 << 16 {
		wantOneForm(t, []byte{byte(n), byte(n >> 8)})
	}
	draw := rand.New(rand.NewSource(2))
	for range 100000 {
		b := make([]byte, draw.Intn(13))
		for i := range b {
			b[i] = []byte{0, 1, 2, 127, 128, 129, 255}[draw.Intn(7)] | byte(draw.Intn(4)/3<<7)
		}
		wantOneForm(t, b)
	}
	for last := range 256 {
		wantOneForm(t, []byte(nines+string([]byte{byte(last)})))
		wantOneForm(t, []byte(zeros+string([]byte{byte(last)})))
	}
}

func TestAGreaterNumberHasNoFewerBytes(t *testing.T) {
	l := edges()
	slices.Sort(l)
	most := 0
	for _, n := range l {
		many := len(codec.Num(nil, n))
		if many < most {
			t.Errorf("%d has %d bytes, a smaller one %d", n, many, most)
		}
		most = many
	}
	if most != 10 {
		t.Errorf("the greatest has %d bytes", most)
	}
}

// P1.6

// wantCutsShort fails if the item, cut anywhere within, is told otherwise than as too short.
func wantCutsShort(t *testing.T, x item) {
	t.Helper()
	whole := x.lay(nil)
	for at := range whole {
		r := codec.New(append([]byte{9}, whole[:at]...))
		if r.Num() != 9 {
			t.Fatal("what stands ahead")
		}
		wantStuck(t, r, x.take, api.ErrShort, at)
	}
}

func TestWhatIsCutIsTooShort(t *testing.T) {
	for _, n := range edges() {
		wantCutsShort(t, numItem(n))
		wantCutsShort(t, fixItem(n, 8))
	}
	for many := 1; many <= 8; many++ {
		wantCutsShort(t, fixItem(math.MaxUint64, many))
	}
	for _, many := range []int{0, 1, 2, 127, 128, 300} {
		wantCutsShort(t, strItem(strings.Repeat("\xff", many)))
	}
}

// All takes, of any bytes, end without a panic; what they leave is either further on or a fault.
func TestAnyBytes(t *testing.T) {
	draw := rand.New(rand.NewSource(3))
	for range 20000 {
		b := make([]byte, draw.Intn(30))
		draw.Read(b)
		r := codec.New(b)
		for range 10 {
			left, fault := r.Left(), r.Fault()
			x := takes()[draw.Intn(len(takes()))]
			x.do(r)
			if r.Left() > left || fault != api.OK && r.Fault() != fault || r.Fault() != api.OK && r.Left() != left {
				t.Fatalf("%x: %s: left %d, then %d; fault %d, then %d", b, x.name, left, r.Left(), fault, r.Fault())
			}
		}
	}
}
