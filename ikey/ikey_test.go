package ikey_test

import (
	"bytes"
	"encoding/binary"
	"fmt"
	"math"
	"math/big"
	"math/rand"
	"slices"
	"strings"
	"testing"
	"unsafe"

	"tantalus/api"
	"tantalus/ikey"
)

// The signatures, as the chapter lists them.
var (
	_ func(api.Entry) bool                = ikey.Right
	_ func(api.Entry, api.Entry) int      = ikey.Compare
	_ func(api.Entry) string              = ikey.Lay
	_ func(string) (api.Entry, api.Errno) = ikey.Take
	_ func(string, string) string         = ikey.Between
	_ func(string) string                 = ikey.After
	_ func(...api.Entry) bool             = ikey.Rises
)

const (
	last = uint64(1)<<56 - 1 // the last moment
	top  = uint64(math.MaxUint64)
)

// toldRight is Right by the chapter's words.
func toldRight(e api.Entry) bool {
	if len(e.User) > 1024 || e.Seq > 72057594037927935 || len(e.Value) > 65536 {
		return false
	}
	return e.Kind == 1 || e.Kind == 0 && len(e.Value) == 0
}

// toldUsers is the order of texts by the chapter's words: byte by byte, a beginning ahead.
func toldUsers(a, b string) int {
	for i := 0; ; i++ {
		switch {
		case i == len(a) && i == len(b):
			return 0
		case i == len(a):
			return -1
		case i == len(b):
			return 1
		case a[i] < b[i]:
			return -1
		case a[i] > b[i]:
			return 1
		}
	}
}

// toldCompare is Compare by the chapter's words.
func toldCompare(a, b api.Entry) int {
	switch users := toldUsers(a.User, b.User); {
	case users != 0:
		return users
	case a.Seq > b.Seq:
		return -1
	case a.Seq < b.Seq:
		return 1
	case a.Kind > b.Kind:
		return -1
	case a.Kind < b.Kind:
		return 1
	}
	return 0
}

// toldRises is Rises by what follows of the chapter's words: of any two the one ahead is ahead.
func toldRises(l []api.Entry) bool {
	for k := range l {
		for i := range k {
			users := toldUsers(l[i].User, l[k].User)
			if users > 0 || users == 0 && l[i].Seq <= l[k].Seq {
				return false
			}
		}
	}
	return true
}

// toldLay is Lay by the chapter's words, with numbers that don't go round.
func toldLay(e api.Entry) string {
	n := new(big.Int).SetUint64(e.Seq)
	n.Mul(n, big.NewInt(256)).Add(n, big.NewInt(int64(e.Kind)))
	b := []byte(e.User)
	for range 8 {
		low := new(big.Int)
		n.DivMod(n, big.NewInt(256), low)
		b = append(b, byte(low.Int64()))
	}
	return string(b)
}

// toldTake is Take by the chapter's words.
func toldTake(s string) (api.Entry, api.Errno) {
	if len(s) < 8 {
		return api.Entry{}, 80
	}
	n := binary.LittleEndian.Uint64([]byte(s)[len(s)-8:])
	e := api.Entry{User: s[:len(s)-8], Seq: n >> 8, Kind: byte(n)}
	if !toldRight(e) || toldLay(e) != s {
		return api.Entry{}, 80
	}
	return e, 0
}

// toldBetween is Between by the chapter's words.
func toldBetween(a, b string) string {
	for i := 0; i < len(a) && i < len(b); i++ {
		if a[i] == b[i] {
			continue
		}
		if int(b[i])-int(a[i]) < 2 {
			return a
		}
		s := append([]byte(a[:i]), a[i])
		s[i]++
		return string(s)
	}
	return a
}

// toldAfter is After by the chapter's words.
func toldAfter(a string) string {
	b := []byte(a)
	for i, c := range b {
		if c < 255 {
			b[i] = c + 1
			return string(b[:i+1])
		}
	}
	return a
}

// brief is a text as it is told in a fault: long ones are cut.
func brief(s string) string {
	if len(s) > 60 {
		return fmt.Sprintf("%q.. (%d bytes)", s[:60], len(s))
	}
	return fmt.Sprintf("%q", s)
}

// told is an entry as it is told in a fault.
func told(e api.Entry) string {
	return fmt.Sprintf("%s at %d, kind %d, value %s", brief(e.User), e.Seq, e.Kind, brief(e.Value))
}

// toldAll are entries as they are told in a fault.
func toldAll(l []api.Entry) string {
	var lines []string
	for _, e := range l {
		lines = append(lines, told(e))
	}
	return strings.Join(lines, "; ")
}

// users are users' keys of all sorts, rising: none, beginnings of others, bytes at the edges, long ones.
func users() []string {
	x := strings.Repeat("x", 1022)
	return []string{
		"", "\x00", "\x00\x00", "\x00\xff", "\x01", "a", "a\x00", "a\x00\x00", "a\x01", "ab", "abc", "a\x7f", "a\x80", "a\xff", "a\xff\xff", "b",
		x + "x", x + "xw", x + "xx", x + "xxx", x + "xy", x + "y", "\x7f", "\x7f\xff", "\x80", "\xc3\xa9", "\xfe\xff", "\xff", "\xff\x00", "\xff\xff",
	}
}

// moments are those at the edges, falling.
func moments() []uint64 {
	return []uint64{top, top - 1, 1 << 63, last + 2, last + 1, last, last - 1, 1 << 55, 1 << 32, 257, 256, 255, 9, 2, 1, 0}
}

// kinds are those that are some, and some that are none, falling.
func kinds() []uint8 {
	return []uint8{255, 128, 127, 2, 1, 0}
}

// values are of no byte, of few, of as many as may be, of one more, of many.
func values() []string {
	return []string{"", "x", "\x00", strings.Repeat("v", 1024), strings.Repeat("v", 65535), strings.Repeat("v", 65536), strings.Repeat("v", 65537), strings.Repeat("v", 1<<20)}
}

// entries are of all those users, moments and kinds, as they stand in order.
func entries() []api.Entry {
	var l []api.Entry
	for _, user := range users() {
		for _, seq := range moments() {
			for _, kind := range kinds() {
				l = append(l, api.Entry{User: user, Seq: seq, Kind: kind})
			}
		}
	}
	return l
}

// texts are all of up to so many of the bytes.
func texts(many int, of string) []string {
	all := []string{""}
	for from := 0; many > 0; many-- {
		end := len(all)
		for _, s := range all[from:end] {
			for i := range len(of) {
				all = append(all, s+of[i:i+1])
			}
		}
		from = end
	}
	return all
}

// edges are the bytes at which something could be taken wrong.
const edges = "\x00\x01\x02\x7e\x7f\x80\x81\xfd\xfe\xff"

// drawn is a text of so many bytes, drawn from a seed that is written down, so that each run draws the same.
func drawn(draw *rand.Rand, many int) string {
	b := make([]byte, many)
	draw.Read(b)
	return string(b)
}

// near is a text of few bytes, of which few are met: two that are drawn so are often alike at their beginning.
func near(draw *rand.Rand) string {
	b := make([]byte, draw.Intn(6))
	for i := range b {
		b[i] = edges[draw.Intn(len(edges))]
	}
	return string(b)
}

// anyEntry is an entry that was drawn, right or not.
func anyEntry(draw *rand.Rand) api.Entry {
	e := api.Entry{User: near(draw), Seq: draw.Uint64() >> draw.Intn(64), Kind: uint8(draw.Intn(3))}
	switch draw.Intn(4) {
	case 0:
		e.User, e.Kind = drawn(draw, 1020+draw.Intn(8)), uint8(draw.Intn(256))
	case 1:
		e.Seq, e.Value = uint64(draw.Intn(3)), near(draw)
	}
	return e
}

// taken asks that s is taken as the chapter's words say.
func taken(t *testing.T, s string) {
	t.Helper()
	e, f := ikey.Take(s)
	if want, g := toldTake(s); e != want || f != g {
		t.Fatalf("%s: %s, error %d, want %s, error %d", brief(s), told(e), f, told(want), g)
	}
}

// refused asks that s is no inner key, and that nothing is answered beside the error.
func refused(t *testing.T, what, s string) {
	t.Helper()
	if e, f := ikey.Take(s); e != (api.Entry{}) || f != api.ErrIkey {
		t.Errorf("%s, %s: %s, error %d, want error %d alone", what, brief(s), told(e), f, api.ErrIkey)
	}
}

// P8.1

func TestKnownRightEntries(t *testing.T) {
	u, v := strings.Repeat("u", 1024), strings.Repeat("v", 65536)
	for _, x := range []struct {
		e    api.Entry
		want bool
	}{
		{api.Entry{}, true},
		{api.Entry{Kind: 1}, true},
		{api.Entry{User: "a", Seq: 1, Kind: api.KPut, Value: "x"}, true},
		{api.Entry{User: "a", Seq: 1, Kind: api.KDelete}, true},
		{api.Entry{User: u}, true},
		{api.Entry{User: u + "u"}, false},
		{api.Entry{User: u + "u", Kind: 1}, false},
		{api.Entry{User: u + u}, false},
		{api.Entry{Seq: last}, true},
		{api.Entry{Seq: last, Kind: 1}, true},
		{api.Entry{Seq: last + 1}, false},
		{api.Entry{Seq: last + 1, Kind: 1}, false},
		{api.Entry{Seq: 1 << 63}, false},
		{api.Entry{Seq: top}, false},
		{api.Entry{Kind: 2}, false},
		{api.Entry{Kind: 3}, false},
		{api.Entry{Kind: 128}, false},
		{api.Entry{Kind: 255}, false},
		{api.Entry{Kind: 2, Value: "x"}, false},
		{api.Entry{Value: "x"}, false},
		{api.Entry{Value: "\x00"}, false},
		{api.Entry{Value: v}, false},
		{api.Entry{User: "a", Seq: 9, Kind: api.KDelete, Value: "x"}, false},
		{api.Entry{Kind: 1, Value: "\x00"}, true},
		{api.Entry{Kind: 1, Value: v}, true},
		{api.Entry{Kind: 1, Value: v + "v"}, false},
		{api.Entry{User: u, Seq: last, Kind: 1, Value: v}, true},
		{api.Entry{User: u + "u", Seq: last, Kind: 1, Value: v}, false},
		{api.Entry{User: u, Seq: last + 1, Kind: 1, Value: v}, false},
		{api.Entry{User: u, Seq: last, Kind: 2, Value: v}, false},
		{api.Entry{User: u, Seq: last, Kind: 1, Value: v + "v"}, false},
		{api.Entry{User: u, Seq: last}, true},
		{api.Entry{User: strings.Repeat("\xff", 1024), Kind: 1, Value: strings.Repeat("\x00", 65536)}, true},
		{api.Entry{User: strings.Repeat("é", 512), Kind: 1, Value: strings.Repeat("é", 32768)}, true}, // bytes are counted, not runes
		{api.Entry{User: strings.Repeat("é", 513), Kind: 1}, false},
		{api.Entry{Kind: 1, Value: strings.Repeat("é", 32769)}, false},
	} {
		if ok := ikey.Right(x.e); ok != x.want {
			t.Errorf("%s: %t, want %t", told(x.e), ok, x.want)
		}
	}
}

func TestRightIsAsTold(t *testing.T) {
	l := values()
	for _, e := range entries() {
		for _, value := range l {
			e.Value = value
			if ok, want := ikey.Right(e), toldRight(e); ok != want {
				t.Fatalf("%s: %t, want %t", told(e), ok, want)
			}
		}
	}
	for kind := range 256 {
		for _, value := range l {
			e := api.Entry{User: "a", Seq: 1, Kind: uint8(kind), Value: value}
			if ok, want := ikey.Right(e), toldRight(e); ok != want {
				t.Fatalf("%s: %t, want %t", told(e), ok, want)
			}
		}
	}
}

// P8.2

func TestKnownPlaces(t *testing.T) {
	for _, x := range []struct {
		a, b api.Entry
		want int
	}{
		{api.Entry{}, api.Entry{}, 0},
		{api.Entry{User: "a", Seq: 5}, api.Entry{User: "a", Seq: 4}, -1},
		{api.Entry{User: "a", Seq: 5}, api.Entry{User: "ab", Seq: 9}, -1},
		{api.Entry{User: "b"}, api.Entry{User: "a"}, 1},
		{api.Entry{User: "b", Seq: 9, Kind: 1}, api.Entry{User: "a"}, 1},
		{api.Entry{User: ""}, api.Entry{User: "\x00"}, -1},
		{api.Entry{User: "a"}, api.Entry{User: "a\x00", Seq: top}, -1},
		{api.Entry{User: "a\x7f"}, api.Entry{User: "a\x80"}, -1},
		{api.Entry{User: "\x7f"}, api.Entry{User: "\xff"}, -1},
		{api.Entry{User: "\x80"}, api.Entry{User: "\x7f\xff"}, 1},
		{api.Entry{User: "ab"}, api.Entry{User: "b"}, -1},
		{api.Entry{User: "B"}, api.Entry{User: "a"}, -1},
		{api.Entry{User: "10"}, api.Entry{User: "9"}, -1},
		{api.Entry{User: "\xc3\xa9"}, api.Entry{User: "z"}, 1},
		{api.Entry{User: "a"}, api.Entry{User: "a", Seq: last}, 1},
		{api.Entry{User: "a"}, api.Entry{User: "a", Seq: top}, 1},
		{api.Entry{User: "a", Seq: last + 1}, api.Entry{User: "a", Seq: last}, -1},
		{api.Entry{User: "a", Seq: 1 << 63}, api.Entry{User: "a", Seq: 1<<63 - 1}, -1},
		{api.Entry{User: "a", Seq: 1 << 32}, api.Entry{User: "a", Seq: 1}, -1},
		{api.Entry{User: "a", Seq: 5, Kind: 0}, api.Entry{User: "a", Seq: 4, Kind: 1}, -1},
		{api.Entry{User: "a", Seq: 5, Kind: 1}, api.Entry{User: "a", Seq: 5}, -1},
		{api.Entry{User: "a", Seq: 5}, api.Entry{User: "a", Seq: 5, Kind: 1}, 1},
		{api.Entry{User: "a", Seq: 5, Kind: 255}, api.Entry{User: "a", Seq: 5, Kind: 1}, -1},
		{api.Entry{User: "a", Seq: 5, Kind: 128}, api.Entry{User: "a", Seq: 5, Kind: 127}, -1},
		{api.Entry{User: "a", Seq: 5, Kind: 1, Value: "x"}, api.Entry{User: "a", Seq: 5, Kind: 1, Value: "y"}, 0},
		{api.Entry{User: "a", Seq: 5, Kind: 1, Value: "y"}, api.Entry{User: "a", Seq: 5, Kind: 1, Value: ""}, 0},
		{api.Entry{User: "a", Seq: 5, Value: "y"}, api.Entry{User: "a", Seq: 4, Value: "x"}, -1},
	} {
		if got := ikey.Compare(x.a, x.b); got != x.want {
			t.Errorf("%s and %s: %d, want %d", told(x.a), told(x.b), got, x.want)
		}
		if got := ikey.Compare(x.b, x.a); got != -x.want {
			t.Errorf("%s and %s: %d, want %d", told(x.b), told(x.a), got, -x.want)
		}
	}
}

// The entries stand in order already, so their places tell what is to be answered.
func TestPlacesInAList(t *testing.T) {
	l := entries()
	for i := 0; i < len(l); i += 3 {
		for k, b := range l {
			want := 0
			if i < k {
				want = -1
			}
			if i > k {
				want = 1
			}
			if got := ikey.Compare(l[i], b); got != want {
				t.Fatalf("%s and %s: %d, want %d", told(l[i]), told(b), got, want)
			}
		}
	}
}

func TestCompareIsAsTold(t *testing.T) {
	draw := rand.New(rand.NewSource(1))
	met := map[int]int{}
	for range 200000 {
		a, b := anyEntry(draw), anyEntry(draw)
		if draw.Intn(3) == 0 {
			b.User = a.User
		}
		if draw.Intn(3) == 0 {
			b.Seq = a.Seq
		}
		got, want := ikey.Compare(a, b), toldCompare(a, b)
		if got != want {
			t.Fatalf("%s and %s: %d, want %d", told(a), told(b), got, want)
		}
		met[got]++
	}
	if met[-1] < 1000 || met[0] < 1000 || met[1] < 1000 {
		t.Errorf("places that were met: %v", met)
	}
}

func TestCompareOfTexts(t *testing.T) {
	l := texts(2, edges)
	for _, a := range l {
		for _, b := range l {
			want := bytes.Compare([]byte(a), []byte(b))
			if got := ikey.Compare(api.Entry{User: a, Seq: 7}, api.Entry{User: b, Seq: 7}); got != want {
				t.Fatalf("%q and %q: %d, want %d", a, b, got, want)
			}
			if want != 0 { // the users' keys alone tell it, where they differ
				if got := ikey.Compare(api.Entry{User: a, Kind: 1}, api.Entry{User: b, Seq: top}); got != want {
					t.Fatalf("%q at 0 and %q at %d: %d, want %d", a, b, top, got, want)
				}
				if got := ikey.Compare(api.Entry{User: a, Seq: top}, api.Entry{User: b, Kind: 1}); got != want {
					t.Fatalf("%q at %d and %q at 0: %d, want %d", a, top, b, got, want)
				}
			}
		}
	}
}

func TestValuesHaveNoPart(t *testing.T) {
	l := values()[:5]
	for _, v := range l {
		for _, w := range l {
			a, b := api.Entry{User: "a", Seq: 5, Kind: 1, Value: v}, api.Entry{User: "a", Seq: 4, Kind: 1, Value: w}
			if got := ikey.Compare(a, b); got != -1 {
				t.Errorf("%s and %s: %d, want -1", told(a), told(b), got)
			}
			if !ikey.Rises(a, b) || ikey.Rises(b, a) {
				t.Errorf("%s and %s: they rise the wrong way", told(a), told(b))
			}
			b.Seq = a.Seq
			if got := ikey.Compare(a, b); got != 0 {
				t.Errorf("%s and %s: %d, want 0", told(a), told(b), got)
			}
			if ikey.Rises(a, b) {
				t.Errorf("%s and %s rise", told(a), told(b))
			}
		}
	}
}

// rising are so many entries that rise: several moments of each user's key.
func rising(many int) []api.Entry {
	l := make([]api.Entry, many)
	for i := range l {
		l[i] = api.Entry{User: fmt.Sprintf("%05d", i/3), Seq: uint64(10 - i%3), Kind: uint8(i % 2)}
	}
	return l
}

func TestKnownRises(t *testing.T) {
	a5, a4, b := api.Entry{User: "a", Seq: 5}, api.Entry{User: "a", Seq: 4}, api.Entry{User: "b", Seq: 9}
	a5put, a4put := api.Entry{User: "a", Seq: 5, Kind: 1, Value: "x"}, api.Entry{User: "a", Seq: 4, Kind: 1}
	for _, x := range []struct {
		l    []api.Entry
		want bool
	}{
		{nil, true},
		{[]api.Entry{}, true},
		{[]api.Entry{{}}, true},
		{[]api.Entry{a5}, true},
		{[]api.Entry{{User: strings.Repeat("x", 2000), Seq: top, Kind: 255, Value: "x"}}, true}, // whether it is right isn't asked
		{[]api.Entry{a5, a5}, false},
		{[]api.Entry{{}, {}}, false},
		{[]api.Entry{a5, a4}, true},
		{[]api.Entry{a4, a5}, false},
		{[]api.Entry{a5put, a5}, false},
		{[]api.Entry{a5, a5put}, false},
		{[]api.Entry{a5, a4put}, true},
		{[]api.Entry{a4put, a5}, false},
		{[]api.Entry{a5, b}, true},
		{[]api.Entry{a5, a4, b}, true},
		{[]api.Entry{a5, b, a4}, false},
		{[]api.Entry{b, a5, a4}, false},
		{[]api.Entry{a5, a4, b, b}, false},
		{[]api.Entry{a5, a5, a4, b}, false},
		{[]api.Entry{a5, a4, a4put, b}, false},
		{[]api.Entry{{User: "a", Seq: 5, Kind: 255}, {User: "a", Seq: 5, Kind: 2}}, false},
		{[]api.Entry{{User: "a", Seq: top}, {User: "a", Seq: last + 1}, {User: "a", Seq: last}, {User: "a"}, {User: "a\x00", Seq: top}}, true},
		{[]api.Entry{{User: "a"}, {User: "a", Seq: top}}, false},
		{[]api.Entry{{User: "\x7f"}, {User: "\x80"}, {User: "\xff"}, {User: "\xff\x00"}}, true},
		{[]api.Entry{{User: "\x80"}, {User: "\x7f"}}, false},
		{[]api.Entry{{User: ""}, {User: "\x00"}, {User: "\x00\x00"}}, true},
		{[]api.Entry{{User: "ab"}, {User: "a"}}, false},
	} {
		if ok := ikey.Rises(x.l...); ok != x.want {
			t.Errorf("%s: %t, want %t", toldAll(x.l), ok, x.want)
		}
	}
	if !ikey.Rises() || !ikey.Rises(a5, a4, b) || ikey.Rises(a5, b, a4) {
		t.Error("entries that are handed over one by one")
	}
}

// All lists of up to four of some entries.
func TestRisesIsAsTold(t *testing.T) {
	pool := []api.Entry{{}, {Kind: 1}, {User: "a", Seq: 5, Kind: 1}, {User: "a", Seq: 5}, {User: "a", Seq: 5, Kind: 1, Value: "x"}, {User: "a", Seq: 4, Kind: 255}, {User: "a\x00", Seq: 5}, {User: "ab", Seq: top}, {User: "\x80", Seq: last}}
	lists := [][]api.Entry{nil}
	for range 4 {
		var longer [][]api.Entry
		for _, l := range lists {
			for _, e := range pool {
				longer = append(longer, append(slices.Clone(l), e))
			}
		}
		for _, l := range longer {
			if ok, want := ikey.Rises(l...), toldRises(l); ok != want {
				t.Fatalf("%s: %t, want %t", toldAll(l), ok, want)
			}
		}
		lists = longer
	}
}

func TestManyRise(t *testing.T) {
	for many := range 40 {
		if !ikey.Rises(rising(many)...) {
			t.Errorf("%d that rise", many)
		}
	}
	if !ikey.Rises(rising(100000)...) {
		t.Error("100000 that rise")
	}
}

// Two alike, and one out of its place, at each place: at the beginning, in the midst, at the end.
func TestOneOutOfPlace(t *testing.T) {
	const many = 40
	none := func(what string, at int, l []api.Entry) {
		t.Helper()
		if ikey.Rises(l...) {
			t.Errorf("%s at %d: they rise", what, at)
		}
	}
	for at := range many {
		l := rising(many)
		none("the same twice", at, slices.Insert(l, at, l[at]))
		l = rising(many)
		other := l[at]
		other.Kind, other.Value = 1-other.Kind, "x"
		none("another kind ahead", at, slices.Insert(slices.Clone(l), at, other))
		none("another kind behind", at, slices.Insert(slices.Clone(l), at+1, other))
		for to := range many {
			if to != at {
				l = rising(many)
				l[at], l[to] = l[to], l[at]
				none(fmt.Sprint("changed with ", to), at, l)
				l = rising(many)
				none(fmt.Sprint("taken to ", to), at, slices.Insert(slices.Delete(slices.Clone(l), at, at+1), to, l[at]))
			}
		}
	}
	l := rising(100000)
	none("the first of many", 0, append(l[1:], l[0]))
	l = rising(100000)
	l[99999].Seq = 99
	l[99999].User = l[99998].User
	none("the last of many", 99999, l)
}

// P8.3

func TestKnownKeys(t *testing.T) {
	long := strings.Repeat("u", 1024)
	for _, x := range []struct {
		e    api.Entry
		want string
	}{
		{api.Entry{}, "\x00\x00\x00\x00\x00\x00\x00\x00"},
		{api.Entry{Kind: 1}, "\x01\x00\x00\x00\x00\x00\x00\x00"},
		{api.Entry{User: "a", Seq: 1, Kind: 1}, "a\x01\x01\x00\x00\x00\x00\x00\x00"},
		{api.Entry{User: "a", Seq: 1, Kind: 1, Value: "x"}, "a\x01\x01\x00\x00\x00\x00\x00\x00"},
		{api.Entry{User: "a", Seq: 1}, "a\x00\x01\x00\x00\x00\x00\x00\x00"},
		{api.Entry{User: "ab", Seq: 258, Kind: 1}, "ab\x01\x02\x01\x00\x00\x00\x00\x00"},
		{api.Entry{User: "ab", Seq: 0x02030405060708, Kind: 1}, "ab\x01\x08\x07\x06\x05\x04\x03\x02"},
		{api.Entry{User: "\x00\xff", Seq: last, Kind: 0}, "\x00\xff\x00\xff\xff\xff\xff\xff\xff\xff"},
		{api.Entry{User: "\xff", Seq: last, Kind: 1}, "\xff\x01\xff\xff\xff\xff\xff\xff\xff"},
		{api.Entry{User: long, Seq: 1 << 55, Kind: 1}, long + "\x01\x00\x00\x00\x00\x00\x00\x80"},
		{api.Entry{User: "a\x01\x01\x00\x00\x00\x00\x00\x00", Seq: 1, Kind: 1}, "a\x01\x01\x00\x00\x00\x00\x00\x00\x01\x01\x00\x00\x00\x00\x00\x00"},
	} {
		if s := ikey.Lay(x.e); s != x.want {
			t.Errorf("%s: %q, want %q", told(x.e), s, x.want)
		}
		want := x.e
		want.Value = ""
		if e, f := ikey.Take(x.want); e != want || f != api.OK {
			t.Errorf("%q: %s, error %d, want %s", x.want, told(e), f, told(want))
		}
	}
}

// Entries that are not right are laid all the same; what their moments have above, goes round.
func TestKeysThatGoRound(t *testing.T) {
	for _, x := range []struct {
		e    api.Entry
		want string
	}{
		{api.Entry{Seq: last + 1}, "\x00\x00\x00\x00\x00\x00\x00\x00"},
		{api.Entry{Seq: last + 1, Kind: 1}, "\x01\x00\x00\x00\x00\x00\x00\x00"},
		{api.Entry{Seq: last + 2, Kind: 1}, "\x01\x01\x00\x00\x00\x00\x00\x00"},
		{api.Entry{Seq: 1 << 63, Kind: 1}, "\x01\x00\x00\x00\x00\x00\x00\x00"},
		{api.Entry{Seq: top}, "\x00\xff\xff\xff\xff\xff\xff\xff"},
		{api.Entry{Seq: top, Kind: 255}, "\xff\xff\xff\xff\xff\xff\xff\xff"},
		{api.Entry{Kind: 255}, "\xff\x00\x00\x00\x00\x00\x00\x00"},
		{api.Entry{User: "a", Seq: 1, Kind: 2}, "a\x02\x01\x00\x00\x00\x00\x00\x00"},
		{api.Entry{User: "a", Seq: 1, Value: "x"}, "a\x00\x01\x00\x00\x00\x00\x00\x00"},
		{api.Entry{User: strings.Repeat("u", 1025)}, strings.Repeat("u", 1025) + "\x00\x00\x00\x00\x00\x00\x00\x00"},
	} {
		if s := ikey.Lay(x.e); s != x.want {
			t.Errorf("%s: %s, want %s", told(x.e), brief(s), brief(x.want))
		}
	}
}

func TestKeysAreLaidAsTold(t *testing.T) {
	draw := rand.New(rand.NewSource(2))
	l := entries()
	for range 20000 {
		l = append(l, anyEntry(draw))
	}
	for _, e := range l {
		s, want := ikey.Lay(e), toldLay(e)
		if s != want {
			t.Fatalf("%s: %s, want %s", told(e), brief(s), brief(want))
		}
		e.Value = "another value"
		if ikey.Lay(e) != want {
			t.Fatalf("%s: the value has a part", told(e))
		}
	}
}

func TestFewBytes(t *testing.T) {
	refused(t, "nothing", "")
	for many := range 8 {
		for _, c := range []string{"\x00", "\x01", "a", "\xff"} {
			refused(t, "few bytes", strings.Repeat(c, many))
		}
		refused(t, "a key that is cut behind", "\x01\x01\x00\x00\x00\x00\x00\x00"[:many])
		refused(t, "a key that is cut ahead", "\x01\x01\x00\x00\x00\x00\x00\x00"[8-many:])
	}
}

// Each byte of kinds, behind a user's key of no byte and of some, with moments at the edges.
func TestKindsThatAreNone(t *testing.T) {
	for kind := range 256 {
		for _, user := range []string{"", "a", "\x00", strings.Repeat("u", 1024)} {
			for _, moment := range []string{"\x00\x00\x00\x00\x00\x00\x00", "\x01\x00\x00\x00\x00\x00\x00", "\xff\xff\xff\xff\xff\xff\xff"} {
				s := user + string([]byte{byte(kind)}) + moment
				taken(t, s)
				if kind > 1 {
					refused(t, "a kind that is none", s)
				}
			}
		}
	}
}

func TestUsersKeysThatAreTooLong(t *testing.T) {
	for _, kind := range []string{"\x00", "\x01"} {
		behind := kind + "\x05\x00\x00\x00\x00\x00\x00"
		for many := 1020; many <= 1024; many++ {
			user := strings.Repeat("u", many)
			if e, f := ikey.Take(user + behind); e != (api.Entry{User: user, Seq: 5, Kind: kind[0]}) || f != api.OK {
				t.Errorf("a user's key of %d bytes: %s, error %d", many, told(e), f)
			}
		}
		for _, many := range []int{1025, 1026, 1032, 2048, 1 << 20} {
			refused(t, "a user's key that is too long", strings.Repeat("u", many)+behind)
		}
	}
}

func TestTakeIsAsTold(t *testing.T) {
	draw := rand.New(rand.NewSource(3))
	for _, e := range entries() {
		taken(t, ikey.Lay(e))
	}
	for _, s := range texts(2, edges) {
		for _, behind := range texts(3, "\x00\x01\x02\xff") {
			taken(t, s+behind+"\x00\x00\x00\x00\x00\x00"[:6-len(behind)]) // six bytes and more
			taken(t, s+strings.Repeat("\x00", 8-len(behind))+behind)      // just eight and more
			taken(t, s+behind+strings.Repeat("\xff", 8-len(behind)))
		}
	}
	for range 50000 {
		taken(t, drawn(draw, draw.Intn(20)))
		s := []byte(ikey.Lay(anyEntry(draw)))
		s[draw.Intn(len(s))] ^= byte(1 + draw.Intn(255))
		taken(t, string(s))
		taken(t, string(s[:draw.Intn(len(s))]))
		taken(t, string(s[draw.Intn(len(s)):]))
	}
}

// P8.4

// between asks for one text of two.
func between(t *testing.T, a, b, want string) {
	t.Helper()
	if s := ikey.Between(a, b); s != want {
		t.Errorf("%s and %s: %s, want %s", brief(a), brief(b), brief(s), brief(want))
	}
}

// after asks for one text of another.
func after(t *testing.T, a, want string) {
	t.Helper()
	if s := ikey.After(a); s != want {
		t.Errorf("%s: %s, want %s", brief(a), brief(s), brief(want))
	}
}

func TestKnownBetween(t *testing.T) {
	for _, x := range [][3]string{
		{"abcd", "abx", "abd"},
		{"abc", "abd", "abc"},
		{"a", "ab", "a"},
		{"", "", ""},
		{"", "a", ""},
		{"", "\xff\xff", ""},
		{"a", "", "a"},
		{"ab", "a", "ab"},
		{"a\xff", "a", "a\xff"},
		{"a", "a\x02", "a"},
		{"same", "same", "same"},
		{"\xff", "\xff", "\xff"},
		{"a", "c", "b"},
		{"a", "b", "a"},
		{"c", "a", "c"},
		{"abc", "cbc", "b"},
		{"abc", "bbc", "abc"},
		{"cbc", "abc", "cbc"},
		{"abc", "abe", "abd"},
		{"abe", "abc", "abe"},
		{"abczzz", "abe", "abd"},
		{"abczzz", "abd", "abczzz"},
		{"abc", "abezzz", "abd"},
		{"abcz", "abdz", "abcz"}, // by 1 at the first place, whatever stands behind it
		{"aba\xff", "abb\xff", "aba\xff"},
		{"b\x00x", "b\x02", "b\x01"},
		{"\x00", "\x01", "\x00"},
		{"\x00", "\x02", "\x01"},
		{"\x00", "\xff", "\x01"},
		{"\x00\x00", "\xff\xff", "\x01"},
		{"\xff", "\x00", "\xff"},
		{"\x7e", "\x80", "\x7f"},
		{"\x7f", "\x80", "\x7f"},
		{"\x7f", "\x81", "\x80"},
		{"\x7f", "\xff", "\x80"},
		{"\x80", "\x82", "\x81"},
		{"\xff", "\x7f", "\xff"},
		{"\x80", "\x7e", "\x80"},
		{"\xfd", "\xff", "\xfe"},
		{"\xfe", "\xff", "\xfe"},
		{"a\xfd\xff", "a\xff", "a\xfe"},
		{"\xff\xff\x01", "\xff\xff\x05\x05", "\xff\xff\x02"},
		{"\xc3\xa9x", "\xc3\xab", "\xc3\xaa"}, // bytes differ, not runes
	} {
		between(t, x[0], x[1], x[2])
	}
}

// All pairs of bytes, with what is the same ahead of them, and what is not behind them.
func TestBetweenOfBytes(t *testing.T) {
	for x := range 256 {
		for y := range 256 {
			a, b := string([]byte{byte(x)}), string([]byte{byte(y)})
			short := y-x >= 2
			for _, ahead := range []string{"", "k", "\xff\x00"} {
				for _, behind := range [][2]string{{"", ""}, {"u", "v"}, {"\xff\xff", ""}, {"", "\x00\x00"}} {
					want := ahead + a + behind[0]
					if short {
						want = ahead + string([]byte{byte(x + 1)})
					}
					if x == y {
						want = toldBetween(ahead+a+behind[0], ahead+b+behind[1])
					}
					between(t, ahead+a+behind[0], ahead+b+behind[1], want)
				}
			}
		}
	}
}

func TestKnownAfter(t *testing.T) {
	ff := strings.Repeat("\xff", 1024)
	for _, x := range [][2]string{
		{"abc", "b"},
		{"", ""},
		{"a", "b"},
		{"\x00", "\x01"},
		{"\x00\xff", "\x01"},
		{"\x7f", "\x80"},
		{"\x7f\x7f", "\x80"},
		{"\x80", "\x81"},
		{"\xfe", "\xff"},
		{"\xfe\xff", "\xff"},
		{"\xff", "\xff"},
		{"\xff\xff", "\xff\xff"},
		{ff, ff},
		{"\xffa", "\xffb"},
		{"\xffabc", "\xffb"},
		{"\xff\xffa", "\xff\xffb"},
		{"\xff\x00", "\xff\x01"},
		{"\xff\xfe", "\xff\xff"},
		{"\xff\xfe\xff", "\xff\xff"},
		{"\xff\x7f\x00", "\xff\x80"},
		{"a\xff", "b"},
		{ff + "a", ff + "b"},
		{ff + "\xfe" + ff, ff + "\xff"},
		{"\xc3\xa9", "\xc4"}, // bytes are raised, not runes
	} {
		after(t, x[0], x[1])
	}
}

func TestAfterOfBytes(t *testing.T) {
	for x := range 255 {
		for many := range 5 {
			ahead := strings.Repeat("\xff", many)
			for _, behind := range []string{"", "a", "\xff", "\x00\x00"} {
				after(t, ahead+string([]byte{byte(x)})+behind, ahead+string([]byte{byte(x + 1)}))
			}
			after(t, ahead, ahead)
		}
	}
}

func TestShortKeysAreAsTold(t *testing.T) {
	l := texts(3, "\x00\x01\x02\x7f\x80\xfe\xff")
	for _, a := range l {
		after(t, a, toldAfter(a))
		for _, b := range l {
			between(t, a, b, toldBetween(a, b))
		}
		if t.Failed() {
			return
		}
	}
	draw := rand.New(rand.NewSource(4))
	for range 50000 {
		a, b := near(draw), near(draw)
		ahead := drawn(draw, draw.Intn(40))
		between(t, ahead+a, ahead+b, toldBetween(ahead+a, ahead+b))
		after(t, ahead+a, toldAfter(ahead+a))
		if t.Failed() {
			return
		}
	}
}

// There is no limit to what is compared, cut or raised.
func TestLongTexts(t *testing.T) {
	long := strings.Repeat("x", 1<<20)
	ff := strings.Repeat("\xff", 1<<20)
	between(t, long+"a", long+"c", long+"b")
	between(t, long+"a", long+"b", long+"a")
	between(t, long, long, long)
	between(t, long, long+"z", long)
	between(t, "a"+long, "c"+long, "b")
	after(t, long, "y")
	after(t, ff, ff)
	after(t, ff+"a"+long, ff+"b")
	refused(t, "a long text", long)
	refused(t, "a long text of 255", ff)
	refused(t, "a long text of 0", strings.Repeat("\x00", 1<<20))
	if s := ikey.Lay(api.Entry{User: long, Seq: 1, Kind: 1}); s != long+"\x01\x01\x00\x00\x00\x00\x00\x00" {
		t.Errorf("a long user's key: %s", brief(s))
	}
	if a, b := (api.Entry{User: long + "a", Seq: 9}), (api.Entry{User: long + "b"}); ikey.Compare(a, b) != -1 || ikey.Compare(b, a) != 1 || ikey.Compare(a, a) != 0 || !ikey.Rises(a, b) {
		t.Error("long users' keys")
	}
}

// P8.5

// some are entries of few users, moments and kinds, right ones and others, with values.
func some() []api.Entry {
	var l []api.Entry
	for i, user := range []string{"", "a", "a\x00", "a\x7f", "a\x80", "ab", "\x80"} {
		for _, seq := range []uint64{0, last, last + 1, top} {
			for _, kind := range []uint8{0, 1, 255} {
				l = append(l, api.Entry{User: user, Seq: seq, Kind: kind, Value: "xyz"[:i%4]})
			}
		}
	}
	return l
}

// ordered asks of three entries that they stand in an order.
func ordered(t *testing.T, a, b, c api.Entry) {
	t.Helper()
	ab, bc, ac := ikey.Compare(a, b), ikey.Compare(b, c), ikey.Compare(a, c)
	if ab < 0 && bc < 0 && ac >= 0 || ab <= 0 && bc <= 0 && ac > 0 || ab == 0 && ac != bc || bc == 0 && ac != ab {
		t.Fatalf("%s, %s, %s: %d and %d, and %d of the first and the last", told(a), told(b), told(c), ab, bc, ac)
	}
	if ba := ikey.Compare(b, a); ba != -ab {
		t.Fatalf("%s, %s: %d, the other way round %d", told(a), told(b), ab, ba)
	}
	if ab < -1 || ab > 1 || ikey.Compare(a, a) != 0 {
		t.Fatalf("%s, %s: %d; the first with itself: %d", told(a), told(b), ab, ikey.Compare(a, a))
	}
}

func TestAnyThreeStandInAnOrder(t *testing.T) {
	l := some()
	for _, a := range l {
		for _, b := range l {
			for _, c := range l {
				ordered(t, a, b, c)
			}
		}
	}
	draw := rand.New(rand.NewSource(5))
	for range 50000 {
		ordered(t, anyEntry(draw), anyEntry(draw), anyEntry(draw))
	}
}

// Two stand at one place just if they have the same inner key's parts.
func TestOnePlace(t *testing.T) {
	l := some()
	for _, a := range l {
		for _, b := range l {
			same := a.User == b.User && a.Seq == b.Seq && a.Kind == b.Kind
			if got := ikey.Compare(a, b); (got == 0) != same {
				t.Fatalf("%s, %s: %d", told(a), told(b), got)
			}
		}
	}
}

// Entries that are mixed are sorted back; those without two at one moment rise then.
func TestMixedEntriesAreSorted(t *testing.T) {
	draw := rand.New(rand.NewSource(6))
	want := entries()
	for range 5 {
		l := slices.Clone(want)
		draw.Shuffle(len(l), func(i, k int) { l[i], l[k] = l[k], l[i] })
		slices.SortFunc(l, ikey.Compare)
		if !slices.Equal(l, want) {
			t.Fatal("the entries are sorted otherwise")
		}
	}
	l := rising(3000)
	draw.Shuffle(len(l), func(i, k int) { l[i], l[k] = l[k], l[i] })
	slices.SortFunc(l, ikey.Compare)
	if !ikey.Rises(l...) || !slices.Equal(l, rising(3000)) {
		t.Error("what was sorted does not rise")
	}
}

// P8.6

func TestWhatWasLaidIsTaken(t *testing.T) {
	draw := rand.New(rand.NewSource(7))
	l := append(entries(), some()...)
	for range 20000 {
		l = append(l, anyEntry(draw))
	}
	met := 0
	for _, e := range l {
		got, f := ikey.Take(ikey.Lay(e))
		bare := e
		bare.Value = ""
		if ikey.Right(bare) {
			met++
			if got != bare || f != api.OK {
				t.Fatalf("%s: %s, error %d", told(e), told(got), f)
			}
		}
	}
	if met < 1000 {
		t.Errorf("only %d were right", met)
	}
	v := strings.Repeat("v", 65536)
	if e, f := ikey.Take(ikey.Lay(api.Entry{User: "a", Seq: 7, Kind: 1, Value: v})); e != (api.Entry{User: "a", Seq: 7, Kind: 1}) || f != api.OK {
		t.Errorf("%s, error %d", told(e), f)
	}
}

func TestWhatIsTakenIsLaidAgain(t *testing.T) {
	draw := rand.New(rand.NewSource(8))
	met := 0
	for range 20000 {
		s := drawn(draw, draw.Intn(12)) + string([]byte{byte(draw.Intn(3))}) + drawn(draw, 7)
		e, f := ikey.Take(s)
		if f != api.OK {
			continue
		}
		met++
		if !ikey.Right(e) || e.Value != "" || ikey.Lay(e) != s {
			t.Fatalf("%q: %s, which is laid as %q", s, told(e), ikey.Lay(e))
		}
	}
	if met < 10000 {
		t.Errorf("only %d were taken", met)
	}
}

func TestUnlikeEntriesHaveUnlikeKeys(t *testing.T) {
	met := map[string]api.Entry{}
	for _, e := range entries() {
		if !ikey.Right(e) {
			continue
		}
		s := ikey.Lay(e)
		if was, ok := met[s]; ok {
			t.Fatalf("%s and %s have the key %s", told(was), told(e), brief(s))
		}
		met[s] = e
	}
}

// P8.7

// lies asks that what is answered of two, of which a is ahead, lies there and is no longer.
func lies(t *testing.T, a, b string) {
	t.Helper()
	s := ikey.Between(a, b)
	if toldUsers(s, a) < 0 || toldUsers(s, b) >= 0 || len(s) > len(a) {
		t.Fatalf("%s and %s: %s", brief(a), brief(b), brief(s))
	}
}

// follows asks that what is answered of a is from a on and no longer.
func follows(t *testing.T, a string) {
	t.Helper()
	if s := ikey.After(a); toldUsers(s, a) < 0 || len(s) > len(a) {
		t.Fatalf("%s: %s", brief(a), brief(s))
	}
}

func TestAShortKeyLiesBetween(t *testing.T) {
	l := texts(3, edges[:9])
	for _, a := range l {
		for _, b := range l {
			if a < b {
				lies(t, a, b)
			}
		}
	}
	draw := rand.New(rand.NewSource(9))
	for range 50000 {
		ahead := drawn(draw, draw.Intn(4))
		a, b := ahead+near(draw)+drawn(draw, draw.Intn(30)), ahead+near(draw)+drawn(draw, draw.Intn(30))
		if a > b {
			a, b = b, a
		}
		if a != b {
			lies(t, a, b)
		}
	}
}

func TestAShortKeyIsFromThereOn(t *testing.T) {
	for _, a := range texts(4, edges) {
		follows(t, a)
	}
	draw := rand.New(rand.NewSource(10))
	for range 20000 {
		follows(t, strings.Repeat("\xff", draw.Intn(4))+drawn(draw, draw.Intn(40)))
	}
}

// Where one could be shorter, it is: else a long key of many would be kept whole.
func TestAShortKeyIsShort(t *testing.T) {
	long := strings.Repeat("x", 1000)
	if s := ikey.Between("a"+long, "c"+long); len(s) != 1 {
		t.Errorf("between: %d bytes", len(s))
	}
	if s := ikey.After("a" + long); len(s) != 1 {
		t.Errorf("after: %d bytes", len(s))
	}
}

// The chapter's examples.

func TestExamples(t *testing.T) {
	a5, a4, ab9 := api.Entry{User: "a", Seq: 5}, api.Entry{User: "a", Seq: 4}, api.Entry{User: "ab", Seq: 9}
	if ikey.Compare(a5, a4) != -1 || ikey.Compare(a5, ab9) != -1 || ikey.Compare(api.Entry{User: "b"}, api.Entry{User: "a"}) != 1 {
		t.Error("places")
	}
	between(t, "abcd", "abx", "abd")
	between(t, "abc", "abd", "abc")
	between(t, "a", "ab", "a")
	after(t, "abc", "b")
	after(t, "\xffa", "\xffb")
	if s := ikey.Lay(api.Entry{User: "a", Seq: 1, Kind: api.KPut}); s != string([]byte{'a', 1, 1, 0, 0, 0, 0, 0, 0}) {
		t.Errorf("%q", s)
	}
	refused(t, "seven bytes", "1234567")
}

// Rules 3 to 6 of all layers.

func TestWhatIsHandedInStays(t *testing.T) {
	for _, l := range [][]api.Entry{rising(20), some(), {{User: "b"}, {User: "a"}}} {
		was := slices.Clone(l)
		for many := range len(l) {
			ikey.Rises(l[:many]...)
			ikey.Rises(l[many:]...)
		}
		if !slices.Equal(l, was) {
			t.Errorf("%s became %s", toldAll(was), toldAll(l))
		}
	}
	l := rising(20)
	first := ikey.Rises(l...)
	clear(l)
	if !first || !ikey.Rises(rising(20)...) || ikey.Rises(l...) {
		t.Error("what was handed in was kept")
	}
}

func TestWhatIsBehindAListIsNotRead(t *testing.T) {
	l := append(rising(20), api.Entry{})
	if ikey.Rises(l...) || !ikey.Rises(l[:20]...) {
		t.Error("one out of place behind the length has a part")
	}
	for many := range 20 {
		if !ikey.Rises(l[:many]...) {
			t.Errorf("%d that rise", many)
		}
	}
}

// shares tells whether two texts lie in one memory. (Of each text of one byte the language has one, for all.)
func shares(a, b string) bool {
	if len(a) < 2 || len(b) < 2 {
		return false
	}
	at, from := uintptr(unsafe.Pointer(unsafe.StringData(a))), uintptr(unsafe.Pointer(unsafe.StringData(b)))
	return from <= at && at < from+uintptr(len(b)) || at <= from && from < at+uintptr(len(a))
}

func TestWhatIsAnsweredIsNewMemory(t *testing.T) {
	for _, a := range []string{strings.Repeat("ab", 20), strings.Repeat("\xff", 40), strings.Repeat("\xff", 20) + "a", strings.Repeat("x", 1024)} {
		s := strings.Clone(a) + "\x01\x00\x00\x00\x00\x00\x00\x00"
		e, _ := ikey.Take(s)
		other, _ := ikey.Take(s)
		if shares(e.User, s) || shares(e.User, other.User) {
			t.Errorf("%s: what was taken is in what was handed in, or in another answer", brief(s))
		}
		if shares(ikey.Lay(e), e.User) || shares(ikey.Lay(e), ikey.Lay(e)) {
			t.Errorf("%s: what was laid is in what was handed in, or in another answer", brief(a))
		}
		for _, b := range []string{a, "", a + "c", "\xff\xff", a[:len(a)-1] + "\xff"} {
			if x, y := ikey.Between(a, b), ikey.Between(a, b); shares(x, a) || shares(x, b) || shares(x, y) {
				t.Errorf("%s and %s: what lies between is in what was handed in, or in another answer", brief(a), brief(b))
			}
		}
		if x, y := ikey.After(a), ikey.After(a); shares(x, a) || shares(x, y) {
			t.Errorf("%s: what is after it is in what was handed in, or in another answer", brief(a))
		}
	}
}

func TestTheSameCallsAnswerTheSame(t *testing.T) {
	draw := rand.New(rand.NewSource(11))
	for range 2000 {
		a, b := anyEntry(draw), anyEntry(draw)
		right, place, s, rise := ikey.Right(a), ikey.Compare(a, b), ikey.Lay(a), ikey.Rises(a, b)
		e, f := ikey.Take(s)
		mid, behind := ikey.Between(a.User, b.User), ikey.After(a.User)
		ikey.Take("") // others between change nothing
		ikey.Lay(b)
		ikey.Rises(b, b)
		ikey.Between(b.User, a.User)
		ikey.After(b.User)
		if ikey.Right(a) != right || ikey.Compare(a, b) != place || ikey.Lay(a) != s || ikey.Rises(a, b) != rise {
			t.Fatalf("%s and %s: the same calls answer otherwise", told(a), told(b))
		}
		if x, y := ikey.Take(s); x != e || y != f || ikey.Between(a.User, b.User) != mid || ikey.After(a.User) != behind {
			t.Fatalf("%s and %s: the same calls answer otherwise", told(a), told(b))
		}
	}
}
