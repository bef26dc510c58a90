package utf

import (
	"bytes"
	"math"
	"slices"
	"testing"
	"unicode/utf8"

	"foolscap/api"
)

// edges are the characters at which something changes, with their bytes as the chapter lays them.
var edges = []struct {
	c     rune
	bytes string
}{
	{0, "\x00"},
	{'a', "a"},
	{0x7F, "\x7F"},
	{0x80, "\xC2\x80"},
	{0xE9, "\xC3\xA9"},
	{0x7FF, "\xDF\xBF"},
	{0x800, "\xE0\xA0\x80"},
	{0x20AC, "\xE2\x82\xAC"},
	{0xD7FF, "\xED\x9F\xBF"},
	{0xE000, "\xEE\x80\x80"},
	{0xFFFF, "\xEF\xBF\xBF"},
	{0x10000, "\xF0\x90\x80\x80"},
	{0x1F600, "\xF0\x9F\x98\x80"},
	{0x10FFFF, "\xF4\x8F\xBF\xBF"},
}

// strangers are numbers that are no characters.
var strangers = []rune{-1, -2, -128, math.MinInt32, 0xD800, 0xDABC, 0xDFFF, 0x110000, 0x110001, 0x1FFFFF, math.MaxInt32}

// begun are beginnings of some character's bytes, but not all of them.
var begun = []string{
	"\xC2", "\xC3", "\xDF",
	"\xE0", "\xE2", "\xED", "\xEF", "\xE0\xA0", "\xE2\x82", "\xED\x9F", "\xEE\x80", "\xEF\xBF",
	"\xF0", "\xF3", "\xF4", "\xF0\x90", "\xF0\x9F", "\xF4\x80", "\xF4\x8F",
	"\xF0\x90\x80", "\xF0\x9F\x98", "\xF4\x8F\xBF",
}

// wrong are bytes that begin with no character's, and are no beginning of one's.
var wrong = []string{
	"\x80", "\xBF", "\x80\x80", "\xBFa", "\xA9\xC3", // no first byte
	"\xF8", "\xFB", "\xFC", "\xFE", "\xFF", "\xF8\x88\x80\x80\x80",
	"\xC0", "\xC1", "\xC0\x80", "\xC1\xBF", // longer than need be
	"\xE0\x80", "\xE0\x9F", "\xE0\x80\x80", "\xE0\x9F\xBF",
	"\xF0\x80", "\xF0\x8F", "\xF0\x80\x80", "\xF0\x80\x80\x80", "\xF0\x8F\xBF\xBF",
	"\xED\xA0", "\xED\xBF", "\xED\xA0\x80", "\xED\xAA\xBC", "\xED\xBF\xBF", // D800 to DFFF
	"\xF4\x90", "\xF4\xBF", "\xF4\x90\x80", "\xF4\x90\x80\x80", "\xF5", "\xF7", "\xF5\x80\x80\x80", "\xF7\xBF\xBF\xBF", // above 10FFFF
	"\xC3a", "\xC3\xC3", "\xC3\x29", "\xC3\xFF", // broken off by another byte
	"\xE2a", "\xE2\x82a", "\xE2\x82\xC3", "\xE2\xE2\x82",
	"\xF0\x9Fa", "\xF0\x9F\x98a", "\xF0\x9F\x98\xF0", "\xF0a\x98\x80",
}

func TestA1SizeOfEdges(t *testing.T) {
	for _, x := range edges {
		if n := Size(x.c); n != len(x.bytes) {
			t.Errorf("Size(%X) = %d, not %d", x.c, n, len(x.bytes))
		}
	}
	for _, c := range strangers {
		if n := Size(c); n != 0 {
			t.Errorf("Size(%X) = %d, not 0", c, n)
		}
	}
}

func TestA1EncodeOfEdges(t *testing.T) {
	var all []rune
	var want string
	for _, x := range edges {
		b, e := Encode([]rune{x.c})
		if e != api.OK || string(b) != x.bytes {
			t.Errorf("Encode(%X) = % X, %v, not % X", x.c, b, e, x.bytes)
		}
		all = append(all, x.c)
		want += x.bytes
	}
	if b, e := Encode(all); e != api.OK || string(b) != want {
		t.Errorf("Encode of all edges = % X, %v, not % X", b, e, want)
	}
}

func TestA1EncodeOfNothing(t *testing.T) {
	for _, l := range [][]rune{nil, {}} {
		if b, e := Encode(l); e != api.OK || len(b) != 0 {
			t.Errorf("Encode of nothing = % X, %v", b, e)
		}
	}
}

func TestA1EncodeOfStrangers(t *testing.T) {
	for _, c := range strangers {
		for _, l := range [][]rune{{c}, {c, 'a'}, {'a', 0x20AC, c}, {'a', c, 0x1F600}} {
			if b, e := Encode(l); e != api.ErrArg || b != nil {
				t.Errorf("Encode(%X) = % X, %v, not ErrArg", l, b, e)
			}
		}
	}
}

func TestA2FirstOfEdges(t *testing.T) {
	for _, x := range edges {
		for _, behind := range []string{"", "a", "\x80", "\xC3\xA9", "\xE2\x82", "\xFF"} {
			c, n, e := First([]byte(x.bytes + behind))
			if c != x.c || n != len(x.bytes) || e != api.OK {
				t.Errorf("First(% X) = %X, %d, %v", x.bytes+behind, c, n, e)
			}
		}
	}
}

func TestA2FirstOfNothing(t *testing.T) {
	for _, b := range [][]byte{nil, {}} {
		if c, n, e := First(b); c != 0 || n != 0 || e != api.ErrNone {
			t.Errorf("First of nothing = %X, %d, %v", c, n, e)
		}
	}
}

func TestA2FirstOfBegun(t *testing.T) {
	for _, s := range begun {
		if c, n, e := First([]byte(s)); c != 0 || n != 0 || e != api.ErrState {
			t.Errorf("First(% X) = %X, %d, %v, not ErrState", s, c, n, e)
		}
	}
}

func TestA2FirstOfWrong(t *testing.T) {
	for _, s := range wrong {
		if c, n, e := First([]byte(s)); c != 0 || n != 0 || e != api.ErrForm {
			t.Errorf("First(% X) = %X, %d, %v, not ErrForm", s, c, n, e)
		}
	}
}

func TestA2DecodeOfEdges(t *testing.T) {
	var all string
	var want []rune
	for _, x := range edges {
		if l, e := Decode([]byte(x.bytes)); e != api.OK || !slices.Equal(l, []rune{x.c}) {
			t.Errorf("Decode(% X) = %X, %v, not %X", x.bytes, l, e, x.c)
		}
		all += x.bytes
		want = append(want, x.c)
	}
	if l, e := Decode([]byte(all)); e != api.OK || !slices.Equal(l, want) {
		t.Errorf("Decode of all edges = %X, %v, not %X", l, e, want)
	}
}

func TestA2DecodeOfNothing(t *testing.T) {
	for _, b := range [][]byte{nil, {}} {
		if l, e := Decode(b); e != api.OK || len(l) != 0 {
			t.Errorf("Decode of nothing = %X, %v", l, e)
		}
	}
}

func TestA2DecodeOfBegunAndWrong(t *testing.T) {
	for _, s := range slices.Concat(begun, wrong) {
		for _, ahead := range []string{"", "a", "\xE2\x82\xAC"} {
			for _, behind := range []string{"", "a", "\xC3\xA9"} {
				b := []byte(ahead + s + behind)
				if l, e := Decode(b); e != api.ErrForm || l != nil {
					t.Errorf("Decode(% X) = %X, %v, not ErrForm", b, l, e)
				}
			}
		}
	}
}

func TestA3TailOfBegun(t *testing.T) {
	for _, s := range begun {
		for _, ahead := range []string{"", "a", "\xC3\xA9", "\x80", "\xE2", "\xF0\x9F\x98", "\xFF\xFF\xFF\xFF"} {
			if n := Tail([]byte(ahead + s)); n != len(s) {
				t.Errorf("Tail(% X) = %d, not %d", ahead+s, n, len(s))
			}
		}
	}
}

func TestA3TailOfWhole(t *testing.T) {
	if n := Tail(nil); n != 0 {
		t.Errorf("Tail of nothing = %d", n)
	}
	if n := Tail([]byte{}); n != 0 {
		t.Errorf("Tail of nothing = %d", n)
	}
	for _, x := range edges {
		for _, ahead := range []string{"", "a", "\xE2\x82", "\xF0"} {
			if n := Tail([]byte(ahead + x.bytes)); n != 0 {
				t.Errorf("Tail(% X) = %d, not 0", ahead+x.bytes, n)
			}
		}
	}
}

func TestA3TailOfWrong(t *testing.T) {
	for _, x := range []struct {
		s string
		n int
	}{
		{"\x80", 0}, {"\xC0", 0}, {"\xC1", 0}, {"\xF5", 0}, {"\xFF", 0},
		{"\xC0\x80", 0}, {"\xE0\x80", 0}, {"\xED\xA0", 0}, {"\xF0\x80\x80", 0}, {"\xF4\x90", 0}, {"\xF4\x90\x80", 0},
		{"\xE2\x82\xAC\x80", 0}, {"\xC3\xA9\xA9", 0}, {"\xF0\x9F\x98\x80\x80", 0},
		{"\xE2a", 0}, {"\xE2\x82a", 0},
		{"\xE2\xE2", 1}, {"\xE2\x82\xC3", 1}, {"\xED\xA0\xED\x9F", 2}, {"\xF4\x90\xF4\x8F\xBF", 3},
	} {
		if n := Tail([]byte(x.s)); n != x.n {
			t.Errorf("Tail(% X) = %d, not %d", x.s, n, x.n)
		}
	}
}

// TestEachCharacter holds all numbers against the library's, there and back.
func TestEachCharacter(t *testing.T) {
	for c := rune(-300); c <= api.MaxRune+300; c++ {
		want := max(utf8.RuneLen(c), 0)
		if n := Size(c); n != want {
			t.Fatalf("Size(%X) = %d, not %d", c, n, want)
		}
		b, e := Encode([]rune{c})
		if want == 0 {
			if b != nil || e != api.ErrArg {
				t.Fatalf("Encode(%X) = % X, %v, not ErrArg", c, b, e)
			}
			continue
		}
		if e != api.OK || string(b) != string(c) {
			t.Fatalf("Encode(%X) = % X, %v, not % X", c, b, e, string(c))
		}
		if k, n, e := First(b); k != c || n != len(b) || e != api.OK {
			t.Fatalf("First(% X) = %X, %d, %v, not %X", b, k, n, e, c)
		}
		if l, e := Decode(b); e != api.OK || !slices.Equal(l, []rune{c}) {
			t.Fatalf("Decode(% X) = %X, %v, not %X", b, l, e, c)
		}
	}
}

// oracle tells by a list of all beginnings, as the library lays them, what is one.
type oracle map[[maxSize]byte]bool

func newOracle() oracle {
	o := oracle{}
	for c := rune(0); c <= api.MaxRune; c++ {
		if !utf8.ValidRune(c) {
			continue
		}
		s := string(c)
		for n := 1; n < len(s); n++ {
			o[key([]byte(s[:n]))] = true
		}
	}
	return o
}

// key is unlike for unlike beginnings: none of more than one byte has a zero in it.
func key(b []byte) (k [maxSize]byte) {
	copy(k[:], b)
	return k
}

func (o oracle) begun(b []byte) bool {
	return len(b) > 0 && len(b) < maxSize && o[key(b)] && !bytes.Contains(b, []byte{0})
}

func (o oracle) first(b []byte) (rune, int, api.Errno) {
	if len(b) == 0 {
		return 0, 0, api.ErrNone
	}
	if o.begun(b) {
		return 0, 0, api.ErrState
	}
	if c, n := utf8.DecodeRune(b); c != utf8.RuneError || n == 3 {
		return c, n, api.OK
	}
	return 0, 0, api.ErrForm
}

func (o oracle) tail(b []byte) int {
	longest := 0
	for n := range min(len(b), maxSize) + 1 {
		if o.begun(b[len(b)-n:]) {
			longest = n
		}
	}
	return longest
}

func (o oracle) hold(t *testing.T, b []byte) {
	wc, wn, we := o.first(b)
	if c, n, e := First(b); c != wc || n != wn || e != we {
		t.Fatalf("First(% X) = %X, %d, %v, not %X, %d, %v", b, c, n, e, wc, wn, we)
	}
	if n, w := Tail(b), o.tail(b); n != w {
		t.Fatalf("Tail(% X) = %d, not %d", b, n, w)
	}
	l, e := Decode(b)
	if !utf8.Valid(b) {
		if l != nil || e != api.ErrForm {
			t.Fatalf("Decode(% X) = %X, %v, not ErrForm", b, l, e)
		}
		return
	}
	if e != api.OK || string(l) != string(b) {
		t.Fatalf("Decode(% X) = %X, %v", b, l, e)
	}
	if again, e := Encode(l); e != api.OK || !bytes.Equal(again, b) {
		t.Fatalf("Encode of Decode(% X) = % X, %v", b, again, e)
	}
}

// TestAllShortRows goes through all rows of up to two bytes.
func TestAllShortRows(t *testing.T) {
	o := newOracle()
	o.hold(t, nil)
	for x := range 256 {
		o.hold(t, []byte{byte(x)})
		for y := range 256 {
			o.hold(t, []byte{byte(x), byte(y)})
		}
	}
}

// TestLongerRowsOfEdges goes through all rows of three to five bytes at which something changes.
func TestLongerRowsOfEdges(t *testing.T) {
	o := newOracle()
	some := []byte("\x00\x7F\x80\x8F\x90\x9F\xA0\xBF\xC0\xC1\xC2\xDF\xE0\xE1\xEC\xED\xEE\xEF\xF0\xF1\xF3\xF4\xF5\xF7\xF8\xFF")
	few := []byte("a\x80\xBF\xC3\xE2\xF0")
	for _, v := range some {
		for _, w := range some {
			for _, x := range some {
				o.hold(t, []byte{v, w, x})
				for _, y := range some {
					o.hold(t, []byte{v, w, x, y})
				}
				for _, y := range few {
					for _, z := range few {
						o.hold(t, []byte{v, w, x, y, z})
					}
				}
			}
		}
	}
}

// TestR1 writes over what was handed in and what was answered.
func TestR1(t *testing.T) {
	l := []rune{'a', 0xE9, 0x1F600}
	b, _ := Encode(l)
	if !slices.Equal(l, []rune{'a', 0xE9, 0x1F600}) {
		t.Errorf("Encode changed its argument: %X", l)
	}
	other, _ := Encode(l)
	clear(other)
	clear(l)
	if string(b) != "a\u00E9\U0001F600" {
		t.Errorf("bytes changed with what they were made of: % X", b)
	}
	k, _ := Decode(b)
	First(b)
	Tail(b)
	if string(b) != "a\u00E9\U0001F600" {
		t.Errorf("an argument was changed: % X", b)
	}
	clear(b)
	if !slices.Equal(k, []rune{'a', 0xE9, 0x1F600}) {
		t.Errorf("characters changed with their bytes: %X", k)
	}
}

// TestR1NothingBehindIsTouched hands in slices with room behind them.
func TestR1NothingBehindIsTouched(t *testing.T) {
	row := []byte("\xE2\x82\xAC\xE2\x82")
	want := bytes.Clone(row)
	for n := range len(row) {
		First(row[:n])
		Decode(row[:n])
		Tail(row[:n])
	}
	if !bytes.Equal(row, want) {
		t.Errorf("% X, not % X", row, want)
	}
	if _, _, e := First(row[:2]); e != api.ErrState {
		t.Errorf("First read behind its argument's end: %v", e)
	}
}
