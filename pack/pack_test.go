package pack

import (
	"bytes"
	"encoding/binary"
	"math"
	"slices"
	"strings"
	"testing"
)

// numbers are some of each length, the least and the greatest of it among them, with their
// bytes as the chapter lays them.
var numbers = []struct {
	v     uint64
	bytes string
}{
	{0, "\x00"},
	{1, "\x01"},
	{5, "\x05"},
	{127, "\x7F"},
	{128, "\x80\x01"},
	{300, "\xAC\x02"},
	{1<<14 - 1, "\xFF\x7F"},
	{1 << 14, "\x80\x80\x01"},
	{1<<21 - 1, "\xFF\xFF\x7F"},
	{1 << 21, "\x80\x80\x80\x01"},
	{1<<28 - 1, "\xFF\xFF\xFF\x7F"},
	{1 << 28, "\x80\x80\x80\x80\x01"},
	{math.MaxUint32, "\xFF\xFF\xFF\xFF\x0F"},
	{1<<35 - 1, "\xFF\xFF\xFF\xFF\x7F"},
	{1 << 35, "\x80\x80\x80\x80\x80\x01"},
	{1<<42 - 1, "\xFF\xFF\xFF\xFF\xFF\x7F"},
	{1 << 42, "\x80\x80\x80\x80\x80\x80\x01"},
	{1<<49 - 1, "\xFF\xFF\xFF\xFF\xFF\xFF\x7F"},
	{1 << 49, "\x80\x80\x80\x80\x80\x80\x80\x01"},
	{1<<56 - 1, "\xFF\xFF\xFF\xFF\xFF\xFF\xFF\x7F"},
	{1 << 56, "\x80\x80\x80\x80\x80\x80\x80\x80\x01"},
	{1<<63 - 1, "\xFF\xFF\xFF\xFF\xFF\xFF\xFF\xFF\x7F"},
	{1 << 63, "\x80\x80\x80\x80\x80\x80\x80\x80\x80\x01"},
	{math.MaxUint64 - 1, "\xFE\xFF\xFF\xFF\xFF\xFF\xFF\xFF\xFF\x01"},
	{math.MaxUint64, "\xFF\xFF\xFF\xFF\xFF\xFF\xFF\xFF\xFF\x01"},
}

// behind is what may stand behind a number's or a text's bytes.
var behind = []string{"", "\x00", "\x01", "\x7F", "\x80", "\xFF", "abc", "\x80\x00", strings.Repeat("\xFF", 12)}

// wrong are bytes that begin with no number's.
var wrong = []string{
	"", "\x80", "\xFF", "\x80\x80", "\xAC", strings.Repeat("\x80", 9), strings.Repeat("\xFF", 9), // they come to an end
	strings.Repeat("\x80", 10), strings.Repeat("\xFF", 10), // more than ten
	strings.Repeat("\x80", 10) + "\x01", strings.Repeat("\xFF", 10) + "\x01", strings.Repeat("\xFF", 10) + "\x00", strings.Repeat("\xFF", 30) + "\x01",
	strings.Repeat("\xFF", 9) + "\x81\x00", strings.Repeat("\xFF", 9) + "\x80\x01", strings.Repeat("\x80", 9) + "\x81\x01",
	"\x80\x00", "\xFF\x00", "\xAC\x82\x00", "\xFF\x80\x00", "\x80\x80\x80\x00", // there could be fewer
	strings.Repeat("\x80", 9) + "\x00", strings.Repeat("\xFF", 9) + "\x00",
	strings.Repeat("\xFF", 9) + "\x02", strings.Repeat("\x80", 9) + "\x02", strings.Repeat("\x80", 9) + "\x03", // above 2^64 - 1
	strings.Repeat("\xFF", 9) + "\x40", strings.Repeat("\xFF", 9) + "\x7E", strings.Repeat("\xFF", 9) + "\x7F",
}

// texts are some whose counts have one byte, two, and three.
var texts = []string{
	"", "a", "ab", "\x00", "\x80", "\xFF\xFF", "naïve €", strings.Repeat("x", 126), strings.Repeat("y", 127), strings.Repeat("\x80", 128),
	strings.Repeat("abc", 100), strings.Repeat("q", 1<<14-1), strings.Repeat("r", 1<<14),
}

// refused tells when Get answers anything beside 0, 0 and false.
func refused(t *testing.T, b string) {
	t.Helper()
	if v, n, ok := Get([]byte(b)); v != 0 || n != 0 || ok {
		t.Errorf("Get(% X) = %d, %d, %v, not 0, 0, false", b, v, n, ok)
	}
}

// noText tells when Text answers anything beside nothing, 0 and false.
func noText(t *testing.T, b string) {
	t.Helper()
	if s, n, ok := Text([]byte(b)); s != "" || n != 0 || ok {
		t.Errorf("Text(% X) = %q, %d, %v, not nothing, 0, false", b, s, n, ok)
	}
}

func TestB1Examples(t *testing.T) {
	if b := Put(nil, 300); string(b) != "\xAC\x02" {
		t.Errorf("Put of 300 = % X", b)
	}
	refused(t, "\x80\x00")
}

func TestB1NumbersOfEachLength(t *testing.T) {
	for _, x := range numbers {
		if n := Size(x.v); n != len(x.bytes) {
			t.Errorf("Size(%d) = %d, not %d", x.v, n, len(x.bytes))
		}
		for _, ahead := range []string{"", "x", "\x80", "\xFF\xFF", "before"} {
			if b := Put([]byte(ahead), x.v); string(b) != ahead+x.bytes {
				t.Errorf("Put(% X, %d) = % X, not % X", ahead, x.v, b, ahead+x.bytes)
			}
		}
		for _, rest := range behind {
			if v, n, ok := Get([]byte(x.bytes + rest)); v != x.v || n != len(x.bytes) || !ok {
				t.Errorf("Get(% X) = %d, %d, %v, not %d, %d, true", x.bytes+rest, v, n, ok, x.v, len(x.bytes))
			}
		}
	}
}

// TestB1ThereAndBack goes by the library, whose bytes of a number are laid the same way.
func TestB1ThereAndBack(t *testing.T) {
	for shift := range 64 {
		for _, off := range []uint64{0, 1, 2, math.MaxUint64, math.MaxUint64 - 1, 0x5555555555555555} {
			v := uint64(1)<<shift + off
			want := binary.AppendUvarint(nil, v)
			b := Put(nil, v)
			if !bytes.Equal(b, want) || Size(v) != len(want) {
				t.Fatalf("Put(%d) = % X with Size %d, not % X", v, b, Size(v), want)
			}
			if w, n, ok := Get(append(b, 0xFF, 0x00)); w != v || n != len(want) || !ok {
				t.Fatalf("Get(% X) = %d, %d, %v", b, w, n, ok)
			}
		}
	}
	for v := range uint64(1 << 16) {
		if w, n, ok := Get(Put(nil, v)); w != v || n != Size(v) || !ok {
			t.Fatalf("%d there and back = %d, %d, %v", v, w, n, ok)
		}
	}
}

func TestB1WrongBytes(t *testing.T) {
	for _, b := range wrong {
		refused(t, b)
	}
	if v, n, ok := Get(nil); v != 0 || n != 0 || ok {
		t.Errorf("Get(nil) = %d, %d, %v", v, n, ok)
	}
}

// TestB1Beginnings: a number's bytes without the last ones come to an end.
func TestB1Beginnings(t *testing.T) {
	for _, x := range numbers {
		for n := range len(x.bytes) {
			refused(t, x.bytes[:n])
		}
	}
}

// TestB1OneRowOfBytes: whatever bytes are taken for a number are those that Put lays. All
// rows of up to three bytes are asked, and rows of ten and eleven that end in each way.
func TestB1OneRowOfBytes(t *testing.T) {
	ask := func(b []byte) {
		t.Helper()
		v, n, ok := Get(b)
		w, m := binary.Uvarint(b)
		least := m > 0 && (m == 1 || b[m-1] != 0)
		if ok != least || ok && (v != w || n != m) || !ok && (v != 0 || n != 0) {
			t.Fatalf("Get(% X) = %d, %d, %v; the library tells %d, %d", b, v, n, ok, w, m)
		}
		if ok && !bytes.Equal(Put(nil, v), b[:n]) {
			t.Fatalf("Get(% X) = %d, whose bytes are % X", b, v, Put(nil, v))
		}
	}
	for x := range 1 << 24 {
		b := []byte{byte(x), byte(x >> 8), byte(x >> 16)}
		ask(b)
		if x < 1<<16 {
			ask(b[:2])
		}
		if x < 1<<8 {
			ask(b[:1])
		}
	}
	for _, fill := range []byte{0x80, 0x81, 0xFF} {
		for x := range 1 << 16 {
			b := append(bytes.Repeat([]byte{fill}, 9), byte(x), byte(x>>8))
			ask(b)
			ask(b[:10])
			ask(b[1:])
		}
	}
}

func TestB1TextsAndBytesAreReadAlike(t *testing.T) {
	rows := slices.Clone(wrong)
	for _, x := range numbers {
		rows = append(rows, x.bytes, x.bytes+"z")
	}
	for _, s := range rows {
		v, n, ok := number(s)
		if w, m, okay := number([]byte(s)); v != w || n != m || ok != okay {
			t.Errorf("% X: as a text %d, %d, %v, as bytes %d, %d, %v", s, v, n, ok, w, m, okay)
		}
	}
}

func TestB2Example(t *testing.T) {
	if b := PutText(nil, "ab"); string(b) != "\x02ab" {
		t.Errorf("PutText of ab = % X", b)
	}
}

func TestB2ThereAndBack(t *testing.T) {
	for _, s := range texts {
		whole := string(binary.AppendUvarint(nil, uint64(len(s)))) + s
		for _, ahead := range []string{"", "x", "\xFF\x80"} {
			if b := PutText([]byte(ahead), s); string(b) != ahead+whole {
				t.Errorf("PutText(% X, %q) = % X", ahead, s, b)
			}
		}
		for _, rest := range behind {
			if got, n, ok := Text([]byte(whole + rest)); got != s || n != len(whole) || !ok {
				t.Errorf("Text(% X) = %q, %d, %v, not %q, %d, true", whole+rest, got, n, ok, s, len(whole))
			}
		}
	}
}

func TestB2SeveralInARow(t *testing.T) {
	var b []byte
	for _, s := range texts {
		b = PutText(Put(b, uint64(len(b))), s)
	}
	at := 0
	for _, s := range texts {
		v, n, ok := Get(b[at:])
		if v != uint64(at) || !ok {
			t.Fatalf("the number at %d = %d, %d, %v", at, v, n, ok)
		}
		at += n
		got, n, ok := Text(b[at:])
		if got != s || !ok {
			t.Fatalf("the text at %d = %q, %d, %v, not %q", at, got, n, ok, s)
		}
		at += n
	}
	if at != len(b) {
		t.Errorf("%d bytes were read of %d", at, len(b))
	}
}

// TestB2Beginnings: a text's bytes without the last ones come to an end.
func TestB2Beginnings(t *testing.T) {
	for _, s := range texts {
		whole := string(PutText(nil, s))
		for n := range min(len(whole), 400) {
			noText(t, whole[:n])
		}
		noText(t, whole[:len(whole)-1])
	}
}

// TestB2WrongCounts: a text has none that is no number, and none that is more than is there.
func TestB2WrongCounts(t *testing.T) {
	for _, b := range wrong {
		noText(t, b)
		noText(t, b[:max(0, len(b)-1)])
	}
	for _, b := range []string{"\x01", "\x02a", "\x81\x00a", "\x80\x00", "\x7Fabc", "\x80\x01abc"} {
		noText(t, b)
	}
	for _, x := range numbers {
		if x.v > 100 {
			noText(t, x.bytes+strings.Repeat("a", 100))
		}
	}
}

// TestR1PutLeavesWhatItIsHanded: neither b nor what stands behind it in the same memory is
// written over, and the answer shares none of it.
func TestR1PutLeavesWhatItIsHanded(t *testing.T) {
	puts := []struct {
		name string
		put  func(b []byte) []byte
	}{
		{"Put of 5", func(b []byte) []byte { return Put(b, 5) }},
		{"Put of 300", func(b []byte) []byte { return Put(b, 300) }},
		{"Put of the greatest", func(b []byte) []byte { return Put(b, math.MaxUint64) }},
		{"PutText of nothing", func(b []byte) []byte { return PutText(b, "") }},
		{"PutText of ab", func(b []byte) []byte { return PutText(b, "ab") }},
	}
	for _, p := range puts {
		memory := bytes.Repeat([]byte("m"), 40)
		got := p.put(memory[:3])
		if string(memory) != strings.Repeat("m", 40) {
			t.Errorf("%s wrote over what it was handed: %q", p.name, memory)
		}
		want := string(got)
		clear(memory)
		if string(got) != want {
			t.Errorf("%s shares memory with what it was handed", p.name)
		}
		again := p.put(got)
		clear(got[:cap(got)])
		if string(again) != want+string(p.put(nil)) {
			t.Errorf("%s behind its own answer shares memory with it: % X", p.name, again)
		}
	}
}

func TestR1ReadingLeavesWhatItIsHanded(t *testing.T) {
	b := []byte("\x02abc")
	s, _, _ := Text(b)
	Get(b)
	if string(b) != "\x02abc" {
		t.Errorf("what was handed in is now % X", b)
	}
	clear(b)
	if s != "ab" {
		t.Errorf("the text became %q when its bytes were written over", s)
	}
}
