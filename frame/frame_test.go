package frame

import (
	"bytes"
	"encoding/binary"
	"hash/crc32"
	"math"
	"math/rand"
	"slices"
	"strings"
	"testing"

	"foolscap/api"
	"foolscap/ident"
)

// The limits, as the chapter writes them.
const (
	maxCount = 4294967295 // 2^32 - 1
	authors  = 4194304    // 2^22
)

// vec is a vector: an author, its Seq, an author, its Seq, and so on.
func vec(l ...int) []api.Entry {
	var v []api.Entry
	for i := 0; i+1 < len(l); i += 2 {
		v = append(v, api.Entry{Author: l[i], Seq: l[i+1]})
	}
	return v
}

func id(ctr, author int) api.ID { return api.ID{Ctr: ctr, Author: author} }

func ins(ctr, author, seq int, ref api.ID, c rune) api.Op {
	return api.Op{ID: id(ctr, author), Seq: seq, Ins: true, Ref: ref, Rune: c}
}

func del(ctr, author, seq int, ref api.ID) api.Op {
	return api.Op{ID: id(ctr, author), Seq: seq, Ref: ref}
}

// row is so many right operations of one author, each third one a deletion.
func row(n int) []api.Op {
	var l []api.Op
	for i := range n {
		if i%3 == 2 {
			l = append(l, del(i+1, 5, i+1, id(i, 5)))
		} else {
			l = append(l, ins(i+1, 5, i+1, api.ID{}, 'a'+rune(i%26)))
		}
	}
	return l
}

// numbersOf is a frame's body, number by number as the chapter says it.
func numbersOf(f api.Frame) []uint64 {
	l := []uint64{uint64(f.Kind), uint64(f.From), uint64(len(f.Vector))}
	for _, e := range f.Vector {
		l = append(l, uint64(e.Author), uint64(e.Seq))
	}
	l = append(l, uint64(len(f.Ops)))
	for _, op := range f.Ops {
		l = append(l, uint64(op.ID.Ctr), uint64(op.ID.Author), uint64(op.Seq))
		if op.Ins {
			l = append(l, 1, uint64(op.Ref.Ctr), uint64(op.Ref.Author), uint64(op.Rune))
		} else {
			l = append(l, 0, uint64(op.Ref.Ctr), uint64(op.Ref.Author))
		}
	}
	return append(l, uint64(f.Next))
}

func bodyOf(f api.Frame) []byte {
	var b []byte
	for _, v := range numbersOf(f) {
		b = binary.AppendUvarint(b, v)
	}
	return b
}

// summed is b with the sum of it behind.
func summed(b []byte) []byte {
	return binary.BigEndian.AppendUint32(slices.Clone(b), crc32.ChecksumIEEE(b))
}

// wrap is the bytes that would be a frame's, if body were one's.
func wrap(body []byte) []byte {
	b := binary.AppendUvarint([]byte("FC"), uint64(len(body)))
	return summed(append(b, body...))
}

// said tells whether a frame is right, by the chapter's words.
func said(f api.Frame) bool {
	if f.Kind != 1 && f.Kind != 2 && f.Kind != 3 || f.From < 0 || f.From > 63 {
		return false
	}
	for i, e := range f.Vector {
		if e.Author < 0 || e.Author > authors-1 || e.Seq < 1 || e.Seq > maxCount {
			return false
		}
		if i > 0 && e.Author <= f.Vector[i-1].Author {
			return false
		}
	}
	for _, op := range f.Ops {
		if !ident.Right(op) {
			return false
		}
	}
	switch f.Kind {
	case 1:
		return len(f.Vector) == 0 && len(f.Ops) <= 64 && f.Next == 0
	case 2:
		return len(f.Ops) == 0 && f.Next == 0
	}
	return f.Next >= 0 && f.Next <= 65536
}

// guess is what body would say, if it said something: numbers are cut to what their fields
// hold, and whatever cannot be read is 0.
func guess(body []byte) api.Frame {
	next := func() uint64 {
		v, n := binary.Uvarint(body)
		body = body[min(len(body), max(n, 1)):]
		return v
	}
	number := func() int { return int(next()) }
	count := func() int { return int(min(next(), uint64(len(body)))) }
	f := api.Frame{Kind: number(), From: number()}
	for range count() {
		f.Vector = append(f.Vector, api.Entry{Author: number(), Seq: number()})
	}
	for range count() {
		op := api.Op{ID: api.ID{Ctr: number(), Author: number()}, Seq: number(), Ins: next() != 0}
		op.Ref = api.ID{Ctr: number(), Author: number()}
		if op.Ins {
			op.Rune = rune(next())
		}
		f.Ops = append(f.Ops, op)
	}
	f.Next = number()
	return f
}

// same tells whether two frames are, a list being nil or empty.
func same(a, b api.Frame) bool {
	return a.Kind == b.Kind && a.From == b.From && a.Next == b.Next &&
		slices.Equal(a.Vector, b.Vector) && slices.Equal(a.Ops, b.Ops)
}

// empty tells whether f is as it must be beside an error.
func empty(f api.Frame) bool { return f.Vector == nil && f.Ops == nil && same(f, api.Frame{}) }

// noFrame fails unless b is told to be none's bytes.
func noFrame(t *testing.T, b []byte) {
	t.Helper()
	if f, e := Of(b); !empty(f) || e != api.ErrForm {
		t.Fatalf("Of(% X) = %v, %v", b[:min(len(b), 100)], f, e)
	}
}

// checkBody holds Of of a body, in a frame's letters and sum, against what it says: it is a
// frame's just if that frame is right, and has this body and no other. True, if it is.
func checkBody(t *testing.T, body []byte) bool {
	t.Helper()
	want := guess(body)
	b := wrap(body)
	if !said(want) || !bytes.Equal(bodyOf(want), body) {
		noFrame(t, b)
		return false
	}
	checkFrame(t, want)
	return true
}

// checkFrame holds all calls of a right frame against its bytes.
func checkFrame(t *testing.T, f api.Frame) {
	t.Helper()
	want := wrap(bodyOf(f))
	if !Right(f) {
		t.Fatalf("%v is not right", f)
	}
	if b, e := Bytes(f); e != api.OK || !bytes.Equal(b, want) {
		t.Fatalf("Bytes(%v) = % X, %v, not % X", f, b, e, want)
	}
	if g, e := Of(want); e != api.OK || !same(g, f) {
		t.Fatalf("Of(% X) = %v, %v, not %v", want, g, e, f)
	}
	if n, ok := Cut(want); n != len(want) || !ok {
		t.Fatalf("Cut(% X) = %d, %v", want, n, ok)
	}
}

// checkWrong fails unless f is told to be not right.
func checkWrong(t *testing.T, f api.Frame) {
	t.Helper()
	if Right(f) {
		t.Fatalf("%v is right", f)
	}
	if b, e := Bytes(f); b != nil || e != api.ErrArg {
		t.Fatalf("Bytes(%v) = % X, %v", f, b, e)
	}
	// Its numbers are bytes that are none's, too.
	noFrame(t, wrap(bodyOf(f)))
}

// known are frames with their bodies.
var known = []struct {
	f    api.Frame
	body string
}{
	{api.Frame{Kind: 1}, "\x01\x00\x00\x00\x00"},
	{api.Frame{Kind: 2}, "\x02\x00\x00\x00\x00"},
	{api.Frame{Kind: 3}, "\x03\x00\x00\x00\x00"},
	{api.Frame{Kind: 2, From: 1}, "\x02\x01\x00\x00\x00"},
	{api.Frame{Kind: 1, From: 63}, "\x01\x3F\x00\x00\x00"},
	{api.Frame{Kind: 3, From: 7, Next: 1}, "\x03\x07\x00\x00\x01"},
	{api.Frame{Kind: 3, Next: 65536}, "\x03\x00\x00\x00\x80\x80\x04"},
	{api.Frame{Kind: 2, Vector: vec(0, 1)}, "\x02\x00\x01\x00\x01\x00\x00"},
	{api.Frame{Kind: 2, Vector: vec(1, 300, 4194303, 4294967295)},
		"\x02\x00\x02\x01\xAC\x02\xFF\xFF\xFF\x01\xFF\xFF\xFF\xFF\x0F\x00\x00"},
	{api.Frame{Kind: 1, Ops: []api.Op{ins(1, 0, 1, api.ID{}, 'a')}}, "\x01\x00\x00\x01\x01\x00\x01\x01\x00\x00\x61\x00"},
	{api.Frame{Kind: 1, Ops: []api.Op{ins(1, 0, 1, api.ID{}, 0)}}, "\x01\x00\x00\x01\x01\x00\x01\x01\x00\x00\x00\x00"},
	{api.Frame{Kind: 1, From: 2, Ops: []api.Op{del(4, 3, 5, id(2, 300))}}, "\x01\x02\x00\x01\x04\x03\x05\x00\x02\xAC\x02\x00"},
	{api.Frame{Kind: 1, Ops: []api.Op{ins(6, 5, 4, id(3, 2), 0x10FFFF), del(7, 5, 5, id(6, 5))}},
		"\x01\x00\x00\x02\x06\x05\x04\x01\x03\x02\xFF\xFF\x43\x07\x05\x05\x00\x06\x05\x00"},
	{api.Frame{Kind: 3, From: 9, Vector: vec(4, 1), Ops: []api.Op{ins(8, 4, 1, api.ID{}, 'x')}, Next: 300},
		"\x03\x09\x01\x04\x01\x01\x08\x04\x01\x01\x00\x00\x78\xAC\x02"},
}

func TestQ1KnownFrames(t *testing.T) {
	for _, x := range known {
		if string(bodyOf(x.f)) != x.body {
			t.Fatalf("the test's own body of %v is % X, not % X", x.f, bodyOf(x.f), x.body)
		}
		checkFrame(t, x.f)
	}
}

// TestQ1WholeBytes: frames' bytes, the sums among them, as they are known elsewhere.
func TestQ1WholeBytes(t *testing.T) {
	for _, x := range []struct {
		f    api.Frame
		want string
	}{
		{api.Frame{Kind: 2, From: 1}, "FC\x05\x02\x01\x00\x00\x00\x6D\x82\xDE\x51"},
		{api.Frame{Kind: 3, From: 2, Next: 7}, "FC\x05\x03\x02\x00\x00\x07\xDC\x33\xCD\xAC"},
	} {
		if b, e := Bytes(x.f); e != api.OK || string(b) != x.want {
			t.Errorf("Bytes(%v) = % X, %v, not % X", x.f, b, e, x.want)
		}
		if f, e := Of([]byte(x.want)); e != api.OK || !same(f, x.f) {
			t.Errorf("Of(% X) = %v, %v", x.want, f, e)
		}
	}
}

// TestQ1RightEdges: each field at its edges, alone, in frames of the kinds that have it.
func TestQ1RightEdges(t *testing.T) {
	op := ins(2, 1, 1, id(1, 0), 'a')
	right := []api.Frame{
		{Kind: 1, From: 0}, {Kind: 1, From: 63}, {Kind: 2, From: 63}, {Kind: 3, From: 63},
		{Kind: 1, Vector: []api.Entry{}, Ops: []api.Op{}}, {Kind: 2, Vector: []api.Entry{}, Ops: []api.Op{}},
		{Kind: 2, Vector: vec(0, 1)}, {Kind: 2, Vector: vec(authors-1, maxCount)}, {Kind: 2, Vector: vec(0, 9, 1, 1, 2, 5)},
		{Kind: 3, Vector: vec(0, 1)}, {Kind: 3, Vector: vec(authors-1, maxCount)}, {Kind: 3, Vector: vec(65535, 9, 65536, 1)},
		{Kind: 1, Ops: row(1)}, {Kind: 1, Ops: row(63)}, {Kind: 1, Ops: row(64)},
		{Kind: 3, Ops: row(1)}, {Kind: 3, Ops: row(64)}, {Kind: 3, Ops: row(65)}, {Kind: 3, Ops: row(1000)},
		{Kind: 1, Ops: []api.Op{op, op}}, {Kind: 3, Ops: []api.Op{op, op}}, // ordered or not, each right alone
		{Kind: 3, Next: 1}, {Kind: 3, Next: 65535}, {Kind: 3, Next: 65536},
		{Kind: 1, Ops: []api.Op{ins(maxCount, authors-1, maxCount, id(maxCount-1, authors-1), 0x10FFFF)}},
		{Kind: 1, Ops: []api.Op{del(maxCount, authors-1, maxCount, id(maxCount-1, authors-1))}},
	}
	for _, f := range right {
		if !said(f) {
			t.Fatalf("the test's own words say that %v is not right", f)
		}
		checkFrame(t, f)
	}
	wrong := []api.Frame{
		{}, {Kind: -1}, {Kind: 4}, {Kind: 5}, {Kind: math.MinInt}, {Kind: math.MaxInt}, {Kind: 1 << 32}, {Kind: 1<<32 + 1},
		{Kind: 1, From: -1}, {Kind: 1, From: 64}, {Kind: 2, From: -1}, {Kind: 2, From: 64}, {Kind: 3, From: -1}, {Kind: 3, From: 64},
		{Kind: 2, From: math.MinInt}, {Kind: 2, From: math.MaxInt}, {Kind: 2, From: 1 << 32},
		{Kind: 1, Vector: vec(0, 1)}, {Kind: 1, Vector: vec(0, 0)}, {Kind: 1, Vector: vec(3, 1, 4, 1)},
		{Kind: 2, Ops: row(1)}, {Kind: 2, Ops: make([]api.Op, 1)},
		{Kind: 1, Ops: row(65)}, {Kind: 1, Ops: row(66)}, {Kind: 1, Ops: row(128)},
		{Kind: 1, Next: 1}, {Kind: 1, Next: -1}, {Kind: 2, Next: 1}, {Kind: 2, Next: -1},
		{Kind: 3, Next: -1}, {Kind: 3, Next: 65537}, {Kind: 3, Next: math.MinInt}, {Kind: 3, Next: math.MaxInt}, {Kind: 3, Next: 1 << 32},
	}
	for _, f := range wrong {
		checkWrong(t, f)
	}
}

// TestQ1RightVectors: lists that are no vectors.
func TestQ1RightVectors(t *testing.T) {
	for _, v := range [][]api.Entry{
		vec(0, 0), vec(0, -1), vec(0, maxCount+1), vec(0, math.MaxInt), vec(0, math.MinInt),
		vec(-1, 1), vec(authors, 1), vec(math.MaxInt, 1), vec(math.MinInt, 1), vec(1<<32, 1),
		vec(1, 1, 1, 1), vec(1, 1, 1, 2), vec(2, 1, 1, 1), vec(0, 1, 2, 1, 1, 1), vec(0, 1, 1, 1, 1, 1),
		vec(0, 1, 1, 0), vec(0, 1, authors, 1), vec(-1, 1, 0, 1), vec(5, 1, 0, 1),
	} {
		for _, kind := range []int{2, 3} {
			checkWrong(t, api.Frame{Kind: kind, Vector: v})
			checkWrong(t, api.Frame{Kind: kind, From: 63, Vector: v})
		}
	}
}

// TestQ1RightOps: an operation that is not right, alone and behind right ones.
func TestQ1RightOps(t *testing.T) {
	for _, op := range []api.Op{
		{}, {ID: id(1, 0), Seq: 1}, {ID: id(1, 0), Seq: 1, Rune: 'a'},
		ins(0, 0, 1, api.ID{}, 'a'), ins(-1, 0, 1, api.ID{}, 'a'), ins(maxCount+1, 0, 1, api.ID{}, 'a'),
		ins(1, -1, 1, api.ID{}, 'a'), ins(1, authors, 1, api.ID{}, 'a'),
		ins(1, 0, 0, api.ID{}, 'a'), ins(1, 0, -1, api.ID{}, 'a'), ins(1, 0, maxCount+1, api.ID{}, 'a'),
		ins(2, 0, 1, id(2, 0), 'a'), ins(2, 0, 1, id(3, 0), 'a'), ins(2, 0, 1, id(0, 1), 'a'), ins(2, 0, 1, id(1, authors), 'a'), ins(2, 0, 1, id(1, -1), 'a'),
		ins(1, 0, 1, api.ID{}, 0xD800), ins(1, 0, 1, api.ID{}, 0xDFFF), ins(1, 0, 1, api.ID{}, 0x110000), ins(1, 0, 1, api.ID{}, -1), ins(1, 0, 1, api.ID{}, math.MaxInt32), ins(1, 0, 1, api.ID{}, math.MinInt32),
		del(2, 0, 1, api.ID{}), del(2, 0, 1, id(2, 1)), del(2, 0, 1, id(0, 1)), del(0, 0, 1, id(1, 1)), del(2, 0, 0, id(1, 1)), del(2, 0, 1, id(1, authors)),
	} {
		for _, kind := range []int{1, 3} {
			checkWrong(t, api.Frame{Kind: kind, Ops: []api.Op{op}})
			checkWrong(t, api.Frame{Kind: kind, Ops: append(row(3), op)})
			checkWrong(t, api.Frame{Kind: kind, Ops: append([]api.Op{op}, row(3)...)})
		}
	}
	// A Rune of what takes away has no number, so its bytes are those of another frame.
	op := del(2, 0, 1, id(1, 1))
	op.Rune = 'a'
	f := api.Frame{Kind: 1, Ops: []api.Op{op}}
	if b, e := Bytes(f); Right(f) || b != nil || e != api.ErrArg {
		t.Errorf("%v: %v, % X, %v", f, Right(f), b, e)
	}
}

// TestQ1RightAllTogether: all fields at their edges, in all ways.
func TestQ1RightAllTogether(t *testing.T) {
	bad := []api.Op{{ID: id(1, 0), Seq: 1}}
	n := 0
	for kind := -1; kind <= 5; kind++ {
		for _, from := range []int{-1, 0, 1, 63, 64} {
			for _, v := range [][]api.Entry{nil, {}, vec(0, 1), vec(1, 1, 0, 1)} {
				for _, ops := range [][]api.Op{nil, {}, row(1), bad, row(64), row(65)} {
					for _, next := range []int{-1, 0, 1, 65536, 65537} {
						f := api.Frame{Kind: kind, From: from, Vector: v, Ops: ops, Next: next}
						if said(f) {
							n++
							checkFrame(t, f)
						} else {
							checkWrong(t, f)
						}
					}
				}
			}
		}
	}
	if n == 0 {
		t.Error("none was right")
	}
}

// someNumber is one from lo to hi, mostly near an edge of theirs or of a number's size.
func someNumber(r *rand.Rand, lo, hi int) int {
	v := 1 << r.Intn(33)
	switch r.Intn(4) {
	case 0:
		v = lo + r.Intn(3)
	case 1:
		v = hi - r.Intn(3)
	case 2:
		v += r.Intn(3) - 1
	default:
		v = r.Intn(v)
	}
	return min(max(v, lo), hi)
}

// someOp is a right operation.
func someOp(r *rand.Rand) api.Op {
	op := api.Op{ID: id(someNumber(r, 2, maxCount), someNumber(r, 0, authors-1)), Seq: someNumber(r, 1, maxCount)}
	op.Ref = id(someNumber(r, 1, op.ID.Ctr-1), someNumber(r, 0, authors-1))
	if r.Intn(3) > 0 {
		op.Ins = true
		op.Rune = rune(someNumber(r, 0, 0xD7FF))
		if r.Intn(2) == 0 {
			op.Rune = rune(someNumber(r, 0xE000, 0x10FFFF))
		}
		if r.Intn(3) == 0 {
			op.Ref = api.ID{}
		}
	}
	return op
}

// someFrame is a right frame.
func someFrame(r *rand.Rand) api.Frame {
	f := api.Frame{Kind: 1 + r.Intn(3), From: someNumber(r, 0, 63)}
	if f.Kind != 1 {
		author := -1
		for range r.Intn(5) {
			author += 1 + r.Intn(400000)
			f.Vector = append(f.Vector, api.Entry{Author: author, Seq: someNumber(r, 1, maxCount)})
		}
	}
	if f.Kind != 2 {
		for range r.Intn(6) {
			f.Ops = append(f.Ops, someOp(r))
		}
	}
	if f.Kind == 3 {
		f.Next = someNumber(r, 0, 65536)
	}
	return f
}

func TestQ1SomeFrames(t *testing.T) {
	r := rand.New(rand.NewSource(1))
	for range 20000 {
		checkFrame(t, someFrame(r))
	}
}

// TestQ1GreatFrames: bodies whose lengths have two bytes, three, and four.
func TestQ1GreatFrames(t *testing.T) {
	for _, n := range []int{15, 16, 17, 18, 19, 20, 300, 1500, 1600, 40000, 300000} {
		checkFrame(t, api.Frame{Kind: 3, From: 1, Vector: vec(5, n), Ops: row(n), Next: 1})
	}
	var v []api.Entry
	for author := range 100000 {
		v = append(v, api.Entry{Author: 40 * author, Seq: author + 1})
	}
	checkFrame(t, api.Frame{Kind: 2, Vector: v})
	checkFrame(t, api.Frame{Kind: 3, Vector: v, Ops: row(100)})
}

// TestQ1BodyLengths: all lengths around the edges of a length's bytes.
func TestQ1BodyLengths(t *testing.T) {
	seen := map[int]bool{}
	var v []api.Entry
	for author := range 100 {
		// Each entry has two bytes, Next one or two.
		for _, next := range []int{1, 128} {
			f := api.Frame{Kind: 3, Vector: v, Next: next}
			seen[len(bodyOf(f))] = true
			checkFrame(t, f)
		}
		v = append(v, api.Entry{Author: author, Seq: 1})
	}
	for size := 5; size < 200; size++ {
		if !seen[size] {
			t.Errorf("no body of %d bytes", size)
		}
	}
}

// TestQ1OfSmallBodies: all bodies of few bytes that are small numbers, or go on.
func TestQ1OfSmallBodies(t *testing.T) {
	found := 0
	digits := []byte{0, 1, 2, 3, 0x40, 0x80}
	var grow func(body []byte, more int)
	grow = func(body []byte, more int) {
		if checkBody(t, body) {
			found++
		}
		if more > 0 {
			for _, x := range digits {
				grow(append(slices.Clone(body), x), more-1)
			}
		}
	}
	grow(nil, 6)
	// Of kinds that have operations, some body's beginning that has one, and what follows.
	for _, ahead := range []string{"\x01\x00\x00\x01", "\x03\x00\x00\x01\x02\x01", "\x03\x01\x01\x00\x01", "\x01\x00\x00\x01\x03\x01\x01\x01"} {
		grow([]byte(ahead), 5)
	}
	if found < 100 {
		t.Errorf("only %d were frames", found)
	}
}

// TestQ1OfAnyFirstBytes: all numbers of one byte as a kind, a sender, and a round.
func TestQ1OfAnyFirstBytes(t *testing.T) {
	for x := range 256 {
		for y := range 256 {
			checkBody(t, []byte{byte(x), byte(y), 0, 0, 0})
			checkBody(t, []byte{2, byte(x), byte(y), 0, 0})
			checkBody(t, []byte{3, 0, 0, 0, byte(x), byte(y)})
			checkBody(t, []byte{3, 0, 0, 0, byte(x), byte(y), 3})
			checkBody(t, []byte{3, 0, 0, 0, byte(x), byte(y), 4})
		}
	}
}

// odd are bytes to stand where a frame has the number v: those of others, ones whose lowest
// bits are v's, and bytes that are no number's.
func odd(v uint64) [][]byte {
	var l [][]byte
	for _, x := range []uint64{v, v + 1, v - 1, v + 2, 0, 1, 2, 63, 64, 65, 0xD7FF, 0xD800, 0xDFFF, 0xE000, 0x10FFFF, 0x110000,
		1<<16 - 1, 1 << 16, 1<<16 + 1, 1<<22 - 1, 1 << 22, 1<<31 - 1, 1 << 31, 1<<32 - 1, 1 << 32,
		v + 256, v + 1<<16, v + 1<<22, v + 1<<31, v + 1<<32, v + 1<<33, v + 1<<63, 1<<63 - 1, 1 << 63, math.MaxUint64} {
		l = append(l, binary.AppendUvarint(nil, x))
	}
	long := binary.AppendUvarint(nil, v)
	long[len(long)-1] |= 0x80
	for _, end := range []string{"\x00", "\x80\x00", "", "\x80", strings.Repeat("\x80", 9) + "\x01", strings.Repeat("\x80", 8) + "\x02"} {
		l = append(l, append(slices.Clone(long), end...))
	}
	return append(l, nil)
}

// TestQ1OfOddNumbers: each number of a frame's body is another one, or none.
func TestQ1OfOddNumbers(t *testing.T) {
	for _, x := range known {
		numbers := numbersOf(x.f)
		for at, v := range numbers {
			for _, instead := range odd(v) {
				var body []byte
				for i, other := range numbers {
					if i == at {
						body = append(body, instead...)
					} else {
						body = binary.AppendUvarint(body, other)
					}
				}
				checkBody(t, body)
			}
		}
	}
}

// TestQ1OfGreatNumbersAreNotCut: numbers whose lowest bits alone would make a frame.
func TestQ1OfGreatNumbersAreNotCut(t *testing.T) {
	for _, x := range known {
		numbers := numbersOf(x.f)
		for at := range numbers {
			for _, bit := range []int{31, 32, 33, 48, 62, 63} {
				great := slices.Clone(numbers)
				great[at] |= 1 << bit
				if great[at] <= maxCount {
					continue // 2^31 and more may be a Seq
				}
				var body []byte
				for _, v := range great {
					body = binary.AppendUvarint(body, v)
				}
				noFrame(t, wrap(body))
			}
		}
	}
}

// TestQ1OfFalseCounts: more, or fewer, entries and operations than a body has.
func TestQ1OfFalseCounts(t *testing.T) {
	for _, body := range []string{
		"\x02\x00\x01\x00\x00", "\x02\x00\x02\x00\x01\x00\x00", "\x02\x00\x01\x00\x01\x01\x01\x00\x00",
		"\x02\x00\xFF\xFF\xFF\xFF\x0F\x00\x00", "\x02\x00\xFF\xFF\xFF\xFF\x0F", "\x02\x00\x80\x80\x80\x80\x10\x00\x00",
		"\x02\x00\xFF\xFF\xFF\xFF\xFF\xFF\xFF\xFF\x7F\x00\x00", "\x02\x00\xFF\xFF\xFF\xFF\xFF\xFF\xFF\xFF\xFF\x01\x00\x00",
		"\x01\x00\x00\xFF\xFF\xFF\xFF\x0F\x00", "\x01\x00\x00\xFF\xFF\xFF\xFF\xFF\xFF\xFF\xFF\xFF\x01\x00",
		"\x01\x00\x00\x02\x01\x00\x01\x01\x00\x00\x61\x00", "\x01\x00\x00\x00\x01\x00\x01\x01\x00\x00\x61\x00",
	} {
		if checkBody(t, []byte(body)) {
			t.Errorf("% X is a frame's", body)
		}
	}
}

// TestQ1OfSpoilt: bytes of which some are lost, have come, or are others.
func TestQ1OfSpoilt(t *testing.T) {
	for _, x := range known {
		b := wrap([]byte(x.body))
		for n := range b {
			noFrame(t, b[:n])
			noFrame(t, b[n+1:])
			noFrame(t, slices.Delete(slices.Clone(b), n, n+1))
			for add := range 256 {
				noFrame(t, slices.Insert(slices.Clone(b), n, byte(add)))
				if byte(add) != b[n] {
					c := slices.Clone(b)
					c[n] = byte(add)
					noFrame(t, c)
				}
			}
		}
		for add := range 256 {
			noFrame(t, append(slices.Clone(b), byte(add)))
		}
		noFrame(t, slices.Concat(b, b))
	}
}

// TestQ1OfOtherShapes: right bodies in what is not a frame's letters, length or sum.
func TestQ1OfOtherShapes(t *testing.T) {
	for _, b := range [][]byte{nil, {}, []byte("F"), []byte("FC"), []byte("FC\x00"), summed(nil), summed([]byte("FC")), summed([]byte("FC\x00"))} {
		noFrame(t, b)
	}
	for _, x := range known {
		body := x.body
		size := string(rune(len(body)))
		for _, letters := range []string{"", "F", "C", "CF", "fc", "Fc", "FD", "GC", "FCFC", "FC ", " FC", "\x00\x00"} {
			noFrame(t, summed([]byte(letters+size+body)))
		}
		long := string([]byte{byte(len(body)) | 0x80, 0})
		for _, other := range []string{"", string(rune(len(body) - 1)), string(rune(len(body) + 1)), string(rune(len(body) + 4)), long, "\x7F"} {
			noFrame(t, summed([]byte("FC"+other+body)))
		}
		b := []byte("FC" + size + body)
		sum := crc32.ChecksumIEEE(b)
		noFrame(t, binary.LittleEndian.AppendUint32(slices.Clone(b), sum))
		noFrame(t, binary.BigEndian.AppendUint32(slices.Clone(b), ^sum))
		noFrame(t, binary.BigEndian.AppendUint32(slices.Clone(b), crc32.ChecksumIEEE(b[2:])))
		noFrame(t, binary.BigEndian.AppendUint32(slices.Clone(b), crc32.ChecksumIEEE([]byte(body))))
		noFrame(t, binary.BigEndian.AppendUint32(slices.Clone(b), 0))
		noFrame(t, b)
	}
}

// TestQ1OfBodiesThrownTogether: bodies that are nearly frames', with right sums.
func TestQ1OfBodiesThrownTogether(t *testing.T) {
	r := rand.New(rand.NewSource(2))
	found := 0
	for range 100000 {
		body := bodyOf(someFrame(r))
		for range 1 + r.Intn(2) {
			at := r.Intn(len(body)) // there are five at least, and at most two are lost
			switch r.Intn(4) {
			case 0:
				body[at] ^= 1 << r.Intn(8)
			case 1:
				body[at] = byte(r.Intn(256))
			case 2:
				body = slices.Insert(body, at, byte(r.Intn(3)))
			default:
				body = slices.Delete(body, at, at+1)
			}
		}
		if checkBody(t, body) {
			found++
		}
	}
	if found == 0 {
		t.Error("none was a frame's")
	}
}

// cutSaid is Cut by the chapter's words.
func cutSaid(b []byte) (int, bool) {
	if len(b) < 2 || b[0] != 'F' || b[1] != 'C' {
		return 0, false
	}
	size, n := binary.Uvarint(b[2:])
	if n <= 0 || !bytes.Equal(binary.AppendUvarint(nil, size), b[2:2+n]) {
		return 0, false
	}
	if size > uint64(len(b)) || len(b) < 2+n+int(size)+4 {
		return 0, false
	}
	return 2 + n + int(size) + 4, true
}

func checkCut(t *testing.T, b []byte) bool {
	t.Helper()
	n, ok := Cut(b)
	if m, may := cutSaid(b); n != m || ok != may {
		t.Fatalf("Cut(% X, %d bytes) = %d, %v, not %d, %v", b[:min(len(b), 40)], len(b), n, ok, m, may)
	}
	return ok
}

// TestQ2Cut: whatever the body and the sum are.
func TestQ2Cut(t *testing.T) {
	for _, x := range []struct {
		b  string
		n  int
		ok bool
	}{
		{"FC\x00abcd", 7, true},
		{"FC\x00\x00\x00\x00\x00more", 7, true},
		{"FC\x01xabcd", 8, true},
		{"FC\x05hello\x00\x00\x00\x00FC", 12, true},
		{"FC\x7F" + strings.Repeat("x", 131), 134, true},
		{"FC\x80\x01" + strings.Repeat("x", 132), 136, true},
		{"FC\xAC\x02" + strings.Repeat("x", 400), 308, true},
		{"FC\x00abc", 0, false},
		{"FC\x01abcd", 0, false},
		{"FC\x7F" + strings.Repeat("x", 130), 0, false},
		{"FC\x80\x01" + strings.Repeat("x", 131), 0, false},
		{"", 0, false}, {"F", 0, false}, {"FC", 0, false}, {"FC\x00", 0, false},
		{"FD\x00abcd", 0, false}, {"GC\x00abcd", 0, false}, {"fc\x00abcd", 0, false}, {"CF\x00abcd", 0, false},
		{"xFC\x00abcd", 0, false}, {"\x00abcd", 0, false},
		{"FC\x80\x00abcdefgh", 0, false}, {"FC\x81\x00abcdefgh", 0, false}, {"FC\x80", 0, false},
		{"FC\xFF\xFF\xFF\xFF\x0Fabcdefgh", 0, false},
		{"FC\xFF\xFF\xFF\xFF\xFF\xFF\xFF\xFF\x7Fabcdefgh", 0, false},
		{"FC\x80\x80\x80\x80\x80\x80\x80\x80\x80\x01abcdefgh", 0, false},
		{"FC\xFF\xFF\xFF\xFF\xFF\xFF\xFF\xFF\xFF\x01abcdefgh", 0, false},
		{"FC\xFB\xFF\xFF\xFF\xFF\xFF\xFF\xFF\xFF\x01abcdefgh", 0, false},
		{"FC\xFF\xFF\xFF\xFF\xFF\xFF\xFF\xFF\xFF\x02abcdefgh", 0, false},
		{"FC\x80\x80\x80\x80\x80\x80\x80\x80\x80\x80\x01abcdefgh", 0, false},
	} {
		if n, ok := Cut([]byte(x.b)); n != x.n || ok != x.ok {
			t.Errorf("Cut(% X) = %d, %v, not %d, %v", x.b, n, ok, x.n, x.ok)
		}
	}
}

// TestQ2CutAnyLength: all lengths, with all numbers of bytes behind them.
func TestQ2CutAnyLength(t *testing.T) {
	for size := range 300 {
		whole := binary.AppendUvarint([]byte("FC"), uint64(size))
		whole = append(whole, make([]byte, size+10)...)
		for n := range len(whole) + 1 {
			checkCut(t, whole[:n])
		}
	}
	// A length that says as many bytes as there are, and a few more, is no length to add to.
	for _, size := range []uint64{1 << 31, 1 << 32, 1<<63 - 20, 1<<63 - 1, 1 << 63, math.MaxUint64 - 20, math.MaxUint64} {
		for more := range uint64(20) {
			b := binary.AppendUvarint([]byte("FC"), size+more)
			checkCut(t, append(b, make([]byte, 30)...))
		}
	}
}

func TestQ2CutThrownTogether(t *testing.T) {
	r := rand.New(rand.NewSource(3))
	found := 0
	for range 100000 {
		b := []byte("FC")
		for range r.Intn(16) {
			b = append(b, []byte{0, 1, 2, 3, 5, 0x80, 0x81, 0xFF, 'F', 'C'}[r.Intn(10)])
		}
		if r.Intn(10) == 0 {
			b[r.Intn(2)] = byte(r.Intn(256))
		}
		if checkCut(t, b) {
			found++
		}
	}
	if found == 0 {
		t.Error("none was cut")
	}
}

// TestQ2CutSpoilt: a frame is cut off by its letters and its length alone.
func TestQ2CutSpoilt(t *testing.T) {
	for _, x := range known {
		b := wrap([]byte(x.body))
		for at := 3; at < len(b); at++ {
			c := slices.Clone(b)
			c[at] ^= 0xFF
			if n, ok := Cut(c); n != len(b) || !ok {
				t.Errorf("Cut(% X) = %d, %v", c, n, ok)
			}
		}
		for n := range b {
			checkCut(t, b[:n])
			if _, ok := Cut(b[:n]); ok {
				t.Errorf("% X was cut", b[:n])
			}
		}
	}
}

// TestFollowsOneRowOfBytes: unlike frames have unlike bytes, the same ones the same.
func TestFollowsOneRowOfBytes(t *testing.T) {
	r := rand.New(rand.NewSource(4))
	was := map[string]api.Frame{}
	for range 20000 {
		f := someFrame(r)
		b, e := Bytes(f)
		if e != api.OK {
			t.Fatal(f, e)
		}
		if g, ok := was[string(b)]; ok && !same(f, g) {
			t.Fatalf("%v and %v: both % X", f, g, b)
		}
		was[string(b)] = f
	}
	nils, _ := Bytes(api.Frame{Kind: 3})
	empties, _ := Bytes(api.Frame{Kind: 3, Vector: []api.Entry{}, Ops: []api.Op{}})
	if !bytes.Equal(nils, empties) {
		t.Errorf("% X of nil lists, % X of empty ones", nils, empties)
	}
}

// TestFollowsCutApart: frames behind one another, and what is left.
func TestFollowsCutApart(t *testing.T) {
	r := rand.New(rand.NewSource(5))
	for range 300 {
		var all []byte
		var frames []api.Frame
		for range r.Intn(8) {
			f := someFrame(r)
			frames = append(frames, f)
			b, _ := Bytes(f)
			all = append(all, b...)
		}
		all = append(all, "FC\x05rest"...)
		for _, f := range frames {
			n, ok := Cut(all)
			if !ok {
				t.Fatalf("% X is not cut", all)
			}
			if g, e := Of(all[:n]); e != api.OK || !same(f, g) {
				t.Fatalf("%v became %v, %v", f, g, e)
			}
			all = all[n:]
		}
		if n, ok := Cut(all); n != 0 || ok || string(all) != "FC\x05rest" {
			t.Fatalf("what is left, %q, is cut at %d, %v", all, n, ok)
		}
	}
}

// copied is a frame with lists of its own.
func copied(f api.Frame) api.Frame {
	f.Vector, f.Ops = slices.Clone(f.Vector), slices.Clone(f.Ops)
	return f
}

// TestR1WhatIsHandedInStays: frames and bytes, and what stands behind them in memory.
func TestR1WhatIsHandedInStays(t *testing.T) {
	for _, x := range known {
		f := copied(x.f)
		Right(f)
		b, _ := Bytes(f)
		if !same(f, x.f) {
			t.Errorf("%v became %v", x.f, f)
		}
		clear(f.Vector)
		clear(f.Ops)
		if !bytes.Equal(b, wrap([]byte(x.body))) {
			t.Errorf("the bytes of %v became % X", x.f, b)
		}
		memory := slices.Concat([]byte("ahead"), b, []byte("behind"))
		was := slices.Clone(memory)
		part := memory[5 : 5+len(b)]
		Cut(part)
		g, e := Of(part)
		if e != api.OK || !bytes.Equal(memory, was) {
			t.Errorf("%q became %q (%v)", was, memory, e)
		}
		clear(memory)
		if !same(g, x.f) {
			t.Errorf("%v became %v", x.f, g)
		}
	}
}

// TestR1AnswersAreTheCallers: written over, they change nothing.
func TestR1AnswersAreTheCallers(t *testing.T) {
	for _, x := range known {
		for range 3 {
			b, _ := Bytes(x.f)
			if !bytes.Equal(b, wrap([]byte(x.body))) {
				t.Fatalf("the bytes of %v are % X", x.f, b)
			}
			f, _ := Of(b)
			if !same(f, x.f) {
				t.Fatalf("%v became %v", x.f, f)
			}
			clear(b[:cap(b)])
			clear(f.Vector[:cap(f.Vector)])
			clear(f.Ops[:cap(f.Ops)])
		}
	}
}

// TestR2AnyBytes: no call panics, and what is no frame's is told to be none's.
func TestR2AnyBytes(t *testing.T) {
	r := rand.New(rand.NewSource(6))
	for range 20000 {
		b := make([]byte, r.Intn(40))
		r.Read(b)
		noFrame(t, b)
		checkCut(t, b)
		checkBody(t, b)
		copy(b, "FC")
		noFrame(t, b)
		checkCut(t, b)
	}
}
