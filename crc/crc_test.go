package crc

import (
	"bytes"
	"hash/crc32"
	"math"
	"math/bits"
	"math/rand"
	"slices"
	"strings"
	"testing"
)

// sums are rows with their sums as they are known elsewhere.
var sums = []struct {
	row string
	sum uint32
}{
	{"", 0},
	{"123456789", 0xCBF43926},
	{"a", 0xE8B7BE43},
	{"abc", 0x352441C2},
	{"\x00", 0xD202EF8D},
	{"\xFF", 0xFF000000},
	{"\x00\x00\x00\x00", 0x2144DF1C},
	{"\xFF\xFF\xFF\xFF", 0xFFFFFFFF},
	{"The quick brown fox jumps over the lazy dog", 0x414FA339},
	{strings.Repeat("\x00", 32), 0x190A55AD},
	{strings.Repeat("\xFF", 32), 0xFF6CAB0B},
}

// someSums are sums to go on with, the least and the greatest among them.
var someSums = []uint32{0, 1, 0x80, 0xFF, 0x100, 0xFF000000, 0x80000000, 0x7FFFFFFF, 0xEDB88320, 0xCBF43926, math.MaxUint32 - 1, math.MaxUint32}

// take is the register behind a byte, word by word as the chapter says it.
func take(register uint32, x byte) uint32 {
	register ^= uint32(x)
	for range 8 {
		out := register % 2
		register /= 2
		if out == 1 {
			register ^= 0xEDB88320
		}
	}
	return register
}

// said is the sum by the chapter's words.
func said(b []byte) uint32 {
	var register uint32 = 0xFFFFFFFF
	for _, x := range b {
		register = take(register, x)
	}
	return register ^ 0xFFFFFFFF
}

// rowWith is a row of four bytes whose sum is the one asked for: going back through the
// steps of the register, each of which has just one that it comes from.
func rowWith(sum uint32) []byte {
	register := ^sum
	for range 32 {
		if bits.LeadingZeros32(register) == 0 {
			register = (register^0xEDB88320)<<1 | 1
		} else {
			register <<= 1
		}
	}
	// Four bytes are all of the register: xored with the first one they are what it must be.
	register = ^register
	return []byte{byte(register), byte(register >> 8), byte(register >> 16), byte(register >> 24)}
}

// eachRow calls f with every row of up to two bytes, and with some of three.
func eachRow(f func(b []byte)) {
	f(nil)
	f([]byte{})
	for x := range 256 {
		f([]byte{byte(x)})
		for y := range 256 {
			f([]byte{byte(x), byte(y)})
		}
	}
	edges := []byte{0, 1, 0x7F, 0x80, 0xFE, 0xFF}
	for _, x := range edges {
		for _, y := range edges {
			for _, z := range edges {
				f([]byte{x, y, z})
			}
		}
	}
}

// someRow is a row of so many bytes.
func someRow(r *rand.Rand, size int) []byte {
	b := make([]byte, size)
	r.Read(b)
	return b
}

func TestC1SumOfKnownRows(t *testing.T) {
	for _, c := range sums {
		if sum := Sum([]byte(c.row)); sum != c.sum {
			t.Errorf("Sum(% X) = %08X, not %08X", c.row, sum, c.sum)
		}
	}
	if sum := Sum(nil); sum != 0 {
		t.Errorf("Sum(nil) = %08X", sum)
	}
}

func TestC1SumAsTheWordsSay(t *testing.T) {
	eachRow(func(b []byte) {
		if sum := Sum(b); sum != said(b) {
			t.Fatalf("Sum(% X) = %08X, not %08X", b, sum, said(b))
		}
	})
	r := rand.New(rand.NewSource(1))
	for _, size := range []int{3, 4, 5, 7, 8, 9, 255, 256, 257, 4096, 1 << 20} {
		b := someRow(r, size)
		if sum := Sum(b); sum != said(b) || sum != crc32.ChecksumIEEE(b) {
			t.Errorf("Sum of %d bytes = %08X, not %08X", size, sum, said(b))
		}
	}
}

func TestC1UpdateOfKnownRows(t *testing.T) {
	for _, c := range sums {
		for i := range len(c.row) + 1 {
			if sum := Update(said([]byte(c.row[:i])), []byte(c.row[i:])); sum != c.sum {
				t.Errorf("Update of % X with % X = %08X, not %08X", c.row[:i], c.row[i:], sum, c.sum)
			}
		}
	}
}

// Every number of 32 bits is the sum of some bytes, so Update has an answer of its own for
// each one.
func TestC1UpdateOfAnySum(t *testing.T) {
	r := rand.New(rand.NewSource(2))
	froms := slices.Clone(someSums)
	for range 200 {
		froms = append(froms, r.Uint32())
	}
	behind := [][]byte{nil, {}, {0}, {1}, {0xFF}, []byte("123456789"), make([]byte, 40), someRow(r, 300)}
	for _, from := range froms {
		row := rowWith(from)
		if said(row) != from {
			t.Fatalf("the test's own row % X has the sum %08X, not %08X", row, said(row), from)
		}
		for _, b := range behind {
			want := said(slices.Concat(row, b))
			if sum := Update(from, b); sum != want {
				t.Errorf("Update(%08X, % X) = %08X, not %08X", from, b, sum, want)
			}
		}
	}
}

func TestC1UpdateWithNothingIsTheSum(t *testing.T) {
	for _, from := range someSums {
		if sum := Update(from, nil); sum != from {
			t.Errorf("Update(%08X, nil) = %08X", from, sum)
		}
		if sum := Update(from, []byte{}); sum != from {
			t.Errorf("Update(%08X, empty) = %08X", from, sum)
		}
	}
}

func TestFollowsUpdateOfSumIsSumOfBoth(t *testing.T) {
	eachRow(func(b []byte) {
		for i := range len(b) + 1 {
			if one, both := Update(Sum(b[:i]), b[i:]), Sum(b); one != both {
				t.Fatalf("% X cut at %d: %08X, not %08X", b, i, one, both)
			}
		}
	})
	r := rand.New(rand.NewSource(3))
	for range 200 {
		one, other, third := someRow(r, r.Intn(70)), someRow(r, r.Intn(70)), someRow(r, r.Intn(9))
		sum := Update(Update(Sum(one), other), third)
		if both := Sum(slices.Concat(one, other, third)); sum != both {
			t.Errorf("% X, % X and % X: %08X, not %08X", one, other, third, sum, both)
		}
	}
}

// differ fails if two rows' sums are the same.
func differ(t *testing.T, one, other []byte) {
	t.Helper()
	if Sum(one) == Sum(other) {
		t.Fatalf("% X and % X: both %08X", one, other, Sum(one))
	}
}

func TestFollowsUnlikeInTwoNeighbours(t *testing.T) {
	for _, row := range []string{"\x00\x00", "1234"} {
		for at := range len(row) - 1 {
			seen := map[uint32]int{}
			for both := range 1 << 16 {
				b := []byte(row)
				b[at], b[at+1] = byte(both), byte(both>>8)
				sum := Sum(b)
				if was, ok := seen[sum]; ok {
					t.Fatalf("%X: %X and %X at %d: both %08X", row, was, both, at, sum)
				}
				seen[sum] = both
			}
		}
	}
}

func TestFollowsUnlikeInUpToFourNeighbours(t *testing.T) {
	r := rand.New(rand.NewSource(4))
	for range 20000 {
		one := someRow(r, 1+r.Intn(40))
		other := slices.Clone(one)
		at := r.Intn(len(one))
		end := min(len(one), at+1+r.Intn(4))
		r.Read(other[at:end])
		if !bytes.Equal(one, other) {
			differ(t, one, other)
		}
	}
	// Each bit alone, the first with the last of four bytes among the pairs.
	row := []byte("123456789")
	for i := range 8 * len(row) {
		for j := i; j < min(8*len(row), i/8*8+32); j++ {
			other := slices.Clone(row)
			other[i/8] ^= 1 << (i % 8)
			if j != i {
				other[j/8] ^= 1 << (j % 8)
			}
			differ(t, row, other)
		}
	}
}

// What two sums differ by is the xor of what the rows' single bits make them differ by. So
// all 2^32 ways to differ in four neighbouring bytes are told apart just if no one of their
// 32 single bits' differences is an xor of others.
func TestFollowsNoFourNeighboursAreMissed(t *testing.T) {
	for _, size := range []int{4, 5, 9, 33, 300} {
		row := someRow(rand.New(rand.NewSource(int64(size))), size)
		for at := range size - 3 {
			var have [32]uint32
			for bit := range 32 {
				other := slices.Clone(row)
				other[at+bit/8] ^= 1 << (bit % 8)
				if !keep(&have, Sum(row)^Sum(other)) {
					t.Fatalf("%d bytes, at %d: bit %d is told by others", size, at, bit)
				}
			}
		}
	}
}

// keep adds a number to a basis, each kept by its highest bit: false, if it is an xor of those
// that are there.
func keep(have *[32]uint32, x uint32) bool {
	for x != 0 {
		high := bits.Len32(x) - 1
		if have[high] == 0 {
			have[high] = x
			return true
		}
		x ^= have[high]
	}
	return false
}

// R1: what is handed in stays as it was, and is not kept.
func TestR1BytesStay(t *testing.T) {
	memory := []byte("ahead123456789behind")
	was := slices.Clone(memory)
	b := memory[5:14]
	if Sum(b) != 0xCBF43926 || Update(0, b) != 0xCBF43926 || Update(Sum(b[:4]), b[4:]) != 0xCBF43926 {
		t.Errorf("a piece of a row has another sum")
	}
	if !bytes.Equal(memory, was) {
		t.Errorf("%q became %q", was, memory)
	}
	b[0] = 'x'
	if Sum([]byte("123456789")) != 0xCBF43926 {
		t.Errorf("a row that was handed in is kept")
	}
}

// R3, R4: what was summed ahead has nothing to do with what is summed now.
func TestR4SameCallsSameAnswers(t *testing.T) {
	for range 3 {
		for _, c := range sums {
			if Sum([]byte(c.row)) != c.sum || Update(0, []byte(c.row)) != c.sum {
				t.Errorf("% X has another sum later", c.row)
			}
			Update(math.MaxUint32, []byte("between"))
		}
	}
}
