package index

import (
	"math"
	"math/rand"
	"slices"
	"testing"
)

// The calls, as the chapter writes them.
type calls interface {
	Len() int
	Count() int
	Insert(at int, seen bool) bool
	Set(at int, seen bool) bool
	Seen(at int) bool
	Rank(at int) int
	Select(k int) (int, bool)
}

var _ calls = New()

// beyond are numbers that are no place of n marks.
func beyond(n int) []int {
	return []int{-1, -2, -63, -64, -65, n, n + 1, n + 2, n + 63, n + 64, n + 65, math.MinInt, math.MinInt + 1, math.MaxInt - 1, math.MaxInt}
}

// row is an index, and beside it its marks one by one.
type row struct {
	x     *Index
	marks []bool
}

func newRow() *row { return &row{x: New()} }

// insert does one that may be.
func (r *row) insert(t *testing.T, at int, seen bool) {
	t.Helper()
	if !r.x.Insert(at, seen) {
		t.Fatalf("of %d: Insert(%d, %v) is false", len(r.marks), at, seen)
	}
	r.marks = slices.Insert(r.marks, at, seen)
}

// set does one that may be.
func (r *row) set(t *testing.T, at int, seen bool) {
	t.Helper()
	if !r.x.Set(at, seen) {
		t.Fatalf("of %d: Set(%d, %v) is false", len(r.marks), at, seen)
	}
	r.marks[at] = seen
}

// check asks for all that an index tells of its marks, and of what is none.
func (r *row) check(t *testing.T) {
	t.Helper()
	n, count := len(r.marks), 0
	for at, seen := range r.marks {
		if r.x.Seen(at) != seen || r.x.Rank(at) != count {
			t.Fatalf("%v: Seen(%d) = %v, Rank %d, not %d", r.marks, at, r.x.Seen(at), r.x.Rank(at), count)
		}
		if !seen {
			continue
		}
		if p, is := r.x.Select(count); p != at || !is {
			t.Fatalf("%v: Select(%d) = %d, %v, not %d", r.marks, count, p, is, at)
		}
		count++
	}
	if r.x.Len() != n || r.x.Count() != count {
		t.Fatalf("%v: Len %d, Count %d", r.marks, r.x.Len(), r.x.Count())
	}
	r.checkBeyond(t, n, count)
}

func (r *row) checkBeyond(t *testing.T, n, count int) {
	t.Helper()
	for _, at := range beyond(n) {
		want := 0
		if at > 0 {
			want = count
		}
		if r.x.Seen(at) || r.x.Rank(at) != want {
			t.Fatalf("%v: Seen(%d) = %v, Rank %d, not %d", r.marks, at, r.x.Seen(at), r.x.Rank(at), want)
		}
	}
	for _, k := range beyond(count) {
		if p, is := r.x.Select(k); p != 0 || is {
			t.Fatalf("%v: Select(%d) = %d, %v", r.marks, k, p, is)
		}
	}
}

// refuse asks that calls of places that are none are false, and do nothing.
func (r *row) refuse(t *testing.T) {
	t.Helper()
	n := len(r.marks)
	for _, at := range beyond(n) {
		for _, seen := range []bool{false, true} {
			if r.x.Set(at, seen) || at != n && r.x.Insert(at, seen) {
				t.Fatalf("of %d: a call at %d is done", n, at)
			}
		}
	}
	r.check(t)
}

// TestExample: seen, not, seen.
func TestExample(t *testing.T) {
	r := newRow()
	for at, seen := range []bool{true, false, true} {
		r.insert(t, at, seen)
	}
	if p, is := r.x.Select(1); r.x.Rank(2) != 1 || p != 2 || !is {
		t.Error(r.x.Rank(2), p, is)
	}
	r.refuse(t)
}

// TestM1Empty: at first there are none, and the first comes at 0 alone.
func TestM1Empty(t *testing.T) {
	newRow().check(t)
	for _, seen := range []bool{false, true} {
		r := newRow()
		r.refuse(t)
		r.insert(t, 0, seen)
		r.refuse(t)
	}
}

// TestM1Small: all rows of up to six marks, made by all orders of inserts.
func TestM1Small(t *testing.T) {
	type step struct {
		at   int
		seen bool
	}
	var grow func(steps []step)
	grow = func(steps []step) {
		r := newRow()
		for _, s := range steps {
			r.insert(t, s.at, s.seen)
		}
		r.check(t)
		if len(steps) == 6 {
			return
		}
		for at := range len(steps) + 1 {
			grow(append(slices.Clone(steps), step{at, false}))
			grow(append(slices.Clone(steps), step{at, true}))
		}
	}
	grow(nil)
}

// TestM1SmallSet: in all rows of up to eight marks, each mark set to both.
func TestM1SmallSet(t *testing.T) {
	for n := range 9 {
		for word := range 1 << n {
			r := newRow()
			for at := range n {
				r.insert(t, at, word>>at&1 == 1)
			}
			for at := range n {
				was := r.marks[at]
				for _, seen := range []bool{was, !was, !was, was} {
					r.set(t, at, seen)
					r.check(t)
				}
			}
			r.refuse(t)
		}
	}
}

// patterns are which marks are seen, by the order in which they come.
func patterns() map[string]func(i int) bool {
	return map[string]func(i int) bool{
		"all":     func(i int) bool { return true },
		"none":    func(i int) bool { return false },
		"each 2.": func(i int) bool { return i%2 == 0 },
		"each 3.": func(i int) bool { return i%3 == 0 },
		"by 64":   func(i int) bool { return i/64%2 == 1 },
		"one":     func(i int) bool { return i == 100 },
	}
}

// TestM1Grow: rows of some hundreds of marks, that grow at an end, in the middle, and here
// and there, asked behind each insert.
func TestM1Grow(t *testing.T) {
	places := map[string]func(n int) int{
		"ahead":      func(n int) int { return 0 },
		"behind":     func(n int) int { return n },
		"middle":     func(n int) int { return n / 2 },
		"near ahead": func(n int) int { return min(n, 1) },
		"near end":   func(n int) int { return max(0, n-1) },
		"by turns":   func(n int) int { return n % 2 * n },
		"scattered":  func(n int) int { return n * 7919 % (n + 1) },
	}
	for place, at := range places {
		for pattern, seen := range patterns() {
			t.Run(place+", "+pattern, func(t *testing.T) {
				r := newRow()
				for i := range 330 {
					r.insert(t, at(i), seen(i))
					r.check(t)
				}
				r.refuse(t)
			})
		}
	}
}

// TestM1Edges: of rows of each size around where a block may end, one more at each place.
func TestM1Edges(t *testing.T) {
	for _, n := range []int{31, 32, 33, 63, 64, 65, 95, 96, 97, 127, 128, 129} {
		for at := range n + 1 {
			for _, seen := range []bool{false, true} {
				for _, pattern := range []string{"all", "none", "each 3."} {
					r := newRow()
					for i := range n {
						r.insert(t, i, patterns()[pattern](i))
					}
					r.insert(t, at, seen)
					r.check(t)
				}
			}
		}
	}
}

// TestM1Set: each mark of a row of some blocks, set to what it was, and to the other.
func TestM1Set(t *testing.T) {
	for _, seen := range patterns() {
		r := newRow()
		for i := range 200 {
			r.insert(t, i*5%(i+1), seen(i))
		}
		for at := range 200 {
			was := r.marks[at]
			for _, now := range []bool{was, !was, !was, was} {
				r.set(t, at, now)
				r.check(t)
			}
		}
		for _, now := range []bool{true, false, true} {
			for at := range 200 {
				r.set(t, at*77%200, now)
				r.check(t)
			}
		}
		r.refuse(t)
	}
}

// TestM1Some: inserts and sets by chance, of many marks that are seen, or few.
func TestM1Some(t *testing.T) {
	random := rand.New(rand.NewSource(13))
	for _, percent := range []int{2, 50, 98} {
		r := newRow()
		for i := range 4000 {
			seen := random.Intn(100) < percent
			if n := len(r.marks); n > 0 && random.Intn(3) == 0 {
				r.set(t, random.Intn(n), seen)
			} else {
				r.insert(t, random.Intn(n+1), seen)
			}
			if i%10 == 0 {
				r.check(t)
			}
		}
		r.refuse(t)
	}
}

// TestFollows: Rank of Select of k is k, and the mark there is seen.
func TestFollows(t *testing.T) {
	random := rand.New(rand.NewSource(31))
	x := New()
	for n := range 3000 {
		x.Insert(random.Intn(n+1), random.Intn(5) == 0)
	}
	if x.Count() == 0 {
		t.Fatal("none is seen")
	}
	for k := range x.Count() {
		if p, is := x.Select(k); !is || x.Rank(p) != k || !x.Seen(p) || x.Rank(p+1) != k+1 {
			t.Errorf("Select(%d) = %d, %v, Rank %d", k, p, is, x.Rank(p))
		}
	}
}

// TestM1Large: a hundred thousand marks, each third of them seen.
func TestM1Large(t *testing.T) {
	const n = 100000
	x := New()
	for i := range n / 2 {
		x.Insert(i, i%3 == 0)
	}
	for i := n - 1; i >= n/2; i-- {
		x.Insert(n/2, i%3 == 0)
	}
	if x.Len() != n || x.Count() != (n+2)/3 {
		t.Fatal(x.Len(), x.Count())
	}
	for at := 0; at < n; at += 41 {
		if x.Rank(at) != (at+2)/3 || x.Seen(at) != (at%3 == 0) {
			t.Fatalf("Rank(%d) = %d, Seen %v", at, x.Rank(at), x.Seen(at))
		}
	}
	for k := 0; k < x.Count(); k += 17 {
		if p, is := x.Select(k); p != 3*k || !is {
			t.Fatalf("Select(%d) = %d, %v", k, p, is)
		}
	}
}

// TestR3: two rows have nothing to do with each other, and the same calls the same answers.
func TestR3(t *testing.T) {
	a, b, same := newRow(), newRow(), newRow()
	for i := range 300 {
		a.insert(t, i/2, i%3 == 0)
		b.insert(t, i, i%2 == 0)
		same.insert(t, i/2, i%3 == 0)
		a.set(t, i/3, i%5 == 0)
		same.set(t, i/3, i%5 == 0)
		b.check(t)
	}
	a.check(t)
	same.check(t)
	if !slices.Equal(a.marks, same.marks) {
		t.Error("the same calls made other rows")
	}
}

// TestAsking: what is asked changes nothing.
func TestAsking(t *testing.T) {
	r := newRow()
	for i := range 150 {
		r.insert(t, i, i%4 == 1)
	}
	for range 3 {
		r.check(t)
	}
	r.refuse(t)
}
