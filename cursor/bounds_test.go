package cursor

import (
	"math"
	"slices"
	"testing"
)

// boundaries are the places that bounds tells to be some, rising.
func boundaries(bounds []bool) []int {
	var l []int
	for place, is := range bounds {
		if is {
			l = append(l, place)
		}
	}
	return l
}

// greatest is the greatest of l that fits; 0, if there is none.
func greatest(l []int, fits func(at int) bool) int {
	l = slices.DeleteFunc(slices.Clone(l), func(at int) bool { return !fits(at) })
	if len(l) == 0 {
		return 0
	}
	return slices.Max(l)
}

// least is the least of l that fits; else is answered if there is none.
func least(l []int, fits func(at int) bool, otherwise int) int {
	l = slices.DeleteFunc(slices.Clone(l), func(at int) bool { return !fits(at) })
	if len(l) == 0 {
		return otherwise
	}
	return slices.Min(l)
}

// checkBounds asks all three calls of a place.
func checkBounds(t *testing.T, bounds []bool, place int) {
	t.Helper()
	l, was := boundaries(bounds), slices.Clone(bounds)
	if got, want := Snap(bounds, place), greatest(l, func(at int) bool { return at <= place }); got != want {
		t.Errorf("Snap(%v, %d) = %d, not %d", bounds, place, got, want)
	}
	if got, want := Left(bounds, place), greatest(l, func(at int) bool { return at < place }); got != want {
		t.Errorf("Left(%v, %d) = %d, not %d", bounds, place, got, want)
	}
	end := 0
	if len(bounds) > 0 {
		end = len(bounds) - 1
	}
	if got, want := Right(bounds, place), least(l, func(at int) bool { return at > place }, end); got != want {
		t.Errorf("Right(%v, %d) = %d, not %d", bounds, place, got, want)
	}
	if !slices.Equal(bounds, was) {
		t.Fatalf("bounds are written over: %v, not %v", bounds, was)
	}
}

// All bounds of up to nine places, at all places of them, and at those that they have not.
func TestBounds(t *testing.T) {
	for n := range 10 {
		for word := range 1 << n {
			bounds := make([]bool, n)
			for i := range bounds {
				bounds[i] = word>>i&1 == 1
			}
			for place := -3; place <= n+3; place++ {
				checkBounds(t, bounds, place)
			}
			for _, place := range []int{math.MinInt, math.MinInt + 1, math.MaxInt - 1, math.MaxInt} {
				checkBounds(t, bounds, place)
			}
		}
	}
}

func TestBoundsExamples(t *testing.T) {
	of := func(places ...int) []bool {
		l := make([]bool, 4)
		for _, place := range places {
			l[place] = true
		}
		return l
	}
	chapter := of(0, 2, 3)
	for _, y := range []struct {
		what   string
		call   func(bounds []bool, place int) int
		bounds []bool
		place  int
		want   int
	}{
		{"Snap", Snap, chapter, 1, 0},
		{"Left", Left, chapter, 2, 0},
		{"Right", Right, chapter, 0, 2},
		{"Snap of a boundary", Snap, chapter, 2, 2},
		{"Snap above all", Snap, chapter, 9, 3},
		{"Snap where there is none", Snap, of(2, 3), 1, 0},
		{"Left above all", Left, chapter, 9, 3},
		{"Left of the first", Left, chapter, 0, 0},
		{"Left where there is none", Left, of(2, 3), 2, 0},
		{"Left below all", Left, chapter, -1, 0},
		{"Right of the last", Right, chapter, 3, 3},
		{"Right where there is none", Right, of(0, 1), 1, 3}, // 3 is no boundary, but the last place told of
		{"Right above all", Right, chapter, 9, 3},
		{"Right below all", Right, chapter, -5, 0},
		{"Snap of nothing", Snap, nil, 0, 0},
		{"Left of nothing", Left, nil, 5, 0},
		{"Right of nothing", Right, nil, 0, 0},
		{"Right of nothing, below", Right, nil, -1, 0},
		{"Right of one place that is none", Right, []bool{false}, -1, 0},
	} {
		if got := y.call(y.bounds, y.place); got != y.want {
			t.Errorf("%s: %d, not %d", y.what, got, y.want)
		}
	}
}

// A slice that has room behind its end tells of no place there.
func TestBoundsEnd(t *testing.T) {
	all := []bool{true, false, false, true, true}
	bounds := all[:3]
	if Snap(bounds, 9) != 0 || Left(bounds, 9) != 0 || Right(bounds, 0) != 2 {
		t.Error(Snap(bounds, 9), Left(bounds, 9), Right(bounds, 0))
	}
	for place := -2; place < 7; place++ {
		checkBounds(t, bounds, place)
	}
}
