package ident

import (
	"math"
	"math/rand"
	"slices"
	"testing"

	"foolscap/api"
)

// The limits, as the chapter writes them.
const (
	maxCount = 4294967295 // 2^32 - 1
	authors  = 4194304    // 2^22
)

// vec is a vector: an author, its Seq, an author, its Seq, and so on.
func vec(l ...int) []api.Entry {
	var v []api.Entry
	for i := 0; i+1 < len(l); i += 2 {
		v = append(v, api.Entry{Author: l[i], Seq: l[i+1]})
	}
	return v
}

// noCounts and noAuthors are numbers that are none.
func noCounts() []int {
	return []int{0, -1, -2, maxCount + 1, maxCount + 2, 2 * maxCount, math.MinInt, math.MaxInt}
}

func noAuthors() []int {
	return []int{-1, -2, -65536, authors, authors + 1, maxCount, math.MinInt, math.MaxInt}
}

func checkAuthor(t *testing.T, replica, round, author int) {
	t.Helper()
	if a, ok := Author(replica, round); a != author || !ok {
		t.Fatalf("Author(%d, %d) = %d, %v, not %d", replica, round, a, ok, author)
	}
	if r, k, ok := Parts(author); r != replica || k != round || !ok {
		t.Fatalf("Parts(%d) = %d, %d, %v, not %d, %d", author, r, k, ok, replica, round)
	}
}

// TestL1Author: of all replicas and rounds.
func TestL1Author(t *testing.T) {
	checkAuthor(t, 1, 2, 65538)
	checkAuthor(t, 0, 0, 0)
	checkAuthor(t, 0, 65535, 65535)
	checkAuthor(t, 63, 65535, authors-1)
	next := 0
	for replica := range 64 {
		for round := range 65536 {
			checkAuthor(t, replica, round, next)
			next++
		}
	}
	if next != authors {
		t.Error(next)
	}
}

func TestL1NoAuthor(t *testing.T) {
	noReplica := []int{-1, -2, 64, 65, 128, 65536, math.MinInt, math.MaxInt}
	noRound := []int{-1, -2, 65536, 65537, 131072, math.MinInt, math.MaxInt}
	check := func(replica, round int) {
		t.Helper()
		if a, ok := Author(replica, round); a != 0 || ok {
			t.Errorf("Author(%d, %d) = %d, %v", replica, round, a, ok)
		}
	}
	for _, replica := range noReplica {
		for _, round := range []int{0, 1, 65535} {
			check(replica, round)
		}
		for _, round := range noRound {
			check(replica, round)
		}
	}
	for _, round := range noRound {
		for _, replica := range []int{0, 1, 62, 63} {
			check(replica, round)
		}
	}
	for _, author := range noAuthors() {
		if r, k, ok := Parts(author); r != 0 || k != 0 || ok {
			t.Errorf("Parts(%d) = %d, %d, %v", author, r, k, ok)
		}
	}
}

// TestL1Less: IDs in their order, each held against each.
func TestL1Less(t *testing.T) {
	l := []api.ID{
		{}, {Ctr: 1}, {Ctr: 1, Author: 1}, {Ctr: 1, Author: 5}, {Ctr: 1, Author: authors - 1},
		{Ctr: 2}, {Ctr: 2, Author: 4}, {Ctr: 3, Author: 3}, {Ctr: 1000, Author: 2},
		{Ctr: maxCount - 1, Author: authors - 1}, {Ctr: maxCount}, {Ctr: maxCount, Author: authors - 1},
	}
	for i, a := range l {
		for k, b := range l {
			if Less(a, b) != (i < k) {
				t.Errorf("Less(%v, %v) = %v", a, b, i >= k)
			}
		}
	}
}

// TestL1LessAny: numbers that no right ID has are ordered likewise, however far apart.
func TestL1LessAny(t *testing.T) {
	odd := []int{math.MinInt, -2, -1, 0, 1, 2, maxCount + 1, math.MaxInt}
	var l []api.ID
	for _, ctr := range odd {
		for _, author := range odd {
			l = append(l, api.ID{Ctr: ctr, Author: author})
		}
	}
	for i, a := range l {
		for k, b := range l {
			if Less(a, b) != (i < k) {
				t.Errorf("Less(%v, %v) = %v", a, b, i >= k)
			}
		}
	}
}

// ins and del are operations that are right.
func ins() api.Op {
	return api.Op{ID: api.ID{Ctr: 7, Author: 65538}, Seq: 3, Ins: true, Ref: api.ID{Ctr: 6, Author: 70000}, Rune: 'a'}
}

func del() api.Op {
	return api.Op{ID: api.ID{Ctr: 7, Author: 65538}, Seq: 3, Ref: api.ID{Ctr: 6, Author: 70000}}
}

// checkRight asks whether an operation is right behind a change.
func checkRight(t *testing.T, op api.Op, want bool, change func(op *api.Op)) {
	t.Helper()
	change(&op)
	if Right(op) != want {
		t.Errorf("Right(%+v) = %v", op, !want)
	}
}

// TestL1RightID: ID and Seq, at their edges, of both kinds of operations.
func TestL1RightID(t *testing.T) {
	for _, op := range []api.Op{ins(), del()} {
		checkRight(t, op, true, func(op *api.Op) {})
		for _, n := range []int{7, 8, maxCount - 1, maxCount} {
			checkRight(t, op, true, func(op *api.Op) { op.ID.Ctr = n })
		}
		for _, n := range []int{1, 2, maxCount - 1, maxCount} {
			checkRight(t, op, true, func(op *api.Op) { op.Seq = n })
		}
		for _, n := range []int{0, 1, 65535, authors - 1} {
			checkRight(t, op, true, func(op *api.Op) { op.ID.Author = n })
		}
		for _, n := range noCounts() {
			checkRight(t, op, false, func(op *api.Op) { op.ID.Ctr = n })
			checkRight(t, op, false, func(op *api.Op) { op.Seq = n })
		}
		for _, n := range noAuthors() {
			checkRight(t, op, false, func(op *api.Op) { op.ID.Author = n })
		}
	}
	checkRight(t, ins(), true, func(op *api.Op) { op.ID, op.Ref = api.ID{Ctr: 1}, api.ID{} })
	for _, n := range noCounts() { // behind the zero ID no other Ctr tells
		checkRight(t, ins(), false, func(op *api.Op) { op.ID.Ctr, op.Ref = n, api.ID{} })
	}
}

// TestL1RightRef: Ref is right, and older; the zero ID just with Ins.
func TestL1RightRef(t *testing.T) {
	for _, op := range []api.Op{ins(), del()} {
		for _, id := range []api.ID{{Ctr: 1}, {Ctr: 6}, {Ctr: 6, Author: authors - 1}, {Ctr: 1, Author: 65538}, {Ctr: 6, Author: 65538}} {
			checkRight(t, op, true, func(op *api.Op) { op.Ref = id })
		}
		for _, id := range []api.ID{{Ctr: 7}, {Ctr: 7, Author: 65537}, {Ctr: 7, Author: 65538}, {Ctr: 8}, {Ctr: maxCount}, {Author: 1}, {Author: 65538}, {Author: -1}, {Ctr: -1}} {
			checkRight(t, op, false, func(op *api.Op) { op.Ref = id })
		}
		for _, n := range noCounts() {
			checkRight(t, op, false, func(op *api.Op) { op.Ref.Ctr = n })
			checkRight(t, op, false, func(op *api.Op) { op.ID.Ctr, op.Ref.Ctr = maxCount, n })
		}
		for _, n := range noAuthors() {
			checkRight(t, op, false, func(op *api.Op) { op.Ref.Author = n })
		}
		checkRight(t, op, op.Ins, func(op *api.Op) { op.Ref = api.ID{} })
		checkRight(t, op, true, func(op *api.Op) { op.ID.Ctr, op.Ref.Ctr = maxCount, maxCount-1 })
		checkRight(t, op, false, func(op *api.Op) { op.ID.Ctr, op.Ref.Ctr = maxCount, maxCount })
		checkRight(t, op, false, func(op *api.Op) { *op = api.Op{Ins: op.Ins} })
	}
}

// TestL1RightRune: a character with Ins, else 0.
func TestL1RightRune(t *testing.T) {
	for c := rune(-3); c <= 0x10FFFF+3; c++ {
		is := c >= 0 && c < 0xD800 || c > 0xDFFF && c <= 0x10FFFF
		checkRight(t, ins(), is, func(op *api.Op) { op.Rune = c })
		checkRight(t, del(), c == 0, func(op *api.Op) { op.Rune = c })
	}
	for _, c := range []rune{math.MinInt32, math.MaxInt32} {
		checkRight(t, ins(), false, func(op *api.Op) { op.Rune = c })
		checkRight(t, del(), false, func(op *api.Op) { op.Rune = c })
	}
}

func TestL2Vector(t *testing.T) {
	for _, v := range [][]api.Entry{nil, {}, vec(0, 1), vec(5, 3), vec(authors-1, maxCount), vec(0, 9, 1, 1, 2, 9), vec(5, maxCount, 65536, 1, authors-1, 1)} {
		if !Vector(v) {
			t.Errorf("%v is none", v)
		}
	}
	for _, v := range [][]api.Entry{
		vec(5, 1, 5, 1), vec(5, 1, 5, 2), vec(5, 2, 4, 2), vec(0, 1, 0, 1), vec(1, 1, 2, 1, 4, 1, 3, 1), vec(1, 1, 2, 1, 1, 1), vec(2, 1, 1, 1, 3, 1),
	} {
		if Vector(v) {
			t.Errorf("%v is one", v)
		}
	}
	for _, n := range noCounts() {
		for _, v := range [][]api.Entry{vec(5, n), vec(5, n, 6, 1), vec(5, 1, 6, n), vec(5, 1, 6, n, 7, 1)} {
			if Vector(v) {
				t.Errorf("%v is one", v)
			}
		}
	}
	for _, n := range noAuthors() {
		for _, v := range [][]api.Entry{vec(n, 1), vec(n, 1, 6, 1), vec(5, 1, n, 1)} {
			if Vector(v) {
				t.Errorf("%v is one", v)
			}
		}
	}
}

// checkVector asks for an answer that is wanted, and a vector.
func checkVector(t *testing.T, got, want []api.Entry) {
	t.Helper()
	if !slices.Equal(got, want) || !Vector(got) {
		t.Errorf("%v, not %v", got, want)
	}
}

func TestL2Seq(t *testing.T) {
	v := vec(0, 4, 5, 1, 65536, maxCount, authors-1, 2)
	for author, want := range map[int]int{0: 4, 5: 1, 65536: maxCount, authors - 1: 2, 1: 0, 4: 0, 6: 0, 65535: 0, 65537: 0, authors - 2: 0} {
		if n := Seq(v, author); n != want {
			t.Errorf("Seq of %d: %d, not %d", author, n, want)
		}
		if n := Seq(nil, author); n != 0 {
			t.Errorf("Seq of %d in none: %d", author, n)
		}
	}
	for _, author := range noAuthors() {
		if n := Seq(v, author); n != 0 {
			t.Errorf("Seq of %d: %d", author, n)
		}
	}
}

func TestL2With(t *testing.T) {
	v := vec(5, 3, 9, 1)
	for _, y := range []struct {
		v           []api.Entry
		author, seq int
		want        []api.Entry
	}{
		{v, 5, 4, vec(5, 4, 9, 1)}, {v, 5, 3, v}, {v, 5, 2, v}, {v, 5, 0, v}, {v, 5, -1, v}, {v, 5, math.MinInt, v},
		{v, 9, 2, vec(5, 3, 9, 2)}, {v, 9, 1, v}, {v, 5, maxCount, vec(5, maxCount, 9, 1)},
		{v, 0, 1, vec(0, 1, 5, 3, 9, 1)}, {v, 7, 2, vec(5, 3, 7, 2, 9, 1)}, {v, 10, 5, vec(5, 3, 9, 1, 10, 5)}, {v, authors - 1, maxCount, vec(5, 3, 9, 1, authors-1, maxCount)},
		{v, 0, 0, v}, {v, 7, 0, v}, {v, 10, 0, v}, {v, 7, -1, v}, {v, 10, math.MinInt, v},
		{nil, 0, 1, vec(0, 1)}, {nil, 0, 0, nil}, {nil, 3, -1, nil}, {vec(), 4, 2, vec(4, 2)},
	} {
		checkVector(t, With(y.v, y.author, y.seq), y.want)
	}
}

func TestL2Join(t *testing.T) {
	for _, y := range [][3][]api.Entry{
		{nil, nil, nil}, {vec(5, 1), nil, vec(5, 1)}, {vec(5, 1), vec(5, 3, 7, 1), vec(5, 3, 7, 1)}, {vec(5, 1), vec(5, 1), vec(5, 1)},
		{vec(1, 1, 2, 2), vec(3, 3), vec(1, 1, 2, 2, 3, 3)}, {vec(0, 1, 4, 9), vec(2, 2, 4, 8, 6, 1), vec(0, 1, 2, 2, 4, 9, 6, 1)},
		{vec(0, maxCount, authors-1, 1), vec(0, 1, authors-1, maxCount), vec(0, maxCount, authors-1, maxCount)},
	} {
		checkVector(t, Join(y[0], y[1]), y[2])
		checkVector(t, Join(y[1], y[0]), y[2])
	}
}

func TestL2CoversGap(t *testing.T) {
	for _, y := range []struct {
		a, b   []api.Entry
		gap    int // by how much b's are greater
		behind int // by how much a's are
	}{
		{nil, nil, 0, 0}, {nil, vec(5, 3, 7, 1), 4, 0}, {vec(5, 3), vec(5, 3), 0, 0}, {vec(5, 1), vec(5, 3), 2, 0},
		{vec(5, 1, 7, 9), vec(5, 3, 7, 1), 2, 8}, {vec(1, 4), vec(2, 4), 4, 4}, {vec(1, 2, 2, 2, 3, 2), vec(1, 1, 2, 2, 3, 3), 1, 1},
		{vec(0, 1), vec(0, maxCount, 1, maxCount, authors-1, maxCount), 3*maxCount - 1, 0},
		{vec(0, 9, 3, 1), vec(1, 1), 1, 10}, {vec(9, 100), vec(9, 1), 0, 99},
	} {
		if n, m := Gap(y.a, y.b), Gap(y.b, y.a); n != y.gap || m != y.behind {
			t.Errorf("Gap of %v, %v: %d, %d, not %d, %d", y.a, y.b, n, m, y.gap, y.behind)
		}
		if Covers(y.a, y.b) != (y.gap == 0) || Covers(y.b, y.a) != (y.behind == 0) {
			t.Errorf("Covers of %v, %v", y.a, y.b)
		}
	}
}

// small is all vectors of these authors with Seqs up to most.
func small(most int, authors ...int) [][]api.Entry {
	all := [][]api.Entry{nil}
	for _, author := range authors {
		for _, v := range all[:len(all):len(all)] {
			for seq := 1; seq <= most; seq++ {
				all = append(all, append(slices.Clone(v), api.Entry{Author: author, Seq: seq}))
			}
		}
	}
	return all
}

// plain is an author's Seq, looked for one by one.
func plain(v []api.Entry, author int) int {
	for _, e := range v {
		if e.Author == author {
			return e.Seq
		}
	}
	return 0
}

// checkPair holds all calls of two vectors against their words, author by author.
func checkPair(t *testing.T, a, b []api.Entry, authors []int) {
	t.Helper()
	j, gap := Join(a, b), 0
	for _, author := range authors {
		x, y := plain(a, author), plain(b, author)
		gap += max(0, y-x)
		if Seq(a, author) != x || Seq(j, author) != max(x, y) {
			t.Fatalf("of %d: %d in %v, %d in the join with %v", author, Seq(a, author), a, Seq(j, author), b)
		}
	}
	if !Vector(j) || Gap(a, b) != gap || Covers(a, b) != (gap == 0) {
		t.Fatalf("%v, %v: Join %v, Gap %d, Covers %v", a, b, j, Gap(a, b), Covers(a, b))
	}
	if !Covers(j, a) || !Covers(j, b) || !slices.Equal(j, Join(b, a)) {
		t.Fatalf("the join of %v and %v: %v", a, b, j)
	}
	if (Covers(a, b) && Covers(b, a)) != slices.Equal(a, b) {
		t.Fatalf("%v and %v are the same, or not", a, b)
	}
}

// TestL2All: all pairs of small vectors, and each with each author and Seq.
func TestL2All(t *testing.T) {
	authors := []int{0, 5, 65538, 4194303}
	all := small(2, authors...)
	for _, a := range all {
		for _, b := range all {
			checkPair(t, a, b, authors)
		}
		for _, author := range append(authors, 1, 6, 70000) {
			for seq := -1; seq <= 4; seq++ {
				w := With(a, author, seq)
				want := a
				if seq > 0 {
					want = Join(a, vec(author, seq))
				}
				checkVector(t, w, want)
			}
		}
	}
}

// TestFollowsLeast: whatever covers both covers their join.
func TestFollowsLeast(t *testing.T) {
	all := small(2, 3, 65536, 65540)
	for _, a := range all {
		for _, b := range all {
			j := Join(a, b)
			for _, c := range all {
				if (Covers(c, a) && Covers(c, b)) != Covers(c, j) {
					t.Fatalf("%v, and the join of %v and %v: %v", c, a, b, j)
				}
			}
		}
	}
}

// someVector has some of the first authors, and Seqs of all sizes.
func someVector(random *rand.Rand, most int) []api.Entry {
	var v []api.Entry
	for author := range most {
		if random.Intn(2) == 0 {
			v = append(v, api.Entry{Author: author, Seq: 1 + random.Intn(1<<(1+random.Intn(32))-1)})
		}
	}
	return v
}

func TestL2Some(t *testing.T) {
	random := rand.New(rand.NewSource(12))
	for range 2000 {
		most := 1 + random.Intn(40)
		var authors []int
		for author := range most {
			authors = append(authors, author)
		}
		checkPair(t, someVector(random, most), someVector(random, most), authors)
	}
}

// TestL2Large: a vector of a million authors, with the greatest Seqs.
func TestL2Large(t *testing.T) {
	const n = 1000000
	v := make([]api.Entry, n)
	for i := range v {
		v[i] = api.Entry{Author: authors - n + i, Seq: maxCount}
	}
	if !Vector(v) || Gap(nil, v) != n*maxCount || Gap(v, nil) != 0 || !Covers(v, v) || Covers(v[1:], v) || !slices.Equal(Join(v[:n/2], v[n/3:]), v) {
		t.Error("a vector of many")
	}
}

// TestR1: vectors stay as they were; answers are the caller's, behind no vector's end.
func TestR1(t *testing.T) {
	room := vec(1, 1, 5, 3, 9, 1, 70, 7, 80, 8)
	a, b := room[:3], vec(5, 4, 6, 1)
	kept, keptB := slices.Clone(room), slices.Clone(b)
	answers := map[string]func() []api.Entry{
		"Join":       func() []api.Entry { return Join(a, b) },
		"Join back":  func() []api.Entry { return Join(b, a) },
		"Join a nil": func() []api.Entry { return Join(a, nil) },
		"Join nil a": func() []api.Entry { return Join(nil, a) },
		"With same":  func() []api.Entry { return With(a, 5, 2) },
		"With more":  func() []api.Entry { return With(a, 5, 9) },
		"With new":   func() []api.Entry { return With(a, 6, 9) },
		"With last":  func() []api.Entry { return With(a, 10, 9) },
	}
	for name, answer := range answers {
		want := slices.Clone(answer())
		got := answer()
		for i := range got {
			got[i] = api.Entry{Author: -9, Seq: -9}
		}
		_ = append(got, api.Entry{Author: -9, Seq: -9})
		if !slices.Equal(room, kept) || !slices.Equal(b, keptB) {
			t.Fatalf("%s: %v, %v became %v, %v", name, kept, keptB, room, b)
		}
		got = answer()
		clear(room)
		clear(b)
		if !slices.Equal(got, want) {
			t.Errorf("%s: %v, not %v: what was handed in is kept", name, got, want)
		}
		copy(room, kept)
		copy(b, keptB)
		checkVector(t, answer(), want)
	}
	Vector(a)
	Seq(a, 5)
	Covers(a, b)
	Gap(a, b)
	if !slices.Equal(room, kept) || !slices.Equal(b, keptB) {
		t.Errorf("%v, %v became %v, %v", kept, keptB, room, b)
	}
}

// TestR2: of lists that are no vectors, and numbers that are none, all end.
func TestR2(t *testing.T) {
	odd := []int{math.MinInt, -1, 0, 1, 5, maxCount + 1, math.MaxInt}
	random := rand.New(rand.NewSource(22))
	some := func() []api.Entry {
		var v []api.Entry
		for range random.Intn(6) {
			v = append(v, api.Entry{Author: odd[random.Intn(len(odd))], Seq: odd[random.Intn(len(odd))]})
		}
		return v
	}
	for range 20000 {
		a, b := some(), some()
		Vector(a)
		Join(a, b)
		Covers(a, b)
		Gap(a, b)
		for _, n := range odd {
			Seq(a, n)
			With(a, n, odd[random.Intn(len(odd))])
		}
	}
}
