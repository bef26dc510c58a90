package cursor

import (
	"cmp"
	"math"
	"math/rand"
	"slices"
	"testing"

	"foolscap/api"
	"foolscap/rga"
)

// The calls, as the chapter writes them.
var (
	_ func(t *rga.Text, a api.Anchor) (int, api.Errno)                 = Place
	_ func(t *rga.Text, place int, ahead bool) (api.Anchor, api.Errno) = Hold
	_ func(bounds []bool, place int) int                               = Snap
	_ func(bounds []bool, place int) int                               = Left
	_ func(bounds []bool, place int) int                               = Right
)

func id(ctr, author int) api.ID { return api.ID{Ctr: ctr, Author: author} }

func behind(e api.ID) api.Anchor { return api.Anchor{ID: e} }

func ahead(e api.ID) api.Anchor { return api.Anchor{ID: e, Ahead: true} }

// story is operations as several do them, and the text that they make.
type story struct {
	t   *testing.T
	ops []api.Op
	seq map[int]int
	x   *rga.Text
}

func begin(t *testing.T) *story {
	return &story{t: t, seq: map[int]int{}, x: rga.New()}
}

// put is the ID of an operation that is done now.
func (s *story) put(author int, ins bool, ref api.ID) api.ID {
	s.t.Helper()
	s.seq[author]++
	op := api.Op{ID: id(s.x.Top()+1, author), Seq: s.seq[author], Ins: ins, Ref: ref}
	if ins {
		op.Rune = rune('a' + len(s.ops)%26)
	}
	return s.know(op)
}

// know takes in an operation.
func (s *story) know(op api.Op) api.ID {
	s.t.Helper()
	if ok, e := s.x.Put(op); !ok || e != api.OK {
		s.t.Fatalf("%v after %v: %v, %v", op, s.ops, ok, e)
	}
	s.ops = append(s.ops, op)
	return op.ID
}

func (s *story) ins(author int, ref api.ID) api.ID { s.t.Helper(); return s.put(author, true, ref) }

func (s *story) del(author int, ref api.ID) { s.t.Helper(); s.put(author, false, ref) }

// node is an element, as chapter 14's words have it.
type node struct {
	id    api.ID
	alive bool
}

// walk is the elements in the order of chapter 14's words: from the zero ID on, of each it
// itself, then those whose Ref it is, by falling IDs.
func (s *story) walk() []node {
	next := map[api.ID][]api.ID{}
	dead := map[api.ID]bool{}
	for _, op := range s.ops {
		if op.Ins {
			next[op.Ref] = append(next[op.Ref], op.ID)
		} else {
			dead[op.Ref] = true
		}
	}
	for _, l := range next { // rising: what is on top of the stack comes first
		slices.SortFunc(l, func(a, b api.ID) int {
			return cmp.Or(cmp.Compare(a.Ctr, b.Ctr), cmp.Compare(a.Author, b.Author))
		})
	}
	var l []node
	stack := slices.Clone(next[api.ID{}])
	for len(stack) > 0 {
		e := stack[len(stack)-1]
		stack = append(stack[:len(stack)-1], next[e]...)
		l = append(l, node{e, !dead[e]})
	}
	return l
}

// alive is the IDs of those that are alive, in order.
func (s *story) alive() []api.ID {
	var l []api.ID
	for _, n := range s.walk() {
		if n.alive {
			l = append(l, n.id)
		}
	}
	return l
}

// place is what the chapter's words say of an anchor; false, if its ID is no element's.
func (s *story) place(a api.Anchor) (int, bool) {
	n := 0
	for _, e := range s.walk() {
		if e.id == a.ID {
			if e.alive && !a.Ahead {
				n++
			}
			return n, true
		}
		if e.alive {
			n++
		}
	}
	switch {
	case a == api.Anchor{}:
		return 0, true
	case a == api.Anchor{Ahead: true}:
		return n, true
	}
	return 0, false
}

// noElements are IDs that no element of these tests has; the zero ID is not among them.
func noElements() []api.ID {
	return []api.ID{{Author: 1}, {Author: -1}, {Ctr: -1}, {Ctr: 1, Author: -1}, {Ctr: 1, Author: 77}, {Ctr: 1, Author: 1 << 22},
		{Ctr: api.MaxCtr}, {Ctr: api.MaxCtr + 1}, {Ctr: math.MaxInt, Author: math.MaxInt}, {Ctr: math.MinInt, Author: math.MinInt}}
}

// noPlaces are places that no text of n characters has.
func noPlaces(n int) []int { return []int{-1, -2, n + 1, n + 2, math.MinInt, math.MaxInt} }

// wantPlace asks for the place of an anchor.
func (s *story) wantPlace(a api.Anchor) {
	s.t.Helper()
	want, there := s.place(a)
	wantE := api.OK
	if !there {
		wantE = api.ErrNone
	}
	if got, e := Place(s.x, a); got != want || e != wantE {
		s.t.Fatalf("%v: Place(%v) = %d, %v, not %d, %v", s.ops, a, got, e, want, wantE)
	}
}

// wantHold asks for the anchor of a place that there is.
func (s *story) wantHold(place int, is bool, want api.Anchor) {
	s.t.Helper()
	got, e := Hold(s.x, place, is)
	if got != want || e != api.OK {
		s.t.Fatalf("%v: Hold(%d, %v) = %v, %v, not %v", s.ops, place, is, got, e, want)
	}
	if back, e := Place(s.x, got); back != place || e != api.OK {
		s.t.Fatalf("%v: Place(Hold(%d, %v)) = %d, %v", s.ops, place, is, back, e)
	}
}

// check asks for all anchors and all places that the text has, and for some that it has not.
func (s *story) check() {
	s.t.Helper()
	for _, e := range append(noElements(), api.ID{}) {
		s.wantPlace(behind(e))
		s.wantPlace(ahead(e))
	}
	for _, n := range s.walk() {
		s.wantPlace(behind(n.id))
		s.wantPlace(ahead(n.id))
	}
	l := append(append([]api.ID{{}}, s.alive()...), api.ID{})
	for place := range len(l) - 1 {
		s.wantHold(place, false, behind(l[place]))
		s.wantHold(place, true, ahead(l[place+1]))
	}
	for _, place := range noPlaces(len(l) - 2) {
		for _, is := range []bool{false, true} {
			if a, e := Hold(s.x, place, is); a != (api.Anchor{}) || e != api.ErrRange {
				s.t.Fatalf("%v: Hold(%d, %v) = %v, %v", s.ops, place, is, a, e)
			}
		}
	}
}

// abc is a text of three characters, all of one author.
func abc(t *testing.T) (s *story, a, b, c api.ID) {
	s = begin(t)
	a = s.ins(0, api.ID{})
	b = s.ins(0, a)
	c = s.ins(0, b)
	return s, a, b, c
}

func TestPlace(t *testing.T) {
	s, a, b, c := abc(t)
	s.del(1, b)
	for _, y := range []struct {
		a    api.Anchor
		want int
	}{
		{behind(api.ID{}), 0}, {ahead(api.ID{}), 2},
		{ahead(a), 0}, {behind(a), 1},
		{ahead(b), 1}, {behind(b), 1}, // not alive: behind it is where it was
		{ahead(c), 1}, {behind(c), 2},
	} {
		if got, e := Place(s.x, y.a); got != y.want || e != api.OK {
			t.Errorf("Place(%v) = %d, %v, not %d", y.a, got, e, y.want)
		}
	}
	for _, e := range append(noElements(), id(4, 1)) { // 4, 1 is the deletion's own
		for _, a := range []api.Anchor{behind(e), ahead(e)} {
			if got, e := Place(s.x, a); got != 0 || e != api.ErrNone {
				t.Errorf("Place(%v) = %d, %v, not ErrNone", a, got, e)
			}
		}
	}
}

func TestHold(t *testing.T) {
	s, a, b, c := abc(t)
	s.del(1, b)
	s.wantHold(0, false, api.Anchor{})
	s.wantHold(1, false, behind(a))
	s.wantHold(2, false, behind(c))
	s.wantHold(0, true, ahead(a))
	s.wantHold(1, true, ahead(c))
	s.wantHold(2, true, api.Anchor{Ahead: true})
	for _, place := range noPlaces(2) {
		for _, is := range []bool{false, true} {
			if a, e := Hold(s.x, place, is); a != (api.Anchor{}) || e != api.ErrRange {
				t.Errorf("Hold(%d, %v) = %v, %v, not ErrRange", place, is, a, e)
			}
		}
	}
}

// A text without elements, and one whose elements are all gone, have the place 0 alone.
func TestNothing(t *testing.T) {
	s := begin(t)
	s.check()
	s.wantHold(0, false, api.Anchor{})
	s.wantHold(0, true, api.Anchor{Ahead: true})
	a := s.ins(0, api.ID{})
	b := s.ins(1, a)
	s.check()
	s.del(1, a)
	s.del(0, b)
	s.check()
	s.wantHold(0, false, api.Anchor{})
	s.wantHold(0, true, api.Anchor{Ahead: true})
	s.wantPlace(behind(b))
}

// What no call of rga made is asked like a text without elements, and nothing panics (R2).
func TestNoText(t *testing.T) {
	for _, x := range []*rga.Text{nil, {}} {
		for _, is := range []bool{false, true} {
			zero := api.Anchor{Ahead: is}
			if got, e := Place(x, zero); got != 0 || e != api.OK {
				t.Errorf("Place(%v) = %d, %v", zero, got, e)
			}
			for _, no := range noElements() {
				if got, e := Place(x, api.Anchor{ID: no, Ahead: is}); got != 0 || e != api.ErrNone {
					t.Errorf("Place(%v, %v) = %d, %v", no, is, got, e)
				}
			}
			if got, e := Hold(x, 0, is); got != zero || e != api.OK {
				t.Errorf("Hold(0, %v) = %v, %v", is, got, e)
			}
			for _, place := range noPlaces(0) {
				if got, e := Hold(x, place, is); got != (api.Anchor{}) || e != api.ErrRange {
					t.Errorf("Hold(%d, %v) = %v, %v", place, is, got, e)
				}
			}
		}
	}
}

// The same places, of anchors by hand, as the text changes: the held stays with its element.
func TestStays(t *testing.T) {
	s, a, b, c := abc(t)
	back, e1 := Hold(s.x, 2, false) // behind b
	on, e2 := Hold(s.x, 2, true)    // ahead of c
	first, e3 := Hold(s.x, 0, false)
	last, e4 := Hold(s.x, 3, true)
	if e := cmp.Or(e1, e2, e3, e4); e != api.OK {
		t.Fatal(e)
	}
	want := func(what string, places ...int) {
		t.Helper()
		for i, a := range []api.Anchor{first, back, on, last} {
			if got, e := Place(s.x, a); got != places[i] || e != api.OK {
				t.Errorf("%s: Place(%v) = %d, %v, not %d", what, a, got, e, places[i])
			}
		}
	}
	want("abc", 0, 2, 2, 3)
	x := s.ins(1, b)
	want("abxc", 0, 2, 3, 4)
	s.ins(2, api.ID{})
	want("yabxc", 0, 3, 4, 5)
	s.ins(2, c)
	want("yabxcz", 0, 3, 4, 6)
	s.del(0, b)
	want("yaxcz", 0, 2, 3, 5)
	s.del(0, c)
	want("yaxz", 0, 2, 3, 4)
	s.ins(2, b) // behind one that is not alive, ahead of x
	want("yawxz", 0, 2, 4, 5)
	s.del(1, x)
	s.del(1, a)
	want("ywz", 0, 1, 2, 3)
}

// others does some things more, at places and of authors as they fall.
func (s *story) others(rnd *rand.Rand, n int) {
	s.t.Helper()
	for range n {
		l := s.walk()
		at := rnd.Intn(len(l) + 1)
		switch author := rnd.Intn(4); {
		case at == len(l):
			s.ins(author, api.ID{})
		case rnd.Intn(5) < 3:
			s.ins(author, l[at].id)
		default:
			s.del(author, l[at].id)
		}
	}
}

// Texts as they fall: all anchors and places of them, as the words say.
func TestThrown(t *testing.T) {
	rnd := rand.New(rand.NewSource(18))
	for range 60 {
		s := begin(t)
		for range 6 {
			s.others(rnd, rnd.Intn(8))
			s.check()
		}
	}
}

// held is an anchor, and its place when it was held.
type held struct {
	a     api.Anchor
	place int
}

// All places of texts as they fall are held, both ways; then others write. The place stays
// with what it is held at, and whoever knows the same tells the same place (P1).
func TestStaysThrown(t *testing.T) {
	rnd := rand.New(rand.NewSource(181))
	for range 60 {
		s := begin(t)
		s.others(rnd, rnd.Intn(20))
		var l []held
		for place := range s.x.Len() + 1 {
			for _, is := range []bool{false, true} {
				a, e := Hold(s.x, place, is)
				if e != api.OK {
					t.Fatal(e)
				}
				l = append(l, held{a, place})
			}
		}
		for range 5 {
			s.others(rnd, rnd.Intn(5))
			other := s.retold(rnd)
			for _, h := range l {
				s.wantPlace(h.a)
				got, e := Place(s.x, h.a)
				if there, f := Place(other, h.a); there != got || f != e || e != api.OK {
					t.Fatalf("%v: %v held at %d: %d, %v, and %d, %v", s.ops, h.a, h.place, got, e, there, f)
				}
			}
		}
	}
}

// retold is a text that came to know the same in another order.
func (s *story) retold(rnd *rand.Rand) *rga.Text {
	x := rga.New()
	rest := slices.Clone(s.ops)
	for len(rest) > 0 {
		at := rnd.Intn(len(rest))
		if ok, _ := x.Put(rest[at]); ok {
			rest = slices.Delete(rest, at, at+1)
		}
	}
	return x
}

// A call changes nothing of the text (R1), and answers the same again (R4).
func TestNothingChanges(t *testing.T) {
	s, a, b, c := abc(t)
	s.del(0, b)
	runes, all, ops := s.x.Visible(), s.x.All(), s.x.Ops()
	for range 2 {
		for _, e := range append(noElements(), a, b, c, api.ID{}) {
			s.wantPlace(behind(e))
			s.wantPlace(ahead(e))
		}
		for place := range s.x.Len() + 1 {
			Hold(s.x, place, false)
			Hold(s.x, place, true)
		}
		Hold(s.x, -1, false)
		if !slices.Equal(s.x.Visible(), runes) || !slices.Equal(s.x.All(), all) || !slices.Equal(s.x.Ops(), ops) {
			t.Fatalf("the text has changed: %v", s.x.Ops())
		}
	}
}

// A long text: places far from both ends, and behind many that are not alive.
func TestLong(t *testing.T) {
	s := begin(t)
	var at api.ID
	var l []api.ID
	for range 1000 {
		at = s.ins(0, at)
		l = append(l, at)
	}
	for i, e := range l {
		if i%3 == 1 {
			s.del(1, e)
		}
	}
	s.check()
}
