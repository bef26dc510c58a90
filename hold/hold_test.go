package hold

import (
	"math"
	"math/rand"
	"slices"
	"testing"

	"foolscap/api"
)

// The calls, as the chapter writes them.
type calls interface {
	Add(op api.Op) api.Errno
	Ready(may func(api.Op) bool) (api.Op, bool)
	Drop(old func(api.Op) bool) int
	Len() int
	Room() int
	All() []api.Op
	Has(author, seq int) bool
}

var _ calls = New(0)

// op is an operation of an author and Seq; mark tells two of them apart.
func op(author, seq, mark int) api.Op {
	return api.Op{ID: api.ID{Ctr: mark, Author: author}, Seq: seq, Ins: true, Rune: rune('a' + mark)}
}

func all(api.Op) bool  { return true }
func none(api.Op) bool { return false }

// same tells whether two operations are the same one, for a hold.
func same(a, b api.Op) bool { return a.ID.Author == b.ID.Author && a.Seq == b.Seq }

// ahead tells whether a stands ahead of b.
func ahead(a, b api.Op) bool {
	if a.ID.Author != b.ID.Author {
		return a.ID.Author < b.ID.Author
	}
	return a.Seq < b.Seq
}

// pair is a hold, and beside it what the chapter says of it: its operations, in the order
// in which they were added.
type pair struct {
	h    *Hold
	room int
	ops  []api.Op
}

func newPair(room int) *pair { return &pair{h: New(room), room: max(0, room)} }

// least is the first in order of those of which is says so, by looking at all pairs.
func (p *pair) least(is func(api.Op) bool) (api.Op, bool) {
	best, ok := api.Op{}, false
	for _, o := range p.ops {
		if is(o) && (!ok || ahead(o, best)) {
			best, ok = o, true
		}
	}
	return best, ok
}

// without takes all of which is says so away.
func (p *pair) without(is func(api.Op) bool) int {
	stay := []api.Op{}
	for _, o := range p.ops {
		if !is(o) {
			stay = append(stay, o)
		}
	}
	n := len(p.ops) - len(stay)
	p.ops = stay
	return n
}

// ordered are all, the least one first.
func (p *pair) ordered() []api.Op {
	l := []api.Op{}
	rest := pair{ops: p.ops}
	for {
		first, ok := rest.least(all)
		if !ok {
			return l
		}
		l = append(l, first)
		rest.without(func(o api.Op) bool { return same(o, first) })
	}
}

func (p *pair) has(o api.Op) bool {
	return slices.ContainsFunc(p.ops, func(x api.Op) bool { return same(x, o) })
}

func (p *pair) add(t *testing.T, o api.Op) {
	t.Helper()
	want := api.OK
	if !p.has(o) {
		if len(p.ops) >= p.room {
			want = api.ErrFull
		} else {
			p.ops = append(p.ops, o)
		}
	}
	if e := p.h.Add(o); e != want {
		t.Fatalf("%v: Add(%v) = %v, not %v", p.ops, o, e, want)
	}
	p.check(t)
}

func (p *pair) ready(t *testing.T, may func(api.Op) bool) {
	t.Helper()
	want, ok := p.least(may)
	if ok {
		p.without(func(o api.Op) bool { return same(o, want) })
	}
	if o, is := p.h.Ready(may); o != want || is != ok {
		t.Fatalf("%v: Ready = %v, %v, not %v, %v", p.ops, o, is, want, ok)
	}
	p.check(t)
}

func (p *pair) drop(t *testing.T, old func(api.Op) bool) {
	t.Helper()
	want := p.without(old)
	if n := p.h.Drop(old); n != want {
		t.Fatalf("%v: Drop = %d, not %d", p.ops, n, want)
	}
	p.check(t)
}

// check asks for all that a hold tells.
func (p *pair) check(t *testing.T) {
	t.Helper()
	if l := p.h.All(); !slices.Equal(l, p.ordered()) {
		t.Fatalf("All = %v, not %v", l, p.ordered())
	}
	if p.h.Len() != len(p.ops) || p.h.Room() != p.room-len(p.ops) {
		t.Fatalf("%v: Len %d, Room %d of %d", p.ops, p.h.Len(), p.h.Room(), p.room)
	}
	p.checkHas(t)
}

// checkHas asks for each one that is there, and for its neighbours.
func (p *pair) checkHas(t *testing.T) {
	t.Helper()
	asked := append([]api.Op{{}}, p.ops...)
	for _, o := range asked {
		for _, x := range []api.Op{o, op(o.ID.Author, o.Seq+1, 0), op(o.ID.Author, o.Seq-1, 0), op(o.ID.Author+1, o.Seq, 0), op(o.ID.Author-1, o.Seq, 0), op(o.Seq, o.ID.Author, 0)} {
			if p.h.Has(x.ID.Author, x.Seq) != p.has(x) {
				t.Fatalf("%v: Has(%d, %d) = %v", p.ops, x.ID.Author, x.Seq, !p.has(x))
			}
		}
	}
}

// TestExample: the chapter's.
func TestExample(t *testing.T) {
	h := New(1)
	if e := h.Add(op(5, 2, 0)); e != api.OK {
		t.Error(e)
	}
	if e := h.Add(op(5, 2, 0)); e != api.OK {
		t.Error(e)
	}
	if e := h.Add(op(5, 1, 0)); e != api.ErrFull {
		t.Error(e)
	}
	if l := h.All(); len(l) != 1 || l[0] != op(5, 2, 0) {
		t.Error(l)
	}
}

// TestS1Empty: what one tells that has none.
func TestS1Empty(t *testing.T) {
	p := newPair(3)
	p.check(t)
	p.ready(t, all)
	p.drop(t, all)
	if p.h.Len() != 0 || p.h.Room() != 3 || len(p.h.All()) != 0 || p.h.Has(0, 0) {
		t.Error(p.h.Len(), p.h.Room(), p.h.All())
	}
}

// TestS1Room: no room is below 0, and none is made ahead of what comes.
func TestS1Room(t *testing.T) {
	for _, room := range []int{math.MinInt, math.MinInt + 1, -4096, -2, -1, 0} {
		p := newPair(room)
		p.check(t)
		p.add(t, op(1, 1, 0))
		if p.h.Room() != 0 || p.h.Len() != 0 {
			t.Fatal(room, p.h.Room())
		}
	}
	for _, room := range []int{1, 2, 3, 64, 4096, math.MaxInt - 1, math.MaxInt} {
		p := newPair(room)
		p.add(t, op(1, 1, 0))
		if p.h.Room() != room-1 {
			t.Fatal(room, p.h.Room())
		}
	}
}

// TestS1Full: at each room the last one that fits, the first one that does not, and what
// may be added once one has gone.
func TestS1Full(t *testing.T) {
	for room := range 12 {
		p := newPair(room)
		for i := range room + 3 {
			p.add(t, op(i*7%13, i, 0))
		}
		for i := range room + 3 {
			p.add(t, op(i*7%13, i, 1)) // those that are there: OK; those that are not: ErrFull
		}
		p.ready(t, all)
		p.add(t, op(-1, 0, 0))
		p.add(t, op(-2, 0, 0))
		p.drop(t, func(o api.Op) bool { return o.Seq%2 == 0 })
		for i := range room + 3 {
			p.add(t, op(20-i, i, 2))
		}
	}
}

// TestS1FirstStays: of two that are the same one the first stays, however they differ.
func TestS1FirstStays(t *testing.T) {
	first := api.Op{ID: api.ID{Ctr: 5, Author: 7}, Seq: 3, Ins: true, Ref: api.ID{Ctr: 1, Author: 2}, Rune: 'x'}
	others := []api.Op{first, {ID: api.ID{Author: 7}, Seq: 3}}
	o := first
	o.ID.Ctr = 4
	others = append(others, o)
	o = first
	o.Ins = false
	others = append(others, o)
	o = first
	o.Ref.Ctr, o.Rune = 9, 'y'
	others = append(others, o)
	for _, room := range []int{1, 2, 9} {
		p := newPair(room)
		p.add(t, first)
		for _, o := range others {
			p.add(t, o)
		}
		if l := p.h.All(); len(l) != 1 || l[0] != first {
			t.Fatal(room, l)
		}
		p.ready(t, all)
		p.add(t, others[1]) // the first one has gone, and another may come
		p.ready(t, all)
	}
}

// keys are all operations of few authors and Seqs.
func keys() []api.Op {
	l := []api.Op{}
	for author := range 3 {
		for seq := range 2 {
			l = append(l, op(author, seq, 0))
		}
	}
	return l
}

// filled is a pair with those of keys whose bits are set, added in an order by turn.
func filled(t *testing.T, room, set, turn int) *pair {
	t.Helper()
	l := keys()
	p := newPair(room)
	for i := range l {
		at := (i*5 + turn) % len(l) // 5 and 6 have no common divisor: each comes once
		if set>>at&1 == 1 {
			p.add(t, l[at])
		}
	}
	return p
}

// in asks whether an operation is of a set, by its bit.
func in(set int) func(api.Op) bool {
	return func(o api.Op) bool { return set>>(o.ID.Author*2+o.Seq)&1 == 1 }
}

// TestS1Orders: added in all orders, they are kept in one.
func TestS1Orders(t *testing.T) {
	var orders func(done, rest []api.Op)
	orders = func(done, rest []api.Op) {
		if len(rest) == 0 {
			p := newPair(6)
			for _, o := range done {
				p.add(t, o)
			}
			if !slices.Equal(p.h.All(), keys()) {
				t.Fatal(done, p.h.All())
			}
		}
		for i := range rest {
			orders(append(slices.Clone(done), rest[i]), slices.Delete(slices.Clone(rest), i, i+1))
		}
	}
	orders(nil, keys())
}

// TestS1Sets: Ready and Drop of all holds of few operations, by all sets of them.
func TestS1Sets(t *testing.T) {
	for held := range 64 {
		for set := range 64 {
			p := filled(t, 6, held, set)
			p.ready(t, in(set))
			p.ready(t, in(set))
			p = filled(t, 6, held, set)
			p.drop(t, in(set))
			p.drop(t, in(set))
			p.add(t, op(1, 1, 2))
			p.drop(t, all)
		}
	}
}

// TestS1Rows: all rows of four calls, in all rooms up to three.
func TestS1Rows(t *testing.T) {
	steps := []func(p *pair){}
	for i, o := range []api.Op{op(1, 2, 0), op(1, 1, 0), op(0, 3, 0), op(2, 0, 0)} {
		o.Rune += rune(i)
		steps = append(steps, func(p *pair) { p.add(t, o) })
		steps = append(steps, func(p *pair) { p.ready(t, func(x api.Op) bool { return x == o }) })
		steps = append(steps, func(p *pair) { p.drop(t, func(x api.Op) bool { return x != o }) })
	}
	steps = append(steps, func(p *pair) { p.ready(t, all) }, func(p *pair) { p.ready(t, none) })
	n := len(steps)
	for room := range 4 {
		for row := range n * n * n * n {
			p := newPair(room)
			for range 4 {
				steps[row%n](p)
				row /= n
			}
		}
	}
}

// TestS1Asked: Ready asks in order, and no further than the first that may; Drop asks for
// each one, once.
func TestS1Asked(t *testing.T) {
	for stop := range 8 {
		p := filled(t, 6, 63, stop)
		asked := []api.Op{}
		got, ok := p.h.Ready(func(o api.Op) bool {
			asked = append(asked, o)
			return len(asked) == stop
		})
		want := keys()
		if 0 < stop && stop <= 6 {
			want = want[:stop]
			if !ok || got != want[stop-1] {
				t.Fatal(stop, got, ok)
			}
		} else if ok || got != (api.Op{}) {
			t.Fatal(stop, got, ok)
		}
		if !slices.Equal(asked, want) {
			t.Fatal(stop, asked)
		}
	}
	asked := []api.Op{}
	n := filled(t, 6, 63, 1).h.Drop(func(o api.Op) bool {
		asked = append(asked, o)
		return len(asked)%2 == 0
	})
	if n != 3 || !slices.Equal(asked, keys()) {
		t.Error(n, asked)
	}
}

// TestS1AsksTheHold: what is asked while Ready and Drop ask is told as it was.
func TestS1AsksTheHold(t *testing.T) {
	for held := range 64 {
		p := filled(t, 9, held, held)
		was := p.ordered()
		whole := func(o api.Op) bool {
			if !slices.Equal(p.h.All(), was) || p.h.Len() != len(was) || p.h.Room() != 9-len(was) || !p.h.Has(o.ID.Author, o.Seq) {
				t.Fatalf("%v: %v, %d, %d", was, p.h.All(), p.h.Len(), p.h.Room())
			}
			return o.Seq == 1
		}
		if n := p.h.Drop(whole); n != p.without(in(42)) {
			t.Fatal(was, n)
		}
		was = p.ordered()
		p.h.Ready(whole)
		p.check(t)
	}
}

// TestR2WrongCalls: functions that there are not say nothing, and one that calls the hold
// that asks it lets nothing panic.
func TestR2WrongCalls(t *testing.T) {
	for held := range 64 {
		p := filled(t, 6, held, 0)
		p.ready(t, none)
		p.drop(t, none)
		if o, ok := p.h.Ready(nil); o != (api.Op{}) || ok {
			t.Fatal(o, ok)
		}
		if n := p.h.Drop(nil); n != 0 {
			t.Fatal(n)
		}
		p.check(t)
	}
	inner := []func(h *Hold){
		func(h *Hold) { h.Drop(all) },
		func(h *Hold) { h.Ready(all) },
		func(h *Hold) { h.Add(op(0, -1, 0)) },
	}
	for held := range 64 {
		for _, do := range inner {
			for _, answer := range []bool{false, true} {
				h := filled(t, 8, held, 0).h
				is := func(api.Op) bool { do(h); return answer }
				h.Ready(is)
				h.Drop(is)
				if h.Len() != len(h.All()) || h.Room() != 8-h.Len() {
					t.Fatal(h.Len(), h.Room(), h.All())
				}
			}
		}
	}
}

// TestS2Numbers: authors and Seqs are numbers as any: none is looked at for being one that
// may be.
func TestS2Numbers(t *testing.T) {
	edges := []int{math.MinInt, math.MinInt + 1, -1, 0, 1, 1 << 22, api.MaxCtr, api.MaxCtr + 1, math.MaxInt - 1, math.MaxInt}
	p := newPair(len(edges) * len(edges))
	for i := range edges {
		for j := range edges {
			p.add(t, op(edges[(i*7+3)%10], edges[(j*3+i)%10], 0))
		}
	}
	if p.h.Room() != 0 || p.h.Len() != 100 {
		t.Fatal(p.h.Room(), p.h.Len())
	}
	for range 100 {
		p.ready(t, func(o api.Op) bool { return o.Seq >= 0 })
	}
	p.drop(t, all)
}

// TestS2Fields: what is told is what was added, each field of it.
func TestS2Fields(t *testing.T) {
	l := []api.Op{
		{},
		{ID: api.ID{Ctr: 1, Author: 2}, Seq: 3, Ins: true, Ref: api.ID{Ctr: 4, Author: 5}, Rune: 6},
		{ID: api.ID{Ctr: -1, Author: 2}, Seq: 4, Ref: api.ID{Ctr: math.MaxInt, Author: math.MinInt}, Rune: -7},
		{ID: api.ID{Ctr: math.MinInt, Author: 3}, Seq: -3, Rune: math.MaxInt32},
	}
	p := newPair(len(l))
	for _, o := range l {
		p.add(t, o)
	}
	for range l {
		p.ready(t, all)
	}
}

// TestR1Owners: lists that are told are the caller's, and two holds have nothing to do with
// each other.
func TestR1Owners(t *testing.T) {
	p, other := filled(t, 6, 63, 0), filled(t, 6, 21, 0)
	l := p.h.All()
	for i := range l {
		l[i] = op(9, 9, 9)
	}
	l = append(l[:2], l[3:]...)
	p.check(t)
	kept := p.h.All()
	p.drop(t, in(21))
	p.add(t, op(0, 0, 7))
	p.ready(t, all)
	other.check(t)
	if !slices.Equal(kept, keys()) {
		t.Error(kept, l)
	}
}

// TestFollowsOnce: whatever was added is there, once, until it is told, or dropped; by calls
// thrown together.
func TestFollowsOnce(t *testing.T) {
	r := rand.New(rand.NewSource(16))
	for range 300 {
		p := newPair(r.Intn(40) - 2)
		authors, seqs := 1+r.Intn(6), 1+r.Intn(12)
		for i := range 120 {
			author, seq := r.Intn(authors), r.Intn(seqs)
			switch k := r.Intn(10); {
			case k < 7:
				p.add(t, op(author, seq, i%26))
			case k == 7:
				p.ready(t, func(o api.Op) bool { return o.ID.Author >= author && o.Seq >= seq })
			case k == 8:
				p.ready(t, func(o api.Op) bool { return o.Seq == seq })
			default:
				p.drop(t, func(o api.Op) bool { return o.ID.Author == author && o.Seq <= seq })
			}
		}
		p.empty(t)
	}
}

// empty lets all go, one by one: each comes once.
func (p *pair) empty(t *testing.T) {
	t.Helper()
	want := p.ordered()
	for _, o := range want {
		if got, ok := p.h.Ready(all); got != o || !ok {
			t.Fatalf("%v, not %v", got, o)
		}
	}
	if got, ok := p.h.Ready(all); ok || got != (api.Op{}) || p.h.Len() != 0 {
		t.Fatalf("%v is left", got)
	}
}

// TestFollowsMany: as many as a replica's hold has room for, from behind and from ahead.
func TestFollowsMany(t *testing.T) {
	const n = 4096
	up, down := New(n), New(n)
	for i := range n {
		if e := up.Add(op(i/64, i%64, 0)); e != api.OK {
			t.Fatal(i, e)
		}
		if e := down.Add(op((n-1-i)/64, (n-1-i)%64, 0)); e != api.OK {
			t.Fatal(i, e)
		}
	}
	if !slices.Equal(up.All(), down.All()) || up.Room() != 0 || up.Add(op(64, 0, 0)) != api.ErrFull {
		t.Fatal(up.Len(), up.Room(), down.Len())
	}
	if k := up.Drop(func(o api.Op) bool { return o.Seq < 32 }); k != n/2 || up.Room() != n/2 {
		t.Fatal(k, up.Room())
	}
	for i := range n {
		if o, ok := down.Ready(all); !ok || o != op(i/64, i%64, 0) {
			t.Fatal(i, o, ok)
		}
	}
}
