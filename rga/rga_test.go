package rga

import (
	"cmp"
	"math"
	"math/rand"
	"slices"
	"testing"

	"foolscap/api"
	"foolscap/ident"
)

// The limits, as chapter 12 writes them.
const (
	maxCount = 4294967295 // 2^32 - 1
	authors  = 4194304    // 2^22
)

// The calls, as the chapter writes them.
type calls interface {
	Put(op api.Op) (bool, api.Errno)
	Visible() []rune
	IDs() []api.ID
	All() []api.ID
	Vector() []api.Entry
	Ops() []api.Op
	Has(id api.ID) bool
	Alive(id api.ID) bool
	Ahead(id api.ID) int
	At(place int) (api.ID, bool)
	Len() int
	Top() int
}

var _ calls = New()

func id(ctr, author int) api.ID { return api.ID{Ctr: ctr, Author: author} }

func ins(ctr, author, seq int, ref api.ID, c rune) api.Op {
	return api.Op{ID: id(ctr, author), Seq: seq, Ins: true, Ref: ref, Rune: c}
}

func del(ctr, author, seq int, ref api.ID) api.Op {
	return api.Op{ID: id(ctr, author), Seq: seq, Ref: ref}
}

// node is an element, as the chapter's words have it.
type node struct {
	op    api.Op
	alive bool
}

// walk is the elements that operations make, in the order of the chapter's words: from the
// zero ID on, of each it itself, then those whose Ref it is, by falling IDs. (A stack, not
// calls within calls: texts may be long.)
func walk(ops []api.Op) []node {
	behind := map[api.ID][]api.Op{}
	dead := map[api.ID]bool{}
	for _, op := range ops {
		if op.Ins {
			behind[op.Ref] = append(behind[op.Ref], op)
		} else {
			dead[op.Ref] = true
		}
	}
	for _, l := range behind { // rising: what is on top of the stack comes first
		slices.SortFunc(l, func(a, b api.Op) int {
			return cmp.Or(cmp.Compare(a.ID.Ctr, b.ID.Ctr), cmp.Compare(a.ID.Author, b.ID.Author))
		})
	}
	var l []node
	stack := slices.Clone(behind[api.ID{}])
	for len(stack) > 0 {
		op := stack[len(stack)-1]
		stack = append(stack[:len(stack)-1], behind[op.ID]...)
		l = append(l, node{op, !dead[op.ID]})
	}
	return l
}

// noElements are IDs that no element of these tests has.
func noElements() []api.ID {
	return []api.ID{{}, {Author: 1}, {Ctr: -1}, {Ctr: 1, Author: -1}, {Ctr: 1, Author: authors - 2}, {Ctr: 1, Author: authors},
		{Ctr: maxCount - 7}, {Ctr: maxCount + 1}, {Ctr: math.MaxInt, Author: math.MaxInt}, {Ctr: math.MinInt, Author: math.MinInt}}
}

// checkLists asks for all that a text tells as a list.
func checkLists(t *testing.T, x *Text, ops []api.Op, all []node) {
	t.Helper()
	var runes []rune
	var ids, every []api.ID
	for _, n := range all {
		every = append(every, n.op.ID)
		if n.alive {
			ids = append(ids, n.op.ID)
			runes = append(runes, n.op.Rune)
		}
	}
	if got := x.Visible(); !slices.Equal(got, runes) {
		t.Fatalf("%v: Visible = %q, not %q", ops, got, runes)
	}
	if got := x.IDs(); !slices.Equal(got, ids) {
		t.Fatalf("%v: IDs = %v, not %v", ops, got, ids)
	}
	if got := x.All(); !slices.Equal(got, every) {
		t.Fatalf("%v: All = %v, not %v", ops, got, every)
	}
	if got := x.Ops(); !slices.Equal(got, ops) {
		t.Fatalf("Ops = %v, not %v", got, ops)
	}
	var v []api.Entry
	for _, op := range ops {
		v = ident.With(v, op.ID.Author, op.Seq)
	}
	if got := x.Vector(); !slices.Equal(got, v) || !ident.Vector(got) {
		t.Fatalf("%v: Vector = %v, not %v", ops, got, v)
	}
}

// check asks for all that a text tells, if these operations are known, in this order.
func check(t *testing.T, x *Text, ops []api.Op) {
	t.Helper()
	all := walk(ops)
	checkLists(t, x, ops, all)
	ahead := 0
	for _, n := range all {
		e := n.op.ID
		if !x.Has(e) || x.Alive(e) != n.alive || x.Ahead(e) != ahead {
			t.Fatalf("%v: of %v: Has %v, Alive %v, Ahead %d, not %d", ops, e, x.Has(e), x.Alive(e), x.Ahead(e), ahead)
		}
		if n.alive {
			if got, ok := x.At(ahead); got != e || !ok {
				t.Fatalf("%v: At(%d) = %v, %v, not %v", ops, ahead, got, ok, e)
			}
			ahead++
		}
	}
	top := 0
	for _, op := range ops {
		top = max(top, op.ID.Ctr)
		if !op.Ins {
			checkNone(t, x, op.ID)
		}
	}
	if x.Len() != ahead || x.Top() != top {
		t.Fatalf("%v: Len %d, not %d, Top %d, not %d", ops, x.Len(), ahead, x.Top(), top)
	}
	for _, e := range noElements() {
		checkNone(t, x, e)
	}
	for _, place := range []int{-1, -2, ahead, ahead + 1, len(all), len(all) + 64, math.MinInt, math.MaxInt} {
		if got, ok := x.At(place); got != (api.ID{}) || ok {
			t.Fatalf("%v: At(%d) = %v, %v", ops, place, got, ok)
		}
	}
}

// checkNone asks for an ID that is no element's.
func checkNone(t *testing.T, x *Text, e api.ID) {
	t.Helper()
	if x.Has(e) || x.Alive(e) || x.Ahead(e) != 0 {
		t.Fatalf("of %v, which is none: Has %v, Alive %v, Ahead %d", e, x.Has(e), x.Alive(e), x.Ahead(e))
	}
}

// put does one that is taken.
func put(t *testing.T, x *Text, op api.Op) {
	t.Helper()
	if ok, e := x.Put(op); !ok || e != api.OK {
		t.Fatalf("Put(%+v) = %v, %v", op, ok, e)
	}
}

// putAll is a text of operations that are all taken.
func putAll(t *testing.T, ops []api.Op) *Text {
	t.Helper()
	x := New()
	for _, op := range ops {
		put(t, x, op)
	}
	return x
}

// refuse does one that is not taken: nothing has changed by it.
func refuse(t *testing.T, x *Text, op api.Op, want api.Errno) {
	t.Helper()
	ops := x.Ops()
	if ok, e := x.Put(op); ok || e != want {
		t.Fatalf("Put(%+v) = %v, %v, not %v", op, ok, e, want)
	}
	check(t, x, ops)
}

func TestN1New(t *testing.T) {
	check(t, New(), nil)
}

// TestN1Example: b a, then b a c.
func TestN1Example(t *testing.T) {
	ops := []api.Op{ins(1, 0, 1, api.ID{}, 'a'), ins(1, 1, 1, api.ID{}, 'b'), ins(2, 0, 2, id(1, 0), 'c')}
	x := New()
	for i, want := range []string{"a", "ba", "bac"} {
		put(t, x, ops[i])
		if got := string(x.Visible()); got != want {
			t.Errorf("%q, not %q", got, want)
		}
		check(t, x, ops[:i+1])
	}
}

// TestN1Order: those of one Ref by falling IDs, each with all that stands behind it.
func TestN1Order(t *testing.T) {
	ops := []api.Op{
		ins(1, 5, 1, api.ID{}, 'm'),
		ins(2, 5, 2, id(1, 5), 'a'),
		ins(2, 9, 1, id(1, 5), 'b'), // one Ctr: the greater author is ahead
		ins(3, 2, 1, id(1, 5), 'c'), // a greater Ctr, of a lesser author
		ins(4, 5, 3, id(2, 5), 'd'), // greater than all, but behind a
		ins(3, 9, 2, id(2, 9), 'e'), // behind b
		ins(2, 7, 1, id(1, 5), 'f'), // late: between b with e, and a with d
		ins(1, 4, 1, api.ID{}, 'g'), // behind m with all that stands behind it
		ins(6, 2, 2, api.ID{}, 'h'), // ahead of all
	}
	x := New()
	for i, want := range []string{"m", "ma", "mba", "mcba", "mcbad", "mcbead", "mcbefad", "mcbefadg", "hmcbefadg"} {
		put(t, x, ops[i])
		if got := string(x.Visible()); got != want {
			t.Fatalf("%q, not %q", got, want)
		}
		check(t, x, ops[:i+1])
	}
}

// TestN1Remove: what is not alive is still an element, and what others stand behind.
func TestN1Remove(t *testing.T) {
	ops := []api.Op{
		ins(1, 0, 1, api.ID{}, 'a'), ins(2, 0, 2, id(1, 0), 'b'), ins(3, 0, 3, id(2, 0), 'c'),
		del(4, 1, 1, id(2, 0)),
		del(5, 0, 4, id(2, 0)),      // again, by another one: known, and nothing more
		del(6, 0, 5, id(2, 0)),      // and by the same one
		ins(7, 1, 2, id(2, 0), 'd'), // behind it
		del(8, 1, 3, id(7, 1)),      // one's own
		del(9, 2, 1, id(1, 0)), del(9, 3, 1, id(3, 0)),
		ins(10, 0, 6, id(7, 1), 'e'),
	}
	x := New()
	for i, want := range []string{"a", "ab", "abc", "ac", "ac", "ac", "adc", "ac", "c", "", "e"} {
		put(t, x, ops[i])
		if got := string(x.Visible()); got != want {
			t.Fatalf("%d: %q, not %q", i, got, want)
		}
		check(t, x, ops[:i+1])
	}
	if x.Ahead(id(3, 0)) != 1 || x.Alive(id(3, 0)) || !x.Has(id(3, 0)) {
		t.Error("of one that is not alive: how many stand ahead of it")
	}
}

// TestN1Edges: the greatest and the least numbers that may be.
func TestN1Edges(t *testing.T) {
	ops := []api.Op{
		ins(1, 0, 1, api.ID{}, 0),
		ins(1, authors-1, 1, api.ID{}, 0x10FFFF),
		ins(maxCount-1, authors-1, 2, id(1, 0), 0xD7FF),
		ins(maxCount, authors-1, 3, id(maxCount-1, authors-1), 0xE000),
		del(maxCount, 0, 2, id(maxCount-1, authors-1)),
		ins(maxCount, 65536, 1, api.ID{}, 'z'),
	}
	x := New()
	for i, op := range ops {
		put(t, x, op)
		check(t, x, ops[:i+1])
	}
	refuse(t, x, ins(maxCount, 0, 3, api.ID{}, 'a'), api.ErrArg)
	refuse(t, x, ins(maxCount, 65536, 2, api.ID{}, 'a'), api.ErrArg)
	refuse(t, x, del(maxCount, 65537, 1, id(maxCount, 0)), api.ErrArg)        // Ref is no less
	refuse(t, x, del(maxCount, 65537, 1, id(maxCount-1, 0)), api.ErrState)    // and there is none such
	refuse(t, x, ins(maxCount, 65537, maxCount, api.ID{}, 'a'), api.ErrState) // a Seq that may be
}

// wrong are operations that are not right (12), by a change to op, which is.
func wrong(op api.Op) []api.Op {
	var l []api.Op
	with := func(change func(op *api.Op)) {
		o := op
		change(&o)
		l = append(l, o)
	}
	for _, n := range []int{0, -1, maxCount + 1, math.MinInt, math.MaxInt} {
		with(func(op *api.Op) { op.ID.Ctr = n })
		with(func(op *api.Op) { op.Seq = n })
		with(func(op *api.Op) { op.Ref = id(n, 1) })
	}
	for _, n := range []int{-1, authors, math.MinInt, math.MaxInt} {
		with(func(op *api.Op) { op.ID.Author = n })
		with(func(op *api.Op) { op.Ref = id(1, n) })
	}
	with(func(op *api.Op) { op.Ref = op.ID })
	with(func(op *api.Op) { op.Ref = id(op.ID.Ctr, 0) })
	with(func(op *api.Op) { op.Ref = id(op.ID.Ctr+1, 0) })
	if !op.Ins {
		with(func(op *api.Op) { op.Ref = api.ID{} })
		with(func(op *api.Op) { op.Rune = 'a' })
		with(func(op *api.Op) { op.Rune = -1 })
		return l
	}
	for _, c := range []rune{-1, 0xD800, 0xDFFF, 0x110000, math.MinInt32, math.MaxInt32} {
		with(func(op *api.Op) { op.Rune = c })
	}
	return l
}

// TestN1Wrong: ErrArg of what is not right, whatever else applies.
func TestN1Wrong(t *testing.T) {
	for _, x := range []*Text{New(), putAll(t, []api.Op{ins(1, 0, 1, api.ID{}, 'a'), ins(1, 1, 1, api.ID{}, 'b'), ins(2, 0, 2, id(1, 0), 'c')})} {
		for _, seq := range []int{1, 2, 3, 4, 9} { // one that is known, the next, one that is too far
			for _, op := range []api.Op{ins(5, 0, seq, api.ID{}, 'x'), ins(5, 0, seq, id(1, 0), 'x'), del(5, 0, seq, id(1, 0)), ins(2, 0, seq, id(1, 1), 'x')} {
				for _, w := range wrong(op) {
					refuse(t, x, w, api.ErrArg)
				}
			}
		}
		refuse(t, x, api.Op{}, api.ErrArg)
		refuse(t, x, api.Op{Ins: true}, api.ErrArg)
	}
}

// TestN1Known: false and OK, if the author's Seq is not below, whatever the rest of it is.
func TestN1Known(t *testing.T) {
	ops := []api.Op{ins(1, 0, 1, api.ID{}, 'a'), ins(3, 0, 2, id(1, 0), 'c'), del(5, 0, 3, id(1, 0))}
	x := putAll(t, ops)
	for _, op := range ops {
		refuse(t, x, op, api.OK)
	}
	for seq := 1; seq <= 3; seq++ {
		refuse(t, x, ins(9, 0, seq, api.ID{}, 'x'), api.OK)         // another one
		refuse(t, x, ins(1, 0, seq, api.ID{}, 'x'), api.OK)         // whose Ctr is not above
		refuse(t, x, ins(9, 0, seq, id(8, 8), 'x'), api.OK)         // whose Ref is not there
		refuse(t, x, del(9, 0, seq, id(8, 8)), api.OK)              // likewise
		refuse(t, x, del(9, 0, seq, id(3, 0)), api.OK)              // that would remove one
		refuse(t, x, ins(9, 1, seq+1, api.ID{}, 'x'), api.ErrState) // another author's
	}
}

// TestN1State: ErrState, if one ahead of it is not known, or there is no element of its Ref,
// even if its Ctr is not above the last one's.
func TestN1State(t *testing.T) {
	ops := []api.Op{ins(1, 0, 1, api.ID{}, 'a'), ins(4, 0, 2, id(1, 0), 'b'), del(5, 0, 3, id(1, 0)), ins(6, 1, 1, api.ID{}, 'c')}
	x := putAll(t, ops)
	for _, seq := range []int{5, 6, 100, maxCount - 1, maxCount} {
		refuse(t, x, ins(9, 0, seq, api.ID{}, 'x'), api.ErrState)
		refuse(t, x, ins(2, 0, seq, api.ID{}, 'x'), api.ErrState) // its Ctr is not above
		refuse(t, x, del(9, 0, seq, id(4, 0)), api.ErrState)
	}
	for _, seq := range []int{2, 3, maxCount} {
		refuse(t, x, ins(9, 2, seq, api.ID{}, 'x'), api.ErrState) // of an author that is not known
	}
	for _, ref := range []api.ID{{Ctr: 5}, {Ctr: 3}, {Ctr: 1, Author: 1}, {Ctr: 7}, {Ctr: 2, Author: 2}, {Ctr: 8, Author: authors - 1}} {
		refuse(t, x, ins(9, 0, 4, ref, 'x'), api.ErrState) // (5, 0) is an operation, but no element
		refuse(t, x, del(9, 0, 4, ref), api.ErrState)
		refuse(t, x, ins(9, 2, 1, ref, 'x'), api.ErrState)
	}
	refuse(t, x, ins(5, 0, 4, id(3, 0), 'x'), api.ErrState) // its Ctr is not above, either
	refuse(t, x, del(4, 0, 4, id(1, 1)), api.ErrState)
	refuse(t, New(), ins(1, 0, 2, api.ID{}, 'x'), api.ErrState)
	refuse(t, New(), ins(2, 0, 1, id(1, 0), 'x'), api.ErrState)
	refuse(t, New(), del(2, 0, 1, id(1, 0)), api.ErrState)
}

// TestN1Counter: ErrArg, if the Ctr is not above that of the author's operation ahead.
func TestN1Counter(t *testing.T) {
	ops := []api.Op{ins(1, 0, 1, api.ID{}, 'a'), ins(4, 0, 2, id(1, 0), 'b'), del(7, 0, 3, id(1, 0)), ins(20, 1, 1, api.ID{}, 'c')}
	x := putAll(t, ops)
	for ctr := 2; ctr <= 7; ctr++ {
		refuse(t, x, ins(ctr, 0, 4, id(1, 0), 'x'), api.ErrArg)
		refuse(t, x, ins(ctr, 0, 4, api.ID{}, 'x'), api.ErrArg)
		refuse(t, x, del(ctr, 0, 4, id(1, 0)), api.ErrArg)
	}
	put(t, x, ins(8, 0, 4, id(1, 0), 'x')) // just above its own; that others are above is no matter
	put(t, x, ins(2, 2, 1, id(1, 0), 'y'))
	check(t, x, append(ops, ins(8, 0, 4, id(1, 0), 'x'), ins(2, 2, 1, id(1, 0), 'y')))
	if x.Top() != 20 {
		t.Error(x.Top())
	}
}

// TestN2Top: the greatest Ctr is told of removals, too, and whatever came last.
func TestN2Top(t *testing.T) {
	x := New()
	ops := []api.Op{ins(3, 0, 1, api.ID{}, 'a'), ins(1, 1, 1, api.ID{}, 'b'), del(9, 0, 2, id(1, 1)), ins(4, 1, 2, id(1, 1), 'c')}
	for i, want := range []int{3, 3, 9, 9} {
		put(t, x, ops[i])
		if x.Top() != want {
			t.Errorf("Top = %d, not %d", x.Top(), want)
		}
	}
}

// nexts are operations that may come behind those that are known: of some authors, with
// some counters, behind or of each element.
func nexts(ops []api.Op) []api.Op {
	seq, ctr := map[int]int{}, map[int]int{}
	for _, op := range ops {
		seq[op.ID.Author], ctr[op.ID.Author] = op.Seq, op.ID.Ctr
	}
	var l []api.Op
	for author := range 3 {
		for _, c := range []int{ctr[author] + 1, ctr[author] + 2} {
			l = append(l, ins(c, author, seq[author]+1, api.ID{}, rune('a'+len(ops))))
			for _, n := range walk(ops) {
				if n.op.ID.Ctr < c {
					l = append(l, ins(c, author, seq[author]+1, n.op.ID, rune('a'+len(ops))), del(c, author, seq[author]+1, n.op.ID))
				}
			}
		}
	}
	return l
}

// TestAllSmall: all rows of up to four operations of three authors, by the chapter's words.
func TestAllSmall(t *testing.T) {
	var try func(ops []api.Op, depth int)
	try = func(ops []api.Op, depth int) {
		check(t, putAll(t, ops), ops)
		if depth == 0 {
			return
		}
		for _, op := range nexts(ops) {
			try(append(slices.Clone(ops), op), depth-1)
		}
	}
	try(nil, 4)
}

// orders hands over all orders of operations.
func orders(ops []api.Op, take func(l []api.Op)) {
	var swap func(k int)
	l := slices.Clone(ops)
	swap = func(k int) {
		if k == len(l) {
			take(l)
			return
		}
		for i := k; i < len(l); i++ {
			l[k], l[i] = l[i], l[k]
			swap(k + 1)
			l[k], l[i] = l[i], l[k]
		}
	}
	swap(0)
}

// deliver is a text that is handed all operations in an order, again and again, until it
// knows them all; those that it does not take are ErrState, or known.
func deliver(t *testing.T, ops []api.Op) *Text {
	t.Helper()
	x := New()
	var came []api.Op
	for len(came) < len(ops) {
		was := len(came)
		for _, op := range ops {
			ok, e := x.Put(op)
			if ok && e == api.OK {
				came = append(came, op)
			} else if known := slices.Contains(came, op); ok || known && e != api.OK || !known && e != api.ErrState {
				t.Fatalf("%v: Put(%+v) = %v, %v", came, op, ok, e)
			}
		}
		if len(came) == was {
			t.Fatalf("%v: no other one of %v is taken", came, ops)
		}
	}
	if !slices.Equal(x.Ops(), came) {
		t.Fatalf("Ops = %v, not %v", x.Ops(), came)
	}
	return x
}

// TestAllOrders: whoever knows the same operations has the same text, in whatever order
// they came.
func TestAllOrders(t *testing.T) {
	rows := [][]api.Op{
		{ins(1, 0, 1, api.ID{}, 'a'), ins(1, 1, 1, api.ID{}, 'b'), ins(2, 0, 2, id(1, 0), 'c'), ins(3, 1, 2, id(1, 0), 'd'), del(4, 0, 3, id(1, 0)), ins(2, 2, 1, id(1, 0), 'e'), ins(3, 2, 2, api.ID{}, 'f')},
		{ins(1, 0, 1, api.ID{}, 'a'), ins(1, 1, 1, api.ID{}, 'b'), ins(1, 2, 1, api.ID{}, 'c'), ins(1, 3, 1, api.ID{}, 'd'), ins(2, 4, 1, id(1, 1), 'e'), ins(2, 5, 1, id(1, 2), 'f'), ins(3, 6, 1, id(2, 4), 'g')},
		{ins(5, 0, 1, api.ID{}, 'a'), ins(9, 1, 1, id(5, 0), 'b'), ins(6, 2, 1, id(5, 0), 'c'), ins(10, 2, 2, id(6, 2), 'd'), del(7, 3, 1, id(6, 2)), del(11, 4, 1, id(6, 2)), ins(2, 5, 1, api.ID{}, 'e')},
	}
	for _, ops := range rows {
		first := deliver(t, ops)
		orders(ops, func(l []api.Op) {
			x := deliver(t, l)
			check(t, x, x.Ops())
			if !slices.Equal(x.All(), first.All()) || !slices.Equal(x.IDs(), first.IDs()) || !slices.Equal(x.Visible(), first.Visible()) {
				t.Fatalf("%v: %q, not %q", l, x.Visible(), first.Visible())
			}
		})
	}
}

// history is what some authors write, each of whom has a text of its own, and is told what
// others wrote late, in turn.
func history(t *testing.T, r *rand.Rand, writers, n int) []api.Op {
	t.Helper()
	texts := make([]*Text, writers)
	for i := range texts {
		texts[i] = New()
	}
	var ops []api.Op
	for len(ops) < n {
		w := r.Intn(writers)
		if r.Intn(3) == 0 {
			for _, op := range ops {
				texts[w].Put(op)
			}
		}
		author := 65536*w + w
		op := api.Op{ID: id(texts[w].Top()+1+r.Intn(2), author), Seq: ident.Seq(texts[w].Vector(), author) + 1, Ins: true, Rune: rune('a' + r.Intn(26))}
		if all := texts[w].All(); len(all) > 0 && r.Intn(5) > 0 {
			op.Ref = all[r.Intn(len(all))]
			if r.Intn(3) == 0 {
				op.Ins, op.Rune = false, 0
			}
		}
		put(t, texts[w], op)
		ops = append(ops, op)
	}
	return ops
}

// TestHistories: of what several wrote at once, in the order in which it was written and in
// others.
func TestHistories(t *testing.T) {
	r := rand.New(rand.NewSource(14))
	for k := range 150 {
		ops := history(t, r, 1+k%6, 1+r.Intn(80))
		first := putAll(t, ops)
		check(t, first, ops)
		for range 4 {
			l := slices.Clone(ops)
			r.Shuffle(len(l), func(i, k int) { l[i], l[k] = l[k], l[i] })
			x := deliver(t, l)
			check(t, x, x.Ops())
			if !slices.Equal(x.All(), first.All()) || !slices.Equal(x.IDs(), first.IDs()) || !slices.Equal(x.Vector(), first.Vector()) || x.Top() != first.Top() {
				t.Fatalf("%v: %q, not %q", l, x.Visible(), first.Visible())
			}
		}
	}
}

// TestLong: texts of some thousands, written on, at the beginning, and all over.
func TestLong(t *testing.T) {
	const n = 5000
	r := rand.New(rand.NewSource(41))
	refs := []func(ctr int) api.ID{
		func(ctr int) api.ID { return id(ctr-1, 0) },
		func(ctr int) api.ID { return api.ID{} },
		func(ctr int) api.ID { return id(1+r.Intn(ctr-1), 0) },
	}
	for _, ref := range refs {
		ops := []api.Op{ins(1, 0, 1, api.ID{}, 'a')}
		for ctr := 2; ctr <= n; ctr++ {
			ops = append(ops, ins(ctr, 0, ctr, ref(ctr), rune('a'+ctr%26)))
		}
		for seq := 1; seq <= n/2; seq++ {
			ops = append(ops, del(n+seq, 1, seq, id(1+r.Intn(n), 0)))
		}
		check(t, putAll(t, ops), ops)
	}
}

// TestManyAuthors: each wrote once.
func TestManyAuthors(t *testing.T) {
	var ops []api.Op
	for k := range 2000 {
		ops = append(ops, ins(1+k%3, k*1999%4194301, 1, api.ID{}, 'a'))
	}
	check(t, putAll(t, ops), ops)
}

// TestR1: what was answered may be written over.
func TestR1(t *testing.T) {
	ops := []api.Op{ins(1, 0, 1, api.ID{}, 'a'), ins(1, 1, 1, api.ID{}, 'b'), ins(2, 0, 2, id(1, 0), 'c'), del(3, 0, 3, id(1, 0))}
	x := putAll(t, ops)
	spoil := func() {
		for _, l := range [][]api.ID{x.IDs(), x.All()} {
			for i := range l {
				l[i] = id(99, 99)
			}
			_ = append(l, id(98, 98))
		}
		c, v, o := x.Visible(), x.Vector(), x.Ops()
		for i := range c {
			c[i] = '?'
		}
		for i := range v {
			v[i] = api.Entry{Author: 99, Seq: 99}
		}
		for i := range o {
			o[i] = api.Op{Seq: 99}
		}
		_, _, _ = append(c, '?'), append(v, api.Entry{}), append(o, api.Op{})
	}
	spoil()
	check(t, x, ops)
	was, ids, all, v, seen := x.Ops(), x.IDs(), x.All(), x.Vector(), x.Visible()
	more := ins(4, 1, 2, id(1, 0), 'd')
	put(t, x, more)
	spoil()
	check(t, x, append(slices.Clone(ops), more))
	if !slices.Equal(was, ops) || len(ids) != 2 || len(all) != 3 || !slices.Equal(v, []api.Entry{{Author: 0, Seq: 3}, {Author: 1, Seq: 1}}) || string(seen) != "bc" {
		t.Error("what was answered has changed", was, ids, all, v, seen)
	}
}

// TestR3: two texts have nothing to do with each other.
func TestR3(t *testing.T) {
	x, y := New(), New()
	put(t, x, ins(1, 0, 1, api.ID{}, 'a'))
	check(t, y, nil)
	put(t, y, ins(2, 0, 1, api.ID{}, 'b'))
	put(t, y, del(3, 0, 2, id(2, 0)))
	check(t, x, []api.Op{ins(1, 0, 1, api.ID{}, 'a')})
	check(t, y, []api.Op{ins(2, 0, 1, api.ID{}, 'b'), del(3, 0, 2, id(2, 0))})
}
