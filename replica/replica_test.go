package replica

import (
	"bytes"
	"math"
	"math/rand"
	"slices"
	"testing"

	"foolscap/api"
	"foolscap/frame"
	"foolscap/ident"
)

// chars is so many characters.
func chars(n int) []rune {
	l := make([]rune, n)
	for i := range l {
		l[i] = rune('a' + i%26)
	}
	return l
}

// TestExample: the chapter's.
func TestExample(t *testing.T) {
	r, e := New(0, 2, 8)
	if e != api.OK {
		t.Fatal(e)
	}
	ops, e := r.Insert(api.ID{}, []rune("ab"))
	want := []api.Op{ins(1, 0, 1, api.ID{}, 'a'), ins(2, 0, 2, id(1, 0), 'b')}
	if e != api.OK || !slices.Equal(ops, want) {
		t.Fatal(ops, e)
	}
	out := r.Out(1)
	if len(out) != 1 || !sameFrame(frameOf(t, out[0]), opsFrame(0, want...)) {
		t.Fatal(out)
	}
}

// TestBytes: what waits and what is saved is bytes as they are written by hand.
func TestBytes(t *testing.T) {
	r, _ := New(1, 3, 0)
	if want := written(3, 1, 0, 0, 1); !bytes.Equal(r.Saved(), want) {
		t.Errorf("saved is % x, not % x", r.Saved(), want)
	}
	r.Tick()
	r.Feed(written(1, 0, 0, 1, 1, 0, 1, 1, 0, 0, 'x', 0)) // x of the replica 0, behind zero
	r.Tick()
	r.Delete([]api.ID{id(1, 0)})
	a := []byte{0x80, 0x80, 4} // 65536
	want := [][]byte{written(2, 1, 0, 0, 0), written(2, 1, 1, 0, 1, 0, 0), written(1, 1, 0, 1, 2, a[0], a[1], a[2], 1, 0, 1, 0, 0)}
	for _, to := range []int{0, 2} {
		if out := r.Out(to); !slices.EqualFunc(out, want, bytes.Equal) {
			t.Errorf("Out(%d): % x, not % x", to, out, want)
		}
	}
	r.Save()
	if want := written(3, 1, 2, 0, 1, a[0], a[1], a[2], 1, 2, 1, 0, 1, 1, 0, 0, 'x', 2, a[0], a[1], a[2], 1, 0, 1, 0, 1); !bytes.Equal(r.Saved(), want) {
		t.Errorf("saved is % x, not % x", r.Saved(), want)
	}
}

// TestS1New: each number and count of replicas, and each edge of the room.
func TestS1New(t *testing.T) {
	edges := []int{math.MinInt, -65, -2, 67, 4096, 65536, math.MaxInt}
	numbers := append([]int{}, edges...)
	for i := -1; i <= 66; i++ {
		numbers = append(numbers, i)
	}
	for _, n := range numbers {
		for _, number := range numbers {
			if 1 <= n && n <= 64 && 0 <= number && number < n {
				if p := newPair(t, number, n, 3); number == 0 || number == n-1 {
					p.outs(t)
				}
			} else {
				wrongNew(t, number, n, 3)
			}
		}
	}
	for _, room := range []int{math.MinInt, -4096, -2, -1, 4097, 4098, 1 << 32, math.MaxInt} {
		wrongNew(t, 0, 1, room)
		wrongNew(t, 63, 64, room)
	}
	for _, room := range []int{0, 1, 2, 4095, 4096} {
		newPair(t, 0, 1, room).insert(t, api.ID{}, []rune("a"))
		newPair(t, 63, 64, room).insert(t, api.ID{}, []rune("a"))
	}
}

// wrongNew asks for what may not be: Restart says so ahead of all else.
func wrongNew(t *testing.T, number, n, room int) {
	t.Helper()
	if r, e := New(number, n, room); r != nil || e != api.ErrArg {
		t.Fatalf("New(%d, %d, %d) = %v, %v", number, n, room, r, e)
	}
	for _, b := range [][]byte{nil, []byte("what"), written(3, 0, 0, 0, 0), written(3, 0, 0, 0, 0x80, 0x80, 4), written(2, 0, 0, 0, 0)} {
		if r, e := Restart(number, n, room, b); r != nil || e != api.ErrArg {
			t.Fatalf("Restart(%d, %d, %d, % x) = %v, %v", number, n, room, b, r, e)
		}
	}
}

// story is operations of three authors that a text takes in this order.
func story() []api.Op {
	return []api.Op{
		ins(1, 0, 1, api.ID{}, 'a'),
		ins(1, 65536, 1, api.ID{}, 'b'),
		ins(2, 65536, 2, id(1, 0), 'c'),
		del(3, 0, 2, id(2, 65536)),
		ins(7, 131073, 1, id(2, 65536), 0x10FFFF),
		del(8, 65536, 3, id(1, 0)),
	}
}

// TestS1Restart: what is restarted is what was saved, in the round that comes next, and has
// no operation of that round yet.
func TestS1Restart(t *testing.T) {
	l := story()
	for n := range len(l) + 1 {
		for _, next := range []int{0, 1, 2, 255, 65534, 65535} {
			for number := range 3 {
				saved := bytesOf(t, saveFrame(number, next, l[:n]...))
				r, e := Restart(number, 3, 9, saved)
				if e != api.OK {
					t.Fatal(n, next, number, e)
				}
				w := newWords(number, 3, 9)
				w.round, w.known = next, slices.Clone(l[:n])
				w.save()
				p := &pair{r, w}
				p.check(t)
				p.outs(t)
				if ops, _ := p.r.Insert(api.ID{}, []rune("x")); n == len(l) && next > 2 && (ops[0].Seq != 1 || ops[0].ID != id(9, number*maxRounds+next)) {
					t.Fatal(ops)
				}
			}
		}
	}
}

// TestS1RestartOrder: operations are known in the order in which they were saved.
func TestS1RestartOrder(t *testing.T) {
	l := story()
	l[0], l[1] = l[1], l[0]
	r, e := Restart(2, 3, 0, bytesOf(t, saveFrame(2, 4, l...)))
	if e != api.OK || !slices.Equal(r.Text().Ops(), l) || string(r.Text().Visible()) != "b\U0010FFFF" {
		t.Fatal(e)
	}
}

// TestS1RestartForm: what is no frame of the kind, or from another one.
func TestS1RestartForm(t *testing.T) {
	right := bytesOf(t, saveFrame(1, 1, story()...))
	wrong := [][]byte{nil, {}, []byte("what"), right[1:], append(slices.Clone(right), 0), append(slices.Clone(right), right...),
		bytesOf(t, opsFrame(1, story()...)), bytesOf(t, opsFrame(1)), bytesOf(t, digest(1)), bytesOf(t, saveFrame(0, 1, story()...)),
		bytesOf(t, saveFrame(2, 1)), bytesOf(t, saveFrame(63, 1)), bytesOf(t, saveFrame(0, 65536)), written(2, 1, 0, 0, 0), written(3, 1, 0, 0, 0x81, 0x80, 4)}
	for i := range right {
		wrong = append(wrong, right[:i])
		spoilt := slices.Clone(right)
		spoilt[i] ^= 1
		wrong = append(wrong, spoilt)
	}
	for _, b := range wrong {
		if r, e := Restart(1, 3, 4, b); r != nil || e != api.ErrForm {
			t.Fatalf("Restart of % x = %v, %v", b, r, e)
		}
	}
	if _, e := Restart(1, 3, 4, right); e != api.OK {
		t.Fatal(e)
	}
}

// TestS1RestartLarge: a round that there is not, told ahead of what is wrong with the
// operations.
func TestS1RestartLarge(t *testing.T) {
	wrong := api.Frame{Kind: api.FrameSave, Vector: []api.Entry{{Author: 3, Seq: 3}}, Next: 65536}
	for _, f := range []api.Frame{saveFrame(0, 65536), saveFrame(0, 65536, story()...), saveFrame(0, 65536, story()[1:]...), wrong} {
		if r, e := Restart(0, 3, 4, bytesOf(t, f)); r != nil || e != api.ErrLarge {
			t.Fatalf("%v: %v", f, e)
		}
	}
	r, e := Restart(0, 1, 4, bytesOf(t, saveFrame(0, 65535)))
	if e != api.OK || r.Author() != 65535 || frameOf(t, r.Saved()).Next != 65536 {
		t.Fatal(e)
	}
	r.Insert(api.ID{}, []rune("a"))
	r.Save()
	if f := frameOf(t, r.Saved()); f.Next != 65536 || len(f.Ops) != 1 || f.Ops[0].ID.Author != 65535 {
		t.Fatal(f)
	}
	if r, e = Restart(0, 1, 4, r.Saved()); r != nil || e != api.ErrLarge {
		t.Fatal(e)
	}
}

// TestS1RestartTaken: each way in which a text may not take an operation, and each in which
// the vector may be another one.
func TestS1RestartTaken(t *testing.T) {
	l := story()
	frames := []api.Frame{
		saveFrame(1, 1, l[0], l[0]),                                  // twice
		saveFrame(1, 1, append(slices.Clone(l), l[2])...),            // twice, at the end
		saveFrame(1, 1, l[0], l[2], l[1]),                            // too early
		saveFrame(1, 1, l[3]),                                        // ahead of its author's first one
		saveFrame(1, 1, l[4]),                                        // its Ref is not there
		saveFrame(1, 1, l[0], l[4], l[1], l[2]),                      // not there yet
		saveFrame(1, 1, l[0], ins(1, 0, 2, api.ID{}, 'x')),           // the counter does not rise
		saveFrame(1, 1, l[0], ins(1, 65536, 1, id(0, 0), 'x'), l[0]), // the zero ID is a Ref, the last one is known
	}
	for _, f := range frames { // and with the vector of those that are taken
		w := newWords(1, 3, 0)
		for _, op := range f.Ops {
			w.put(op)
		}
		f.Vector = vectorOf(w.known)
		frames = append(frames, f)
	}
	frames = append(frames, saveFrame(1, 1, l[:2]...))
	frames[len(frames)-1].Ops = l[:1]
	for i := range vectorOf(l) {
		f := saveFrame(1, 1, l...)
		f.Vector[i].Seq++
		frames = append(frames, f)
		f = saveFrame(1, 1, l...)
		f.Vector = slices.Delete(f.Vector, i, i+1)
		frames = append(frames, f)
		f = saveFrame(1, 1, l...)
		f.Vector[i].Author++
		frames = append(frames, f)
		if f = saveFrame(1, 1, l...); f.Vector[i].Seq > 1 {
			f.Vector[i].Seq--
			frames = append(frames, f)
		}
	}
	more := saveFrame(1, 1, l...)
	more.Vector = append(more.Vector, api.Entry{Author: 1 << 21, Seq: 1})
	none := saveFrame(1, 1, l...)
	none.Vector = nil
	only := saveFrame(1, 1)
	only.Vector = more.Vector
	for _, f := range append(frames, more, none, only) {
		if r, e := Restart(1, 3, 4096, bytesOf(t, f)); r != nil || e != api.ErrForm {
			t.Fatalf("Restart of %v = %v", f, e)
		}
	}
}

// TestS2Insert: behind zero, what is alive, what is not, and in the middle; each error, the
// first that applies.
func TestS2Insert(t *testing.T) {
	p := newPair(t, 1, 3, 4)
	p.feed(t, opsFrame(0, story()...))
	for _, behind := range []api.ID{{}, id(1, 0), id(1, 65536), id(2, 65536), id(7, 131073), id(9, 65536), id(10, 65536)} {
		p.insert(t, behind, []rune("xyz"))
		p.insert(t, behind, nil)
		p.insert(t, behind, []rune{0, 0xD7FF, 0xE000, 0x10FFFF, 0x7F})
		for _, c := range []rune{-1, math.MinInt32, 0xD800, 0xDABC, 0xDFFF, 0x110000, math.MaxInt32} {
			p.insert(t, behind, []rune{c})
			p.insert(t, behind, []rune{'a', 'b', c})
			p.insert(t, behind, []rune{c, 'a', 'b'})
		}
	}
	p.outs(t)
	for _, none := range []api.ID{id(3, 0), id(8, 65536), id(1, 1), id(0, 1), id(0, -1), id(-1, 0), id(99, 0), id(math.MaxInt, math.MaxInt), id(math.MinInt, math.MinInt)} {
		p.insert(t, none, []rune("x"))
		p.insert(t, none, nil)
		p.insert(t, none, []rune{0xD800})
		if ops, e := p.r.Insert(none, []rune("x")); len(ops) > 0 || e != api.ErrNone {
			t.Fatal(none, ops, e)
		}
		if ops, e := p.r.Insert(none, []rune{'x', -1}); len(ops) > 0 || e != api.ErrArg {
			t.Fatal(none, ops, e)
		}
	}
	p.outs(t)
}

// TestS2Numbers: counters go on from the text's Top, Seqs from the replica's own last one.
func TestS2Numbers(t *testing.T) {
	p := newPair(t, 2, 3, 4)
	p.insert(t, api.ID{}, []rune("ab"))
	p.feed(t, opsFrame(0, ins(500, 0, 1, id(2, 131072), 'x')))
	p.insert(t, id(500, 0), []rune("cd"))
	p.delete(t, id(1, 131072), id(500, 0))
	p.feed(t, opsFrame(1, ins(3, 65536, 1, id(2, 131072), 'y')))
	p.insert(t, id(2, 131072), []rune("e"))
	l := p.r.Text().Ops()
	want := []api.ID{id(1, 131072), id(2, 131072), id(500, 0), id(501, 131072), id(502, 131072), id(503, 131072), id(504, 131072), id(3, 65536), id(505, 131072)}
	for i, op := range l {
		if op.ID != want[i] {
			t.Fatal(i, op)
		}
	}
	if l[8].Seq != 7 || l[6].Seq != 6 || l[3].Seq != 3 || string(p.r.Text().Visible()) != "becdy" {
		t.Fatal(l, string(p.r.Text().Visible()))
	}
	p.outs(t)
}

// TestS2Delete: one for each that is alive, once, in order; each error, the first that
// applies, with nothing done.
func TestS2Delete(t *testing.T) {
	p := newPair(t, 0, 2, 4)
	p.insert(t, api.ID{}, []rune("abcdefgh"))
	p.delete(t)
	p.delete(t, id(5, 0))
	p.delete(t, id(5, 0))
	p.delete(t, id(3, 0), id(1, 0), id(3, 0), id(5, 0), id(1, 0), id(2, 0), id(3, 0))
	if got := string(p.r.Text().Visible()); got != "dfgh" {
		t.Fatal(got)
	}
	for _, none := range []api.ID{{}, id(9, 0), id(8, 1), id(0, 7), id(99, 0), id(math.MinInt, math.MaxInt)} {
		p.delete(t, none)
		p.delete(t, none, id(6, 0))
		p.delete(t, id(6, 0), id(7, 0), none)
		p.delete(t, id(5, 0), none)
	}
	if got := string(p.r.Text().Visible()); got != "dfgh" {
		t.Fatal(got)
	}
	p.delete(t, id(8, 0), id(7, 0), id(6, 0), id(4, 0))
	p.delete(t, id(8, 0), id(7, 0), id(6, 0), id(4, 0))
	p.outs(t)
	p.tick(t)
	p.save(t)
	p.restart(t)
	p.delete(t, id(8, 0))
	p.insert(t, id(8, 0), []rune("z"))
	p.outs(t)
}

// TestS2LargeCounter: the last counters, and none above.
func TestS2LargeCounter(t *testing.T) {
	for left := range 5 {
		for n := range 7 {
			p := newPair(t, 1, 2, 4)
			p.insert(t, api.ID{}, chars(3))
			p.feed(t, opsFrame(0, ins(maxCount-left, 0, 1, api.ID{}, 'x')))
			_, e := p.r.Insert(id(7, 7), chars(n)) // ErrNone is told ahead
			if e != api.ErrNone {
				t.Fatal(left, n, e)
			}
			p.insert(t, id(2, 65536), chars(n))
			if got := p.r.Text().Top() == maxCount-left+n; got != (n <= left) && n > 0 {
				t.Fatal(left, n, p.r.Text().Top())
			}
			p.delete(t, id(3, 65536), id(2, 65536), id(2, 65536), id(3, 65536))
			p.delete(t, id(1, 65536), id(1, 65536))
			p.delete(t, id(1, 65536), id(1, 65536))
			p.outs(t)
		}
	}
	p := newPair(t, 0, 2, 4)
	p.feed(t, opsFrame(1, ins(maxCount-1, 65536, 1, api.ID{}, 'x'), del(maxCount, 65536, 2, id(maxCount-1, 65536))))
	p.delete(t, id(maxCount-1, 65536)) // it is not alive: there is nothing to do
	p.insert(t, id(maxCount-1, 65536), nil)
	p.insert(t, id(maxCount-1, 65536), []rune("a"))
	p.insert(t, id(maxCount-1, 65536), []rune{0xDFFF})
	p.delete(t, id(maxCount, 65536))
	p.outs(t)
}

// TestS2LargeSeq: the last Seqs, and none above. (It takes too long to come there.)
func TestS2LargeSeq(t *testing.T) {
	for left := range 4 {
		for n := range 6 {
			p := newPair(t, 1, 2, 4)
			p.insert(t, api.ID{}, chars(5))
			p.r.seq, p.w.seq = maxCount-left, maxCount-left
			p.insert(t, id(5, 65536), chars(n))
			p.r.seq, p.w.seq = maxCount-left, maxCount-left
			p.delete(t, []api.ID{id(1, 65536), id(2, 65536), id(1, 65536), id(3, 65536), id(4, 65536), id(5, 65536)}[:n]...)
			p.outs(t)
		}
	}
}

// TestS2Frames: at most 64 operations in each, and none without any.
func TestS2Frames(t *testing.T) {
	for _, n := range []int{0, 1, 2, 63, 64, 65, 127, 128, 129, 200} {
		p := newPair(t, 1, 4, 4)
		p.insert(t, api.ID{}, chars(n))
		if got := len(p.w.out[0]); got != (n+63)/64 {
			t.Fatal(n, got)
		}
		p.outs(t)
		p.delete(t, p.r.Text().IDs()...)
		p.outs(t)
		p.insert(t, api.ID{}, chars(n))
		p.tick(t)
		p.insert(t, api.ID{}, chars(1))
		p.outTo(t, 3)
		p.tick(t)
		p.outs(t)
	}
}

// TestS2All: of as many as there may be each other one is told.
func TestS2All(t *testing.T) {
	for _, number := range []int{0, 1, 31, 62, 63} {
		p := newPair(t, number, 64, 4)
		p.insert(t, api.ID{}, chars(70))
		p.tick(t)
		p.feed(t, digest((number+7)%64))
		p.outs(t)
	}
	p := newPair(t, 0, 1, 4)
	p.insert(t, api.ID{}, chars(70))
	p.tick(t)
	p.outs(t)
}

// TestS2FeedErrors: what is no frame, what is never sent, and whom it does not come from.
func TestS2FeedErrors(t *testing.T) {
	p := newPair(t, 1, 3, 4)
	p.insert(t, api.ID{}, []rune("abc"))
	right := bytesOf(t, opsFrame(0, ins(1, 0, 1, api.ID{}, 'x')))
	wrong := [][]byte{nil, {}, []byte("what"), append(slices.Clone(right), 0), append(slices.Clone(right), right...), right[1:],
		written(0, 0, 0, 0, 0), written(4, 0, 0, 0, 0), written(2, 0, 0, 0, 1), written(2, 64, 0, 0, 0),
		bytesOf(t, saveFrame(0, 0)), bytesOf(t, saveFrame(1, 1)), bytesOf(t, saveFrame(3, 1)), bytesOf(t, saveFrame(63, 65536)), bytesOf(t, saveFrame(2, 1, story()...)), p.r.Saved()}
	for i := range right {
		spoilt := slices.Clone(right)
		spoilt[i] ^= 0x10
		wrong = append(wrong, right[:i], spoilt)
	}
	for _, b := range wrong {
		if e := p.r.Feed(b); e != api.ErrForm {
			t.Fatalf("Feed(% x) = %v", b, e)
		}
		p.check(t)
	}
	for from := range 64 {
		want := api.ErrArg
		if from == 0 || from == 2 {
			want = api.OK
		}
		for _, f := range []api.Frame{opsFrame(from), digest(from, api.Entry{Author: 65536, Seq: 1}), opsFrame(from, ins(1, 0, 1, api.ID{}, 'x'), ins(2, 0, 3, api.ID{}, 'y'))} {
			if e := p.r.Feed(bytesOf(t, f)); e != want {
				t.Fatalf("Feed(%v) = %v", f, e)
			}
			p.w.feed(f)
			p.check(t)
		}
	}
	p.outs(t)
}

// TestS2Digest: the first 64 that are above the vector, in the order in which they came.
func TestS2Digest(t *testing.T) {
	for _, n := range []int{0, 1, 63, 64, 65, 66, 128, 130} {
		p := newPair(t, 1, 3, 4)
		for i := 0; i < n; i += 2 { // by turns, so that the order is not that of authors
			p.insert(t, api.ID{}, chars(1))
			if i+1 < n {
				p.feed(t, opsFrame(2, ins(i+1, 7, i/2+1, api.ID{}, 'x')))
			}
		}
		p.outs(t)
		for _, v := range [][]api.Entry{nil, {{Author: 7, Seq: 1}}, {{Author: 65536, Seq: 1}}, {{Author: 7, Seq: 20}, {Author: 65536, Seq: 2}},
			{{Author: 0, Seq: 99}, {Author: 7, Seq: n / 2}, {Author: 65536, Seq: n/2 + n%2}}, {{Author: 7, Seq: maxCount}, {Author: 65536, Seq: maxCount}},
			{{Author: 7, Seq: n}, {Author: 65536, Seq: n/2 - 1}}, {{Author: 65535, Seq: 9}, {Author: 65537, Seq: 9}}} {
			v = slices.DeleteFunc(v, func(e api.Entry) bool { return e.Seq < 1 })
			p.feed(t, digest(2, v...))
			p.outTo(t, 2)
			p.feed(t, digest(0, v...))
			p.feed(t, digest(2, v...))
			p.outs(t)
		}
	}
}

// TestS2DigestHold: what waits in the hold is not known, and is not told.
func TestS2DigestHold(t *testing.T) {
	p := newPair(t, 0, 2, 4)
	p.feed(t, opsFrame(1, story()[2], story()[5]))
	p.feed(t, digest(1))
	p.tick(t)
	p.outs(t)
	p.save(t)
	if p.r.Held() != 2 {
		t.Fatal(p.r.Held())
	}
	p.restart(t)
	if p.r.Held() != 0 {
		t.Fatal(p.r.Held())
	}
}

// orders hands over all orders of l.
func orders(l []api.Op, take func(l []api.Op)) {
	var grow func(done, rest []api.Op)
	grow = func(done, rest []api.Op) {
		if len(rest) == 0 {
			take(done)
		}
		for i := range rest {
			grow(append(slices.Clone(done), rest[i]), slices.Delete(slices.Clone(rest), i, i+1))
		}
	}
	grow(nil, l)
}

// TestS2TakenOneByOne: in all orders, with room for all, and with less.
func TestS2TakenOneByOne(t *testing.T) {
	l := story()
	for room := range len(l) + 1 {
		orders(l, func(l []api.Op) {
			p := newPair(t, 2, 3, room)
			for _, op := range l {
				p.feed(t, opsFrame(1, op))
			}
			if room >= len(l)-1 && (len(p.w.known) != len(l) || p.r.Held() != 0) {
				t.Fatal(l, p.w.known, p.r.Held())
			}
		})
	}
}

// TestS2TakenTogether: in all orders, cut into frames in some ways: a frame's operations
// are taken in ahead of those that waited.
func TestS2TakenTogether(t *testing.T) {
	l := story()
	for room := range 4 {
		orders(l, func(l []api.Op) {
			for _, cut := range []int{0, 1, 2, 3, 4} {
				p := newPair(t, 2, 3, room)
				p.feed(t, opsFrame(1, l[:cut]...))
				p.feed(t, opsFrame(0, l[cut:]...))
				p.feed(t, opsFrame(0, l[:cut]...))
			}
		})
	}
	p := newPair(t, 2, 3, 1)
	p.feed(t, opsFrame(1, l[2]))
	p.feed(t, opsFrame(1, l[1], l[0], ins(9, 9, 9, api.ID{}, 'z'))) // the room is there for none but the first
	if !slices.Equal(p.r.Text().Ops(), []api.Op{l[1], l[0], l[2]}) || p.r.Held() != 0 {
		t.Fatal(p.r.Text().Ops(), p.r.Held())
	}
}

// TestS2Least: of those that need wait no more the least by author and Seq comes first.
func TestS2Least(t *testing.T) {
	first := ins(1, 500, 1, api.ID{}, 'a')
	wait := []api.Op{ins(9, 3, 1, first.ID, 'b'), ins(10, 3, 2, first.ID, 'c'), ins(2, 70, 1, first.ID, 'd'), ins(11, 400, 1, id(9, 3), 'e'), ins(3, 600, 1, first.ID, 'f')}
	want := append([]api.Op{first}, wait...)
	orders(wait, func(l []api.Op) {
		p := newPair(t, 0, 2, 5)
		p.feed(t, opsFrame(1, l...))
		p.feed(t, opsFrame(1, first))
		if got := p.r.Text().Ops(); !slices.Equal(got, want) {
			t.Fatal(l, got)
		}
	})
}

// TestS2Lost: what the text answers ErrArg of, at once and out of the hold, and what there
// is no room for.
func TestS2Lost(t *testing.T) {
	first, low, next := ins(5, 0, 1, api.ID{}, 'a'), ins(5, 0, 2, api.ID{}, 'b'), ins(6, 0, 3, api.ID{}, 'c')
	p := newPair(t, 1, 2, 4)
	p.feed(t, opsFrame(0, first, low, next))
	if p.r.Held() != 1 {
		t.Fatal(p.r.Held())
	}
	p = newPair(t, 1, 2, 4)
	p.feed(t, opsFrame(0, next, low))
	p.feed(t, opsFrame(0, first))
	if p.r.Held() != 1 || string(p.r.Text().Visible()) != "a" {
		t.Fatal(p.r.Held(), string(p.r.Text().Visible()))
	}
	p.feed(t, opsFrame(0, ins(7, 0, 2, api.ID{}, 'd'))) // next has no greater counter than it
	if p.r.Held() != 0 || string(p.r.Text().Visible()) != "da" {
		t.Fatal(p.r.Held(), string(p.r.Text().Visible()))
	}
	p = newPair(t, 1, 2, 0)
	p.feed(t, opsFrame(0, next, low, first))
	if p.r.Held() != 0 || len(p.r.Text().Ops()) != 1 {
		t.Fatal(p.r.Held(), p.r.Text().Ops())
	}
}

// TestS2Twice: what is known, and what waits already, changes nothing; of two that are the
// same one, by author and Seq, the first stays.
func TestS2Twice(t *testing.T) {
	l := story()
	p := newPair(t, 2, 3, 2)
	for range 3 {
		p.feed(t, opsFrame(0, l[2], l[2]))
		p.feed(t, opsFrame(1, ins(6, 65536, 2, api.ID{}, 'z')))
	}
	p.feed(t, opsFrame(0, l[1], l[1], l[0]))
	for range 3 {
		p.feed(t, opsFrame(0, l[0], l[1], l[2], l[2], l[3]))
	}
	if !slices.Equal(p.r.Text().Ops(), []api.Op{l[1], l[0], l[2], l[3]}) {
		t.Fatal(p.r.Text().Ops())
	}
	p.feed(t, opsFrame(0, l[5], l[5], l[4], l[4]))
	p.outs(t)
}

// TestS2OwnFrees: the replica's own operations let go what waited for them.
func TestS2OwnFrees(t *testing.T) {
	p := newPair(t, 0, 2, 4)
	p.feed(t, opsFrame(1, ins(3, 65536, 1, id(1, 0), 'x'), ins(4, 65536, 2, id(2, 0), 'y')))
	p.insert(t, api.ID{}, []rune("a"))
	if p.r.Held() != 1 {
		t.Fatal(p.r.Held())
	}
	p.insert(t, id(1, 0), []rune("b"))
	p.delete(t, id(1, 0))
	p.outs(t)
}

// TestS3Save: what is saved is what was at that time.
func TestS3Save(t *testing.T) {
	p := newPair(t, 1, 2, 4)
	for i := range 5 {
		p.insert(t, api.ID{}, chars(40))
		p.feed(t, opsFrame(0, ins(100*(i+1), 2*i, 1, api.ID{}, 'x'), ins(1, 9, 2, api.ID{}, 'y')))
		p.save(t)
		p.insert(t, api.ID{}, chars(1))
		p.tick(t)
		p.restart(t)
		if p.r.Author() != 65537+i || p.r.Held() != 0 || p.r.Text().Len() != 41*(i+1) {
			t.Fatal(p.r.Author(), p.r.Held(), p.r.Text().Len())
		}
		p.outs(t)
	}
	p.restart(t)
	p.restart(t)
}

// TestS3Text: the text is the replica's, and changes with it.
func TestS3Text(t *testing.T) {
	p := newPair(t, 0, 2, 4)
	x := p.r.Text()
	p.insert(t, api.ID{}, []rune("ab"))
	p.feed(t, opsFrame(1, ins(7, 65536, 1, id(1, 0), 'c')))
	if p.r.Text() != x || string(x.Visible()) != "acb" {
		t.Fatal(string(x.Visible()))
	}
}

// TestR1Owners: lists that are handed in and told are the caller's.
func TestR1Owners(t *testing.T) {
	p := newPair(t, 1, 4, 4)
	l, b, ids := []rune("abc"), bytesOf(t, opsFrame(0, ins(9, 0, 2, api.ID{}, 'x'))), []api.ID{id(1, 65536), id(2, 65536)}
	want, _ := p.w.insert(api.ID{}, l)
	want = slices.Clone(want)
	ops, _ := p.r.Insert(api.ID{}, l)
	p.r.Feed(b)
	p.w.feed(frameOf(t, b))
	gone, _ := p.r.Delete(ids)
	p.w.delete(ids)
	if !slices.Equal(ops, want) || string(l) != "abc" || ids[0] != id(1, 65536) || ids[1] != id(2, 65536) {
		t.Fatal(ops, l, ids)
	}
	clear(l)
	clear(b)
	clear(ids)
	clear(ops)
	clear(gone)
	p.check(t)
	p.tick(t)
	for _, b := range p.r.Out(0) {
		clear(b)
	}
	p.w.out[0] = nil
	p.outs(t)
	p.save(t)
	saved := p.r.Saved()
	clear(saved)
	p.check(t)
	saved = p.r.Saved()
	kept := slices.Clone(saved)
	p.restart(t)
	clear(saved)
	p.check(t)
	r, _ := Restart(1, 4, 4, kept)
	at := slices.Clone(kept)
	r.Insert(api.ID{}, []rune("q"))
	r.Save()
	if !bytes.Equal(at, kept) {
		t.Fatal("what was handed in has changed")
	}
	p.check(t)
}

// TestR3Alone: two replicas of the same number have nothing to do with each other.
func TestR3Alone(t *testing.T) {
	p, other := newPair(t, 0, 2, 4), newPair(t, 0, 2, 4)
	p.insert(t, api.ID{}, []rune("ab"))
	p.feed(t, opsFrame(1, ins(7, 65536, 2, api.ID{}, 'c')))
	p.tick(t)
	p.save(t)
	other.check(t)
	other.outs(t)
	other.insert(t, api.ID{}, []rune("c"))
	p.outs(t)
}

// thrower makes calls of one replica, thrown together.
type thrower struct {
	*rand.Rand
	top int // what counters are about
}

func (g thrower) id() api.ID {
	return id(max(1, g.top-g.Intn(8)), g.author())
}

func (g thrower) author() int {
	return []int{0, 1, 65536, 65537, 131072}[g.Intn(5)]
}

// op is any that is right.
func (g thrower) op() api.Op {
	for {
		op := api.Op{ID: g.id(), Seq: 1 + g.Intn(4), Ref: g.id()}
		if g.Intn(3) == 0 {
			op.Ref = api.ID{}
		}
		if g.Intn(3) > 0 {
			op.Ins, op.Rune = true, rune('a'+g.Intn(26))
		}
		if ident.Right(op) {
			return op
		}
	}
}

// frame is any that is right: a number of replicas may be above From or not.
func (g thrower) frame() api.Frame {
	f := api.Frame{Kind: 1 + g.Intn(2), From: g.Intn(4)}
	if g.Intn(30) == 0 {
		return saveFrame(f.From, g.Intn(9), g.op())
	}
	for range g.Intn(5) {
		if f.Kind == api.FrameOps {
			f.Ops = append(f.Ops, g.op())
		} else {
			f.Vector = ident.With(f.Vector, g.author(), 1+g.Intn(4))
		}
	}
	return f
}

// known is an element, or the zero ID, or none.
func (g thrower) known(p *pair) api.ID {
	l := append(p.r.Text().All(), api.ID{}, api.ID{})
	if g.Intn(20) == 0 {
		return g.id()
	}
	return l[g.Intn(len(l))]
}

func (g thrower) step(t *testing.T, p *pair) {
	switch k := g.Intn(20); {
	case k < 11:
		p.feed(t, g.frame())
	case k < 14:
		l := chars(g.Intn(4))
		if g.Intn(15) == 0 {
			l = append(l, 0xD800)
		}
		p.insert(t, g.known(p), l)
	case k < 16:
		var ids []api.ID
		for range g.Intn(4) {
			ids = append(ids, g.known(p))
		}
		p.delete(t, ids...)
	case k == 16:
		p.tick(t)
	case k == 17:
		p.outTo(t, g.Intn(5)-1)
	case k == 18:
		p.save(t)
	case g.Intn(3) == 0:
		p.restart(t)
	}
}

// TestThrown: calls thrown together, of frames that say what they like (the replica's own
// authors among them), with counters from the beginning and up to the last ones.
func TestThrown(t *testing.T) {
	r := rand.New(rand.NewSource(17))
	for i := range 3000 {
		n := 1 + r.Intn(4)
		p := newPair(t, r.Intn(n), n, r.Intn(7))
		g := thrower{r, []int{5, 12, 300, maxCount}[i%4]}
		for range 60 {
			g.step(t, p)
		}
		p.outs(t)
	}
}

// TestR2Bytes: bytes thrown together, and frames that were spoilt, change nothing, unless
// they are some frame's again.
func TestR2Bytes(t *testing.T) {
	r := rand.New(rand.NewSource(18))
	g := thrower{r, 9}
	p := newPair(t, 1, 3, 5)
	for range 20000 {
		b := bytesOf(t, g.frame())
		for range 1 + r.Intn(3) {
			b[r.Intn(len(b))] = byte(r.Intn(256))
		}
		f, e := frame.Of(b)
		want := api.ErrForm
		if e == api.OK {
			want = p.w.feed(f)
		}
		if got := p.r.Feed(b); got != want {
			t.Fatalf("Feed(% x) = %v, not %v", b, got, want)
		}
		p.check(t)
		if x, e := Restart(1, 3, 5, b); e != api.OK && x != nil {
			t.Fatalf("Restart(% x) = %v, %v", b, x, e)
		}
		p.outs(t)
	}
}
