package replica

import (
	"cmp"
	"hash/crc32"
	"slices"
	"testing"

	"foolscap/api"
	"foolscap/frame"
	"foolscap/rga"
)

// The limits, as the chapters write them.
const (
	maxCount  = 4294967295 // 2^32 - 1
	maxRounds = 65536
)

// The calls, as the chapter writes them.
type calls interface {
	Insert(behind api.ID, l []rune) ([]api.Op, api.Errno)
	Delete(ids []api.ID) ([]api.Op, api.Errno)
	Feed(b []byte) api.Errno
	Tick()
	Out(to int) [][]byte
	Save()
	Saved() []byte
	Text() *rga.Text
	Held() int
	Author() int
}

var _ calls = (*Replica)(nil)

func id(ctr, author int) api.ID { return api.ID{Ctr: ctr, Author: author} }

func ins(ctr, author, seq int, ref api.ID, c rune) api.Op {
	return api.Op{ID: id(ctr, author), Seq: seq, Ins: true, Ref: ref, Rune: c}
}

func del(ctr, author, seq int, ref api.ID) api.Op {
	return api.Op{ID: id(ctr, author), Seq: seq, Ref: ref}
}

func opsFrame(from int, ops ...api.Op) api.Frame {
	return api.Frame{Kind: api.FrameOps, From: from, Ops: ops}
}

func digest(from int, v ...api.Entry) api.Frame {
	return api.Frame{Kind: api.FrameDigest, From: from, Vector: v}
}

func saveFrame(from, next int, ops ...api.Op) api.Frame {
	return api.Frame{Kind: api.FrameSave, From: from, Vector: vectorOf(ops), Ops: ops, Next: next}
}

// bytesOf is the bytes of a frame that is right.
func bytesOf(t *testing.T, f api.Frame) []byte {
	t.Helper()
	b, e := frame.Bytes(f)
	if e != api.OK {
		t.Fatalf("%+v is no frame", f)
	}
	return b
}

// frameOf is the frame of bytes that are some frame's.
func frameOf(t *testing.T, b []byte) api.Frame {
	t.Helper()
	f, e := frame.Of(b)
	if e != api.OK {
		t.Fatalf("% x is no frame", b)
	}
	return f
}

// written is the bytes of a frame whose body is short and of small numbers, laid by hand.
func written(body ...byte) []byte {
	b := append([]byte{'F', 'C', byte(len(body))}, body...)
	s := crc32.ChecksumIEEE(b)
	return append(b, byte(s>>24), byte(s>>16), byte(s>>8), byte(s))
}

func sameFrame(a, b api.Frame) bool {
	return a.Kind == b.Kind && a.From == b.From && a.Next == b.Next && slices.Equal(a.Vector, b.Vector) && slices.Equal(a.Ops, b.Ops)
}

// vectorOf is of each author the greatest Seq, rising by authors.
func vectorOf(ops []api.Op) []api.Entry {
	var v []api.Entry
	for _, op := range ops {
		at := slices.IndexFunc(v, func(e api.Entry) bool { return e.Author == op.ID.Author })
		if at < 0 {
			v = append(v, api.Entry{Author: op.ID.Author, Seq: op.Seq})
		} else {
			v[at].Seq = max(v[at].Seq, op.Seq)
		}
	}
	slices.SortFunc(v, func(a, b api.Entry) int { return cmp.Compare(a.Author, b.Author) })
	return v
}

// words is what the chapter says of a replica, said over lists that are in no order but
// that in which things came.
type words struct {
	number, n, room, round, seq int
	known, held                 []api.Op
	saved                       api.Frame
	out                         map[int][]api.Frame
}

func newWords(number, n, room int) *words {
	w := &words{number: number, n: n, room: room, out: map[int][]api.Frame{}}
	w.save()
	return w
}

// restart is what is left of a replica.
func (w *words) restart() *words {
	x := newWords(w.number, w.n, w.room)
	x.round, x.known = w.saved.Next, slices.Clone(w.saved.Ops)
	x.save()
	return x
}

func (w *words) author() int { return maxRounds*w.number + w.round }

func (w *words) save() {
	w.saved = saveFrame(w.number, w.round+1, slices.Clone(w.known)...)
}

// last is the author's last operation that is known.
func (w *words) last(author int) api.Op {
	var last api.Op
	for _, op := range w.known {
		if op.ID.Author == author && op.Seq > last.Seq {
			last = op
		}
	}
	return last
}

func (w *words) element(e api.ID) bool {
	return slices.ContainsFunc(w.known, func(op api.Op) bool { return op.Ins && op.ID == e })
}

func (w *words) alive(e api.ID) bool {
	return w.element(e) && !slices.ContainsFunc(w.known, func(op api.Op) bool { return !op.Ins && op.Ref == e })
}

func (w *words) top() int {
	top := 0
	for _, op := range w.known {
		top = max(top, op.ID.Ctr)
	}
	return top
}

func (w *words) there(ref api.ID) bool { return ref == api.ID{} || w.element(ref) }

// put is 14's, of an operation that is right.
func (w *words) put(op api.Op) (bool, api.Errno) {
	last := w.last(op.ID.Author)
	switch {
	case last.Seq >= op.Seq:
		return false, api.OK
	case last.Seq < op.Seq-1 || !w.there(op.Ref):
		return false, api.ErrState
	case last.Seq > 0 && last.ID.Ctr >= op.ID.Ctr:
		return false, api.ErrArg
	}
	w.known = append(w.known, op)
	return true, api.OK
}

// hold is 16's Add.
func (w *words) hold(op api.Op) {
	there := slices.ContainsFunc(w.held, func(x api.Op) bool { return x.ID.Author == op.ID.Author && x.Seq == op.Seq })
	if !there && len(w.held) < w.room {
		w.held = append(w.held, op)
	}
}

// drop takes what is known out of the hold.
func (w *words) drop() {
	var stay []api.Op
	for _, op := range w.held {
		if op.Seq > w.last(op.ID.Author).Seq {
			stay = append(stay, op)
		}
	}
	w.held = stay
}

// leastReady is the place of the least one in the hold that need not wait, -1, if all must.
func (w *words) leastReady() int {
	best := -1
	for i, op := range w.held {
		if op.Seq != w.last(op.ID.Author).Seq+1 || !w.there(op.Ref) {
			continue
		}
		if best < 0 || op.ID.Author < w.held[best].ID.Author || op.ID.Author == w.held[best].ID.Author && op.Seq < w.held[best].Seq {
			best = i
		}
	}
	return best
}

func (w *words) take(ops []api.Op) {
	for _, op := range ops {
		if op.Seq <= w.last(op.ID.Author).Seq {
			continue
		}
		if _, e := w.put(op); e == api.ErrState {
			w.hold(op)
		}
	}
	w.drop()
	for at := w.leastReady(); at >= 0; at = w.leastReady() {
		op := w.held[at]
		w.held = slices.Delete(w.held, at, at+1)
		w.put(op)
		w.drop()
	}
}

// toOthers puts frames into all outboxes.
func (w *words) toOthers(l ...api.Frame) {
	for to := 0; to < w.n; to++ {
		if to != w.number {
			w.out[to] = append(w.out[to], l...)
		}
	}
}

// done is operations that have all but their IDs and Seqs, and of which each that is to
// stand behind the one ahead has chain.
func (w *words) done(ops []api.Op, chain bool) ([]api.Op, api.Errno) {
	if w.top()+len(ops) > maxCount || w.seq+len(ops) > maxCount {
		return nil, api.ErrLarge
	}
	ctr := w.top()
	for i := range ops {
		ctr++
		w.seq++
		ops[i].ID, ops[i].Seq = id(ctr, w.author()), w.seq
		if chain && i > 0 {
			ops[i].Ref = ops[i-1].ID
		}
	}
	w.take(ops)
	for i := 0; i < len(ops); i += 64 {
		w.toOthers(opsFrame(w.number, ops[i:min(i+64, len(ops))]...))
	}
	return ops, api.OK
}

func (w *words) insert(behind api.ID, l []rune) ([]api.Op, api.Errno) {
	var ops []api.Op
	for _, c := range l {
		if c < 0 || c > 0x10FFFF || c >= 0xD800 && c <= 0xDFFF {
			return nil, api.ErrArg
		}
		ops = append(ops, api.Op{Ins: true, Ref: behind, Rune: c})
	}
	if !w.there(behind) {
		return nil, api.ErrNone
	}
	return w.done(ops, true)
}

func (w *words) delete(ids []api.ID) ([]api.Op, api.Errno) {
	var ops []api.Op
	for i, e := range ids {
		if !w.element(e) {
			return nil, api.ErrNone
		}
		if w.alive(e) && !slices.Contains(ids[:i], e) {
			ops = append(ops, api.Op{Ref: e})
		}
	}
	return w.done(ops, false)
}

func (w *words) tick() { w.toOthers(digest(w.number, vectorOf(w.known)...)) }

func (w *words) feed(f api.Frame) api.Errno {
	if f.Kind == api.FrameSave {
		return api.ErrForm
	}
	if f.From < 0 || f.From >= w.n || f.From == w.number {
		return api.ErrArg
	}
	if f.Kind == api.FrameOps {
		w.take(f.Ops)
		return api.OK
	}
	seqs := map[int]int{}
	for _, e := range f.Vector {
		seqs[e.Author] = e.Seq
	}
	var news []api.Op
	for _, op := range w.known {
		if op.Seq > seqs[op.ID.Author] && len(news) < 64 {
			news = append(news, op)
		}
	}
	if len(news) > 0 {
		w.out[f.From] = append(w.out[f.From], opsFrame(w.number, news...))
	}
	return api.OK
}

// pair is a replica, and beside it what the words say of it.
type pair struct {
	r *Replica
	w *words
}

func newPair(t *testing.T, number, n, room int) *pair {
	t.Helper()
	r, e := New(number, n, room)
	if e != api.OK || r == nil {
		t.Fatalf("New(%d, %d, %d) = %v", number, n, room, e)
	}
	p := &pair{r, newWords(number, n, room)}
	p.check(t)
	return p
}

// check asks for all that a replica tells without being changed.
func (p *pair) check(t *testing.T) {
	t.Helper()
	if l := p.r.Text().Ops(); !slices.Equal(l, p.w.known) {
		t.Fatalf("known are %v, not %v", l, p.w.known)
	}
	if p.r.Held() != len(p.w.held) {
		t.Fatalf("%v: Held = %d, not %d", p.w.known, p.r.Held(), len(p.w.held))
	}
	if p.r.Author() != p.w.author() {
		t.Fatalf("Author = %d, not %d", p.r.Author(), p.w.author())
	}
	if f := frameOf(t, p.r.Saved()); !sameFrame(f, p.w.saved) {
		t.Fatalf("saved is %v, not %v", f, p.w.saved)
	}
}

// outs empties the outbox of each number, of replicas and of none.
func (p *pair) outs(t *testing.T) {
	t.Helper()
	for to := -2; to < p.w.n+2; to++ {
		p.outTo(t, to)
	}
	if len(p.r.out[p.w.number]) > 0 {
		t.Fatal("something waits for the replica itself, and nobody could take it out")
	}
}

func (p *pair) outTo(t *testing.T, to int) {
	t.Helper()
	l := p.r.Out(to)
	want := p.w.out[to]
	p.w.out[to] = nil
	if len(l) != len(want) {
		t.Fatalf("Out(%d): %d frames, not %d", to, len(l), len(want))
	}
	for i, b := range l {
		if f := frameOf(t, b); !sameFrame(f, want[i]) {
			t.Fatalf("Out(%d): %v, not %v", to, f, want[i])
		}
	}
	if l := p.r.Out(to); len(l) != 0 {
		t.Fatalf("Out(%d) again: %d frames", to, len(l))
	}
	p.check(t)
}

func (p *pair) insert(t *testing.T, behind api.ID, l []rune) {
	t.Helper()
	want, e := p.w.insert(behind, l)
	p.told(t, want, e)(p.r.Insert(behind, l))
}

func (p *pair) delete(t *testing.T, ids ...api.ID) {
	t.Helper()
	want, e := p.w.delete(ids)
	p.told(t, want, e)(p.r.Delete(ids))
}

// told holds what a call answered against what the words say.
func (p *pair) told(t *testing.T, want []api.Op, wantE api.Errno) func([]api.Op, api.Errno) {
	return func(ops []api.Op, e api.Errno) {
		t.Helper()
		if e != wantE || !slices.Equal(ops, want) {
			t.Fatalf("%v: told are %v, %v, not %v, %v", p.w.known, ops, e, want, wantE)
		}
		p.check(t)
	}
}

func (p *pair) feed(t *testing.T, f api.Frame) {
	t.Helper()
	want := p.w.feed(f)
	if e := p.r.Feed(bytesOf(t, f)); e != want {
		t.Fatalf("Feed(%v) = %v, not %v", f, e, want)
	}
	p.check(t)
}

func (p *pair) tick(t *testing.T) {
	t.Helper()
	p.r.Tick()
	p.w.tick()
	p.check(t)
}

func (p *pair) save(t *testing.T) {
	t.Helper()
	p.r.Save()
	p.w.save()
	p.check(t)
}

// restart goes on from what was saved.
func (p *pair) restart(t *testing.T) {
	t.Helper()
	r, e := Restart(p.w.number, p.w.n, p.w.room, p.r.Saved())
	if e != api.OK || r == nil {
		t.Fatalf("Restart(%d, %d, %d) = %v", p.w.number, p.w.n, p.w.room, e)
	}
	p.r, p.w = r, p.w.restart()
	p.check(t)
}
