package replica

import (
	"math/rand"
	"slices"
	"testing"

	"foolscap/api"
)

// letter is bytes under way.
type letter struct {
	to int
	b  []byte
}

// key is what no two operations have in common.
type key struct{ author, number int }

// some are replicas that write at once, and what is between them.
type some struct {
	*rand.Rand
	room int
	l    []*Replica
	air  []letter
	ids  map[key]bool
	seqs map[key]bool
}

func newSome(t *testing.T, r *rand.Rand, n, room int) *some {
	t.Helper()
	s := &some{Rand: r, room: room, ids: map[key]bool{}, seqs: map[key]bool{}}
	for i := range n {
		x, e := New(i, n, room)
		if e != api.OK {
			t.Fatal(e)
		}
		s.l = append(s.l, x)
	}
	return s
}

// collect takes all that waits into the air.
func (s *some) collect() {
	for _, x := range s.l {
		for to := range s.l {
			for _, b := range x.Out(to) {
				s.air = append(s.air, letter{to, b})
			}
		}
	}
}

// once asks that no operation has been done ahead (P5).
func (s *some) once(t *testing.T, ops []api.Op, e api.Errno) {
	t.Helper()
	if e != api.OK {
		t.Fatal(e)
	}
	for _, op := range ops {
		i, q := key{op.ID.Author, op.ID.Ctr}, key{op.ID.Author, op.Seq}
		if s.ids[i] || s.seqs[q] {
			t.Fatalf("%v is there twice", op)
		}
		s.ids[i], s.seqs[q] = true, true
	}
}

// write does something at one of the replicas.
func (s *some) write(t *testing.T, most int) {
	t.Helper()
	x := s.l[s.Intn(len(s.l))]
	all := append(x.Text().All(), api.ID{})
	at := s.Intn(len(all))
	if s.Intn(4) > 0 {
		ops, e := x.Insert(all[at], chars(s.Intn(most+1)))
		s.once(t, ops, e)
	} else if at < len(all)-1 {
		ops, e := x.Delete(all[at : at+1+s.Intn(min(most, len(all)-1-at))])
		s.once(t, ops, e)
	}
	s.collect()
}

// restart loses all that a replica has not saved.
func (s *some) restart(t *testing.T) {
	t.Helper()
	i := s.Intn(len(s.l))
	x, e := Restart(i, len(s.l), s.room, s.l[i].Saved())
	if e != api.OK {
		t.Fatal(e)
	}
	s.l[i] = x
}

// take takes one out of the air, from anywhere.
func (s *some) take() (letter, bool) {
	if len(s.air) == 0 {
		return letter{}, false
	}
	i := s.Intn(len(s.air))
	x := s.air[i]
	s.air = slices.Delete(s.air, i, i+1)
	return x, true
}

// pass lets one frame come, be lost, be doubled, or be spoilt.
func (s *some) pass(t *testing.T) {
	t.Helper()
	x, ok := s.take()
	if !ok {
		return
	}
	want := api.OK
	switch s.Intn(8) {
	case 0:
		return
	case 1:
		s.air = append(s.air, letter{x.to, slices.Clone(x.b)})
	case 2:
		x.b[s.Intn(len(x.b))] ^= byte(1 + s.Intn(255))
		want = api.ErrForm
	}
	before := s.l[x.to].Text().Ops()
	if e := s.l[x.to].Feed(x.b); e != want {
		t.Fatal(e, want)
	}
	if want != api.OK && !slices.Equal(before, s.l[x.to].Text().Ops()) {
		t.Fatal("spoilt, and yet taken in")
	}
	s.collect()
}

// round: each one ticks, and each frame comes.
func (s *some) round(t *testing.T) {
	t.Helper()
	for _, x := range s.l {
		x.Tick()
		s.collect()
	}
	for len(s.air) > 0 {
		x := s.air[0]
		s.air = s.air[1:]
		if e := s.l[x.to].Feed(x.b); e != api.OK {
			t.Fatal(e)
		}
		s.collect()
	}
}

// same asks of all whether they know the same; if they do, they show the same.
func (s *some) same(t *testing.T) bool {
	t.Helper()
	for _, x := range s.l[1:] {
		if !slices.Equal(x.Text().Vector(), s.l[0].Text().Vector()) {
			return false
		}
	}
	for _, x := range s.l[1:] {
		if !slices.Equal(x.Text().Visible(), s.l[0].Text().Visible()) || !slices.Equal(x.Text().All(), s.l[0].Text().All()) {
			t.Fatal("the same is known, and not shown")
		}
	}
	return true
}

// allowed is how many rounds a meeting may take (P3).
func (s *some) allowed() int {
	ops, held := map[key]bool{}, 0
	for _, x := range s.l {
		for _, op := range append(x.Text().Ops(), x.hold.All()...) {
			ops[key{op.ID.Author, op.Seq}] = true
		}
		held += x.Held()
	}
	return len(ops)/64 + held + 4
}

func (s *some) meet(t *testing.T) {
	t.Helper()
	allowed := s.allowed()
	for range allowed {
		if s.round(t); s.same(t) {
			return
		}
	}
	t.Fatalf("they have not met within %d rounds", allowed)
}

// TestMeeting: whatever is lost, doubled, turned round or spoilt, and whoever restarts: no
// operation is there twice (P5), and all meet (P1, P3).
func TestMeeting(t *testing.T) {
	r := rand.New(rand.NewSource(19))
	for i := range 240 {
		s := newSome(t, r, 1+r.Intn(5), []int{0, 1, 3, 20, 4096}[i%5])
		most := []int{1, 3, 10, 90}[i%4]
		for range 3 {
			for range 40 {
				switch k := r.Intn(30); {
				case k < 12:
					s.write(t, most)
				case k < 26:
					s.pass(t)
				case k == 26:
					s.l[r.Intn(len(s.l))].Tick()
					s.collect()
				case k == 27:
					s.restart(t)
				default:
					s.l[r.Intn(len(s.l))].Save()
				}
			}
			if r.Intn(2) == 0 {
				s.air = nil // all is lost
			}
			s.meet(t)
		}
	}
}

// TestMeetingWithoutLoss: with room for all, nobody has to ask when each frame comes, in
// whatever order.
func TestMeetingWithoutLoss(t *testing.T) {
	r := rand.New(rand.NewSource(20))
	for range 100 {
		s := newSome(t, r, 2+r.Intn(4), 4096)
		for range 30 {
			s.write(t, 5)
			for range r.Intn(4) {
				s.deliver(t)
			}
		}
		for len(s.air) > 0 {
			s.deliver(t)
		}
		if !s.same(t) {
			t.Fatal("all has come, and they have not met")
		}
		for _, x := range s.l {
			if x.Held() != 0 {
				t.Fatal("all has come, and", x.Held(), "wait")
			}
		}
	}
}

// deliver lets one frame come.
func (s *some) deliver(t *testing.T) {
	t.Helper()
	if x, ok := s.take(); ok {
		if e := s.l[x.to].Feed(x.b); e != api.OK {
			t.Fatal(e)
		}
		s.collect()
	}
}

// TestMeetingMany: as many replicas as there may be, of which each writes.
func TestMeetingMany(t *testing.T) {
	s := newSome(t, rand.New(rand.NewSource(21)), 64, 0)
	for i, x := range s.l {
		ops, e := x.Insert(api.ID{}, chars(1+i%3))
		s.once(t, ops, e)
	}
	s.collect()
	s.air = nil
	s.meet(t)
	if got := s.l[63].Text().Len(); got != 22+42+63 {
		t.Fatal(got)
	}
}

// TestFollowsRestarts: restarted again and again, with and without having saved, a replica
// never does an operation that was done.
func TestFollowsRestarts(t *testing.T) {
	s := newSome(t, rand.New(rand.NewSource(22)), 2, 4)
	for i := range 200 {
		s.write(t, 4)
		if s.Intn(3) == 0 {
			s.l[s.Intn(2)].Save()
		}
		if s.Intn(2) == 0 {
			s.restart(t)
		}
		for range s.Intn(3) {
			s.pass(t)
		}
		if i%50 == 49 {
			s.meet(t)
		}
	}
}

// TestHoldMany: as many operations as a hold has room for, from the last one on, of one
// author, and of an author each: one that was missing lets all go.
func TestHoldMany(t *testing.T) {
	const n = 4096
	first := ins(1, 0, 1, api.ID{}, 'a')
	chain, apart := []api.Op{}, []api.Op{}
	for i := range n + 1 {
		chain = append(chain, ins(2+i, 0, 2+i, api.ID{}, 'b'))
		apart = append(apart, ins(2, 1+i, 1, first.ID, 'c'))
	}
	slices.Reverse(chain)
	for _, l := range [][]api.Op{chain[1:], apart} {
		r, _ := New(1, 2, n)
		for l := range slices.Chunk(l, 64) {
			if e := r.Feed(bytesOf(t, opsFrame(0, l...))); e != api.OK {
				t.Fatal(e)
			}
		}
		if r.Held() != n || r.Text().Len() != 0 {
			t.Fatal(r.Held())
		}
		r.Feed(bytesOf(t, opsFrame(0, first)))
		if r.Held() != 0 || r.Text().Len() != n+1 {
			t.Fatal(r.Held(), r.Text().Len())
		}
	}
}
