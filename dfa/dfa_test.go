package dfa

import (
	"fmt"
	"math"
	"math/rand"
	"reflect"
	"slices"
	"testing"

	"foolscap/api"
	"foolscap/nfa"
	"foolscap/reading"
	"foolscap/rules"
)

// The nodes that tests are written with.
func none() api.Node                  { return api.Node{Op: api.OpEmpty} }
func set(classes ...int) api.Node     { return api.Node{Op: api.OpSet, Classes: classes} }
func seq(parts ...api.Node) api.Node  { return api.Node{Op: api.OpSeq, Parts: parts} }
func alt(parts ...api.Node) api.Node  { return api.Node{Op: api.OpAlt, Parts: parts} }
func star(parts ...api.Node) api.Node { return api.Node{Op: api.OpStar, Parts: parts} }
func opt(parts ...api.Node) api.Node  { return api.Node{Op: api.OpOpt, Parts: parts} }

// some is expressions, none of them Whole; whole is such, all of them Whole.
func some(l ...api.Node) []Expr  { return exprs(false, l) }
func whole(l ...api.Node) []Expr { return exprs(true, l) }

func exprs(whole bool, l []api.Node) []Expr {
	var all []Expr
	for _, n := range l {
		all = append(all, Expr{n, whole})
	}
	return all
}

// times is a row of so many of n.
func times(n api.Node, count int) api.Node { return seq(slices.Repeat([]api.Node{n}, count)...) }

// rows are all rows of so many classes at most, of 0 to classes - 1.
func rows(size, classes int) [][]int {
	all := [][]int{nil}
	for from := 0; size > 0; size-- {
		to := len(all)
		for _, ahead := range all[from:to] {
			for c := range classes {
				all = append(all, append(slices.Clone(ahead), c))
			}
		}
		from = to
	}
	return all
}

// clone is an expression in memory of its own.
func clone(n api.Node) api.Node {
	n.Classes = slices.Clone(n.Classes)
	n.Parts = slices.Clone(n.Parts)
	for i := range n.Parts {
		n.Parts[i] = clone(n.Parts[i])
	}
	return n
}

// spoil writes over all that an expression has in its lists.
func spoil(n api.Node) {
	for i := range n.Parts {
		spoil(n.Parts[i])
		n.Parts[i] = api.Node{Op: 99}
	}
	for i := range n.Classes {
		n.Classes[i] = 99
	}
}

// someNode is a right expression of classes below classes.
func someNode(random *rand.Rand, deep, classes int) api.Node {
	op, count := random.Intn(6), 1
	if deep <= 1 {
		op = min(random.Intn(5), 1) // a set, more often than nothing
	}
	switch op {
	case api.OpEmpty:
		return none()
	case api.OpSet:
		var l []int
		for c := range classes {
			if random.Intn(2) == 0 {
				l = append(l, c)
			}
		}
		return set(l...)
	case api.OpSeq, api.OpAlt:
		count = random.Intn(4)
	}
	n := api.Node{Op: op}
	for range count {
		n.Parts = append(n.Parts, someNode(random, deep-1, classes))
	}
	return n
}

// someRows is a row of some that are no row of none for the most part: machines of these are greater.
func someRows(random *rand.Rand, classes int) api.Node {
	x := seq()
	for range 1 + random.Intn(5) {
		n := someNode(random, 3, classes)
		if random.Intn(3) > 0 {
			n = set(random.Intn(classes))
		}
		x.Parts = append(x.Parts, n)
	}
	return x
}

// someExprs is up to so many expressions, some of them Whole.
func someExprs(random *rand.Rand, most, deep, classes int) []Expr {
	var l []Expr
	for range random.Intn(most + 1) {
		l = append(l, Expr{someNode(random, 1+random.Intn(deep), classes), random.Intn(2) == 0})
	}
	return l
}

func someRow(random *rand.Rand, size, classes int) []int {
	l := make([]int, size)
	for i := range l {
		l[i] = random.Intn(classes)
	}
	return l
}

// built is the machine of expressions that may be.
func built(t *testing.T, classes int, l []Expr) *Machine {
	t.Helper()
	m, e := Build(classes, l)
	if e != api.OK || m == nil {
		t.Fatalf("Build(%d, %v) = %v, %v", classes, l, m, e)
	}
	return m
}

// checkError holds Build against the error that is wanted.
func checkError(t *testing.T, what string, classes int, l []Expr, want api.Errno) {
	t.Helper()
	m, e := Build(classes, l)
	if e != want || (m != nil) != (want == api.OK) {
		t.Errorf("%s: Build is %v, %v, not %v", what, m, e, want)
	}
}

// node is a node of an expression, told from all others by its address.
type node struct {
	op      int
	classes []int
	parts   []*node
	number  int // among the OpSet nodes of all expressions
}

// nodesOf is n as nodes, and gives its OpSet nodes the next numbers.
func nodesOf(n api.Node, count *int) *node {
	x := &node{op: n.Op, classes: n.Classes, number: -1}
	if n.Op == api.OpSet {
		x.number = *count
		*count++
	}
	for _, part := range n.Parts {
		x.parts = append(x.parts, nodesOf(part, count))
	}
	return x
}

// The chapter's words, one by one.

func (x *node) canBeEmpty() bool {
	can := func(part *node) bool { return part.canBeEmpty() }
	switch x.op {
	case api.OpSet:
		return false
	case api.OpSeq:
		return !slices.ContainsFunc(x.parts, func(part *node) bool { return !part.canBeEmpty() })
	case api.OpAlt:
		return slices.ContainsFunc(x.parts, can)
	}
	return true
}

// upTo is the First nodes of parts, one by one, up to the first that can not be empty.
func upTo(parts []*node) []*node {
	var l []*node
	for _, part := range parts {
		l = append(l, part.first()...)
		if !part.canBeEmpty() {
			break
		}
	}
	return l
}

func (x *node) first() []*node {
	switch x.op {
	case api.OpSet:
		return []*node{x}
	case api.OpSeq:
		return upTo(x.parts)
	}
	var l []*node
	for _, part := range x.parts {
		l = append(l, part.first()...)
	}
	return l
}

// within is the place of the part in which n is, or -1.
func (x *node) within(n *node) int {
	return slices.IndexFunc(x.parts, func(part *node) bool { return part == n || part.within(n) >= 0 })
}

func (x *node) canEnd(n *node) bool {
	if x.op == api.OpSet {
		return x == n
	}
	i := x.within(n)
	if !x.parts[i].canEnd(n) {
		return false
	}
	if x.op != api.OpSeq {
		return true
	}
	return !slices.ContainsFunc(x.parts[i+1:], func(part *node) bool { return !part.canBeEmpty() })
}

func (x *node) behind(n *node) []*node {
	if x.op == api.OpSet {
		return nil
	}
	i := x.within(n)
	l := x.parts[i].behind(n)
	if x.parts[i].canEnd(n) {
		switch x.op {
		case api.OpStar:
			l = append(l, x.parts[i].first()...)
		case api.OpSeq:
			l = append(l, upTo(x.parts[i+1:])...)
		}
	}
	return l
}

// wordly is expressions as the chapter's words have them.
type wordly struct {
	classes  int
	exprs    []Expr
	nodes    []*node
	machines []*nfa.Machine
}

func wordlyOf(t *testing.T, classes int, l []Expr) *wordly {
	t.Helper()
	w, count := &wordly{classes: classes, exprs: l}, 0
	for _, x := range l {
		m, e := nfa.New(x.Node)
		if e != api.OK {
			t.Fatalf("%v is not right", x.Node)
		}
		w.machines = append(w.machines, m)
		w.nodes = append(w.nodes, nodesOf(x.Node, &count))
	}
	return w
}

// out is which expressions fit behind a row.
func (w *wordly) out(row []int) uint64 {
	var out uint64
	for i, x := range w.exprs {
		fits := w.machines[i].Matches(row)
		for from := 1; from <= len(row) && !x.Whole; from++ {
			fits = fits || w.machines[i].Matches(row[from:])
		}
		if fits {
			out |= 1 << i
		}
	}
	return out
}

// outs is which fit behind each beginning of a row.
func (w *wordly) outs(row []int) []uint64 {
	var l []uint64
	for size := range len(row) + 1 {
		l = append(l, w.out(row[:size]))
	}
	return l
}

// coming is which nodes may come, of each expression.
type coming []map[*node]bool

func (w *wordly) begin() coming {
	var c coming
	for _, x := range w.nodes {
		may := map[*node]bool{}
		for _, n := range x.first() {
			may[n] = true
		}
		c = append(c, may)
	}
	return c
}

func (w *wordly) step(from coming, class int) coming {
	to := w.begin()
	for i, x := range w.nodes {
		if w.exprs[i].Whole {
			clear(to[i])
		}
		for n := range from[i] {
			if slices.Contains(n.classes, class) {
				for _, next := range x.behind(n) {
					to[i][next] = true
				}
			}
		}
	}
	return to
}

func (c coming) text(out uint64) string {
	var l []int
	for _, may := range c {
		for n := range may {
			l = append(l, n.number)
		}
	}
	slices.Sort(l)
	return fmt.Sprint(l, out)
}

// situation is one, and a row that it is behind of.
type situation struct {
	may  coming
	row  []int
	out  uint64
	next []int
}

// situations is all of them, or nothing, if there are more than most.
func (w *wordly) situations(most int) []*situation {
	var l []*situation
	known := map[string]int{}
	find := func(may coming, row []int) int {
		out := w.out(row)
		s := may.text(out)
		if _, ok := known[s]; !ok {
			known[s] = len(l)
			l = append(l, &situation{may: may, row: row, out: out})
		}
		return known[s]
	}
	find(w.begin(), nil)
	for at := 0; at < len(l) && len(l) <= most; at++ {
		for class := range w.classes {
			l[at].next = append(l[at].next, find(w.step(l[at].may, class), append(slices.Clone(l[at].row), class)))
		}
	}
	if len(l) > most {
		return nil
	}
	return l
}

// least is the least machine of situations, pair by pair: two are two, if other ones fit, or
// if they lead to two that are.
func (w *wordly) least(l []*situation) *Machine {
	two := make([][]bool, len(l))
	for i, a := range l {
		two[i] = make([]bool, len(l))
		for j, b := range l {
			two[i][j] = a.out != b.out
		}
	}
	for again := true; again; {
		again = false
		for i, a := range l {
			for j, b := range l {
				for c := range w.classes {
					if !two[i][j] && two[a.next[c]][b.next[c]] {
						two[i][j], again = true, true
					}
				}
			}
		}
	}
	m := &Machine{Classes: w.classes}
	states := []int{0}
	find := func(s int) int {
		i := slices.IndexFunc(states, func(other int) bool { return !two[s][other] })
		if i < 0 {
			i = len(states)
			states = append(states, s)
		}
		return i
	}
	for at := 0; at < len(states); at++ {
		s := l[states[at]]
		m.Out = append(m.Out, s.out)
		var row []int
		for _, next := range s.next {
			row = append(row, find(next))
		}
		m.Next = append(m.Next, row)
	}
	return m
}

// checkLeast tells whether a machine has all that the chapter says of its states, whatever
// they tell: each is met, in order, and of each two some row tells them apart.
func checkLeast(t *testing.T, m *Machine) {
	t.Helper()
	if len(m.Next) != len(m.Out) || len(m.Out) == 0 || len(m.Out) > 400 {
		t.Fatalf("%d states with next ones, %d with what fits", len(m.Next), len(m.Out))
	}
	met := 1
	for state, row := range m.Next {
		if len(row) != m.Classes || state >= met {
			t.Fatalf("state %d: %v, %d are met", state, row, met)
		}
		for _, next := range row {
			if next < 0 || next > met {
				t.Fatalf("state %d: %v, where %d comes next", state, row, met)
			}
			met = max(met, next+1)
		}
	}
	if met != len(m.Next) {
		t.Fatalf("of %d states %d are met", len(m.Next), met)
	}
	apart := make([][]bool, met)
	for i := range apart {
		apart[i] = make([]bool, met)
	}
	for again := true; again; {
		again = false
		for i := range met {
			for j := range i {
				is := m.Out[i] != m.Out[j]
				for c := range m.Classes {
					a, b := m.Next[i][c], m.Next[j][c]
					is = is || apart[max(a, b)][min(a, b)]
				}
				if is && !apart[i][j] {
					apart[i][j], again = true, true
				}
			}
		}
	}
	for i := range met {
		for j := range i {
			if !apart[i][j] {
				t.Fatalf("states %d and %d of %v are the same", j, i, m)
			}
		}
	}
}

// checkRun holds Run, and Step by Step, against what is wanted.
func checkRun(t *testing.T, m *Machine, row []int, want []uint64) {
	t.Helper()
	got, e := m.Run(row)
	if e != api.OK || !slices.Equal(got, want) {
		t.Fatalf("%v: Run(%v) = %b, %v, not %b", m, row, got, e, want)
	}
	state := 0
	for i, class := range row {
		state = m.Step(state, class)
		if m.Out[state] != want[i+1] {
			t.Fatalf("%v: Out behind %v is %b, not %b", m, row[:i+1], m.Out[state], want[i+1])
		}
	}
}

func TestExample(t *testing.T) {
	m := built(t, 2, some(set(0)))
	if want := (&Machine{Classes: 2, Next: [][]int{{1, 0}, {1, 0}}, Out: []uint64{0, 1}}); !reflect.DeepEqual(m, want) {
		t.Errorf("%v, not %v", m, want)
	}
	if MaxSets != 2000 {
		t.Errorf("MaxSets = %d", MaxSets)
	}
}

// TestH1Machines: machines that are written out.
func TestH1Machines(t *testing.T) {
	odd := seq(star(seq(set(0), set(0))), set(0))
	for _, y := range []struct {
		name    string
		classes int
		l       []Expr
		next    [][]int
		out     []uint64
	}{
		{"none", 3, nil, [][]int{{0, 0, 0}}, []uint64{0}},
		{"nothing, whole", 1, whole(none()), [][]int{{1}, {1}}, []uint64{1, 0}},
		{"nothing, not whole", 1, some(none()), [][]int{{0}}, []uint64{1}},
		{"what fits nothing", 2, some(set(), alt(), seq(set(0), alt())), [][]int{{0, 0}}, []uint64{0}},
		{"a row of none", 1, some(seq()), [][]int{{0}}, []uint64{1}},
		{"one class, whole", 2, whole(set(0)), [][]int{{1, 2}, {2, 2}, {2, 2}}, []uint64{0, 1, 0}},
		{"the last class of two", 2, some(set(1)), [][]int{{0, 1}, {0, 1}}, []uint64{0, 1}},
		{"all classes", 2, some(set(0, 1)), [][]int{{1, 1}, {1, 1}}, []uint64{0, 1}},
		{"a row, not whole", 2, some(seq(set(0), set(1))), [][]int{{1, 0}, {1, 2}, {1, 0}}, []uint64{0, 0, 1}},
		{"a row, whole", 2, whole(seq(set(0), set(1))), [][]int{{1, 2}, {2, 3}, {2, 2}, {2, 2}}, []uint64{0, 0, 0, 1}},
		{"an odd number, whole", 1, whole(odd), [][]int{{1}, {0}}, []uint64{0, 1}},
		{"an odd number, not whole", 1, some(odd), [][]int{{1}, {1}}, []uint64{0, 1}},
		{"met by rising classes", 3, some(set(2), set(1), set(0)), [][]int{{1, 2, 3}, {1, 2, 3}, {1, 2, 3}, {1, 2, 3}}, []uint64{0, 4, 2, 1}},
		{"both kinds of one", 2, []Expr{{set(0), true}, {set(0), false}, {set(0), true}}, [][]int{{1, 2}, {3, 2}, {3, 2}, {3, 2}}, []uint64{0, 7, 0, 2}},
		{"one or none, whole", 1, whole(opt(set(0))), [][]int{{1}, {2}, {2}}, []uint64{1, 1, 0}},
		{"behind a state its next ones, then those of the next state", 2, whole(alt(seq(set(0), set(0)), seq(set(1), set(1)))),
			[][]int{{1, 2}, {3, 4}, {4, 3}, {4, 4}, {4, 4}}, []uint64{0, 0, 0, 1, 0}},
	} {
		m := built(t, y.classes, y.l)
		if want := (&Machine{y.classes, y.next, y.out}); !reflect.DeepEqual(m, want) {
			t.Errorf("%s: %v, not %v", y.name, m, want)
		}
		checkLeast(t, m)
	}
}

// TestH1ByWords holds situations, and machines, against the chapter's words.
func TestH1ByWords(t *testing.T) {
	random := rand.New(rand.NewSource(8))
	sizes := map[int]int{}
	for range 10000 {
		classes := 1 + random.Intn(3)
		l := someExprs(random, 6, 5, classes)
		for i := range l {
			if random.Intn(3) > 0 {
				l[i].Node = someRows(random, classes)
			}
		}
		w := wordlyOf(t, classes, l)
		want := w.situations(150)
		if want == nil {
			continue
		}
		if got, ok := situations(classes, l); !ok || len(got.Out) != len(want) {
			t.Fatalf("%v: situations %v, not %d", l, got, len(want))
		}
		m := built(t, classes, l)
		if least := w.least(want); !reflect.DeepEqual(m, least) {
			t.Fatalf("%v: %v, not %v", l, m, least)
		}
		checkLeast(t, m)
		sizes[min(len(m.Out)/5, 4)]++
	}
	for i := range 5 {
		if sizes[i] < 100 {
			t.Errorf("only %d machines of %d states and more", sizes[i], 5*i)
		}
	}
}

// TestH1Rows: of all short rows, and of some longer ones, machines tell what fits behind, as
// 7 has it, and as 6 has it of a rule's Left.
func TestH1Rows(t *testing.T) {
	random := rand.New(rand.NewSource(18))
	all := rows(5, 3)
	for range 250 {
		l := someExprs(random, 6, 4, 3)
		w := wordlyOf(t, 3, l)
		m := built(t, 3, l)
		for _, row := range all {
			checkRun(t, m, row, w.outs(row))
		}
		for range 3 {
			row := someRow(random, 25, 3)
			outs := w.outs(row)
			checkRun(t, m, row, outs)
			for i, x := range l {
				for p := range len(row) + 1 {
					if reading.Fits(api.Rule{Left: x.Node, Start: x.Whole}, row, p) != (outs[p]>>i&1 == 1) {
						t.Fatalf("%v: reading tells otherwise of %v at %d", x, row, p)
					}
				}
			}
		}
	}
}

// TestH1Written: rules in the manner of UAX #29, of many classes.
func TestH1Written(t *testing.T) {
	classes := []string{"Other", "CR", "LF", "Control", "Extend", "ZWJ", "RI", "Prepend", "SpacingMark", "L", "V", "T", "LV", "LVT", "ExtPict"}
	text := `CR - LF
[Control CR LF] /
/ [Control CR LF]
L - [L V LV LVT]
[LV V] - [V T]
[LVT T] - T
- [Extend ZWJ]
- SpacingMark
Prepend -
ExtPict Extend* ZWJ - ExtPict
^ (RI RI)* RI - RI
[~RI] (RI RI)* RI - RI
`
	rl, err := rules.Parse(text, classes)
	if err != nil {
		t.Fatal(err)
	}
	var ahead, behind []Expr
	for _, r := range rl {
		ahead = append(ahead, Expr{r.Left, r.Start})
		behind = append(behind, Expr{nfa.Reverse(r.Right), false})
	}
	random := rand.New(rand.NewSource(28))
	for _, l := range [][]Expr{ahead, behind} {
		w, m := wordlyOf(t, len(classes), l), built(t, len(classes), l)
		checkLeast(t, m)
		if want := w.least(w.situations(400)); !reflect.DeepEqual(m, want) {
			t.Errorf("%v, not %v", m, want)
		}
		for range 40 {
			row := someRow(random, 30, len(classes))
			for i := range row {
				if random.Intn(2) == 0 {
					row[i] = []int{4, 5, 6, 14}[random.Intn(4)]
				}
			}
			checkRun(t, m, row, w.outs(row))
		}
	}
}

// TestH1AllClasses: each class from 0 to 23, and each expression from 0 to 63, has its own.
func TestH1AllClasses(t *testing.T) {
	var l []Expr
	for i := range 64 {
		l = append(l, Expr{set(i % 24), i >= 24 && i < 48})
	}
	m := built(t, 24, l)
	checkLeast(t, m)
	if len(m.Out) != 49 || m.Classes != 24 {
		t.Errorf("%d states of %d classes", len(m.Out), m.Classes)
	}
	for a := range 24 {
		first := uint64(1)<<a | uint64(1)<<(a+24)
		later := uint64(1) << a
		if a+48 < 64 {
			first |= 1 << (a + 48)
			later |= 1 << (a + 48)
		}
		checkRun(t, m, []int{a, a, a}, []uint64{0, first, later, later})
	}
	m = built(t, 1, slices.Repeat(some(none()), 64))
	if !slices.Equal(m.Out, []uint64{math.MaxUint64}) {
		t.Errorf("%b", m.Out)
	}
}

// wrongNodes are nodes that are not right, whatever classes there are.
func wrongNodes() []api.Node {
	deep := set(0)
	for range nfa.MaxDeep {
		deep = opt(deep)
	}
	return []api.Node{
		{Op: -1}, {Op: 6}, {Op: math.MinInt}, {Op: math.MaxInt}, set(-1), set(24), set(0, 24), set(1, 1), set(1, 0), set(math.MaxInt), set(math.MinInt),
		{Op: api.OpSet, Parts: []api.Node{none()}}, {Op: api.OpEmpty, Classes: []int{0}}, {Op: api.OpEmpty, Parts: []api.Node{none()}},
		{Op: api.OpSeq, Classes: []int{0}}, {Op: api.OpAlt, Classes: []int{0}, Parts: []api.Node{set(0)}},
		star(), star(set(0), set(0)), opt(), opt(none(), none()), deep, times(set(0), 400), alt(slices.Repeat([]api.Node{none()}, 400)...),
	}
}

func TestH1ErrArg(t *testing.T) {
	for _, classes := range []int{0, -1, 25, 26, 64, math.MinInt, math.MaxInt, 1 << 32, 1<<32 + 1} {
		checkError(t, "classes that may not be", classes, nil, api.ErrArg)
		checkError(t, "classes that may not be", classes, some(none()), api.ErrArg)
	}
	for classes := 1; classes <= 24; classes++ {
		checkError(t, "classes that may be", classes, nil, api.OK)
		for class := range 24 {
			want := api.OK
			if class >= classes {
				want = api.ErrArg
			}
			for _, n := range []api.Node{set(class), seq(set(), star(set(class))), alt(none(), opt(set(class))), star(seq(set(0), seq(set(0), set(class))))} {
				checkError(t, "one class", classes, some(n), want)
				checkError(t, "one class, whole", classes, whole(set(0), n), want)
			}
			if class > 0 {
				checkError(t, "a class behind another", classes, some(set(0, class)), want)
			}
		}
	}
	for count := range 130 {
		want := api.OK
		if count > 64 {
			want = api.ErrArg
		}
		checkError(t, "so many expressions", 2, make([]Expr, count), want)
		checkError(t, "so many expressions", 2, slices.Repeat(whole(set(1)), count), want)
	}
	for _, n := range wrongNodes() {
		for _, x := range []api.Node{n, seq(n), seq(set(0), n), alt(n, set(0)), star(n), opt(n)} {
			checkError(t, "not right", 24, some(x), api.ErrArg)
			checkError(t, "the first is not right", 24, append(some(x), whole(set(0))...), api.ErrArg)
			checkError(t, "the last is not right", 24, append(some(set(0)), whole(x)...), api.ErrArg)
			checkError(t, "the last of 64 is not right", 24, append(make([]Expr, 63), some(x)...), api.ErrArg)
		}
	}
}

// cycles fits always, and goes round as many situations as its sizes have in common.
func cycles(sizes ...int) api.Node {
	x := alt(star(set(0)))
	for _, size := range sizes {
		x.Parts = append(x.Parts, star(times(set(0), size)))
	}
	return x
}

// TestH1MaxSets: 2000 situations may be, one more may not, however few states the machine has.
func TestH1MaxSets(t *testing.T) {
	dead := func(size int) api.Node { return seq(star(times(set(0), size)), alt()) }
	for _, y := range []struct {
		name    string
		classes int
		l       []Expr
		want    api.Errno
		states  int
	}{
		{"2000, of one", 1, whole(cycles(16, 125)), api.OK, 1},
		{"2001, of one", 1, whole(cycles(69, 29)), api.ErrLimit, 0},
		{"2000, of two", 1, whole(cycles(16), cycles(125)), api.OK, 1},
		{"2001, of two", 1, whole(cycles(69), cycles(29)), api.ErrLimit, 0},
		{"2001, of three", 1, whole(cycles(3), cycles(23), cycles(29)), api.ErrLimit, 0},
		{"1995, of four", 1, whole(cycles(3), cycles(5), cycles(7), cycles(19)), api.OK, 1},
		{"2310, of five", 1, whole(cycles(2), cycles(3), cycles(5), cycles(7), cycles(11)), api.ErrLimit, 0},
		{"2000, of a node that nothing ends with", 1, whole(dead(16), dead(125)), api.OK, 1},
		{"2001, of nodes that nothing ends with", 1, whole(dead(69), dead(29)), api.ErrLimit, 0},
		// 1998 go round; ahead of these are as many as the third is long.
		{"1998 and 2", 1, whole(cycles(54, 37), alt(star(set(0)), times(set(0), 2))), api.OK, 1},
		{"1998 and 3", 1, whole(cycles(54, 37), alt(star(set(0)), times(set(0), 3))), api.ErrLimit, 0},
		{"1998 and 2, with a set of no class", 1, whole(cycles(54, 37), alt(star(set(0)), seq(set(0), set()))), api.OK, 1},
		{"1998 and 3, with a set of no class", 1, whole(cycles(54, 37), alt(star(set(0)), seq(set(0), set(0), set()))), api.ErrLimit, 0},
		// What fits nothing any more behind the first one is no node that may come.
		{"1998 and 2, with what fits nothing", 1, whole(cycles(54, 37), alt(star(set(0)), seq(set(0), set(0), alt()))), api.OK, 1},
		{"1998 and 2, with nothing to come", 1, whole(cycles(54, 37), seq(set(0), alt(), set(0)), seq(set(0), set(0), alt(), set(0))), api.OK, 1},
		// The same nodes, but other ones fit: as many situations.
		{"1998 and 2, of what fits", 1, whole(cycles(54, 37), opt(set(0))), api.OK, 3},
		{"1998 and 3, of what fits", 1, whole(cycles(54, 37), alt(none(), set(0), times(set(0), 2))), api.ErrLimit, 0},
		{"1024, of what came last", 2, some(alt(star(set(0, 1)), seq(set(0), times(set(0, 1), 10)))), api.OK, 1},
		{"2048, of what came last", 2, some(alt(star(set(0, 1)), seq(set(0), times(set(0, 1), 11)))), api.ErrLimit, 0},
		{"2^398", 24, slices.Repeat(some(seq(set(23), times(set(all24()...), 397))), 64), api.ErrLimit, 0},
	} {
		checkError(t, y.name, y.classes, y.l, y.want)
		if m, e := Build(y.classes, y.l); e == api.OK && len(m.Out) != y.states {
			t.Errorf("%s: %d states, not %d", y.name, len(m.Out), y.states)
		}
	}
	// An expression that is not right tells more than too many situations.
	checkError(t, "not right, ahead", 1, append(whole(star()), whole(cycles(69, 29))...), api.ErrArg)
	checkError(t, "not right, behind", 1, append(whole(cycles(69, 29)), whole(star())...), api.ErrArg)
	checkError(t, "no such class, behind", 1, append(whole(cycles(69, 29)), whole(set(1))...), api.ErrArg)
	checkError(t, "65", 1, slices.Repeat(whole(cycles(69, 29)), 65), api.ErrArg)
}

// all24 is all classes that there are.
func all24() []int {
	l := make([]int, 24)
	for i := range l {
		l[i] = i
	}
	return l
}

// TestH1MaxStates: 400 states may be, one more may not.
func TestH1MaxStates(t *testing.T) {
	round := func(size int) api.Node { return star(times(set(0), size)) }
	for _, y := range []struct {
		name    string
		classes int
		l       []Expr
		states  int
	}{
		{"a row", 1, whole(times(set(0), 397)), 399},
		{"a longer row", 1, whole(times(set(0), 398)), 400},
		{"too long a row", 1, whole(times(set(0), 399)), 401},
		{"round", 1, whole(round(16), round(25)), 400},
		{"round, once more", 1, whole(round(398)), 398},
		{"too long round", 1, whole(round(13), round(31)), 403},
		{"round, from the first on", 1, whole(round(25), seq(set(0), round(16))), 400},
		{"round, but not from the first on", 1, whole(round(25), seq(times(set(0), 16), round(16))), 401},
		{"1995 situations, too many states", 1, whole(round(3), round(5), round(7), round(19)), 1995},
		{"256, of what came last", 2, some(seq(set(0), times(set(0, 1), 7))), 256},
		{"512, of what came last", 2, some(seq(set(0), times(set(0, 1), 8))), 512},
	} {
		want := api.OK
		if y.states > 400 {
			want = api.ErrLimit
		}
		checkError(t, y.name, y.classes, y.l, want)
		if m, e := Build(y.classes, y.l); e == api.OK {
			checkLeast(t, m)
			if len(m.Out) != y.states {
				t.Errorf("%s: %d states, not %d", y.name, len(m.Out), y.states)
			}
		}
	}
	// A row of 398 is read to its end, state by state.
	m := built(t, 1, whole(times(set(0), 398)))
	want := make([]uint64, 401)
	want[398] = 1
	checkRun(t, m, make([]int, 400), want)
}

// TestH1Large: as many nodes as may be, in as many expressions.
func TestH1Large(t *testing.T) {
	wide := star(alt(slices.Repeat([]api.Node{set(all24()...)}, 398)...))
	m := built(t, 24, append(slices.Repeat(some(wide), 32), slices.Repeat(whole(wide), 32)...))
	if !reflect.DeepEqual(m, &Machine{24, [][]int{make([]int, 24)}, []uint64{math.MaxUint64}}) {
		t.Errorf("%v", m)
	}
	long := seq(slices.Repeat([]api.Node{opt(set(0, 1))}, 199)...)
	if nfa.Right(seq(append(long.Parts, none())...)) != true || nfa.Right(seq(append(long.Parts, opt(none()))...)) {
		t.Fatal("other than 399 nodes")
	}
	m = built(t, 2, slices.Repeat(whole(long), 64))
	checkLeast(t, m)
	if len(m.Out) != 201 || m.Out[199] != math.MaxUint64 || m.Out[200] != 0 {
		t.Errorf("%d states", len(m.Out))
	}
}

// endless is an expression that is a part of itself.
func endless(op, parts int) api.Node {
	l := make([]api.Node, parts)
	for i := range l {
		l[i] = api.Node{Op: op, Parts: l}
	}
	return l[0]
}

// TestH1Endless: whatever is handed in, Build ends (R2).
func TestH1Endless(t *testing.T) {
	for op := -1; op <= 6; op++ {
		for parts := 1; parts <= 3; parts++ {
			checkError(t, "endless", 2, append(some(set(0)), some(endless(op, parts))...), api.ErrArg)
			checkError(t, "endless", 2, whole(seq(set(0), endless(op, parts))), api.ErrArg)
		}
	}
}

// TestH1Shared: nodes in the same memory are two, where they stand twice.
func TestH1Shared(t *testing.T) {
	part := seq(set(0), opt(set(1)))
	shared := seq(part, star(part), alt(part, part))
	apart := seq(clone(part), star(clone(part)), alt(clone(part), clone(part)))
	if !reflect.DeepEqual(built(t, 2, whole(shared)), built(t, 2, whole(apart))) {
		t.Error("memory that is shared tells")
	}
}

// TestH1Own: what is handed in stays as it was and is not kept; what is answered is the caller's (R1), and the same each time (R4).
func TestH1Own(t *testing.T) {
	random := rand.New(rand.NewSource(38))
	for range 500 {
		l := someExprs(random, 4, 4, 3)
		was := slices.Clone(l)
		for i := range was {
			was[i].Node = clone(l[i].Node)
		}
		m, other := built(t, 3, l), built(t, 3, l)
		if !reflect.DeepEqual(l, was) {
			t.Fatalf("Build changed %v to %v", was, l)
		}
		if !reflect.DeepEqual(m, other) {
			t.Fatalf("%v and %v of the same", m, other)
		}
		for i := range l {
			spoil(l[i].Node)
			l[i] = Expr{Node: api.Node{Op: 99}}
		}
		if !reflect.DeepEqual(m, other) || !reflect.DeepEqual(built(t, 3, was), m) {
			t.Fatal("a machine keeps what it was made of")
		}
		for i := range other.Next {
			for c := range other.Next[i] {
				other.Next[i][c] = -7
			}
			other.Next[i] = append(other.Next[i], -7)
			other.Out[i] = 7
		}
		for i := range other.Next {
			if !slices.Equal(other.Next[i], []int{-7, -7, -7, -7}) {
				t.Fatalf("lists of one answer share memory: %v", other.Next)
			}
		}
		if !reflect.DeepEqual(built(t, 3, was), m) {
			t.Fatal("an answer that is written over changes another one")
		}
	}
}

func TestH2Run(t *testing.T) {
	pairs := seq(star(seq(set(0), set(0))), set(0))
	m := built(t, 3, append(whole(pairs), some(set(1), seq(set(1), set(2)), none())...))
	for _, y := range []struct {
		row  []int
		want []uint64
	}{
		{nil, []uint64{8}}, {[]int{}, []uint64{8}}, {[]int{0}, []uint64{8, 9}}, {[]int{0, 0}, []uint64{8, 9, 8}}, {[]int{0, 0, 0}, []uint64{8, 9, 8, 9}},
		{[]int{1}, []uint64{8, 10}}, {[]int{1, 2, 2}, []uint64{8, 10, 12, 8}}, {[]int{2, 0, 1, 2, 0}, []uint64{8, 8, 8, 10, 12, 8}},
	} {
		row := slices.Clone(y.row)
		checkRun(t, m, row, y.want)
		if !slices.Equal(row, y.row) {
			t.Errorf("Run changed %v to %v", y.row, row)
		}
	}
	for _, row := range [][]int{{3}, {-1}, {0, 3}, {3, 0}, {0, 1, 2, -1}, {0, 1, 2, -1, 0, 1}, {math.MaxInt}, {math.MinInt}, {0, 1 << 32}, append(make([]int, 1000), 3)} {
		if out, e := m.Run(row); e != api.ErrArg || out != nil {
			t.Errorf("Run(%v) = %v, %v", row, out, e)
		}
	}
	for classes := 1; classes <= 24; classes++ {
		m := built(t, classes, some(set(classes-1)))
		for class := -2; class <= 26; class++ {
			out, e := m.Run([]int{class})
			if is := class >= 0 && class < classes; is != (e == api.OK) || is != (len(out) == 2) || !is && e != api.ErrArg {
				t.Errorf("%d classes: Run of %d = %v, %v", classes, class, out, e)
			}
		}
	}
	out, _ := m.Run([]int{1, 2})
	out[0], out[1], out[2] = 99, 99, 99
	checkRun(t, m, []int{1, 2}, []uint64{8, 10, 12})
	long := make([]int, 1000000)
	out, e := m.Run(long)
	if e != api.OK || len(out) != len(long)+1 || out[999999] != 9 || out[1000000] != 8 {
		t.Errorf("of a million: %d, %v", len(out), e)
	}
}

func TestH2Step(t *testing.T) {
	m := built(t, 3, whole(seq(set(0), set(1, 2), set(2))))
	last := len(m.Next)
	for state := -3; state <= last+3; state++ {
		for class := -3; class <= 27; class++ {
			want := 0
			if state >= 0 && state < last && class >= 0 && class < 3 {
				want = m.Next[state][class]
			}
			if got := m.Step(state, class); got != want {
				t.Errorf("Step(%d, %d) = %d, not %d", state, class, got, want)
			}
		}
	}
	if m.Step(0, 1) == 0 || m.Step(last-1, 2) == 0 {
		t.Errorf("a machine that never leaves its beginning: %v", m)
	}
	for _, odd := range []int{math.MinInt, math.MaxInt, 1 << 32, -1 << 32} {
		if m.Step(odd, 0) != 0 || m.Step(0, odd) != 0 || m.Step(odd, odd) != 0 {
			t.Errorf("Step of %d", odd)
		}
	}
}

// copied is a machine in memory of its own.
func copied(m *Machine) *Machine {
	other := &Machine{m.Classes, nil, slices.Clone(m.Out)}
	for _, row := range m.Next {
		other.Next = append(other.Next, slices.Clone(row))
	}
	return other
}

func TestH2Equal(t *testing.T) {
	m := built(t, 2, whole(seq(set(0), set(1))))
	if !Equal(m, m) || !Equal(m, copied(m)) || !Equal(copied(m), m) {
		t.Error("a machine is not Equal to itself")
	}
	for i, change := range []func(m *Machine){
		func(m *Machine) { m.Classes = 3 },
		func(m *Machine) { m.Classes = 0 },
		func(m *Machine) { m.Out[0] = 1 },
		func(m *Machine) { m.Out[3] ^= 1 << 63 },
		func(m *Machine) { m.Out = m.Out[:3] },
		func(m *Machine) { m.Out = append(m.Out, 0) },
		func(m *Machine) { m.Out = nil },
		func(m *Machine) { m.Next[0][0] = 2 },
		func(m *Machine) { m.Next[3][1] = 0 },
		func(m *Machine) { m.Next[1] = m.Next[1][:1] },
		func(m *Machine) { m.Next[3] = append(m.Next[3], 0) },
		func(m *Machine) { m.Next[2] = nil },
		func(m *Machine) { m.Next = m.Next[:3] },
		func(m *Machine) { m.Next = append(m.Next, []int{0, 0}) },
		func(m *Machine) { m.Next = append(m.Next, nil) },
		func(m *Machine) { m.Next = nil },
		func(m *Machine) { *m = Machine{} },
	} {
		other := copied(m)
		change(other)
		if Equal(m, other) || Equal(other, m) {
			t.Errorf("%d: %v and %v are Equal", i, m, other)
		}
		if !Equal(other, copied(other)) {
			t.Errorf("%d: %v is not Equal to itself", i, other)
		}
	}
	if !Equal(&Machine{}, &Machine{Next: [][]int{}, Out: []uint64{}}) || !Equal(&Machine{Next: [][]int{nil}}, &Machine{Next: [][]int{{}}}) {
		t.Error("lists without items are not the same")
	}
	if Equal(m, nil) || Equal(nil, m) || Equal(nil, &Machine{}) || !Equal(nil, nil) {
		t.Error("Equal of no machine")
	}
}

// TestH2WrittenOver: no call panics on a machine that its owner wrote over (R1, R2).
func TestH2WrittenOver(t *testing.T) {
	odd := []*Machine{nil, {}, {Classes: 2}, {Classes: -1}, {Classes: 2, Next: [][]int{nil, {1}}}, {Classes: 2, Out: []uint64{1}},
		{Classes: 2, Next: [][]int{{-1, 9}}, Out: []uint64{1}}, {Classes: 2, Next: [][]int{{math.MinInt, math.MaxInt}}}, {Classes: math.MaxInt, Next: [][]int{{0}}}}
	for _, m := range odd {
		for _, row := range rows(3, 2) {
			if out, e := m.Run(row); e == api.OK && len(out) != len(row)+1 || e != api.OK && out != nil {
				t.Errorf("%v: Run(%v) = %v, %v", m, row, out, e)
			}
		}
		for state := -1; state < 3; state++ {
			m.Step(state, 0)
			m.Step(state, math.MaxInt)
		}
		for _, other := range odd {
			if Equal(m, other) != (m == other) {
				t.Errorf("Equal(%v, %v) = %v", m, other, m != other)
			}
		}
	}
}

// rewritten is an expression that fits the same.
func rewritten(random *rand.Rand, n api.Node) api.Node {
	parts := slices.Clone(n.Parts)
	for i := range parts {
		parts[i] = rewritten(random, parts[i])
	}
	x := api.Node{Op: n.Op, Classes: n.Classes, Parts: parts}
	switch n.Op {
	case api.OpEmpty:
		x = []api.Node{none(), seq(), star(alt()), opt(set())}[random.Intn(4)]
	case api.OpSet:
		if random.Intn(2) == 0 {
			x = alt()
			for _, class := range n.Classes {
				x.Parts = append([]api.Node{set(class)}, x.Parts...)
			}
		}
	case api.OpAlt:
		random.Shuffle(len(parts), func(i, j int) { parts[i], parts[j] = parts[j], parts[i] })
	case api.OpStar:
		x = []api.Node{star(parts...), star(opt(parts...)), opt(seq(parts[0], star(parts[0]))), seq(star(parts...), star(parts...))}[random.Intn(4)]
	case api.OpOpt:
		x = []api.Node{opt(parts...), alt(none(), parts[0]), opt(opt(parts...))}[random.Intn(3)]
	}
	return []api.Node{x, x, x, seq(x), alt(x), alt(x, x), seq(none(), x, none())}[random.Intn(7)]
}

// TestFollowsEqual: machines of expressions that fit the same are Equal.
func TestFollowsEqual(t *testing.T) {
	random := rand.New(rand.NewSource(48))
	count := 0
	for range 3000 {
		l := someExprs(random, 3, 4, 2)
		m, e := Build(2, l)
		if e != api.OK {
			continue
		}
		var other []Expr
		for _, x := range l {
			other = append(other, Expr{rewritten(random, x.Node), x.Whole})
		}
		w, e := Build(2, other)
		if e != api.OK {
			continue // there may be more situations, or too many nodes
		}
		count++
		if !Equal(m, w) || !Equal(w, m) {
			t.Fatalf("%v and %v fit the same: %v, %v", l, other, m, w)
		}
		if !Equal(m, built(t, 2, l)) {
			t.Fatalf("two machines of %v", l)
		}
	}
	if count < 2000 {
		t.Errorf("only %d", count)
	}
	a, b := set(0), set(1)
	for _, y := range []struct{ x, y []Expr }{
		{some(seq(a, opt(b))), some(alt(a, seq(a, b)))},
		{whole(seq(star(set(0, 1)), a)), some(a)},
		{some(star(a)), some(none())},
		{some(seq(star(a), b)), some(b)},
		{whole(star(alt(a, b))), whole(star(seq(star(a), star(b))))},
		{whole(seq(a, star(seq(b, a)))), whole(seq(star(seq(a, b)), a))},
		{whole(seq(star(seq(a, a)), opt(a))), whole(star(a))},
		{some(seq(set(), a)), some(alt())},
	} {
		if !Equal(built(t, 2, y.x), built(t, 2, y.y)) {
			t.Errorf("%v and %v fit the same", y.x, y.y)
		}
	}
}

// TestFollowsUnlike: machines are Equal only if the same fits: of other ones some row tells.
func TestFollowsUnlike(t *testing.T) {
	random := rand.New(rand.NewSource(58))
	all := rows(7, 2)
	unlike := 0
	for range 1500 {
		l, other := someExprs(random, 2, 3, 2), someExprs(random, 2, 3, 2)
		if len(l) != len(other) {
			continue
		}
		m, w := built(t, 2, l), built(t, 2, other)
		tells := slices.ContainsFunc(all, func(row []int) bool {
			x, _ := m.Run(row)
			y, _ := w.Run(row)
			return !slices.Equal(x, y)
		})
		if Equal(m, w) && tells || !Equal(m, w) && !tells && len(m.Out)+len(w.Out) <= 8 {
			t.Fatalf("%v and %v: Equal is %v", l, other, Equal(m, w))
		}
		if tells {
			unlike++
		}
	}
	if unlike < 300 {
		t.Errorf("only %d unlike ones", unlike)
	}
	if Equal(built(t, 2, some(set(0))), built(t, 3, some(set(0)))) {
		t.Error("machines of other classes are Equal")
	}
	if Equal(built(t, 2, some(set(0), set(1))), built(t, 2, some(set(1), set(0)))) {
		t.Error("the order of expressions does not tell")
	}
}
