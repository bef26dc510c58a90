package nfa

import (
	"math"
	"math/rand"
	"regexp"
	"slices"
	"strings"
	"testing"

	"foolscap/api"
	"foolscap/reading"
	"foolscap/rules"
)

// The nodes that tests are written with.
func none() api.Node                  { return api.Node{Op: api.OpEmpty} }
func set(classes ...int) api.Node     { return api.Node{Op: api.OpSet, Classes: classes} }
func seq(parts ...api.Node) api.Node  { return api.Node{Op: api.OpSeq, Parts: parts} }
func alt(parts ...api.Node) api.Node  { return api.Node{Op: api.OpAlt, Parts: parts} }
func star(parts ...api.Node) api.Node { return api.Node{Op: api.OpStar, Parts: parts} }
func opt(parts ...api.Node) api.Node  { return api.Node{Op: api.OpOpt, Parts: parts} }

// rowOf is the row whose classes are written as digits.
func rowOf(s string) []int {
	l := []int{}
	for _, c := range s {
		l = append(l, int(c-'0'))
	}
	return l
}

// back is a row, turned.
func back(row []int) []int {
	l := slices.Clone(row)
	slices.Reverse(l)
	return l
}

// fits tells whether a right expression fits a row, by the chapter's words.
func fits(n api.Node, row []int) bool {
	switch n.Op {
	case api.OpEmpty:
		return len(row) == 0
	case api.OpSet:
		return len(row) == 1 && slices.Contains(n.Classes, row[0])
	case api.OpSeq:
		if len(n.Parts) == 0 {
			return len(row) == 0
		}
		for c := range len(row) + 1 {
			if fits(n.Parts[0], row[:c]) && fits(seq(n.Parts[1:]...), row[c:]) {
				return true
			}
		}
		return false
	case api.OpAlt:
		return slices.ContainsFunc(n.Parts, func(part api.Node) bool { return fits(part, row) })
	case api.OpStar:
		// A first row of none adds nothing: the others would fit already.
		for c := 1; c <= len(row); c++ {
			if fits(n.Parts[0], row[:c]) && fits(n, row[c:]) {
				return true
			}
		}
		return len(row) == 0
	}
	return len(row) == 0 || fits(n.Parts[0], row)
}

// deepOf is how deep an expression is.
func deepOf(n api.Node) int {
	deep := 0
	for _, part := range n.Parts {
		deep = max(deep, deepOf(part))
	}
	return deep + 1
}

// nodesOf is all nodes of an expression.
func nodesOf(n api.Node) []api.Node {
	l := []api.Node{n}
	for _, part := range n.Parts {
		l = append(l, nodesOf(part)...)
	}
	return l
}

// isRight tells whether an expression is right, by the chapter's words.
func isRight(x api.Node) bool {
	all := nodesOf(x)
	for _, n := range all {
		switch {
		case n.Op < api.OpEmpty || n.Op > api.OpOpt:
			return false
		case n.Op == api.OpSet && len(n.Parts) > 0:
			return false
		case n.Op != api.OpSet && len(n.Classes) > 0:
			return false
		case n.Op == api.OpEmpty && len(n.Parts) > 0:
			return false
		case (n.Op == api.OpStar || n.Op == api.OpOpt) && len(n.Parts) != 1:
			return false
		}
		for i, class := range n.Classes {
			if class < 0 || class > 23 || i > 0 && n.Classes[i-1] >= class {
				return false
			}
		}
	}
	return deepOf(x) <= 32 && len(all) <= 400
}

// clone is an expression in memory of its own.
func clone(n api.Node) api.Node {
	n.Classes = slices.Clone(n.Classes)
	n.Parts = slices.Clone(n.Parts)
	for i := range n.Parts {
		n.Parts[i] = clone(n.Parts[i])
	}
	return n
}

func same(a, b api.Node) bool {
	return a.Op == b.Op && slices.Equal(a.Classes, b.Classes) && slices.EqualFunc(a.Parts, b.Parts, same)
}

// spoil writes over all that an expression has in its lists.
func spoil(n api.Node) {
	for i := range n.Parts {
		spoil(n.Parts[i])
		n.Parts[i] = api.Node{Op: 99}
	}
	for i := range n.Classes {
		n.Classes[i] = 99
	}
}

// turnedNode is an expression whose rows are turned, by the chapter's words.
func turnedNode(n api.Node) api.Node {
	t := api.Node{Op: n.Op, Classes: slices.Clone(n.Classes)}
	for i := range n.Parts {
		if n.Op == api.OpSeq {
			i = len(n.Parts) - 1 - i
		}
		t.Parts = append(t.Parts, turnedNode(n.Parts[i]))
	}
	return t
}

// rows are all rows of so many classes at most, of 0 to classes - 1.
func rows(size, classes int) [][]int {
	all := [][]int{nil}
	for from := 0; size > 0; size-- {
		to := len(all)
		for _, ahead := range all[from:to] {
			for c := range classes {
				all = append(all, append(slices.Clone(ahead), c))
			}
		}
		from = to
	}
	return all
}

// made is the machine of an expression that is right.
func made(t *testing.T, x api.Node) *Machine {
	t.Helper()
	m, e := New(x)
	if e != api.OK || m == nil {
		t.Fatalf("New(%v) = %v, %v", x, m, e)
	}
	return m
}

// checkRight holds Right and New, of an expression and of its turned one, against what is wanted.
func checkRight(t *testing.T, x api.Node, want bool) {
	t.Helper()
	for _, n := range []api.Node{x, Reverse(x)} {
		if Right(n) != want {
			t.Errorf("Right(%v) = %v", n, !want)
		}
		m, e := New(n)
		if want && (e != api.OK || m == nil) || !want && (e != api.ErrArg || m != nil) {
			t.Errorf("New(%v) = %v, %v", n, m, e)
		}
	}
}

// checkFits holds a machine's answers of a row, all at once and step by step, against what is wanted.
func checkFits(t *testing.T, m *Machine, x api.Node, row []int, want bool) {
	t.Helper()
	if m.Matches(row) != want {
		t.Fatalf("%v: Matches(%v) = %v", x, row, !want)
	}
	if m.Accepts(behind(t, m, row)) != want {
		t.Fatalf("%v: Accepts behind %v = %v", x, row, !want)
	}
}

// behind is the set behind a row, step by step; sets are rising.
func behind(t *testing.T, m *Machine, row []int) []int {
	t.Helper()
	s := m.Start()
	for i := -1; ; {
		if !rising(s) {
			t.Fatalf("the set behind %v is %v, not rising", row[:i+1], s)
		}
		if i++; i == len(row) {
			return s
		}
		s = m.Step(s, row[i])
	}
}

func rising(s []int) bool {
	for i := 1; i < len(s); i++ {
		if s[i-1] >= s[i] {
			return false
		}
	}
	return true
}

func TestExamples(t *testing.T) {
	x := seq(set(1), star(set(2)))
	m := made(t, x)
	for _, y := range []struct {
		row  string
		want bool
	}{
		{"1", true}, {"122", true}, {"2", false},
		{"", false}, {"12", true}, {"1222", true}, {"21", false}, {"11", false}, {"121", false}, {"1223", false}, {"0", false},
	} {
		checkFits(t, m, x, rowOf(y.row), y.want)
		checkFits(t, made(t, Reverse(x)), x, back(rowOf(y.row)), y.want)
	}
}

// all24 is all classes that there are.
func all24() []int {
	l := make([]int, 24)
	for i := range l {
		l[i] = i
	}
	return l
}

func TestG1Right(t *testing.T) {
	for _, x := range []api.Node{
		{}, none(), {Classes: []int{}, Parts: []api.Node{}},
		set(), set(0), set(23), set(0, 23), set(5, 6, 7), set(all24()...), {Op: api.OpSet, Classes: []int{1}, Parts: []api.Node{}},
		seq(), seq(none()), seq(set(1)), seq(set(1), set(2)), {Op: api.OpSeq, Classes: []int{}},
		alt(), alt(set(1)), alt(set(1), none(), alt()), {Op: api.OpAlt, Parts: []api.Node{}},
		star(none()), star(set(1)), star(star(alt())), {Op: api.OpStar, Classes: []int{}, Parts: []api.Node{none()}},
		opt(none()), opt(set(1)), opt(opt(seq())), opt(star(seq(set(0), set(0)))),
	} {
		checkRight(t, x, true)
	}
}

// wrongNodes are nodes that are not right.
func wrongNodes() []api.Node {
	return []api.Node{
		{Op: -1}, {Op: 6}, {Op: 7}, {Op: math.MinInt}, {Op: math.MaxInt}, {Op: 1 << 32}, {Op: -1, Classes: []int{1}}, {Op: 6, Parts: []api.Node{none()}},
		set(-1), set(24), set(0, 24), set(-1, 0), set(math.MinInt), set(math.MaxInt), set(1, 1), set(2, 1), set(0, 1, 3, 2), set(0, 1, 2, 2), set(23, 0),
		set(append(all24(), 24)...), set(append([]int{-1}, all24()...)...), set(slices.Repeat(all24(), 2)...),
		{Op: api.OpSet, Parts: []api.Node{none()}}, {Op: api.OpSet, Classes: []int{1}, Parts: []api.Node{set(1)}},
		{Op: api.OpEmpty, Classes: []int{0}}, {Op: api.OpEmpty, Classes: []int{1, 2}}, {Op: api.OpEmpty, Parts: []api.Node{none()}}, {Op: api.OpEmpty, Parts: []api.Node{set(1), set(2)}},
		{Op: api.OpSeq, Classes: []int{1}}, {Op: api.OpSeq, Classes: []int{0}, Parts: []api.Node{set(1), set(2)}},
		{Op: api.OpAlt, Classes: []int{0}}, {Op: api.OpAlt, Classes: []int{1}, Parts: []api.Node{set(1), set(2)}},
		star(), star(set(1), set(1)), star(none(), none(), none()), {Op: api.OpStar, Parts: []api.Node{}}, {Op: api.OpStar, Classes: []int{1}}, {Op: api.OpStar, Classes: []int{1}, Parts: []api.Node{none()}},
		opt(), opt(set(1), set(1)), opt(none(), none(), none()), {Op: api.OpOpt, Parts: []api.Node{}}, {Op: api.OpOpt, Classes: []int{1}}, {Op: api.OpOpt, Classes: []int{1}, Parts: []api.Node{none()}},
	}
}

// TestG1Wrong: one node that is not right, wherever it stands, is enough.
func TestG1Wrong(t *testing.T) {
	for _, n := range wrongNodes() {
		for _, x := range []api.Node{
			n, seq(n), seq(n, set(1)), seq(set(1), n), seq(set(1), n, set(1)), alt(n), alt(set(1), n), alt(n, n), star(n), opt(n),
			star(opt(seq(set(1), alt(star(set(1)), opt(star(n)))))),
		} {
			checkRight(t, x, false)
		}
	}
}

// nest is n within so many nodes more, of an Op.
func nest(op, more int, n api.Node) api.Node {
	for range more {
		n = api.Node{Op: op, Parts: []api.Node{n}}
	}
	return n
}

func TestG1Deep(t *testing.T) {
	if MaxDeep != 32 || MaxNodes != 400 {
		t.Fatal("limits other than the document's")
	}
	for _, op := range []int{api.OpSeq, api.OpAlt, api.OpStar, api.OpOpt} {
		for _, n := range []api.Node{none(), set(1), seq(), alt()} {
			for deep := 1; deep <= 40; deep++ {
				x := nest(op, deep-1, n)
				checkRight(t, x, deep <= 32)
				if deep < 40 {
					// What stands beside it is not deep.
					checkRight(t, seq(set(1), x, set(2)), deep+1 <= 32)
					checkRight(t, alt(x, x, none()), deep+1 <= 32)
				}
			}
			for _, deep := range []int{33, 64, 1000, 1 << 16} {
				if Right(nest(op, deep-1, n)) {
					t.Errorf("Right of %d deep", deep)
				}
			}
		}
	}
	// The deepest node counts, be it the first or the last part.
	checkRight(t, seq(nest(api.OpOpt, 30, set(1)), set(1)), true)
	checkRight(t, seq(nest(api.OpOpt, 31, set(1)), set(1)), false)
	checkRight(t, seq(set(1), nest(api.OpOpt, 30, set(1))), true)
	checkRight(t, seq(set(1), nest(api.OpOpt, 31, set(1))), false)
}

func TestG1ManyNodes(t *testing.T) {
	for _, op := range []int{api.OpSeq, api.OpAlt} {
		for _, n := range []api.Node{none(), set(1), set(all24()...), seq(), alt()} {
			for _, nodes := range []int{1, 2, 399, 400, 401, 402, 1000, 100000} {
				flat := api.Node{Op: op, Parts: slices.Repeat([]api.Node{n}, nodes-1)}
				checkRight(t, flat, nodes <= 400)
				checkRight(t, star(flat), nodes+1 <= 400)
				checkRight(t, seq(flat, set(1)), nodes+2 <= 400)
			}
		}
	}
	// 1 and 133 times 3 are 400.
	three := alt(set(1), set(2))
	checkRight(t, seq(slices.Repeat([]api.Node{three}, 133)...), true)
	checkRight(t, seq(append(slices.Repeat([]api.Node{three}, 133), none())...), false)
	checkRight(t, seq(append([]api.Node{none()}, slices.Repeat([]api.Node{three}, 133)...)...), false)
	// 1 and 16 times 25 are one too many.
	rows25 := slices.Repeat([]api.Node{nest(api.OpOpt, 24, set(1))}, 16)
	checkRight(t, alt(rows25...), false)
	checkRight(t, alt(append(rows25[:15:15], nest(api.OpOpt, 23, set(1)))...), true)
	// Both limits at once.
	deep := nest(api.OpStar, 31, set(1))
	checkRight(t, alt(append([]api.Node{deep.Parts[0]}, slices.Repeat([]api.Node{none()}, 368)...)...), true)
	checkRight(t, alt(append([]api.Node{deep}, slices.Repeat([]api.Node{none()}, 367)...)...), false)
}

// doubled is an expression in which each node is there twice in the next one: so 2^levels times in all.
func doubled(op, levels int) api.Node {
	n := set(1)
	for range levels {
		n = api.Node{Op: op, Parts: []api.Node{n, n}}
	}
	return n
}

// endless is an expression that is a part of itself.
func endless(op, parts int) api.Node {
	l := make([]api.Node, parts)
	for i := range l {
		l[i] = api.Node{Op: op, Parts: l}
	}
	return l[0]
}

// TestG1Endless: whatever is handed in, calls end (R2).
func TestG1Endless(t *testing.T) {
	last := make([]api.Node, 3)
	last[0], last[1], last[2] = set(1), star(set(1)), seq(last...)
	l := []api.Node{last[2]}
	for op := -1; op <= 6; op++ {
		l = append(l, endless(op, 1), endless(op, 2), endless(op, 3))
	}
	l = append(l, doubled(api.OpSeq, 60), doubled(api.OpAlt, 31), doubled(9, 1000))
	for _, x := range l {
		if Right(x) || Right(seq(set(1), x)) || Right(Reverse(x)) || Right(Reverse(alt(x, set(1)))) {
			t.Errorf("an endless expression of Op %d is right", x.Op)
		}
		if m, e := New(x); m != nil || e != api.ErrArg {
			t.Errorf("New of an endless expression of Op %d = %v, %v", x.Op, m, e)
		}
	}
	// 2^9 - 1 nodes are too many, 2^8 - 1 are not.
	checkRight(t, doubled(api.OpSeq, 7), true)
	checkRight(t, doubled(api.OpSeq, 8), false)
}

// someNode is an expression of classes below 3; a right one, unless odd.
func someNode(random *rand.Rand, deep int, odd bool) api.Node {
	if wrong := wrongNodes(); odd && random.Intn(12) == 0 {
		return wrong[random.Intn(len(wrong))]
	}
	op, count := random.Intn(6), 1
	if deep <= 1 {
		op = min(random.Intn(4), 1) // a set, more often than nothing
	}
	switch op {
	case api.OpEmpty:
		return none()
	case api.OpSet:
		var l []int
		for c := range 3 {
			if random.Intn(2) == 0 {
				l = append(l, c)
			}
		}
		return set(l...)
	case api.OpSeq, api.OpAlt:
		count = random.Intn(4)
	}
	n := api.Node{Op: op}
	for range count {
		n.Parts = append(n.Parts, someNode(random, deep-1, odd))
	}
	return n
}

func someRow(random *rand.Rand, most int) []int {
	var l []int
	for range random.Intn(most + 1) {
		l = append(l, random.Intn(3))
	}
	return l
}

// TestG1Anything holds Right and Reverse of expressions of all shapes against the chapter's words.
func TestG1Anything(t *testing.T) {
	random := rand.New(rand.NewSource(7))
	count := [2]int{}
	for range 20000 {
		x := someNode(random, 1+random.Intn(6), true)
		right := isRight(x)
		checkRight(t, x, right)
		if right {
			count[1]++
		} else {
			count[0]++
		}
		turned := Reverse(x)
		if !same(turned, turnedNode(x)) {
			t.Fatalf("Reverse(%v) = %v", x, turned)
		}
		if !same(Reverse(turned), x) {
			t.Fatalf("%v, turned twice, is %v", x, Reverse(turned))
		}
	}
	if count[0] < 2000 || count[1] < 2000 {
		t.Errorf("%d wrong ones, %d right ones", count[0], count[1])
	}
}

func TestG1Reverse(t *testing.T) {
	a, b, c := set(0), set(1), set(2, 3)
	for _, y := range []struct{ x, want api.Node }{
		{none(), none()}, {set(), set()}, {set(1), set(1)}, {set(1, 2, 3), set(1, 2, 3)}, {seq(), seq()}, {alt(), alt()},
		{seq(a), seq(a)}, {seq(a, b), seq(b, a)}, {seq(a, b, c), seq(c, b, a)},
		{alt(a, b, c), alt(a, b, c)}, {star(a), star(a)}, {opt(a), opt(a)},
		{star(seq(a, b)), star(seq(b, a))}, {opt(seq(a, b)), opt(seq(b, a))}, {alt(seq(a, b), c, seq(b, c)), alt(seq(b, a), c, seq(c, b))},
		{seq(seq(a, b), c), seq(c, seq(b, a))}, {seq(alt(a, b), star(c), opt(seq(a, c))), seq(opt(seq(c, a)), star(c), alt(a, b))},
		{seq(a, seq(b, seq(a, c, b))), seq(seq(seq(b, c, a), b), a)},
		// What is not right is turned likewise.
		{api.Node{Op: 6, Classes: []int{2, 1}, Parts: []api.Node{seq(a, b), a}}, api.Node{Op: 6, Classes: []int{2, 1}, Parts: []api.Node{seq(b, a), a}}},
		{api.Node{Op: api.OpSeq, Classes: []int{3, 1, 2}, Parts: []api.Node{a, b}}, api.Node{Op: api.OpSeq, Classes: []int{3, 1, 2}, Parts: []api.Node{b, a}}},
		{api.Node{Op: api.OpSet, Classes: []int{1}, Parts: []api.Node{seq(a, b)}}, api.Node{Op: api.OpSet, Classes: []int{1}, Parts: []api.Node{seq(b, a)}}},
		{star(seq(a, b), c), star(seq(b, a), c)}, {seq(api.Node{Op: -1}, star(), a), seq(a, star(), api.Node{Op: -1})},
		{set(5, -1, 99), set(5, -1, 99)},
	} {
		if got := Reverse(y.x); !same(got, y.want) {
			t.Errorf("Reverse(%v) = %v, not %v", y.x, got, y.want)
		}
	}
}

// TestG1ReverseTurns: it fits the turned rows.
func TestG1ReverseTurns(t *testing.T) {
	random := rand.New(rand.NewSource(17))
	all := rows(4, 3)
	for range 600 {
		x := someNode(random, 1+random.Intn(4), false)
		turned := Reverse(x)
		m, w := made(t, x), made(t, turned)
		for _, row := range all {
			want := fits(x, row)
			if fits(turned, back(row)) != want {
				t.Fatalf("Reverse(%v) = %v fits %v otherwise", x, turned, back(row))
			}
			checkFits(t, m, x, row, want)
			checkFits(t, w, turned, back(row), want)
		}
	}
}

// TestG1ReverseOfLargeOnes: expressions as deep, or as wide, as the document bounds them are turned.
func TestG1ReverseOfLargeOnes(t *testing.T) {
	for _, op := range []int{api.OpSeq, api.OpAlt, api.OpStar, 8} {
		for _, deep := range []int{32, 33, 1000, 1 << 16} {
			x := Reverse(nest(op, deep, seq(set(1), set(2))))
			for range deep {
				if x.Op != op || len(x.Parts) != 1 {
					t.Fatalf("%d deep of Op %d: %v within", deep, op, x.Op)
				}
				x = x.Parts[0]
			}
			if !same(x, seq(set(2), set(1))) {
				t.Errorf("%d deep of Op %d: %v at the bottom", deep, op, x)
			}
		}
	}
	const wide = 1000000
	x := seq(make([]api.Node, wide)...)
	for i := range x.Parts {
		x.Parts[i].Op = i
	}
	for i, part := range Reverse(x).Parts {
		if part.Op != wide-1-i {
			t.Fatalf("of %d parts the %dth is of Op %d", wide, i, part.Op)
		}
	}
	if n := len(nodesOf(Reverse(doubled(api.OpSeq, 16)))); n != 1<<17-1 {
		t.Errorf("2^17 - 1 nodes, turned, are %d", n)
	}
}

// TestG1ReverseIsNew: an answer shares nothing with what was handed in, nor lists with each other.
func TestG1ReverseIsNew(t *testing.T) {
	random := rand.New(rand.NewSource(27))
	for range 2000 {
		x := someNode(random, 1+random.Intn(5), true)
		was, want := clone(x), turnedNode(x)
		got := Reverse(x)
		spoil(got)
		if !same(x, was) {
			t.Fatal("what was handed in changed with the answer")
		}
		got = Reverse(x)
		spoil(x)
		if !same(got, want) {
			t.Fatal("the answer changed with what was handed in")
		}
	}
	shared := set(1, 2)
	x := Reverse(seq(star(shared), star(shared), shared))
	x.Parts[0].Classes[0] = 7
	x.Parts[1].Parts[0].Classes[1] = 8
	if !same(x, seq(set(7, 2), star(set(1, 8)), star(set(1, 2)))) || !same(shared, set(1, 2)) {
		t.Errorf("lists of one answer share memory: %v", x)
	}
}

// TestG2Fits: of each expression all rows that it fits, up to four of the classes 0 to 2.
func TestG2Fits(t *testing.T) {
	all := rows(4, 3)
	for _, y := range []struct {
		name string
		x    api.Node
		want string // rows, "-" is that of none
	}{
		{"nothing", none(), "-"},
		{"one class", set(1), "1"},
		{"two classes", set(0, 2), "0 2"},
		{"no class", set(), ""},
		{"classes that no row has", set(3, 23), ""},
		{"a row", seq(set(1), set(2)), "12"},
		{"a row of none", seq(), "-"},
		{"a row of one", seq(set(1)), "1"},
		{"a row with nothing in it", seq(none(), set(1), none(), set(0), none()), "10"},
		{"a row of nothing", seq(none(), none()), "-"},
		{"a row with what fits nothing", seq(set(1), alt(), set(2)), ""},
		{"one of two", alt(set(1), seq(set(2), set(0))), "1 20"},
		{"one of none", alt(), ""},
		{"one of one", alt(set(2)), "2"},
		{"one of two that are the same", alt(set(1), set(1)), "1"},
		{"one of two, one of them nothing", alt(none(), set(1)), "- 1"},
		{"one of two that begin alike", alt(seq(set(1), set(2)), seq(set(1), set(0)), set(1)), "12 10 1"},
		{"any number", star(set(1)), "- 1 11 111 1111"},
		{"any number of nothing", star(none()), "-"},
		{"any number of what fits nothing", star(alt()), "-"},
		{"any number of no class", star(set()), "-"},
		{"any number of two", star(seq(set(1), set(1))), "- 11 1111"},
		{"an odd number", seq(star(seq(set(0), set(0))), set(0)), "0 000"},
		{"any number of any number", star(star(set(1))), "- 1 11 111 1111"},
		{"any number of one or none", star(opt(set(2))), "- 2 22 222 2222"},
		{"any number of a row that may be none", star(seq(opt(set(1)), opt(set(1)))), "- 1 11 111 1111"},
		{"any number of pairs, or of a class", star(alt(set(0), seq(set(1), set(2)))), "- 0 12 00 012 120 000 0000 0012 0120 1200 1212"},
		{"any number, then another", seq(star(set(1)), set(2)), "2 12 112 1112"},
		{"any number, then another number", seq(star(set(1)), star(set(2))), "- 1 2 11 12 22 111 112 122 222 1111 1112 1122 1222 2222"},
		{"any number, then the same", seq(star(set(1)), set(1)), "1 11 111 1111"},
		{"at least one, and at most three", seq(set(1), opt(set(1)), opt(set(1))), "1 11 111"},
		{"one or none", opt(set(1)), "- 1"},
		{"one or none of nothing", opt(none()), "-"},
		{"one or none of what fits nothing", opt(alt()), "-"},
		{"one or none of one or none", opt(opt(set(1))), "- 1"},
		{"one or none of any number", opt(star(set(1))), "- 1 11 111 1111"},
		{"one or none, then the same", seq(opt(set(0)), set(0)), "0 00"},
		{"one or none between", seq(set(1), opt(set(2)), set(0)), "10 120"},
		{"one or none of a row", opt(seq(set(1), set(2))), "- 12"},
		{"one of any number of two", alt(star(set(1)), star(set(2))), "- 1 2 11 22 111 222 1111 2222"},
		{"any number of one row, behind another", seq(set(0), star(seq(set(1), set(2)))), "0 012"},
		{"what ends as it began", seq(set(1), star(set(0, 1, 2)), set(1)), "11 101 111 121 1001 1011 1021 1101 1111 1121 1201 1211 1221"},
	} {
		want := strings.Fields(y.want)
		m, w := made(t, y.x), made(t, Reverse(y.x))
		for _, row := range all {
			s := "-"
			if len(row) > 0 {
				s = ""
			}
			for _, c := range row {
				s += string(rune('0' + c))
			}
			is := slices.Contains(want, s)
			if fits(y.x, row) != is {
				t.Fatalf("%s: the test's own words tell otherwise of %s", y.name, s)
			}
			checkFits(t, m, y.x, row, is)
			checkFits(t, w, y.x, back(row), is)
		}
	}
}

// TestG2AllRows holds machines against the chapter's words, of all short rows.
func TestG2AllRows(t *testing.T) {
	random := rand.New(rand.NewSource(37))
	all := rows(5, 3)
	for range 1000 {
		x := someNode(random, 1+random.Intn(4), false)
		m := made(t, x)
		for _, row := range all {
			checkFits(t, m, x, row, fits(x, row))
		}
	}
}

// pattern is what an expression is to package regexp, of texts of the letters a, b, c.
func pattern(n api.Node) string {
	var l []string
	for _, part := range n.Parts {
		l = append(l, "(?:"+pattern(part)+")")
	}
	switch n.Op {
	case api.OpSet:
		s := ""
		for _, c := range n.Classes {
			s += string(rune('a' + c))
		}
		if s == "" {
			return "[^abc]"
		}
		return "[" + s + "]"
	case api.OpSeq:
		return strings.Join(l, "")
	case api.OpAlt:
		if len(l) == 0 {
			return "[^abc]"
		}
		return strings.Join(l, "|")
	case api.OpStar:
		return l[0] + "*"
	case api.OpOpt:
		return l[0] + "?"
	}
	return ""
}

// TestG2LongerRows: of longer rows expressions fit as patterns of package regexp do, and as a rule's Left does (6).
func TestG2LongerRows(t *testing.T) {
	random := rand.New(rand.NewSource(47))
	fitted := 0
	for range 3000 {
		x := someNode(random, 2+random.Intn(6), false)
		if !isRight(x) {
			continue
		}
		p := regexp.MustCompile("^(?:" + pattern(x) + ")$")
		m := made(t, x)
		for range 10 {
			row := someRow(random, 30)
			s := ""
			for _, c := range row {
				s += string(rune('a' + c))
			}
			want := p.MatchString(s)
			if want && len(row) > 5 {
				fitted++
			}
			checkFits(t, m, x, row, want)
			if reading.Fits(api.Rule{Left: x, Start: true}, row, len(row)) != want {
				t.Fatalf("reading tells otherwise of %v and %v", x, row)
			}
		}
	}
	if fitted < 500 {
		t.Errorf("only %d longer rows fitted", fitted)
	}
}

// TestG2Clusters: expressions of rules in the manner of UAX #29, as they are written.
func TestG2Clusters(t *testing.T) {
	names := []string{"Other", "Extend", "ZWJ", "Pict", "RI"}
	for _, y := range []struct{ left, fits, not string }{
		{"Pict Extend* ZWJ", "32 312 31112", "3 31 2 322 1312"},
		{"(RI RI)* RI", "4 444 44444", "- 44 4444 40"},
		{"[~RI] (RI RI)* RI", "04 3444 144444", "4 44 044 4404"},
		{"(Other | Pict (ZWJ Pict)*) Extend?", "0 3 01 31 323 32323 3231", "- 1 32 03 3233 011"},
	} {
		l, err := rules.Parse(y.left+" -", names)
		if err != nil {
			t.Fatal(err)
		}
		x := l[0].Left
		for _, s := range strings.Fields(y.fits + " " + y.not) {
			row, want := rowOf(strings.Trim(s, "-")), slices.Contains(strings.Fields(y.fits), s)
			checkFits(t, made(t, x), x, row, want)
			checkFits(t, made(t, Reverse(x)), x, back(row), want)
		}
	}
}

// TestG2Classes: each class is one by itself; a number that is no class is in no set.
func TestG2Classes(t *testing.T) {
	for class := range 24 {
		x := set(class)
		m := made(t, x)
		others := slices.DeleteFunc(all24(), func(c int) bool { return c == class })
		w := made(t, set(others...))
		for c := range 24 {
			checkFits(t, m, x, []int{c}, c == class)
			checkFits(t, w, x, []int{c}, c != class)
		}
	}
	x := star(set(all24()...))
	m := made(t, x)
	checkFits(t, m, x, all24(), true)
	for _, odd := range []int{-1, 24, 25, 32, 63, 64, 256, 1 << 32, math.MinInt, math.MaxInt} {
		for _, row := range [][]int{{odd}, {0, odd}, {odd, 0}, {0, odd, 0}} {
			checkFits(t, m, x, row, false)
		}
		if s := m.Step(m.Start(), odd); len(s) != 0 {
			t.Errorf("Step of the class %d = %v", odd, s)
		}
	}
}

// somewhere is sets that a machine tells behind rows.
func somewhere(random *rand.Rand, m *Machine, count int) [][]int {
	var l [][]int
	for range count {
		s := m.Start()
		for _, class := range someRow(random, 6) {
			s = m.Step(s, class)
		}
		l = append(l, s)
	}
	return l
}

// union is what is in one of these, rising.
func union(sets ...[]int) []int {
	l := slices.Concat(sets...)
	slices.Sort(l)
	return slices.Compact(l)
}

// TestG2NoStates: numbers that are no states do not matter, nor do the order and how often a state is there.
func TestG2NoStates(t *testing.T) {
	random := rand.New(rand.NewSource(57))
	odd := []int{-1, -2, -400, math.MinInt, math.MaxInt, 1 << 20, 1 << 32, 1<<32 + 1}
	for range 3000 {
		x := someNode(random, 1+random.Intn(5), false)
		m := made(t, x)
		for _, s := range somewhere(random, m, 3) {
			for _, other := range [][]int{
				append(slices.Clone(s), odd...), append(slices.Clone(odd), s...), slices.Concat(s, odd, s), back(s), slices.Concat(s, s), union(odd, s),
			} {
				if m.Accepts(other) != m.Accepts(s) {
					t.Fatalf("%v: Accepts(%v) is not as of %v", x, other, s)
				}
				for class := range 3 {
					if got, want := m.Step(other, class), m.Step(s, class); !slices.Equal(got, want) {
						t.Fatalf("%v: Step(%v, %d) = %v, not %v", x, other, class, got, want)
					}
				}
			}
		}
		for _, s := range [][]int{nil, {}, odd} {
			if m.Accepts(s) || len(m.Step(s, 0)) != 0 {
				t.Fatalf("%v: %v, in which no state is, is something", x, s)
			}
		}
	}
	// Numbers beside the states of a machine, of which some are told by no set.
	m := made(t, seq(set(1), opt(set(2)), star(alt(set(1), seq(set(0), set(2))))))
	told := m.Start()
	for _, row := range rows(4, 3) {
		told = union(told, behind(t, m, row))
	}
	for _, row := range rows(3, 3) {
		s := behind(t, m, row)
		for n := range 2000 {
			more := append(slices.Clone(s), n)
			if slices.Contains(told, n) {
				continue
			}
			if m.Accepts(more) != m.Accepts(s) || !slices.Equal(m.Step(more, 1), m.Step(s, 1)) {
				t.Fatalf("%d, that no set tells, matters", n)
			}
		}
	}
}

// TestFollowsStepByStep: what is read step by step is matched, at each place of a row.
func TestFollowsStepByStep(t *testing.T) {
	random := rand.New(rand.NewSource(67))
	for range 3000 {
		x := someNode(random, 1+random.Intn(5), false)
		m := made(t, x)
		row := someRow(random, 12)
		s := m.Start()
		for i, class := range row {
			if m.Accepts(s) != m.Matches(row[:i]) {
				t.Fatalf("%v: behind %v Accepts = %v", x, row[:i], m.Accepts(s))
			}
			s = m.Step(s, class)
		}
		if m.Accepts(s) != m.Matches(row) {
			t.Fatalf("%v: behind %v Accepts = %v", x, row, m.Accepts(s))
		}
	}
}

// TestFollowsSetsPutTogether: of sets put together each is what it is alone.
func TestFollowsSetsPutTogether(t *testing.T) {
	random := rand.New(rand.NewSource(77))
	one := 0
	for range 5000 {
		x := someNode(random, 1+random.Intn(5), false)
		m := made(t, x)
		l := somewhere(random, m, 3)
		both := union(l...)
		for range 5 {
			accepts := m.Accepts(l[0]) || m.Accepts(l[1]) || m.Accepts(l[2])
			if m.Accepts(both) != accepts || m.Accepts(slices.Concat(l...)) != accepts {
				t.Fatalf("%v: Accepts of %v together is not as of each", x, l)
			}
			if m.Accepts(l[0]) != m.Accepts(l[1]) {
				one++
			}
			class := random.Intn(3)
			loose := m.Step(slices.Concat(l...), class)
			both = m.Step(both, class)
			for i := range l {
				l[i] = m.Step(l[i], class)
			}
			if !slices.Equal(both, union(l...)) || !slices.Equal(loose, both) {
				t.Fatalf("%v: behind sets together are %v, behind each %v", x, both, l)
			}
		}
	}
	if one < 500 {
		t.Errorf("only %d times just one accepts", one)
	}
}

// TestFollowsEndsOfRows: with Start put to each set an expression is found at the end of what was read, wherever it begins.
func TestFollowsEndsOfRows(t *testing.T) {
	random := rand.New(rand.NewSource(87))
	for range 1000 {
		x := someNode(random, 1+random.Intn(3), false)
		m := made(t, x)
		row := someRow(random, 6)
		s := m.Start()
		for i := range len(row) + 1 {
			want := false
			for from := range i + 1 {
				want = want || fits(x, row[from:i])
			}
			if m.Accepts(s) != want {
				t.Fatalf("%v: an end of %v: %v", x, row[:i], !want)
			}
			if i < len(row) {
				s = union(m.Step(s, row[i]), m.Start())
			}
		}
	}
}

// TestLargestExpressions: what is as large as it may be fits what it should.
func TestLargestExpressions(t *testing.T) {
	sets := slices.Repeat([]api.Node{set(1)}, 399)
	x := seq(sets...)
	m := made(t, x)
	for _, size := range []int{0, 1, 398, 399, 400} {
		checkFits(t, m, x, slices.Repeat([]int{1}, size), size == 399)
	}
	checkFits(t, m, x, append(slices.Repeat([]int{1}, 398), 2), false)

	x = star(alt(sets[:398]...))
	m = made(t, x)
	checkFits(t, m, x, slices.Repeat([]int{1}, 1000), true)
	checkFits(t, m, x, append(slices.Repeat([]int{1}, 1000), 0), false)

	options := slices.Concat(slices.Repeat([]api.Node{opt(set(1))}, 133), slices.Repeat([]api.Node{set(1)}, 133))
	x = seq(options...)
	m = made(t, x)
	for _, size := range []int{0, 132, 133, 200, 266, 267} {
		checkFits(t, m, x, slices.Repeat([]int{1}, size), size >= 133 && size <= 266)
	}

	for _, op := range []int{api.OpSeq, api.OpAlt, api.OpStar, api.OpOpt} {
		x = nest(op, 31, set(1))
		m = made(t, x)
		checkFits(t, m, x, []int{1}, true)
		checkFits(t, m, x, []int{2}, false)
		checkFits(t, m, x, nil, op == api.OpStar || op == api.OpOpt)
		checkFits(t, m, x, []int{1, 1}, op == api.OpStar)
		checkFits(t, m, x, []int{1, 2, 1}, false)
	}
}

// TestManyWaysToFit: what fits in very many ways is read in good time.
func TestManyWaysToFit(t *testing.T) {
	n := set(1)
	for range 5 {
		n = star(alt(seq(star(n), opt(set(1))), opt(n)))
	}
	x := seq(n, set(2))
	m := made(t, x)
	ones := slices.Repeat([]int{1}, 3000)
	checkFits(t, m, x, ones, false)
	checkFits(t, m, x, append(ones, 2), true)
	checkFits(t, m, x, append(ones, 2, 1), false)
}

func TestLongRows(t *testing.T) {
	const size = 1000000
	row := make([]int, size)
	for i := range row {
		row[i] = i % 2
	}
	x := star(seq(set(0), set(1)))
	m := made(t, x)
	if !m.Matches(row) || m.Matches(row[:size-1]) || m.Matches(row[1:]) {
		t.Error("Matches of a long row")
	}
	row[size/2] = 5
	if m.Matches(row) {
		t.Error("Matches of a long row that is spoilt in the middle")
	}
	if s := m.Step(slices.Repeat(m.Start(), size/2), 0); !slices.Equal(s, m.Step(m.Start(), 0)) {
		t.Errorf("Step of a set put together very often = %v", s)
	}
}

// TestNothingIsKept: what is handed in stays, and may be written over, and so may what is answered (R1).
func TestNothingIsKept(t *testing.T) {
	random := rand.New(rand.NewSource(97))
	all := rows(3, 3)
	for range 300 {
		x := someNode(random, 1+random.Intn(4), false)
		was := clone(x)
		m := made(t, x)
		if !Right(x) || !same(x, was) {
			t.Fatal("what was handed in changed")
		}
		spoil(x)
		for _, row := range all {
			kept := slices.Clone(row)
			checkFits(t, m, was, row, fits(was, row))
			s := behind(t, m, row)
			told := slices.Clone(s)
			next := m.Step(s, 1)
			want := slices.Clone(next)
			m.Accepts(s)
			if !slices.Equal(row, kept) || !slices.Equal(s, told) {
				t.Fatal("a row or a set that was handed in changed")
			}
			for i := range s {
				s[i] = 99
			}
			start := m.Start()
			for i := range start {
				start[i] = -1
			}
			if !slices.Equal(next, want) {
				t.Fatal("a set changed with the one that it is behind")
			}
			for i := range next {
				next[i] = 0
			}
			if !slices.Equal(behind(t, m, row), told) || !slices.Equal(m.Step(told, 1), want) {
				t.Fatal("a machine changed with what it has told")
			}
		}
	}
}

// TestMachinesAlone: machines have nothing to do with each other (R3), and the same calls have the same answers (R4).
func TestMachinesAlone(t *testing.T) {
	random := rand.New(rand.NewSource(107))
	for range 500 {
		x, y := someNode(random, 1+random.Intn(4), false), someNode(random, 1+random.Intn(4), false)
		a, b, again := made(t, x), made(t, y), made(t, x)
		row := someRow(random, 8)
		s, u, other := a.Start(), again.Start(), b.Start()
		for _, class := range row {
			if !slices.Equal(s, u) {
				t.Fatalf("%v: machines of the same expression tell %v and %v", x, s, u)
			}
			s, other, u = a.Step(s, class), b.Step(other, class), again.Step(u, class)
		}
		if a.Accepts(s) != a.Matches(row) || b.Accepts(other) != b.Matches(row) || again.Accepts(u) != a.Matches(row) {
			t.Fatalf("machines of %v and %v, read in turn, tell otherwise", x, y)
		}
	}
}
