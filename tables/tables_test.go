package tables

import (
	"math"
	"math/rand"
	"reflect"
	"slices"
	"strconv"
	"testing"

	"foolscap/api"
	"foolscap/dfa"
	"foolscap/nfa"
	"foolscap/reading"
	"foolscap/rules"
)

// The nodes that tests are written with.
func none() api.Node                  { return api.Node{Op: api.OpEmpty} }
func set(classes ...int) api.Node     { return api.Node{Op: api.OpSet, Classes: classes} }
func seq(parts ...api.Node) api.Node  { return api.Node{Op: api.OpSeq, Parts: parts} }
func alt(parts ...api.Node) api.Node  { return api.Node{Op: api.OpAlt, Parts: parts} }
func star(parts ...api.Node) api.Node { return api.Node{Op: api.OpStar, Parts: parts} }
func opt(parts ...api.Node) api.Node  { return api.Node{Op: api.OpOpt, Parts: parts} }

// times is a row of so many of n.
func times(n api.Node, count int) api.Node { return seq(slices.Repeat([]api.Node{n}, count)...) }

// lefts and rights are rules of these alone.
func lefts(l ...api.Node) []api.Rule {
	var all []api.Rule
	for _, n := range l {
		all = append(all, api.Rule{Left: n})
	}
	return all
}

func rights(l ...api.Node) []api.Rule {
	var all []api.Rule
	for _, n := range l {
		all = append(all, api.Rule{Right: n})
	}
	return all
}

// named is so many classes.
func named(count int) []string {
	l := make([]string, count)
	for i := range l {
		l[i] = "C" + strconv.Itoa(i)
	}
	return l
}

// setOf is a ruleset of so many classes.
func setOf(classes int, l ...api.Rule) api.Ruleset {
	return api.Ruleset{Classes: named(classes), Rules: l}
}

// compiled is the tables of a ruleset that may be.
func compiled(t *testing.T, r api.Ruleset) *Tables {
	t.Helper()
	x, e := Compile(r)
	if e != api.OK || x == nil || x.Ahead == nil || x.Behind == nil {
		t.Fatalf("Compile(%v) = %v, %v", r, x, e)
	}
	return x
}

// checkError holds Compile against the error that is wanted.
func checkError(t *testing.T, what string, r api.Ruleset, want api.Errno) {
	t.Helper()
	x, e := Compile(r)
	if e != want || (x != nil) != (want == api.OK) {
		t.Errorf("%s: Compile is %v, %v, not %v", what, x, e, want)
	}
}

// rows are all rows of so many classes at most, of 0 to classes - 1.
func rows(size, classes int) [][]int {
	all := [][]int{nil}
	for from := 0; size > 0; size-- {
		to := len(all)
		for _, ahead := range all[from:to] {
			for c := range classes {
				all = append(all, append(slices.Clone(ahead), c))
			}
		}
		from = to
	}
	return all
}

func someRow(random *rand.Rand, size, classes int) []int {
	l := make([]int, size)
	for i := range l {
		l[i] = random.Intn(classes)
	}
	return l
}

// someNode is a right expression of classes below classes.
func someNode(random *rand.Rand, deep, classes int) api.Node {
	op, count := random.Intn(6), 1
	if deep <= 1 {
		op = min(random.Intn(5), 1) // a set, more often than nothing
	}
	switch op {
	case api.OpEmpty:
		return none()
	case api.OpSet:
		var l []int
		for c := range classes {
			if random.Intn(2) == 0 {
				l = append(l, c)
			}
		}
		return set(l...)
	case api.OpSeq, api.OpAlt:
		count = random.Intn(4)
	}
	n := api.Node{Op: op}
	for range count {
		n.Parts = append(n.Parts, someNode(random, deep-1, classes))
	}
	return n
}

// someSide is a side of a rule: a row of single classes for the most part, so that it fits
// here and there, and not everywhere.
func someSide(random *rand.Rand, classes int) api.Node {
	if random.Intn(4) == 0 {
		return someNode(random, 4, classes)
	}
	x := seq()
	for range random.Intn(4) {
		n := set(random.Intn(classes))
		switch random.Intn(6) {
		case 0:
			n = star(n)
		case 1:
			n = someNode(random, 3, classes)
		}
		x.Parts = append(x.Parts, n)
	}
	return x
}

func someRules(random *rand.Rand, most, classes int) []api.Rule {
	var l []api.Rule
	for range random.Intn(most + 1) {
		l = append(l, api.Rule{
			Left: someSide(random, classes), Right: someSide(random, classes),
			Break: random.Intn(2) == 0, Start: random.Intn(3) == 0,
		})
	}
	return l
}

// turned is a row from its end back.
func turned(row []int) []int {
	l := slices.Clone(row)
	slices.Reverse(l)
	return l
}

// bits is which of so many there are.
func bits(count int, is func(i int) bool) uint64 {
	var l uint64
	for i := range count {
		if is(i) {
			l |= 1 << i
		}
	}
	return l
}

// checkText holds both machines, and Decide, against reading (6), at each place of a text; it
// tells by which rules boundaries are told there.
func checkText(t *testing.T, x *Tables, l []api.Rule, text []int) []int {
	t.Helper()
	ahead, e := x.Ahead.Run(text)
	behind, f := x.Behind.Run(turned(text))
	if e != api.OK || f != api.OK {
		t.Fatalf("Run of %v: %v, %v", text, e, f)
	}
	var which []int
	for p := range len(text) + 1 {
		a, b := ahead[p], behind[len(text)-p]
		ends := bits(len(l), func(i int) bool {
			return reading.Fits(api.Rule{Left: l[i].Left, Start: l[i].Start}, text, p)
		})
		begins := bits(len(l), func(i int) bool { return reading.Fits(api.Rule{Right: l[i].Right}, text, p) })
		if a != ends || b != begins {
			t.Fatalf("%v: at %d of %v Ahead tells %b, not %b, Behind %b, not %b", l, p, text, a, ends, b, begins)
		}
		first := reading.Which(l, text, p)
		if want := first < 0 || l[first].Break; x.Decide(a, b) != want {
			t.Fatalf("%v: at %d of %v Decide is %v; the first rule is %d", l, p, text, !want, first)
		}
		which = append(which, first)
	}
	return which
}

// TestExample: no rules.
func TestExample(t *testing.T) {
	for classes := 1; classes <= 24; classes++ {
		for _, l := range [][]api.Rule{nil, {}} {
			x := compiled(t, setOf(classes, l...))
			one := &dfa.Machine{Classes: classes, Next: [][]int{make([]int, classes)}, Out: []uint64{0}}
			if want := (&Tables{Ahead: one, Behind: one}); !reflect.DeepEqual(x, want) {
				t.Errorf("%d classes: %v, %v, %v", classes, x, x.Ahead, x.Behind)
			}
			for _, ahead := range []uint64{0, 1, 2, math.MaxUint64} {
				for _, behind := range []uint64{0, 1, 2, math.MaxUint64} {
					if !x.Decide(ahead, behind) {
						t.Errorf("Decide(%b, %b) of no rules", ahead, behind)
					}
				}
			}
		}
	}
}

// TestI1Written: tables that are written out.
func TestI1Written(t *testing.T) {
	machine := func(classes int, next [][]int, out ...uint64) *dfa.Machine {
		return &dfa.Machine{Classes: classes, Next: next, Out: out}
	}
	empty := machine(2, [][]int{{0, 0}}, 1)
	row := seq(set(0), set(1))
	for _, y := range []struct {
		name string
		r    api.Ruleset
		want Tables
	}{
		{"a rule of nothing", setOf(2, api.Rule{}), Tables{empty, empty, 0, 1}},
		{"a break of nothing", setOf(2, api.Rule{Break: true}), Tables{empty, empty, 1, 1}},
		{"a row ahead", setOf(2, api.Rule{Left: row}),
			Tables{machine(2, [][]int{{1, 0}, {1, 2}, {1, 0}}, 0, 0, 1), empty, 0, 1}},
		{"a row behind is turned", setOf(2, api.Rule{Right: row}),
			Tables{empty, machine(2, [][]int{{0, 1}, {2, 1}, {0, 1}}, 0, 0, 1), 0, 1}},
		{"a row ahead, from the beginning on", setOf(2, api.Rule{Left: row, Start: true, Break: true}),
			Tables{machine(2, [][]int{{1, 2}, {2, 3}, {2, 2}, {2, 2}}, 0, 0, 0, 1), empty, 1, 1}},
		{"a row behind is never Whole", setOf(2, api.Rule{Right: row, Start: true}),
			Tables{machine(2, [][]int{{1, 1}, {1, 1}}, 1, 0), machine(2, [][]int{{0, 1}, {2, 1}, {0, 1}}, 0, 0, 1), 0, 1}},
		{"a bit for each rule, in order", setOf(3, api.Rule{Left: set(2)}, api.Rule{Left: set(1), Break: true}, api.Rule{Left: set(0), Right: set(1), Break: true}),
			Tables{machine(3, [][]int{{1, 2, 3}, {1, 2, 3}, {1, 2, 3}, {1, 2, 3}}, 0, 4, 2, 1), machine(3, [][]int{{0, 1, 0}, {0, 1, 0}}, 3, 7), 6, 3}},
		{"only that rule is Whole whose Start is true", setOf(2, api.Rule{Left: set(0), Start: true}, api.Rule{Left: set(0)}),
			Tables{machine(2, [][]int{{1, 2}, {3, 2}, {3, 2}, {3, 2}}, 0, 3, 0, 2), machine(2, [][]int{{0, 0}}, 3), 0, 2}},
	} {
		x := compiled(t, y.r)
		if !reflect.DeepEqual(x, &y.want) {
			t.Errorf("%s: %v, %v, %v, not %v, %v, %v", y.name, *x, *x.Ahead, *x.Behind, y.want, *y.want.Ahead, *y.want.Behind)
		}
	}
}

// TestI1Machines holds tables against machines that 8 builds of both sides.
func TestI1Machines(t *testing.T) {
	random := rand.New(rand.NewSource(9))
	large := 0
	for range 2000 {
		classes := 1 + random.Intn(4)
		l := someRules(random, 8, classes)
		var ahead, behind []dfa.Expr
		for _, rule := range l {
			ahead = append(ahead, dfa.Expr{Node: rule.Left, Whole: rule.Start})
			behind = append(behind, dfa.Expr{Node: nfa.Reverse(rule.Right)})
		}
		a, e := dfa.Build(classes, ahead)
		b, f := dfa.Build(classes, behind)
		if e != api.OK || f != api.OK {
			checkError(t, "a machine that is too large", setOf(classes, l...), api.ErrLimit)
			continue
		}
		breaks := bits(len(l), func(i int) bool { return l[i].Break })
		x := compiled(t, setOf(classes, l...))
		if want := (&Tables{a, b, breaks, len(l)}); !reflect.DeepEqual(x, want) {
			t.Fatalf("%v: %v, %v, %v", l, x, x.Ahead, x.Behind)
		}
		if len(a.Out) > 6 && len(b.Out) > 6 {
			large++
		}
	}
	if large < 100 {
		t.Errorf("only %d tables of large machines", large)
	}
}

// TestI1Breaks: each of forty rules has its bit.
func TestI1Breaks(t *testing.T) {
	for count := range 41 {
		l := make([]api.Rule, count)
		if x := compiled(t, setOf(2, l...)); x.Breaks != 0 || x.Rules != count {
			t.Errorf("%d rules: %b, %d", count, x.Breaks, x.Rules)
		}
		for i := range l {
			l[i].Break = true
			if x := compiled(t, setOf(2, l...)); x.Breaks != 1<<i || x.Rules != count {
				t.Errorf("the rule %d of %d: %b, %d", i, count, x.Breaks, x.Rules)
			}
			l[i].Break = false
		}
	}
}

// wrongNodes are nodes that are not right, whatever classes there are.
func wrongNodes() []api.Node {
	deep := set(0)
	for range nfa.MaxDeep {
		deep = opt(deep)
	}
	return []api.Node{
		{Op: -1}, {Op: 6}, {Op: math.MinInt}, {Op: math.MaxInt}, set(-1), set(24), set(0, 24), set(1, 1), set(1, 0), set(math.MaxInt), set(math.MinInt),
		{Op: api.OpSet, Parts: []api.Node{none()}}, {Op: api.OpEmpty, Classes: []int{0}}, {Op: api.OpEmpty, Parts: []api.Node{none()}},
		{Op: api.OpSeq, Classes: []int{0}}, {Op: api.OpAlt, Classes: []int{0}, Parts: []api.Node{set(0)}},
		star(), star(set(0), set(0)), opt(), opt(none(), none()), deep, times(set(0), 400), alt(slices.Repeat([]api.Node{none()}, 400)...),
	}
}

// endless holds itself, so that turning it would never end.
func endless() api.Node {
	n := seq(none(), none())
	n.Parts[0], n.Parts[1] = n, n
	return n
}

// checkSides asks for an error of a node on either side of a rule, and of one among others.
func checkSides(t *testing.T, what string, classes int, n api.Node, want api.Errno) {
	t.Helper()
	for _, rule := range []api.Rule{{Left: n}, {Left: n, Start: true}, {Right: n}, {Right: n, Start: true, Break: true}, {Left: n, Right: n}} {
		checkError(t, what, setOf(classes, rule), want)
		checkError(t, what+", the first", setOf(classes, rule, api.Rule{}), want)
		checkError(t, what+", the last", setOf(classes, api.Rule{}, api.Rule{Left: set(0), Right: set(0)}, rule), want)
	}
}

func TestI1ErrArg(t *testing.T) {
	for _, count := range []int{0, 25, 26, 64, 1000} {
		checkError(t, "so many classes", setOf(count), api.ErrArg)
		checkError(t, "so many classes", setOf(count, api.Rule{}), api.ErrArg)
		checkError(t, "so many classes", setOf(count, api.Rule{Left: set(0), Right: set(0)}), api.ErrArg)
	}
	checkError(t, "nothing", api.Ruleset{}, api.ErrArg)
	for _, count := range []int{41, 42, 63, 64, 65, 100, 1000} {
		checkError(t, "so many rules", setOf(1, make([]api.Rule, count)...), api.ErrArg)
		checkError(t, "so many rules", setOf(24, slices.Repeat([]api.Rule{{Left: set(1), Right: set(2), Break: true}}, count)...), api.ErrArg)
	}
	for classes := 1; classes <= 24; classes++ {
		for class := range 24 {
			want := api.OK
			if class >= classes {
				want = api.ErrArg
			}
			for _, n := range []api.Node{set(class), seq(set(), star(set(class))), alt(none(), opt(set(class))), star(seq(set(0), set(class)))} {
				checkSides(t, "one class", classes, n, want)
			}
			if class > 0 {
				checkSides(t, "a class behind another", classes, set(0, class), want)
			}
		}
	}
	for _, n := range append(wrongNodes(), endless()) {
		for _, x := range []api.Node{n, seq(n), seq(set(0), n), alt(n, set(0)), star(n), opt(n)} {
			checkSides(t, "not right", 24, x, api.ErrArg)
			checkError(t, "the fortieth is not right", setOf(24, append(make([]api.Rule, 39), api.Rule{Right: x})...), api.ErrArg)
		}
	}
}

// TestI1Right: what is right (7) is compiled, though it is no rule that is read from a text (5).
func TestI1Right(t *testing.T) {
	deep := set(0)
	for range nfa.MaxDeep - 1 {
		deep = opt(deep)
	}
	for _, n := range []api.Node{none(), set(), seq(), alt(), seq(set(0)), alt(set(1)), {Op: api.OpEmpty, Classes: []int{}, Parts: []api.Node{}}, deep, alt(slices.Repeat([]api.Node{none()}, 399)...), times(set(0), 399)} {
		for _, rule := range []api.Rule{{Left: n}, {Right: n}, {Left: n, Right: n}} {
			checkError(t, "right", setOf(2, rule), api.OK)
		}
	}
}

// TestI1Names: names of classes do not matter.
func TestI1Names(t *testing.T) {
	l := []api.Rule{{Left: set(1), Right: seq(set(0), set(2))}, {Left: set(2), Break: true}}
	want := compiled(t, setOf(3, l...))
	for _, names := range [][]string{make([]string, 3), {"a", "a", "a"}, {"C2", "C1", "C0"}, {"\xff", "a b", "/"}} {
		if x := compiled(t, api.Ruleset{Classes: names, Rules: l}); !reflect.DeepEqual(x, want) {
			t.Errorf("%q: %v", names, x)
		}
	}
}

// last is true of all rows, but has a situation for each row of so many classes that came last.
func last(size int) api.Node {
	return alt(star(set(0, 1)), seq(set(0), times(set(0, 1), size)))
}

// TestI1ErrLimit: either machine may be too large, by its states or its situations.
func TestI1ErrLimit(t *testing.T) {
	both := func(zeros, ones int) []api.Node { return []api.Node{times(set(0), zeros), times(set(1), ones)} }
	back := nfa.Reverse(last(11))
	for _, y := range []struct {
		name string
		l    []api.Rule
		want api.Errno
	}{
		{"400 states ahead", lefts(both(200, 199)...), api.OK},
		{"401 states ahead", lefts(both(200, 200)...), api.ErrLimit},
		{"400 states ahead, from the beginning on", []api.Rule{{Left: times(set(0, 1), 398), Start: true}}, api.OK},
		{"401 states ahead, from the beginning on", []api.Rule{{Left: times(set(0, 1), 399), Start: true}}, api.ErrLimit},
		{"400 states behind", rights(both(200, 199)...), api.OK},
		{"401 states behind", rights(both(200, 200)...), api.ErrLimit},
		{"400 states behind, as none is Whole", []api.Rule{{Right: times(set(0, 1), 399), Start: true}}, api.OK},
		{"400 states on both sides", append(lefts(both(200, 199)...), rights(both(199, 200)...)...), api.OK},
		{"401 states on both sides", append(lefts(both(200, 200)...), rights(both(200, 200)...)...), api.ErrLimit},
		{"1024 situations ahead", lefts(last(10)), api.OK},
		{"2048 situations ahead", lefts(last(11)), api.ErrLimit},
		{"1024 situations behind", rights(nfa.Reverse(last(10))), api.OK},
		{"2048 situations behind", rights(back), api.ErrLimit},
		{"few situations ahead", lefts(back), api.OK},
		{"few situations behind", rights(last(11)), api.OK},
		{"few situations on both sides", []api.Rule{{Left: back, Right: last(11)}}, api.OK},
		{"too many on both sides", []api.Rule{{Left: last(11), Right: back}}, api.ErrLimit},
		{"too many, in the last of forty", append(make([]api.Rule, 39), api.Rule{Right: back}), api.ErrLimit},
	} {
		checkError(t, y.name, setOf(2, y.l...), y.want)
	}
}

// TestI1Order: of a ruleset that can not be compiled a machine that is too large does not tell.
func TestI1Order(t *testing.T) {
	ahead, behind := last(11), nfa.Reverse(last(11))
	for _, n := range []api.Node{set(2), seq(star(opt(set(0, 23)))), star(), {Op: 9}, endless()} {
		for _, l := range [][]api.Rule{
			{{Left: ahead, Right: n}}, {{Left: n, Right: behind}}, {{Left: ahead}, {Left: n}}, {{Left: n}, {Left: ahead}},
			{{Right: behind}, {Right: n}}, {{Right: n}, {Right: behind}}, {{Left: ahead, Right: behind}, {Right: n}}, {{Left: ahead, Right: behind}, {Left: n}},
		} {
			checkError(t, "not right, and too large", setOf(2, l...), api.ErrArg)
		}
	}
	large := []api.Rule{{Left: ahead, Right: behind}}
	checkError(t, "no classes, and too large", setOf(0, large...), api.ErrArg)
	checkError(t, "too many classes, and too large", setOf(25, large...), api.ErrArg)
	checkError(t, "too many rules, and too large", setOf(2, slices.Repeat(large, 41)...), api.ErrArg)
}

// firstOf is Decide, by its words.
func firstOf(x *Tables, ahead, behind uint64) bool {
	for i := 0; i < x.Rules && i < 64; i++ {
		if ahead>>i&1 == 1 && behind>>i&1 == 1 {
			return x.Breaks>>i&1 == 1
		}
	}
	return true
}

// TestI2Decide: all answers of few rules, and some of many.
func TestI2Decide(t *testing.T) {
	for count := range 5 {
		for breaks := range uint64(1) << count {
			l := make([]api.Rule, count)
			for i := range l {
				l[i].Break = breaks>>i&1 == 1
			}
			x := compiled(t, setOf(1, l...))
			for ahead := range uint64(64) {
				for behind := range uint64(64) {
					if is := x.Decide(ahead, behind); is != firstOf(x, ahead, behind) {
						t.Fatalf("of %d rules, breaks %b: Decide(%b, %b) = %v", count, breaks, ahead, behind, is)
					}
				}
			}
		}
	}
	random := rand.New(rand.NewSource(19))
	for range 20000 {
		x := &Tables{Breaks: random.Uint64(), Rules: random.Intn(41)}
		ahead := random.Uint64() & (math.MaxUint64 << random.Intn(64))
		behind := random.Uint64() & (math.MaxUint64 << random.Intn(64))
		if is := x.Decide(ahead, behind); is != firstOf(x, ahead, behind) {
			t.Fatalf("of %d rules, breaks %b: Decide(%b, %b) = %v", x.Rules, x.Breaks, ahead, behind, is)
		}
	}
}

// TestI2DecideEdges: the first rule and the fortieth; bits at Rules and above do not count.
func TestI2DecideEdges(t *testing.T) {
	x := compiled(t, setOf(1, make([]api.Rule, 40)...))
	all := uint64(math.MaxUint64)
	for i := range 64 {
		bit := uint64(1) << i
		if is := x.Decide(bit, bit); is != (i >= 40) {
			t.Errorf("the bit %d: %v", i, is)
		}
		if is := x.Decide(bit, all); is != (i >= 40) {
			t.Errorf("the bit %d, and all behind: %v", i, is)
		}
		if is := x.Decide(all, bit); is != (i >= 40) {
			t.Errorf("all ahead, and the bit %d: %v", i, is)
		}
		if !x.Decide(bit, ^bit) || !x.Decide(^bit, bit) || !x.Decide(0, bit) || !x.Decide(bit, 0) {
			t.Errorf("the bit %d on one side", i)
		}
	}
	one := compiled(t, setOf(1, api.Rule{Break: true}, api.Rule{}, api.Rule{Break: true}))
	for _, y := range []struct {
		ahead, behind uint64
		want          bool
	}{{7, 7, true}, {6, 7, false}, {7, 6, false}, {5, 6, true}, {2, 2, false}, {3, 6, false}, {10, 10, false}, {8, 8, true}, {0, 0, true}, {9, 10, true}} {
		if is := one.Decide(y.ahead, y.behind); is != y.want {
			t.Errorf("Decide(%b, %b) = %v", y.ahead, y.behind, is)
		}
	}
}

// copyOf is tables in memory of their own.
func copyOf(x *Tables) *Tables {
	machine := func(m *dfa.Machine) *dfa.Machine {
		c := &dfa.Machine{Classes: m.Classes, Out: slices.Clone(m.Out)}
		for _, row := range m.Next {
			c.Next = append(c.Next, slices.Clone(row))
		}
		return c
	}
	return &Tables{machine(x.Ahead), machine(x.Behind), x.Breaks, x.Rules}
}

// checkEqual asks in both orders.
func checkEqual(t *testing.T, what string, a, b *Tables, want bool) {
	t.Helper()
	if Equal(a, b) != want || Equal(b, a) != want {
		t.Errorf("%s: Equal is not %v", what, want)
	}
}

// TestI2Equal: each field counts.
func TestI2Equal(t *testing.T) {
	l := []api.Rule{{Left: set(0), Right: seq(set(1), set(0))}, {Left: seq(set(1), set(0)), Right: set(1), Break: true}}
	x := compiled(t, setOf(2, l...))
	checkEqual(t, "itself", x, x, true)
	checkEqual(t, "a copy", x, copyOf(x), true)
	checkEqual(t, "compiled again", x, compiled(t, setOf(2, l...)), true)
	for what, change := range map[string]func(y *Tables){
		"Rules":                func(y *Tables) { y.Rules++ },
		"Breaks":               func(y *Tables) { y.Breaks ^= 1 },
		"Breaks, beyond Rules": func(y *Tables) { y.Breaks ^= 1 << 63 },
		"Ahead's Next":         func(y *Tables) { y.Ahead.Next[1][1] ^= 1 },
		"Ahead's Out":          func(y *Tables) { y.Ahead.Out[1] ^= 1 },
		"Ahead's Classes":      func(y *Tables) { y.Ahead.Classes++ },
		"Behind's Next":        func(y *Tables) { y.Behind.Next[1][1] ^= 1 },
		"Behind's Out":         func(y *Tables) { y.Behind.Out[1] ^= 1 },
		"Behind's Classes":     func(y *Tables) { y.Behind.Classes++ },
		"both machines":        func(y *Tables) { y.Ahead, y.Behind = y.Behind, y.Ahead },
	} {
		y := copyOf(x)
		change(y)
		checkEqual(t, what, x, y, false)
	}
}

// TestI2EqualRules: tables of rules that tell the same are Equal, of others not.
func TestI2EqualRules(t *testing.T) {
	rule := func(left, right api.Node) api.Rule { return api.Rule{Left: left, Right: right} }
	base := []api.Rule{rule(set(0), set(1)), rule(set(1), none())}
	x := compiled(t, setOf(2, base...))
	for what, l := range map[string][]api.Rule{
		"nodes of one part":   {rule(seq(set(0)), alt(set(1))), rule(alt(set(1), set()), seq())},
		"what is put in vain": {rule(alt(set(0), seq(star(set(1)), set(0))), set(1)), rule(set(1), alt(none(), star(set(0))))},
	} {
		checkEqual(t, what, x, compiled(t, setOf(2, l...)), true)
	}
	start := slices.Clone(base)
	start[0].Start = true
	breaks := slices.Clone(base)
	breaks[1].Break = true
	for what, r := range map[string]api.Ruleset{
		"fewer rules":              setOf(2, base[:1]...),
		"a rule more":              setOf(2, append(slices.Clone(base), api.Rule{})...),
		"a rule more that is vain": setOf(2, append(slices.Clone(base), rule(set(), set()))...),
		"another order":            setOf(2, base[1], base[0]),
		"a class more":             setOf(3, base...),
		"another Left":             setOf(2, rule(set(0, 1), set(1)), base[1]),
		"another Right":            setOf(2, rule(set(0), set(0, 1)), base[1]),
		"another Start":            setOf(2, start...),
		"another Break":            setOf(2, breaks...),
	} {
		checkEqual(t, what, x, compiled(t, r), false)
	}
	// Start of a Left that all that is ahead fits tells nothing.
	all := []api.Rule{{Left: star(set(0, 1)), Right: set(0)}}
	whole := []api.Rule{{Left: star(set(0, 1)), Right: set(0), Start: true}}
	checkEqual(t, "Start in vain", compiled(t, setOf(2, all...)), compiled(t, setOf(2, whole...)), true)
}

// clusterRules and wordRules are rules in the manner of UAX #29.
const clusterRules = `CR - LF
[Control CR LF] /
/ [Control CR LF]
L - [L V LV LVT]
[LV V] - [V T]
[LVT T] - T
- [Extend ZWJ]
- SpacingMark
Prepend -
ExtPict Extend* ZWJ - ExtPict
^ (RI RI)* RI - RI
[~RI] (RI RI)* RI - RI
`

const wordRules = `CR - LF
[Newline CR LF] /
/ [Newline CR LF]
ZWJ - ExtPict
Space - Space
- [Extend Format ZWJ]
[ALetter Hebrew] [Extend Format ZWJ]* - [ALetter Hebrew]
[ALetter Hebrew] [Extend Format ZWJ]* - [MidLetter Mid Single] [Extend Format ZWJ]* [ALetter Hebrew]
[ALetter Hebrew] [Extend Format ZWJ]* [MidLetter Mid Single] [Extend Format ZWJ]* - [ALetter Hebrew]
Hebrew [Extend Format ZWJ]* - Single
Numeric [Extend Format ZWJ]* - Numeric
[ALetter Hebrew] [Extend Format ZWJ]* - Numeric
Numeric [Extend Format ZWJ]* - [ALetter Hebrew]
Numeric [Extend Format ZWJ]* [Mid Single] [Extend Format ZWJ]* - Numeric
Numeric [Extend Format ZWJ]* - [Mid Single] [Extend Format ZWJ]* Numeric
^ (RI [Extend Format ZWJ]* RI [Extend Format ZWJ]*)* RI [Extend Format ZWJ]* - RI
[~RI Extend Format ZWJ] [Extend Format ZWJ]* (RI [Extend Format ZWJ]* RI [Extend Format ZWJ]*)* RI [Extend Format ZWJ]* - RI
`

// TestFollowsWritten: rules that are written, read of texts in which each of them counts.
func TestFollowsWritten(t *testing.T) {
	random := rand.New(rand.NewSource(29))
	for _, y := range []struct {
		text    string
		classes []string
		often   [][]int // pieces of texts
	}{
		{clusterRules, []string{"Other", "CR", "LF", "Control", "Extend", "ZWJ", "RI", "Prepend", "SpacingMark", "L", "V", "T", "LV", "LVT", "ExtPict"},
			[][]int{{4}, {5}, {6}, {14}, {1, 2}, {9, 12}, {12, 10}, {13, 11}, {14, 4, 5, 14}}},
		{wordRules, []string{"Other", "CR", "LF", "Newline", "Extend", "Format", "ZWJ", "RI", "ExtPict", "Space", "ALetter", "Hebrew", "MidLetter", "Mid", "Single", "Numeric"},
			[][]int{{4}, {7}, {10}, {11}, {13}, {14}, {15}, {1, 2}, {6, 8}, {9, 9}, {11, 14}}},
	} {
		l, err := rules.Parse(y.text, y.classes)
		if err != nil {
			t.Fatal(err)
		}
		x := compiled(t, api.Ruleset{Classes: y.classes, Rules: l})
		counts := make([]int, len(l))
		for range 300 {
			text := someRow(random, random.Intn(4), len(y.classes))
			for range random.Intn(25) {
				text = append(text, y.often[random.Intn(len(y.often))]...)
				text = append(text, someRow(random, max(0, random.Intn(5)-3), len(y.classes))...)
			}
			for _, first := range checkText(t, x, l, text) {
				if first >= 0 {
					counts[first]++
				}
			}
		}
		if slices.Contains(counts, 0) {
			t.Errorf("a rule never counts: %v", counts)
		}
	}
}

// TestFollowsAll: some rules, of all short texts, and of some longer ones.
func TestFollowsAll(t *testing.T) {
	random := rand.New(rand.NewSource(39))
	short := rows(4, 3)
	counts := make([]int, 6)
	for range 250 {
		l := someRules(random, 5, 3)
		x := compiled(t, setOf(3, l...))
		texts := slices.Clone(short)
		for range 5 {
			texts = append(texts, someRow(random, 25, 3))
		}
		for _, text := range texts {
			for _, first := range checkText(t, x, l, text) {
				counts[first+1]++
			}
		}
	}
	for i, count := range counts {
		if count < 100 {
			t.Errorf("the rule %d counts at %d places", i-1, count)
		}
	}
}

// TestFollowsForty: forty rules of twenty-four classes, where the last ones count too.
func TestFollowsForty(t *testing.T) {
	random := rand.New(rand.NewSource(49))
	var l []api.Rule
	for i := range 40 {
		rule := api.Rule{Left: set(i % 24), Right: set((i + 1) % 24), Break: i%3 == 0}
		if i >= 24 {
			rule.Left, rule.Right = set(i-24), none()
		}
		l = append(l, rule)
	}
	x := compiled(t, setOf(24, l...))
	counts := make([]int, 41)
	for range 100 {
		text := someRow(random, 60, 24)
		for i := range text {
			if i > 0 && random.Intn(2) == 0 {
				text[i] = (text[i-1] + 1) % 24
			}
		}
		for _, first := range checkText(t, x, l, text) {
			counts[first+1]++
		}
	}
	if slices.Contains(counts, 0) {
		t.Errorf("a rule never counts: %v", counts)
	}
}

// cloneRules is rules in memory of their own; spoil writes over all that they have.
func cloneRules(l []api.Rule) []api.Rule {
	c := slices.Clone(l)
	for i := range c {
		c[i].Left, c[i].Right = clone(c[i].Left), clone(c[i].Right)
	}
	return c
}

func clone(n api.Node) api.Node {
	n.Classes = slices.Clone(n.Classes)
	n.Parts = slices.Clone(n.Parts)
	for i := range n.Parts {
		n.Parts[i] = clone(n.Parts[i])
	}
	return n
}

func spoil(n api.Node) {
	for i := range n.Parts {
		spoil(n.Parts[i])
		n.Parts[i] = api.Node{Op: 99}
	}
	for i := range n.Classes {
		n.Classes[i] = 99
	}
}

// writeOver writes over all that a machine has in its lists.
func writeOver(m *dfa.Machine) {
	for i := range m.Next {
		for c := range m.Next[i] {
			m.Next[i][c] = 99
		}
		m.Out[i] = 99
	}
}

// TestR1: rules stay as they were, and are not kept; tables are the caller's.
func TestR1(t *testing.T) {
	random := rand.New(rand.NewSource(59))
	for range 300 {
		l := someRules(random, 5, 3)
		r := setOf(3, cloneRules(l)...)
		x := compiled(t, r)
		want := copyOf(x)
		if !reflect.DeepEqual(r, setOf(3, cloneRules(l)...)) {
			t.Fatalf("%v became %v", l, r.Rules)
		}
		y := compiled(t, r)
		for i := range r.Rules {
			spoil(r.Rules[i].Left)
			spoil(r.Rules[i].Right)
			r.Rules[i] = api.Rule{Left: api.Node{Op: 99}, Break: true, Start: true}
		}
		if !reflect.DeepEqual(x, want) {
			t.Fatalf("%v: tables keep the rules", l)
		}
		writeOver(y.Ahead)
		if !reflect.DeepEqual(y.Behind, want.Behind) {
			t.Fatalf("%v: both machines share memory", l)
		}
		writeOver(y.Behind)
		if again := compiled(t, setOf(3, l...)); !reflect.DeepEqual(again, want) || !reflect.DeepEqual(x, want) {
			t.Fatalf("%v: tables that were written over tell of others", l)
		}
	}
}

// TestR2: tables that their owner wrote over, or that there are not, do not panic, and end.
func TestR2(t *testing.T) {
	var none *Tables
	if !none.Decide(1, 1) || !Equal(nil, nil) || Equal(nil, &Tables{}) || Equal(&Tables{}, nil) {
		t.Error("nil tables")
	}
	checkEqual(t, "no machines", &Tables{}, &Tables{}, true)
	x := compiled(t, setOf(2, api.Rule{Left: set(0)}))
	checkEqual(t, "a machine less", x, &Tables{Ahead: x.Ahead, Rules: 1}, false)
	checkEqual(t, "another machine less", x, &Tables{Behind: x.Behind, Rules: 1}, false)
	for _, y := range []struct {
		rules         int
		ahead, behind uint64
		want          bool
	}{
		{-1, 1, 1, true}, {math.MinInt, 1, 1, true}, {math.MaxInt, 0, 0, true}, {math.MaxInt, 1, 2, true},
		{math.MaxInt, 1, 1, false}, {64, 1 << 63, 1 << 63, false}, {63, 1 << 63, 1 << 63, true}, {65, 1 << 63, 1 << 63, false},
	} {
		x.Rules = y.rules
		if is := x.Decide(y.ahead, y.behind); is != y.want {
			t.Errorf("of %d rules: Decide(%b, %b) = %v", y.rules, y.ahead, y.behind, is)
		}
	}
}

// TestR3R4: what was compiled ahead does not tell, nor does how often.
func TestR3R4(t *testing.T) {
	random := rand.New(rand.NewSource(69))
	var sets []api.Ruleset
	var first []*Tables
	for range 60 {
		r := setOf(3, someRules(random, 6, 3)...)
		sets = append(sets, r)
		first = append(first, compiled(t, r))
	}
	for i := len(sets) - 1; i >= 0; i-- {
		checkError(t, "wrong, between", setOf(3, api.Rule{Left: set(3)}), api.ErrArg)
		if again := compiled(t, sets[i]); !reflect.DeepEqual(again, first[i]) || !Equal(again, first[i]) {
			t.Fatalf("%v: %v, then %v", sets[i], first[i], again)
		}
	}
}
