package window

import (
	"math"
	"math/rand"
	"reflect"
	"slices"
	"strings"
	"testing"

	"foolscap/api"
	"foolscap/dfa"
	"foolscap/reading"
	"foolscap/rules"
	"foolscap/seg"
	"foolscap/tables"
)

// The nodes that tests are written with.
func set(classes ...int) api.Node     { return api.Node{Op: api.OpSet, Classes: classes} }
func seq(parts ...api.Node) api.Node  { return api.Node{Op: api.OpSeq, Parts: parts} }
func star(parts ...api.Node) api.Node { return api.Node{Op: api.OpStar, Parts: parts} }

// compiled is the tables of so many classes, and these rules.
func compiled(t *testing.T, classes int, l ...api.Rule) *tables.Tables {
	t.Helper()
	x, e := tables.Compile(api.Ruleset{Classes: make([]string, classes), Rules: l})
	if e != api.OK {
		t.Fatalf("Compile of %v: %v", l, e)
	}
	return x
}

// made is a window that may be.
func made(t *testing.T, x *tables.Tables, text ...int) *Window {
	t.Helper()
	w, e := New(x, text)
	if w == nil || e != api.OK {
		t.Fatalf("New of %v: %v, %v", text, w, e)
	}
	return w
}

// told is boundaries as a text: | of one, . of a place that is none.
func told(l []bool) string {
	var b strings.Builder
	for _, is := range l {
		if is {
			b.WriteByte('|')
		} else {
			b.WriteByte('.')
		}
	}
	return b.String()
}

// beyond are places that no text of n characters has.
func beyond(n int) []int {
	return []int{-1, -2, n + 1, n + 2, math.MinInt, math.MinInt + 1, math.MaxInt}
}

// checkSteps asks for what Next and Prev answer.
func checkSteps(t *testing.T, w *Window, at, next, prev int, want api.Errno) {
	t.Helper()
	if p, e := w.Next(at); p != next || e != want {
		t.Fatalf("%v: Next(%d) = %d, %v, not %d, %v", w.Classes(), at, p, e, next, want)
	}
	if p, e := w.Prev(at); p != prev || e != want {
		t.Fatalf("%v: Prev(%d) = %d, %v, not %d, %v", w.Classes(), at, p, e, prev, want)
	}
}

// checkText holds a window against its text, and boundaries that are told.
func checkText(t *testing.T, w *Window, text []int, want string) {
	t.Helper()
	n := len(text)
	if w.Len() != n || !slices.Equal(w.Classes(), text) {
		t.Fatalf("%d, %v, not %v", w.Len(), w.Classes(), text)
	}
	if got := told(w.Boundaries()); got != want {
		t.Fatalf("%v: %s, not %s", text, got, want)
	}
	for at := range n + 1 {
		if w.Is(at) != (want[at] == '|') {
			t.Fatalf("%v: Is(%d) = %v", text, at, w.Is(at))
		}
		next := n
		if i := strings.IndexByte(want[at+1:], '|'); i >= 0 {
			next = at + 1 + i
		}
		checkSteps(t, w, at, next, max(0, strings.LastIndexByte(want[:at], '|')), api.OK)
	}
	for _, at := range beyond(n) {
		if w.Is(at) {
			t.Fatalf("%v: Is(%d)", text, at)
		}
		checkSteps(t, w, at, 0, 0, api.ErrRange)
	}
}

// checkSeg holds a window of a text that is not too long against what seg (10) tells of it.
func checkSeg(t *testing.T, w *Window, x *tables.Tables, text []int) {
	t.Helper()
	l, e := seg.Boundaries(x, text)
	if e != api.OK {
		t.Fatalf("seg of %v: %v", text, e)
	}
	checkText(t, w, text, told(l))
}

// spliced is the text that a splice makes, in new memory.
func spliced(text []int, at, n int, classes []int) []int {
	return slices.Concat(text[:at], classes, text[at+n:])
}

// statesAhead is of each place the state ahead of it, as the document has it: from 0 on, by
// Next.
func statesAhead(m *dfa.Machine, text []int) []int {
	l := []int{0}
	for i, class := range text {
		l = append(l, m.Next[l[i]][class])
	}
	return l
}

// statesBehind is of each place the state behind it.
func statesBehind(m *dfa.Machine, text []int) []int {
	l := make([]int, len(text)+1)
	for p := len(text) - 1; p >= 0; p-- {
		l[p] = m.Next[l[p+1]][text[p]]
	}
	return l
}

// wantTouched counts what a splice touches, by the states of both whole texts.
func wantTouched(x *tables.Tables, old []int, at, n int, classes []int) int {
	now := spliced(old, at, n, classes)
	was, is := statesAhead(x.Ahead, old), statesAhead(x.Ahead, now)
	follow := len(old) - at - n
	on := 0
	for on < follow && is[at+len(classes)+on] != was[at+n+on] {
		on++
	}
	was, is = statesBehind(x.Behind, old), statesBehind(x.Behind, now)
	back := 0
	for back < at && is[at-back] != was[at-back] {
		back++
	}
	return 2*len(classes) + on + back
}

// splice does one that may be, asks for what is touched, and answers the text of then.
func splice(t *testing.T, w *Window, x *tables.Tables, text []int, at, n int, classes []int) []int {
	t.Helper()
	if e := w.Splice(at, n, classes); e != api.OK {
		t.Fatalf("%v: Splice(%d, %d, %v): %v", text, at, n, classes, e)
	}
	if want := wantTouched(x, text, at, n, classes); w.Touched() != want {
		t.Fatalf("%v: Splice(%d, %d, %v): Touched %d, not %d", text, at, n, classes, w.Touched(), want)
	}
	return spliced(text, at, n, classes)
}

// rows are all rows of so many classes at most, of 0 to classes - 1.
func rows(size, classes int) [][]int {
	all := [][]int{nil}
	for from := 0; size > 0; size-- {
		to := len(all)
		for _, ahead := range all[from:to] {
			for c := range classes {
				all = append(all, append(slices.Clone(ahead), c))
			}
		}
		from = to
	}
	return all
}

func someRow(random *rand.Rand, size, classes int) []int {
	l := make([]int, size)
	for i := range l {
		l[i] = random.Intn(classes)
	}
	return l
}

// someSide is a side of a rule that fits here and there.
func someSide(random *rand.Rand, classes int) api.Node {
	x := seq()
	for range random.Intn(4) {
		n := set(random.Intn(classes))
		switch random.Intn(6) {
		case 0:
			n = star(n)
		case 1:
			n = api.Node{Op: api.OpOpt, Parts: []api.Node{n}}
		case 2:
			n = api.Node{Op: api.OpAlt, Parts: []api.Node{n, seq(set(0), set(classes-1))}}
		case 3:
			n = star(seq(n, set(random.Intn(classes))))
		}
		x.Parts = append(x.Parts, n)
	}
	return x
}

func someRules(random *rand.Rand, most, classes int) []api.Rule {
	var l []api.Rule
	for range random.Intn(most + 1) {
		l = append(l, api.Rule{
			Left: someSide(random, classes), Right: someSide(random, classes),
			Break: random.Intn(2) == 0, Start: random.Intn(3) == 0,
		})
	}
	return l
}

// TestExample: of no rules all places of a text that is not empty are boundaries, and a splice
// of one character touches 2.
func TestExample(t *testing.T) {
	for classes := 1; classes <= 24; classes++ {
		x := compiled(t, classes)
		w := made(t, x)
		checkText(t, w, nil, ".")
		var text []int
		for i := range 30 {
			text = splice(t, w, x, text, i/2, 0, []int{i % classes})
			if w.Touched() != 2 {
				t.Errorf("Touched %d", w.Touched())
			}
			checkText(t, w, text, strings.Repeat("|", i+2))
		}
	}
}

// TestK1Splice: splices whose boundaries, and what they touch, are written out.
func TestK1Splice(t *testing.T) {
	pairs := star(seq(set(1), set(1)))
	x := compiled(t, 2, // a class 1 by twos
		api.Rule{Left: seq(pairs, set(1)), Right: set(1), Start: true},
		api.Rule{Left: seq(set(0), pairs, set(1)), Right: set(1)})
	w := made(t, x, 1, 1, 1, 1)
	checkText(t, w, []int{1, 1, 1, 1}, "|.|.|")
	for _, y := range []struct {
		at, n   int
		classes []int
		text    []int
		want    string
		touched int
	}{
		{1, 0, []int{1}, []int{1, 1, 1, 1, 1}, "|.|.||", 2 + 3},
		{1, 0, []int{0}, []int{1, 0, 1, 1, 1, 1}, "|||.|.|", 2 + 4 + 1},
		{1, 0, nil, []int{1, 0, 1, 1, 1, 1}, "|||.|.|", 0},
		{5, 1, nil, []int{1, 0, 1, 1, 1}, "|||.||", 1},
		{0, 2, []int{0, 1}, []int{0, 1, 1, 1, 1}, "||.|.|", 4 + 3},
		{0, 0, []int{1, 1, 1}, []int{1, 1, 1, 0, 1, 1, 1, 1}, "|.|||.|.|", 6 + 1},
		{3, 5, []int{1}, []int{1, 1, 1, 1}, "|.|.|", 2 + 1},
		{0, 4, nil, nil, ".", 0},
		{0, 0, nil, nil, ".", 0},
		{0, 0, []int{0}, []int{0}, "||", 2},
		{0, 1, []int{1, 1}, []int{1, 1}, "|.|", 4},
	} {
		if e := w.Splice(y.at, y.n, y.classes); e != api.OK {
			t.Fatalf("%v: %v", y, e)
		}
		if w.Touched() != y.touched {
			t.Errorf("%v: Touched %d", y, w.Touched())
		}
		checkText(t, w, y.text, y.want)
	}
}

// TestK1New: texts whose boundaries are written out; New touches all of a text, twice.
func TestK1New(t *testing.T) {
	never := compiled(t, 2, api.Rule{})
	always := compiled(t, 2, api.Rule{Break: true}, api.Rule{})
	far := compiled(t, 3, api.Rule{Left: seq(set(1), star(set(0))), Right: seq(star(set(0)), set(2))})
	for i, y := range []struct {
		x    *tables.Tables
		text []int
		want string
	}{
		{never, nil, "."}, {never, []int{}, "."}, {never, []int{0}, "||"}, {never, []int{0, 1}, "|.|"}, {never, []int{0, 0, 1, 1, 0}, "|....|"},
		{always, nil, "."}, {always, []int{1}, "||"}, {always, []int{0, 1, 0}, "||||"},
		{far, []int{1, 0, 0, 2}, "|...|"}, {far, []int{1, 0, 0}, "||||"}, {far, []int{0, 1, 0, 2, 0}, "||..||"}, {far, []int{2, 0, 1}, "||||"}, {far, []int{1, 2, 2}, "|.||"},
	} {
		w := made(t, y.x, y.text...)
		if w.Touched() != 2*len(y.text) {
			t.Errorf("%d: Touched %d", i, w.Touched())
		}
		checkText(t, w, y.text, y.want)
	}
}

// TestK1NewErrArg: a class that is none of the tables', wherever it is.
func TestK1NewErrArg(t *testing.T) {
	for classes := 1; classes <= 24; classes++ {
		x := compiled(t, classes, api.Rule{Left: set(0)})
		made(t, x, 0, classes-1)
		for _, class := range []int{-1, classes, classes + 1, 24, 64, math.MinInt, math.MaxInt} {
			for _, text := range [][]int{{class}, {class, 0, 0}, {0, class, 0}, {0, 0, class}, {class, class}} {
				if w, e := New(x, text); w != nil || e != api.ErrArg {
					t.Errorf("%d classes, %v: %v, %v", classes, text, w, e)
				}
			}
		}
	}
}

// refused asks for an error of a splice, by which nothing is changed.
func refused(t *testing.T, w *Window, at, n int, classes []int, want api.Errno) {
	t.Helper()
	text, bounds, touched := w.Classes(), told(w.Boundaries()), w.Touched()
	if e := w.Splice(at, n, classes); e != want {
		t.Errorf("%v: Splice(%d, %d, %v): %v, not %v", text, at, n, classes, e, want)
	}
	checkText(t, w, text, bounds)
	if w.Touched() != touched {
		t.Errorf("%v: Touched %d, not %d any more", text, w.Touched(), touched)
	}
}

// TestK1SpliceErrRange: places that there are not, and more characters than there are.
func TestK1SpliceErrRange(t *testing.T) {
	x := compiled(t, 2, api.Rule{Right: set(1)})
	for _, text := range [][]int{nil, {1}, {0, 1}, {1, 0, 0, 1, 1}} {
		size := len(text)
		w := made(t, x, text...)
		for _, classes := range [][]int{nil, {0}, {1, 1, 1}, {2}, {-1}} { // ErrRange applies ahead of ErrArg
			for _, at := range beyond(size) {
				for _, n := range []int{0, 1, -1, size, math.MinInt, math.MaxInt} {
					refused(t, w, at, n, classes, api.ErrRange)
				}
			}
			for at := range size + 1 {
				for _, n := range []int{-1, -at - 1, size - at + 1, size + 1, math.MinInt, math.MaxInt, math.MaxInt - at} {
					refused(t, w, at, n, classes, api.ErrRange)
				}
			}
		}
	}
}

// TestK1SpliceErrArg: a class that is none of the tables', wherever it is, of a splice that
// might be else.
func TestK1SpliceErrArg(t *testing.T) {
	for _, count := range []int{1, 2, 24} {
		x := compiled(t, count, api.Rule{Right: set(0)})
		w := made(t, x, 0, 0, 0)
		splice(t, w, x, []int{0, 0, 0}, 1, 1, []int{0, count - 1})
		for _, class := range []int{-1, count, count + 1, 64, math.MinInt, math.MaxInt} {
			for _, classes := range [][]int{{class}, {class, 0}, {0, class}, {0, class, 0}} {
				for at := range w.Len() + 1 {
					for n := range w.Len() - at + 1 {
						refused(t, w, at, n, classes, api.ErrArg)
					}
				}
			}
		}
	}
}

// TestK1BothMachines: a class that either machine has not is none of t's.
func TestK1BothMachines(t *testing.T) {
	two, three := compiled(t, 2), compiled(t, 3)
	for _, x := range []*tables.Tables{{Ahead: two.Ahead, Behind: three.Behind}, {Ahead: three.Ahead, Behind: two.Behind}} {
		w := made(t, x, 0, 1)
		checkText(t, w, []int{0, 1}, "|||")
		refused(t, w, 1, 0, []int{2}, api.ErrArg)
		if w, e := New(x, []int{0, 2}); w != nil || e != api.ErrArg {
			t.Errorf("%v, %v", w, e)
		}
	}
}

// TestK1Machines: boundaries hang on both machines, Breaks and Rules, as they are told.
func TestK1Machines(t *testing.T) {
	machine := func(out ...uint64) *dfa.Machine { // its state is the class read last, and one
		m := &dfa.Machine{Classes: len(out) - 1, Out: out}
		for range out {
			var row []int
			for class := range m.Classes {
				row = append(row, 1+class)
			}
			m.Next = append(m.Next, row)
		}
		return m
	}
	for _, y := range []struct {
		breaks uint64
		rules  int
	}{{2, 2}, {0, 2}, {2, 0}, {1, 1}, {3, 2}} {
		x := &tables.Tables{Ahead: machine(7, 1, 2), Behind: machine(7, 3, 0), Breaks: y.breaks, Rules: y.rules}
		w := made(t, x)
		for _, text := range rows(5, 2) {
			splice(t, w, x, w.Classes(), 0, w.Len(), text)
			checkSeg(t, w, x, text)
		}
	}
}

// TestK2Touched: what is touched, written out.
func TestK2Touched(t *testing.T) {
	last := compiled(t, 2, api.Rule{Left: set(0), Right: set(1)}) // states by the class read last
	near := compiled(t, 2, api.Rule{Left: seq(set(1), set(0), set(0)), Right: seq(set(0), set(0), set(0), set(1))})
	first := compiled(t, 2, api.Rule{Left: seq(set(1), star(set(0, 1))), Start: true}) // that of the text's first character
	end := compiled(t, 2, api.Rule{Right: seq(star(set(0, 1)), set(1), set(1))})
	for i, y := range []struct {
		x     *tables.Tables
		text  []int
		at, n int
		l     []int
		want  int
	}{
		{last, make([]int, 9), 5, 0, []int{0}, 2},
		{last, make([]int, 9), 5, 0, []int{1}, 2 + 1 + 1},
		{last, make([]int, 9), 0, 0, []int{1}, 2 + 0},
		{last, make([]int, 9), 0, 0, []int{0}, 2 + 1},
		{last, make([]int, 9), 9, 0, []int{1}, 2 + 1},
		{last, make([]int, 9), 9, 0, []int{0}, 2},
		{last, []int{0, 0, 1, 0, 0}, 2, 1, nil, 1 + 1},
		{last, []int{0, 0, 1, 0, 0}, 2, 1, []int{1}, 2},
		{last, []int{0, 0, 1, 0, 0}, 2, 1, []int{0}, 2 + 1 + 1},
		{last, []int{0, 0, 1, 0, 0}, 1, 3, nil, 0},
		{near, make([]int, 20), 10, 0, []int{1}, 2 + 3 + 4},
		{near, make([]int, 20), 19, 0, []int{1}, 2 + 1 + 4},
		{near, make([]int, 20), 2, 0, []int{1}, 2 + 3 + 2},
		{first, make([]int, 20), 0, 1, []int{1}, 2 + 19},
		{first, make([]int, 20), 1, 1, []int{1}, 2},
		{first, make([]int, 20), 0, 20, nil, 0},
		{end, make([]int, 20), 20, 0, []int{1, 1}, 4 + 20},
		{end, make([]int, 20), 20, 0, []int{1}, 2 + 1},
		{end, make([]int, 20), 15, 0, []int{1, 1, 1}, 6 + 15},
	} {
		w := made(t, y.x, y.text...)
		if w.Touched() != 2*len(y.text) {
			t.Errorf("%d: Touched %d of New", i, w.Touched())
		}
		if e := w.Splice(y.at, y.n, y.l); e != api.OK || w.Touched() != y.want {
			t.Errorf("%d: %v: Touched %d, not %d", i, e, w.Touched(), y.want)
		}
		checkSeg(t, w, y.x, spliced(y.text, y.at, y.n, y.l))
	}
}

// TestFollowsAll: all splices of all short texts, of some rules.
func TestFollowsAll(t *testing.T) {
	random := rand.New(rand.NewSource(11))
	texts, pieces := rows(4, 2), rows(2, 2)
	for range 60 {
		l := someRules(random, 5, 2)
		x := compiled(t, 2, l...)
		for _, text := range texts {
			for at := range len(text) + 1 {
				for n := range len(text) - at + 1 {
					for _, classes := range pieces {
						w := made(t, x, text...)
						now := splice(t, w, x, text, at, n, classes)
						checkText(t, w, now, told(reading.Boundaries(l, now)))
					}
				}
			}
		}
	}
}

// TestFollowsMany: many splices, one behind the other, of some rules.
func TestFollowsMany(t *testing.T) {
	random := rand.New(rand.NewSource(12))
	for range 150 {
		l := someRules(random, 5, 3)
		x := compiled(t, 3, l...)
		text := someRow(random, random.Intn(20), 3)
		w := made(t, x, text...)
		for range 60 {
			at := random.Intn(len(text) + 1)
			n := random.Intn(min(6, len(text)-at) + 1)
			text = splice(t, w, x, text, at, n, someRow(random, random.Intn(6), 3))
			checkText(t, w, text, told(reading.Boundaries(l, text)))
			if random.Intn(4) == 0 {
				refused(t, w, random.Intn(len(text)+1), 0, []int{3}, api.ErrArg)
				refused(t, w, len(text)+1, 0, nil, api.ErrRange)
			}
		}
	}
}

// clusterRules and wordRules are rules in the manner of UAX #29.
const clusterRules = `CR - LF
[Control CR LF] /
/ [Control CR LF]
L - [L V LV LVT]
[LV V] - [V T]
[LVT T] - T
- [Extend ZWJ]
- SpacingMark
Prepend -
ExtPict Extend* ZWJ - ExtPict
^ (RI RI)* RI - RI
[~RI] (RI RI)* RI - RI
`

const wordRules = `CR - LF
[Newline CR LF] /
/ [Newline CR LF]
ZWJ - ExtPict
Space - Space
- [Extend Format ZWJ]
[ALetter Hebrew] [Extend Format ZWJ]* - [ALetter Hebrew]
[ALetter Hebrew] [Extend Format ZWJ]* - [MidLetter Mid Single] [Extend Format ZWJ]* [ALetter Hebrew]
[ALetter Hebrew] [Extend Format ZWJ]* [MidLetter Mid Single] [Extend Format ZWJ]* - [ALetter Hebrew]
Hebrew [Extend Format ZWJ]* - Single
Numeric [Extend Format ZWJ]* - Numeric
[ALetter Hebrew] [Extend Format ZWJ]* - Numeric
Numeric [Extend Format ZWJ]* - [ALetter Hebrew]
Numeric [Extend Format ZWJ]* [Mid Single] [Extend Format ZWJ]* - Numeric
Numeric [Extend Format ZWJ]* - [Mid Single] [Extend Format ZWJ]* Numeric
^ (RI [Extend Format ZWJ]* RI [Extend Format ZWJ]*)* RI [Extend Format ZWJ]* - RI
[~RI Extend Format ZWJ] [Extend Format ZWJ]* (RI [Extend Format ZWJ]* RI [Extend Format ZWJ]*)* RI [Extend Format ZWJ]* - RI
`

// TestFollowsWritten: rules that are written, of splices of pieces to which they matter.
func TestFollowsWritten(t *testing.T) {
	random := rand.New(rand.NewSource(13))
	for _, y := range []struct {
		text    string
		classes []string
		often   [][]int
	}{
		{clusterRules, []string{"Other", "CR", "LF", "Control", "Extend", "ZWJ", "RI", "Prepend", "SpacingMark", "L", "V", "T", "LV", "LVT", "ExtPict"},
			[][]int{{4}, {5}, {6}, {14}, {1, 2}, {9, 12}, {12, 10}, {13, 11}, {14, 4, 5, 14}}},
		{wordRules, []string{"Other", "CR", "LF", "Newline", "Extend", "Format", "ZWJ", "RI", "ExtPict", "Space", "ALetter", "Hebrew", "MidLetter", "Mid", "Single", "Numeric"},
			[][]int{{4}, {7}, {10}, {11}, {13}, {14}, {15}, {1, 2}, {6, 8}, {9, 9}, {11, 14}}},
	} {
		l, err := rules.Parse(y.text, y.classes)
		if err != nil {
			t.Fatal(err)
		}
		x := compiled(t, len(y.classes), l...)
		w := made(t, x)
		var text []int
		for range 600 {
			at := random.Intn(len(text) + 1)
			n := random.Intn(min(1+len(text)/12, len(text)-at) + 1)
			piece := slices.Clone(y.often[random.Intn(len(y.often))])
			piece = append(piece, someRow(random, max(0, random.Intn(5)-3), len(y.classes))...)
			text = splice(t, w, x, text, at, n, piece)
			checkText(t, w, text, told(reading.Boundaries(l, text)))
		}
	}
}

// TestR1: what is handed in stays, and is not kept; answers are the caller's.
func TestR1(t *testing.T) {
	rule := api.Rule{Left: seq(set(0), star(set(1))), Right: set(1)}
	x, same := compiled(t, 2, rule), compiled(t, 2, rule)
	text, piece := []int{0, 1, 1, 0, 99}, []int{1, 0, 1, 99}
	w := made(t, x, text[:4]...)
	if e := w.Splice(2, 1, piece[:3]); e != api.OK {
		t.Fatal(e)
	}
	if !slices.Equal(text, []int{0, 1, 1, 0, 99}) || !slices.Equal(piece, []int{1, 0, 1, 99}) || !reflect.DeepEqual(x, same) {
		t.Fatalf("became %v, %v, %v", text, piece, x)
	}
	for i := range text {
		text[i] = 99
	}
	for i := range piece {
		piece[i] = 99
	}
	want := []int{0, 1, 1, 0, 1, 0}
	checkText(t, w, want, "|..|.||")
	classes, bounds := w.Classes(), w.Boundaries()
	for i := range classes {
		classes[i] = 99
	}
	for i := range bounds {
		bounds[i] = !bounds[i]
	}
	checkText(t, w, want, "|..|.||")
	classes, bounds = w.Classes(), w.Boundaries()
	splice(t, w, x, want, 0, 3, []int{1})
	if !slices.Equal(classes, want) || told(bounds) != "|..|.||" {
		t.Errorf("answers became %v, %s", classes, told(bounds))
	}
	_ = append(w.Classes()[:1], 99)
	checkSeg(t, w, x, []int{1, 0, 1, 0})
}

// TestR1Own: a window's own classes may be spliced into it.
func TestR1Own(t *testing.T) {
	x := compiled(t, 2, api.Rule{Left: set(0), Right: set(1)})
	text := []int{0, 1, 1, 0, 1}
	w := made(t, x, text...)
	for range 4 {
		text = splice(t, w, x, text, 2, 1, w.Classes())
		checkSeg(t, w, x, text)
	}
}

// TestR2: tables that there are not, or that their owner wrote over, do not panic.
func TestR2(t *testing.T) {
	for _, x := range []*tables.Tables{nil, {}, {Rules: 3, Breaks: 1}, {Ahead: compiled(t, 2).Ahead}, {Behind: compiled(t, 2).Behind}, {Ahead: &dfa.Machine{}, Behind: &dfa.Machine{}}} {
		w := made(t, x)
		checkText(t, w, nil, ".")
		refused(t, w, 0, 0, []int{0}, api.ErrArg)
		if e := w.Splice(0, 0, nil); e != api.OK || w.Touched() != 0 {
			t.Errorf("%v, %d", e, w.Touched())
		}
		if w, e := New(x, []int{0}); w != nil || e != api.ErrArg {
			t.Errorf("%v, %v", w, e)
		}
	}
	wide := &dfa.Machine{Classes: 9, Next: [][]int{{7, -7}, nil}, Out: []uint64{1}}
	for _, count := range []int{-1, 0, 1, 64, 1000, math.MaxInt} {
		for _, text := range rows(3, 3) {
			used(t, &tables.Tables{Ahead: wide, Behind: wide, Rules: count}, text, func(x *tables.Tables) {})
		}
	}
	for _, spoil := range []func(x *tables.Tables){
		func(x *tables.Tables) { x.Ahead = nil },
		func(x *tables.Tables) { x.Behind = nil },
		func(x *tables.Tables) { x.Ahead.Out, x.Behind.Next = nil, nil },
		func(x *tables.Tables) { x.Behind.Out, x.Ahead.Next = nil, nil },
		func(x *tables.Tables) { x.Ahead.Classes, x.Behind.Classes = 0, -1 },
		func(x *tables.Tables) { *x = tables.Tables{} },
	} {
		used(t, compiled(t, 3, api.Rule{Left: set(1), Right: set(2)}), []int{1, 2, 0, 1}, spoil)
	}
}

// used makes all calls of a window whose tables are written over behind its making.
func used(t *testing.T, x *tables.Tables, text []int, spoil func(*tables.Tables)) {
	t.Helper()
	w := made(t, x, text...)
	spoil(x)
	for at := range len(text) + 1 {
		w.Is(at)
		w.Next(at)
		w.Prev(at)
		w.Splice(at, 0, []int{0, 1})
		w.Splice(at, 1, nil)
		w.Touched()
		if len(w.Boundaries()) != w.Len()+1 || len(w.Classes()) != w.Len() {
			t.Errorf("%d places of %d characters", len(w.Boundaries()), w.Len())
		}
	}
}

// TestR3R4: windows on the same tables have nothing to do with each other, and the same calls
// have the same answers.
func TestR3R4(t *testing.T) {
	random := rand.New(rand.NewSource(14))
	x := compiled(t, 3, someRules(random, 5, 3)...)
	var all []*Window
	texts := make([][]int, 8)
	for range texts {
		all = append(all, made(t, x))
	}
	for range 400 {
		i := random.Intn(len(all))
		at := random.Intn(len(texts[i]) + 1)
		n := random.Intn(min(3, len(texts[i])-at) + 1)
		texts[i] = splice(t, all[i], x, texts[i], at, n, someRow(random, random.Intn(4), 3))
		for j, w := range all {
			checkSeg(t, w, x, texts[j])
		}
	}
	for i, w := range all {
		again := made(t, x, texts[i]...)
		if told(again.Boundaries()) != told(w.Boundaries()) || again.Touched() != 2*len(texts[i]) {
			t.Errorf("%v: made anew: %s, not %s", texts[i], told(again.Boundaries()), told(w.Boundaries()))
		}
	}
}

// TestLarge: a long text, where each end counts for the other, and many small splices.
func TestLarge(t *testing.T) {
	x := compiled(t, 3, api.Rule{Left: seq(set(1), star(set(0))), Right: seq(star(set(0)), set(2))})
	n := 200000
	w := made(t, x, make([]int, n)...)
	for _, y := range []struct {
		at, touched, next int
		class             int
	}{
		{0, 2 + n - 1, n/2 + 1, 1}, {n - 1, 2 + n - 1, n, 2}, {n / 2, 2, n, 0}, {n / 2, 2 + n/2, n, 1}, {n / 2, 2 + n/2 - 1 + n/2, n/2 + 1, 2},
	} {
		if e := w.Splice(y.at, 1, []int{y.class}); e != api.OK || w.Touched() != y.touched {
			t.Errorf("%v: %v, Touched %d", y, e, w.Touched())
		}
		if p, _ := w.Next(n / 2); p != y.next {
			t.Errorf("%v: Next %d", y, p)
		}
	}
	w = made(t, x)
	for i := range 20000 {
		w.Splice(i/2, 0, []int{i % 3})
	}
	if l, _ := seg.Boundaries(x, w.Classes()); w.Len() != 20000 || told(w.Boundaries()) != told(l) {
		t.Errorf("%d characters", w.Len())
	}
}
