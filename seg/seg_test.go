package seg

import (
	"math"
	"math/rand"
	"reflect"
	"slices"
	"strings"
	"testing"

	"foolscap/api"
	"foolscap/dfa"
	"foolscap/reading"
	"foolscap/rules"
	"foolscap/tables"
)

// The nodes that tests are written with.
func set(classes ...int) api.Node     { return api.Node{Op: api.OpSet, Classes: classes} }
func seq(parts ...api.Node) api.Node  { return api.Node{Op: api.OpSeq, Parts: parts} }
func star(parts ...api.Node) api.Node { return api.Node{Op: api.OpStar, Parts: parts} }

// compiled is the tables of so many classes, and these rules.
func compiled(t *testing.T, classes int, l ...api.Rule) *tables.Tables {
	t.Helper()
	x, e := tables.Compile(api.Ruleset{Classes: make([]string, classes), Rules: l})
	if e != api.OK {
		t.Fatalf("Compile of %v: %v", l, e)
	}
	return x
}

// told is boundaries as a text: | of one, . of a place that is none.
func told(l []bool) string {
	var b strings.Builder
	for _, is := range l {
		if is {
			b.WriteByte('|')
		} else {
			b.WriteByte('.')
		}
	}
	return b.String()
}

// bounds is the boundaries of a text that may be, told.
func bounds(t *testing.T, x *tables.Tables, text []int) string {
	t.Helper()
	l, e := Boundaries(x, text)
	if e != api.OK || len(l) != len(text)+1 {
		t.Fatalf("Boundaries of %v: %v, %v", text, l, e)
	}
	return told(l)
}

// wanted is the places that are wanted of Next and Prev, by boundaries that are told.
func wanted(at int, bounds string) (next, prev int) {
	next = len(bounds) - 1
	if i := strings.IndexByte(bounds[at+1:], '|'); i >= 0 {
		next = at + 1 + i
	}
	return next, max(0, strings.LastIndexByte(bounds[:at], '|'))
}

// checkText holds all three calls against boundaries that are told.
func checkText(t *testing.T, x *tables.Tables, text []int, want string) {
	t.Helper()
	if got := bounds(t, x, text); got != want {
		t.Fatalf("Boundaries of %v: %s, not %s", text, got, want)
	}
	for at := range len(text) + 1 {
		next, prev := wanted(at, want)
		checkSteps(t, x, text, at, next, prev, api.OK)
	}
}

func checkSteps(t *testing.T, x *tables.Tables, text []int, at, next, prev int, want api.Errno) {
	t.Helper()
	if p, e := Next(x, text, at); p != next || e != want {
		t.Errorf("%v: Next(%d) = %d, %v, not %d, %v", text, at, p, e, next, want)
	}
	if p, e := Prev(x, text, at); p != prev || e != want {
		t.Errorf("%v: Prev(%d) = %d, %v, not %d, %v", text, at, p, e, prev, want)
	}
}

// checkRead holds all three calls against what reading (6) tells of the rules.
func checkRead(t *testing.T, x *tables.Tables, l []api.Rule, text []int) {
	t.Helper()
	checkText(t, x, text, told(reading.Boundaries(l, text)))
}

// rows are all rows of so many classes at most, of 0 to classes - 1.
func rows(size, classes int) [][]int {
	all := [][]int{nil}
	for from := 0; size > 0; size-- {
		to := len(all)
		for _, ahead := range all[from:to] {
			for c := range classes {
				all = append(all, append(slices.Clone(ahead), c))
			}
		}
		from = to
	}
	return all
}

func someRow(random *rand.Rand, size, classes int) []int {
	l := make([]int, size)
	for i := range l {
		l[i] = random.Intn(classes)
	}
	return l
}

// someSide is a side of a rule that fits here and there.
func someSide(random *rand.Rand, classes int) api.Node {
	x := seq()
	for range random.Intn(4) {
		n := set(random.Intn(classes))
		switch random.Intn(6) {
		case 0:
			n = star(n)
		case 1:
			n = api.Node{Op: api.OpOpt, Parts: []api.Node{n}}
		case 2:
			n = api.Node{Op: api.OpAlt, Parts: []api.Node{n, seq(set(0), set(classes-1))}}
		case 3:
			n = star(seq(n, set(random.Intn(classes))))
		}
		x.Parts = append(x.Parts, n)
	}
	return x
}

func someRules(random *rand.Rand, most, classes int) []api.Rule {
	var l []api.Rule
	for range random.Intn(most + 1) {
		l = append(l, api.Rule{
			Left: someSide(random, classes), Right: someSide(random, classes),
			Break: random.Intn(2) == 0, Start: random.Intn(3) == 0,
		})
	}
	return l
}

// TestExample: of no rules all places of a text that is not empty are boundaries.
func TestExample(t *testing.T) {
	for classes := 1; classes <= 24; classes++ {
		x := compiled(t, classes)
		checkText(t, x, nil, ".")
		checkText(t, x, []int{}, ".")
		for size := 1; size < 40; size++ {
			text := make([]int, size)
			for i := range text {
				text[i] = i % classes
			}
			checkText(t, x, text, strings.Repeat("|", size+1))
		}
	}
}

// TestJ1Boundaries: texts whose boundaries are written out.
func TestJ1Boundaries(t *testing.T) {
	never := compiled(t, 2, api.Rule{})
	always := compiled(t, 2, api.Rule{Break: true}, api.Rule{})
	first := compiled(t, 3, api.Rule{Left: set(1), Right: set(2)}, api.Rule{Left: set(1), Break: true}, api.Rule{})
	start := compiled(t, 2, api.Rule{Left: seq(star(seq(set(1), set(1))), set(1)), Right: set(1), Start: true})
	far := compiled(t, 3, api.Rule{Left: seq(set(1), star(set(0))), Right: seq(star(set(0)), set(2))})
	order := compiled(t, 3, api.Rule{Left: seq(set(0), set(1)), Right: seq(set(1), set(2))})
	for i, y := range []struct {
		x    *tables.Tables
		text []int
		want string
	}{
		{never, nil, "."}, {never, []int{0}, "||"}, {never, []int{0, 1}, "|.|"}, {never, []int{0, 0, 1, 1, 0}, "|....|"},
		{always, nil, "."}, {always, []int{1}, "||"}, {always, []int{0, 1, 0}, "||||"},
		{first, []int{1, 2}, "|.|"}, {first, []int{1, 1}, "|||"}, {first, []int{2, 1}, "|.|"}, {first, []int{1, 2, 1, 1, 2, 0, 1}, "|..|...|"},
		{start, []int{1, 1, 1, 1, 1}, "|.|.||"}, {start, []int{0, 1, 1, 1}, "|||||"}, {start, []int{1, 1, 0, 1, 1}, "|.||||"},
		{far, []int{1, 0, 0, 2}, "|...|"}, {far, []int{1, 0, 0}, "||||"}, {far, []int{0, 1, 0, 2, 0}, "||..||"}, {far, []int{2, 0, 1}, "||||"}, {far, []int{1, 2, 2}, "|.||"},
		{order, []int{0, 1, 1, 2}, "||.||"}, {order, []int{2, 1, 1, 0}, "|||||"}, {order, []int{1, 0, 1, 2}, "|||||"}, {order, []int{0, 1, 2, 1}, "|||||"},
	} {
		if got := bounds(t, y.x, y.text); got != y.want {
			t.Errorf("%d: %v: %s, not %s", i, y.text, got, y.want)
			continue
		}
		checkText(t, y.x, y.text, y.want)
	}
}

// TestJ1Steps: places that are written out.
func TestJ1Steps(t *testing.T) {
	x := compiled(t, 2, api.Rule{Right: set(1)}) // a class 1 stays with what is ahead of it
	text := []int{0, 1, 1, 0, 0, 1}              // |..||.|
	for at, want := range [][2]int{{3, 0}, {3, 0}, {3, 0}, {4, 0}, {6, 3}, {6, 4}, {6, 4}} {
		checkSteps(t, x, text, at, want[0], want[1], api.OK)
	}
	checkSteps(t, x, nil, 0, 0, 0, api.OK)
	checkSteps(t, x, []int{1}, 0, 1, 0, api.OK)
	checkSteps(t, x, []int{1}, 1, 1, 0, api.OK)
}

func TestJ1ErrRange(t *testing.T) {
	x := compiled(t, 2, api.Rule{Right: set(1)})
	for _, text := range [][]int{nil, {}, {0}, {0, 1}, {1, 0, 0, 1, 1}} {
		n := len(text)
		for _, at := range []int{-1, -2, n + 1, n + 2, math.MinInt, math.MaxInt} {
			checkSteps(t, x, text, at, 0, 0, api.ErrRange)
		}
		for at := range n + 1 {
			if _, e := Next(x, text, at); e != api.OK {
				t.Errorf("%v: Next(%d): %v", text, at, e)
			}
			if _, e := Prev(x, text, at); e != api.OK {
				t.Errorf("%v: Prev(%d): %v", text, at, e)
			}
		}
	}
}

// checkArg asks for ErrArg of a text, wherever one is; it applies ahead of ErrRange.
func checkArg(t *testing.T, x *tables.Tables, text []int) {
	t.Helper()
	if l, e := Boundaries(x, text); l != nil || e != api.ErrArg {
		t.Errorf("Boundaries of %v: %v, %v", text, l, e)
	}
	for _, at := range []int{0, 1, len(text), len(text) + 1, -1, math.MinInt, math.MaxInt} {
		checkSteps(t, x, text, at, 0, 0, api.ErrArg)
	}
}

func TestJ1ErrArg(t *testing.T) {
	for classes := 1; classes <= 24; classes++ {
		x := compiled(t, classes, api.Rule{Left: set(0)})
		bounds(t, x, []int{0, classes - 1})
		for _, class := range []int{-1, classes, classes + 1, 24, 64, math.MinInt, math.MaxInt} {
			for _, text := range [][]int{{class}, {class, 0, 0}, {0, class, 0}, {0, 0, class}, {0, 0, 0, 0, 0, 0, class}, {class, class}} {
				checkArg(t, x, text)
			}
		}
	}
}

// TestJ1BothMachines: a class that either machine has not is none of t's.
func TestJ1BothMachines(t *testing.T) {
	two, three := compiled(t, 2), compiled(t, 3)
	for _, x := range []*tables.Tables{{Ahead: two.Ahead, Behind: three.Behind}, {Ahead: three.Ahead, Behind: two.Behind}} {
		checkText(t, x, []int{0, 1}, "|||")
		checkArg(t, x, []int{0, 2})
		checkArg(t, x, []int{2, 0})
	}
}

// TestJ1Machines: Boundaries hang on both machines, Breaks and Rules, as they are told.
func TestJ1Machines(t *testing.T) {
	machine := func(out ...uint64) *dfa.Machine { // its state is the class read last, and one
		m := &dfa.Machine{Classes: len(out) - 1, Out: out}
		for range out {
			var row []int
			for class := range m.Classes {
				row = append(row, 1+class)
			}
			m.Next = append(m.Next, row)
		}
		return m
	}
	x := &tables.Tables{Ahead: machine(7, 1, 2), Behind: machine(7, 3, 0), Breaks: 2, Rules: 2}
	checkText(t, x, []int{0, 0}, "|.|")
	checkText(t, x, []int{1, 0}, "|||")
	checkText(t, x, []int{0, 1, 0, 0, 1}, "|||.||")
	x.Breaks = 0
	checkText(t, x, []int{1, 0}, "|.|")
	x.Breaks, x.Rules = 2, 0
	checkText(t, x, []int{0, 0}, "|||")
}

// clusterRules and wordRules are rules in the manner of UAX #29.
const clusterRules = `CR - LF
[Control CR LF] /
/ [Control CR LF]
L - [L V LV LVT]
[LV V] - [V T]
[LVT T] - T
- [Extend ZWJ]
- SpacingMark
Prepend -
ExtPict Extend* ZWJ - ExtPict
^ (RI RI)* RI - RI
[~RI] (RI RI)* RI - RI
`

const wordRules = `CR - LF
[Newline CR LF] /
/ [Newline CR LF]
ZWJ - ExtPict
Space - Space
- [Extend Format ZWJ]
[ALetter Hebrew] [Extend Format ZWJ]* - [ALetter Hebrew]
[ALetter Hebrew] [Extend Format ZWJ]* - [MidLetter Mid Single] [Extend Format ZWJ]* [ALetter Hebrew]
[ALetter Hebrew] [Extend Format ZWJ]* [MidLetter Mid Single] [Extend Format ZWJ]* - [ALetter Hebrew]
Hebrew [Extend Format ZWJ]* - Single
Numeric [Extend Format ZWJ]* - Numeric
[ALetter Hebrew] [Extend Format ZWJ]* - Numeric
Numeric [Extend Format ZWJ]* - [ALetter Hebrew]
Numeric [Extend Format ZWJ]* [Mid Single] [Extend Format ZWJ]* - Numeric
Numeric [Extend Format ZWJ]* - [Mid Single] [Extend Format ZWJ]* Numeric
^ (RI [Extend Format ZWJ]* RI [Extend Format ZWJ]*)* RI [Extend Format ZWJ]* - RI
[~RI Extend Format ZWJ] [Extend Format ZWJ]* (RI [Extend Format ZWJ]* RI [Extend Format ZWJ]*)* RI [Extend Format ZWJ]* - RI
`

// TestFollowsWritten: rules that are written, of texts of pieces to which they matter.
func TestFollowsWritten(t *testing.T) {
	random := rand.New(rand.NewSource(10))
	for _, y := range []struct {
		text    string
		classes []string
		often   [][]int
	}{
		{clusterRules, []string{"Other", "CR", "LF", "Control", "Extend", "ZWJ", "RI", "Prepend", "SpacingMark", "L", "V", "T", "LV", "LVT", "ExtPict"},
			[][]int{{4}, {5}, {6}, {14}, {1, 2}, {9, 12}, {12, 10}, {13, 11}, {14, 4, 5, 14}}},
		{wordRules, []string{"Other", "CR", "LF", "Newline", "Extend", "Format", "ZWJ", "RI", "ExtPict", "Space", "ALetter", "Hebrew", "MidLetter", "Mid", "Single", "Numeric"},
			[][]int{{4}, {7}, {10}, {11}, {13}, {14}, {15}, {1, 2}, {6, 8}, {9, 9}, {11, 14}}},
	} {
		l, err := rules.Parse(y.text, y.classes)
		if err != nil {
			t.Fatal(err)
		}
		x := compiled(t, len(y.classes), l...)
		for range 300 {
			text := someRow(random, random.Intn(4), len(y.classes))
			for range random.Intn(25) {
				text = append(text, y.often[random.Intn(len(y.often))]...)
				text = append(text, someRow(random, max(0, random.Intn(5)-3), len(y.classes))...)
			}
			checkRead(t, x, l, text)
		}
	}
}

// TestFollowsAll: some rules, of all short texts, and of some longer ones.
func TestFollowsAll(t *testing.T) {
	random := rand.New(rand.NewSource(20))
	short := rows(4, 3)
	for range 200 {
		l := someRules(random, 5, 3)
		x := compiled(t, 3, l...)
		for _, text := range short {
			checkRead(t, x, l, text)
		}
		for range 5 {
			checkRead(t, x, l, someRow(random, 30, 3))
		}
	}
}

// TestIterator: who ranges may stop at each boundary, and range again.
func TestIterator(t *testing.T) {
	x := compiled(t, 2, api.Rule{Right: set(1)})
	all, e := boundaries(x, []int{0, 1, 0, 0})
	if e != api.OK {
		t.Fatal(e)
	}
	want := []int{0, 2, 3, 4}
	for stop := 1; stop <= len(want); stop++ {
		var l []int
		for p := range all {
			l = append(l, p)
			if len(l) == stop {
				break
			}
		}
		if !slices.Equal(l, want[:stop]) {
			t.Errorf("the first %d: %v", stop, l)
		}
	}
	if l := slices.Collect(all); !slices.Equal(l, want) {
		t.Errorf("ranged again: %v", l)
	}
}

// TestR1: text and tables stay as they were; answers are the caller's.
func TestR1(t *testing.T) {
	rule := api.Rule{Left: seq(set(0), star(set(1))), Right: set(1)}
	x, same := compiled(t, 2, rule), compiled(t, 2, rule)
	text := []int{0, 1, 1, 0, 1, 0}
	want := slices.Clone(text)
	l, _ := Boundaries(x, text)
	kept := told(l)
	Next(x, text, 2)
	Prev(x, text, 2)
	if !slices.Equal(text, want) || !reflect.DeepEqual(x, same) {
		t.Fatalf("%v, %v became %v, %v", want, same, text, x)
	}
	for i := range text {
		text[i] = 99
	}
	if told(l) != kept {
		t.Errorf("%s, not %s: the text is kept", told(l), kept)
	}
	for i := range l {
		l[i] = !l[i]
	}
	checkText(t, x, want, kept)
	checkText(t, x, want[:3:3], "|..|")
	if text := []int{0, 1, 99}; bounds(t, x, text[:2]) != "|.|" || text[2] != 99 {
		t.Errorf("what is behind the text: %v", text)
	}
}

// TestR2: tables that there are not, or that their owner wrote over, do not panic.
func TestR2(t *testing.T) {
	for _, x := range []*tables.Tables{nil, {}, {Rules: 3, Breaks: 1}, {Ahead: compiled(t, 2).Ahead}, {Behind: compiled(t, 2).Behind}, {Ahead: &dfa.Machine{}, Behind: &dfa.Machine{}}} {
		checkText(t, x, nil, ".")
		checkArg(t, x, []int{0})
		checkArg(t, x, []int{1, 0})
		checkSteps(t, x, nil, 1, 0, 0, api.ErrRange)
	}
	wide := &dfa.Machine{Classes: 9, Next: [][]int{{7, -7}, nil}, Out: []uint64{1}}
	for _, count := range []int{-1, 0, 1, 64, 1000, math.MaxInt} {
		x := &tables.Tables{Ahead: wide, Behind: wide, Rules: count}
		for _, text := range rows(3, 3) {
			bounds(t, x, text)
			for at := range len(text) + 1 {
				Next(x, text, at)
				Prev(x, text, at)
			}
		}
	}
}

// TestR3R4: what was asked ahead does not tell, nor does how often.
func TestR3R4(t *testing.T) {
	random := rand.New(rand.NewSource(30))
	type asked struct {
		x    *tables.Tables
		text []int
		want string
	}
	var all []asked
	for range 100 {
		x, text := compiled(t, 3, someRules(random, 5, 3)...), someRow(random, random.Intn(20), 3)
		all = append(all, asked{x, text, bounds(t, x, text)})
	}
	for i := len(all) - 1; i >= 0; i-- {
		checkArg(t, all[i].x, []int{3})
		checkText(t, all[i].x, all[i].text, all[i].want)
	}
}

// TestLarge: a long text, where each end counts for the other.
func TestLarge(t *testing.T) {
	x := compiled(t, 3, api.Rule{Left: seq(set(1), star(set(0))), Right: seq(star(set(0)), set(2))})
	text := make([]int, 200000)
	text[0], text[len(text)-1] = 1, 2
	want := "|" + strings.Repeat(".", len(text)-1) + "|"
	if bounds(t, x, text) != want {
		t.Error("a boundary within")
	}
	checkSteps(t, x, text, 100000, 200000, 0, api.OK)
	text[0] = 0
	if bounds(t, x, text) != strings.Repeat("|", len(text)+1) {
		t.Error("no boundary within")
	}
	checkSteps(t, x, text, 100000, 100001, 99999, api.OK)
}
