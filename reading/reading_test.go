package reading

import (
	"math"
	"math/rand"
	"regexp"
	"slices"
	"strings"
	"testing"

	"foolscap/api"
	"foolscap/rules"
)

// The nodes that tests are written with.
func none() api.Node                  { return api.Node{Op: api.OpEmpty} }
func set(classes ...int) api.Node     { return api.Node{Op: api.OpSet, Classes: classes} }
func seq(parts ...api.Node) api.Node  { return api.Node{Op: api.OpSeq, Parts: parts} }
func alt(parts ...api.Node) api.Node  { return api.Node{Op: api.OpAlt, Parts: parts} }
func star(parts ...api.Node) api.Node { return api.Node{Op: api.OpStar, Parts: parts} }
func opt(parts ...api.Node) api.Node  { return api.Node{Op: api.OpOpt, Parts: parts} }

// textOf is the text whose classes are written as digits.
func textOf(s string) []int {
	l := []int{}
	for _, c := range s {
		l = append(l, int(c-'0'))
	}
	return l
}

// shown is a row of answers, as digits.
func shown(l []bool) string {
	s := ""
	for _, is := range l {
		if is {
			s += "1"
		} else {
			s += "0"
		}
	}
	return s
}

// fromTo tells whether n fits from a to b, by the chapter's words.
func fromTo(n api.Node, text []int, a, b int) bool {
	switch n.Op {
	case api.OpEmpty:
		return a == b
	case api.OpSet:
		return b == a+1 && slices.Contains(n.Classes, text[a])
	case api.OpSeq:
		if len(n.Parts) == 0 {
			return a == b
		}
		for c := a; c <= b; c++ {
			if fromTo(n.Parts[0], text, a, c) && fromTo(seq(n.Parts[1:]...), text, c, b) {
				return true
			}
		}
	case api.OpAlt:
		return slices.ContainsFunc(n.Parts, func(part api.Node) bool { return fromTo(part, text, a, b) })
	case api.OpOpt:
		return len(n.Parts) == 1 && (a == b || fromTo(n.Parts[0], text, a, b))
	case api.OpStar:
		if len(n.Parts) != 1 {
			return false
		}
		// A c that is b itself adds nothing: the star would fit from a to b already.
		for c := a; c < b; c++ {
			if fromTo(n.Parts[0], text, c, b) && fromTo(n, text, a, c) {
				return true
			}
		}
		return a == b
	}
	return false
}

// fitsAt tells whether a rule fits at p, by the chapter's words.
func fitsAt(r api.Rule, text []int, p int) bool {
	left, right := false, false
	for a := 0; a <= p; a++ {
		left = left || (a == 0 || !r.Start) && fromTo(r.Left, text, a, p)
	}
	for b := p; b <= len(text); b++ {
		right = right || fromTo(r.Right, text, p, b)
	}
	return left && right
}

// holdAgainst holds all calls, of all places, against the chapter's words.
func holdAgainst(t *testing.T, l []api.Rule, text []int) {
	t.Helper()
	got := Boundaries(l, text)
	if len(got) != len(text)+1 {
		t.Fatalf("Boundaries(%v, %v) = %v: not one of each place", l, text, got)
	}
	for p := range len(text) + 1 {
		which := -1
		for i, r := range l {
			fits := fitsAt(r, text, p)
			if Fits(r, text, p) != fits {
				t.Fatalf("Fits(%v, %v, %d) = %v", r, text, p, !fits)
			}
			if fits && which < 0 {
				which = i
			}
		}
		if n := Which(l, text, p); n != which {
			t.Fatalf("Which(%v, %v, %d) = %d, not %d", l, text, p, n, which)
		}
		is := which < 0 || l[which].Break
		if p == 0 || p == len(text) {
			is = len(text) > 0
		}
		if got[p] != is {
			t.Fatalf("Boundaries(%v, %v) of %d = %v", l, text, p, got[p])
		}
	}
}

// texts are all texts of so many characters at most, of the classes 0 to classes - 1.
func texts(size, classes int) [][]int {
	all := [][]int{nil}
	for from := 0; size > 0; size-- {
		to := len(all)
		for _, ahead := range all[from:to] {
			for c := range classes {
				all = append(all, append(slices.Clone(ahead), c))
			}
		}
		from = to
	}
	return all
}

func TestExamples(t *testing.T) {
	const other, cr, lf = 0, 1, 2
	l := []api.Rule{{Left: set(cr), Right: set(lf)}, {Left: set(cr), Break: true}}
	for _, x := range []struct {
		text  []int
		want  string
		which []int
	}{
		{[]int{cr, lf}, "101", []int{-1, 0, -1}},
		{[]int{cr, cr}, "111", []int{-1, 1, 1}},
		{[]int{cr, lf, cr, lf}, "10101", []int{-1, 0, -1, 0, -1}},
		{[]int{lf, cr}, "111", []int{-1, -1, 1}},
		{[]int{other, cr, lf, other}, "11011", []int{-1, -1, 0, -1, -1}},
	} {
		if s := shown(Boundaries(l, x.text)); s != x.want {
			t.Errorf("Boundaries(%v) = %s, not %s", x.text, s, x.want)
		}
		for p, want := range x.which {
			if n := Which(l, x.text, p); n != want {
				t.Errorf("Which(%v, %d) = %d, not %d", x.text, p, n, want)
			}
		}
	}
}

// TestF1Expressions: of each expression the places to which it fits from the place 0, and
// from some place, and those from which it fits.
func TestF1Expressions(t *testing.T) {
	for _, x := range []struct {
		name              string
		n                 api.Node
		text              string
		start, left, from string
	}{
		{"empty", none(), "01", "100", "111", "111"},
		{"empty of no text", none(), "", "1", "1", "1"},
		{"a class", set(1), "0110", "00000", "00110", "01100"},
		{"a class at the beginning", set(1), "1101", "01000", "01101", "11010"},
		{"a class of no text", set(1), "", "0", "0", "0"},
		{"two classes", set(1, 2), "10212", "010000", "010111", "101110"},
		{"no classes", set(), "012", "0000", "0000", "0000"},
		{"a row", seq(set(1), set(2)), "12112", "001000", "001001", "100100"},
		{"a row longer than the text", seq(set(1), set(1), set(1)), "11", "000", "000", "000"},
		{"a row as long as the text", seq(set(1), set(1), set(1)), "111", "0001", "0001", "1000"},
		{"a row of no parts", seq(), "01", "100", "111", "111"},
		{"a row of one part", seq(set(1)), "11", "010", "011", "110"},
		{"a row with empty parts", seq(none(), set(1), none(), set(2), none()), "0120", "00000", "00010", "01000"},
		{"one of two", alt(set(1), seq(set(2), set(2))), "1022", "01000", "01001", "10100"},
		{"one of none", alt(), "01", "000", "000", "000"},
		{"one of one", alt(set(1)), "10", "010", "010", "100"},
		{"one of two that begin alike", alt(seq(set(1), set(2)), set(1)), "120", "0110", "0110", "1000"},
		{"any number", star(set(1)), "1101", "11100", "11111", "11111"},
		{"any number ahead of another", seq(star(set(1)), set(2)), "112012", "0001000", "0001001", "1110110"},
		{"any number of two", star(seq(set(1), set(1))), "11111", "101010", "111111", "111111"},
		{"an odd number", seq(star(seq(set(1), set(1))), set(1)), "11111", "010101", "011111", "111110"},
		{"any number of nothing", star(none()), "11", "100", "111", "111"},
		{"any number of what may be nothing", star(opt(set(1))), "110", "1110", "1111", "1111"},
		{"any number of any number", star(star(set(1))), "110", "1110", "1111", "1111"},
		{"any number of one of two", star(alt(set(1), seq(set(2), set(3)))), "1231220", "11011000", "11111111", "11111111"},
		{"one or none", opt(set(1)), "11", "110", "111", "111"},
		{"one or none behind another", seq(set(2), opt(set(1))), "211", "0110", "0110", "1000"},
		{"one or none between", seq(set(1), opt(set(2)), set(3)), "1313123", "00100000", "00101001", "10101000"},
		{"one or none of a row", opt(seq(set(1), set(2))), "12", "101", "111", "111"},
		{"back from what went on", seq(star(set(1)), set(1), set(2)), "1112", "00001", "00001", "11100"},
	} {
		text := textOf(x.text)
		for p := range len(text) + 1 {
			if got := Fits(api.Rule{Left: x.n, Start: true}, text, p); got != (x.start[p] == '1') {
				t.Errorf("%s: from 0 to %d of %q: %v", x.name, p, x.text, got)
			}
			if got := Fits(api.Rule{Left: x.n}, text, p); got != (x.left[p] == '1') {
				t.Errorf("%s: to %d of %q: %v", x.name, p, x.text, got)
			}
			for _, start := range []bool{false, true} {
				// Start asks for nothing of Right; a Left of any number of all lets each place be.
				r := api.Rule{Left: star(set(0, 1, 2, 3)), Right: x.n, Start: start}
				if got := Fits(r, text, p); got != (x.from[p] == '1') {
					t.Errorf("%s: from %d of %q: %v", x.name, p, x.text, got)
				}
			}
			if got := Fits(api.Rule{Right: x.n, Start: true}, text, p); got != (p == 0 && x.from[0] == '1') {
				t.Errorf("%s: with an empty Left that must start, at %d of %q: %v", x.name, p, x.text, got)
			}
		}
		for _, start := range []bool{false, true} {
			holdAgainst(t, []api.Rule{{Left: x.n, Right: x.n, Start: start}}, text)
		}
	}
}

// oddNowhere are nodes that fit nowhere.
var oddNowhere = []api.Node{
	{Op: -1}, {Op: 6}, {Op: math.MaxInt}, {Op: math.MinInt},
	{Op: -1, Classes: []int{1}}, {Op: 6, Parts: []api.Node{none()}}, {Op: 7, Classes: []int{1}, Parts: []api.Node{set(1), set(1)}},
	star(), star(set(1), set(1)), star(none(), none()), star(none(), none(), none()),
	opt(), opt(set(1), set(1)), opt(none(), none()),
	{Op: api.OpStar, Classes: []int{1}}, {Op: api.OpOpt, Classes: []int{1}},
	{Op: api.OpStar, Parts: []api.Node{}}, {Op: api.OpOpt, Parts: []api.Node{}},
	alt(), {Op: api.OpAlt, Classes: []int{1}}, {Op: api.OpAlt, Parts: []api.Node{}},
	set(), {Op: api.OpSet, Parts: []api.Node{none(), set(1)}},
}

func TestF1OddNodesFitNowhere(t *testing.T) {
	for _, odd := range oddNowhere {
		for _, x := range []struct {
			n    api.Node
			want string // of the text 11
		}{
			{odd, "000"},
			{seq(odd), "000"}, {seq(odd, set(1)), "000"}, {seq(set(1), odd), "000"}, {seq(odd, none()), "000"}, {seq(none(), odd), "000"},
			{alt(odd), "000"}, {alt(odd, odd), "000"}, {alt(odd, set(1)), "011"}, {alt(set(1), odd), "011"},
			{star(odd), "111"}, {opt(odd), "111"}, {seq(opt(odd), set(1)), "011"}, {seq(star(odd), set(1)), "011"},
			{opt(star(alt(odd, set(1)))), "111"}, {seq(alt(odd, set(1)), set(1)), "001"},
		} {
			text := []int{1, 1}
			for p := range 3 {
				if got := Fits(api.Rule{Left: x.n}, text, p); got != (x.want[p] == '1') {
					t.Errorf("Left %v at %d: %v", x.n, p, got)
				}
				if got := Fits(api.Rule{Right: x.n}, text, 2-p); got != (x.want[p] == '1') {
					t.Errorf("Right %v at %d: %v", x.n, 2-p, got)
				}
			}
			for _, text := range texts(3, 2) {
				holdAgainst(t, []api.Rule{{Left: x.n}, {Right: x.n, Break: true}, {Left: x.n, Start: true}}, text)
			}
		}
	}
}

// TestF1WhatAnOpDoesNotHave: parts and classes that an Op has no use for do not matter.
func TestF1WhatAnOpDoesNotHave(t *testing.T) {
	for _, x := range []struct{ odd, plain api.Node }{
		{api.Node{Op: api.OpEmpty, Classes: []int{1}}, none()},
		{api.Node{Op: api.OpEmpty, Parts: []api.Node{set(1)}}, none()},
		{api.Node{Op: api.OpEmpty, Parts: []api.Node{alt()}}, none()},
		{api.Node{Op: api.OpEmpty, Parts: endless(api.OpSeq, 2).Parts}, none()},
		{api.Node{Op: api.OpSet, Classes: []int{1}, Parts: []api.Node{alt()}}, set(1)},
		{api.Node{Op: api.OpSet, Classes: []int{1}, Parts: []api.Node{none()}}, set(1)},
		{api.Node{Op: api.OpSeq, Classes: []int{0}, Parts: []api.Node{set(1), set(1)}}, seq(set(1), set(1))},
		{api.Node{Op: api.OpSeq, Classes: []int{0}}, none()},
		{api.Node{Op: api.OpAlt, Classes: []int{0}, Parts: []api.Node{set(1), seq(set(0), set(1))}}, alt(set(1), seq(set(0), set(1)))},
		{api.Node{Op: api.OpStar, Classes: []int{0}, Parts: []api.Node{set(1)}}, star(set(1))},
		{api.Node{Op: api.OpOpt, Classes: []int{0}, Parts: []api.Node{set(1)}}, opt(set(1))},
		{set(1, 1), set(1)},
		{set(2, 1), set(1, 2)},
		{set(-1, 1, math.MaxInt, math.MinInt), set(1)},
	} {
		for _, text := range texts(4, 3) {
			for _, start := range []bool{false, true} {
				odd := []api.Rule{{Left: x.odd, Right: set(1), Start: start}, {Left: set(0), Right: x.odd, Start: start}}
				plain := []api.Rule{{Left: x.plain, Right: set(1), Start: start}, {Left: set(0), Right: x.plain, Start: start}}
				if !slices.Equal(Boundaries(odd, text), Boundaries(plain, text)) {
					t.Fatalf("%v is not as %v of %v", x.odd, x.plain, text)
				}
				holdAgainst(t, odd, text)
			}
		}
	}
}

// TestF1ClassesOfAnyNumber: a class is any number, in a text and in a set.
func TestF1ClassesOfAnyNumber(t *testing.T) {
	for _, c := range []int{-1, 0, 23, 24, 64, 1 << 40, math.MinInt, math.MaxInt} {
		r := api.Rule{Left: set(c), Right: set(c)}
		if !Fits(r, []int{c, c}, 1) || Fits(r, []int{c, 7}, 1) || Fits(r, []int{7, c}, 1) {
			t.Errorf("of the class %d Fits tells otherwise", c)
		}
		if s := shown(Boundaries([]api.Rule{r}, []int{7, c, c, 7})); s != "11011" {
			t.Errorf("of the class %d Boundaries = %s", c, s)
		}
	}
}

func TestF1PlacesThatThereAreNot(t *testing.T) {
	always := api.Rule{}
	for _, text := range [][]int{nil, {}, {1}, {1, 2, 3}} {
		for _, p := range []int{-1, -2, len(text) + 1, len(text) + 2, math.MinInt, math.MaxInt} {
			if Fits(always, text, p) || Fits(api.Rule{Start: true}, text, p) || Fits(api.Rule{Left: star(set(1)), Right: star(set(1))}, text, p) {
				t.Errorf("a rule fits at %d of %v", p, text)
			}
			if n := Which([]api.Rule{always, always}, text, p); n != -1 {
				t.Errorf("Which at %d of %v = %d", p, text, n)
			}
		}
		for p := range len(text) + 1 {
			if !Fits(always, text, p) || Fits(api.Rule{Start: true}, text, p) != (p == 0) || Which([]api.Rule{always}, text, p) != 0 {
				t.Errorf("the rule of nothing does not fit at %d of %v", p, text)
			}
		}
	}
}

func TestF1PlacesWithinALongerList(t *testing.T) {
	// What lies behind a text in the same memory is none of it.
	long := []int{1, 2, 3, 4}
	r := api.Rule{Left: set(1), Right: seq(set(2), set(3))}
	if Fits(r, long[:2], 1) || !Fits(r, long[:3], 1) || Fits(r, long[:2], 3) {
		t.Error("Fits reads on behind the text")
	}
}

func TestF1Which(t *testing.T) {
	l := []api.Rule{
		{Left: set(1), Right: set(2)},
		{Left: seq(set(0), set(1)), Break: true},
		{Left: set(1), Start: true},
		{Right: set(3), Break: true},
		{Left: set(1), Break: true},
		{Right: set(3)},
	}
	for _, x := range []struct {
		text string
		p    int
		want int
	}{
		{"12", 1, 0}, {"12", 0, -1}, {"12", 2, -1}, {"012", 2, 0}, {"011", 2, 1}, {"01", 2, 1}, {"11", 1, 2}, {"1", 1, 2}, {"13", 1, 2},
		{"113", 2, 3}, {"3", 0, 3}, {"03", 1, 3}, {"111", 2, 4}, {"111", 3, 4}, {"000", 1, -1}, {"", 0, -1},
	} {
		if n := Which(l, textOf(x.text), x.p); n != x.want {
			t.Errorf("Which at %d of %q = %d, not %d", x.p, x.text, n, x.want)
		}
		holdAgainst(t, l, textOf(x.text))
	}
	for _, l := range [][]api.Rule{nil, {}} {
		for p := range 3 {
			if n := Which(l, []int{1, 2}, p); n != -1 {
				t.Errorf("Which of no rules = %d", n)
			}
		}
	}
}

func TestF1Boundaries(t *testing.T) {
	never, always := api.Rule{}, api.Rule{Break: true}
	for _, x := range []struct {
		name string
		l    []api.Rule
		text string
		want string
	}{
		{"no rules", nil, "0121", "11111"},
		{"no rules, no text", nil, "", "0"},
		{"no rules, one character", nil, "0", "11"},
		{"no boundary anywhere", []api.Rule{never}, "0121", "10001"},
		{"no boundary anywhere, one character", []api.Rule{never}, "1", "11"},
		{"no boundary anywhere, two characters", []api.Rule{never}, "11", "101"},
		{"no boundary anywhere, no text", []api.Rule{never}, "", "0"},
		{"boundaries everywhere", []api.Rule{always}, "0121", "11111"},
		{"boundaries everywhere, no text", []api.Rule{always}, "", "0"},
		{"the beginning that must start", []api.Rule{{Start: true}}, "012", "1111"},
		{"the first rule says no", []api.Rule{never, always}, "012", "1001"},
		{"the first rule says yes", []api.Rule{always, never}, "012", "1111"},
		{"a rule that fits seldom, ahead", []api.Rule{{Left: set(1), Break: true}, never}, "0120", "10101"},
		{"a rule that fits seldom, behind", []api.Rule{never, {Left: set(1), Break: true}}, "0120", "10001"},
		{"pairs from the start", []api.Rule{{Left: seq(star(seq(set(1), set(1))), set(1)), Right: set(1), Start: true}}, "11111", "101011"},
		{"pairs not from the start", []api.Rule{{Left: seq(star(seq(set(1), set(1))), set(1)), Right: set(1), Start: true}}, "01111", "111111"},
		{"pairs behind another", []api.Rule{{Left: seq(set(0), star(seq(set(1), set(1))), set(1)), Right: set(1)}}, "011110111", "1101011011"},
		{"what comes far behind", []api.Rule{{Left: set(1), Right: seq(star(set(2)), set(1))}}, "12212", "101111"},
		{"the text's end is no character", []api.Rule{{Left: set(1), Right: seq(set(2), set(2))}}, "122012", "1011111"},
	} {
		text := textOf(x.text)
		if s := shown(Boundaries(x.l, text)); s != x.want {
			t.Errorf("%s: Boundaries of %q = %s, not %s", x.name, x.text, s, x.want)
		}
		holdAgainst(t, x.l, text)
	}
	if l := Boundaries(nil, nil); len(l) != 1 || l[0] {
		t.Errorf("Boundaries of nil = %v", l)
	}
}

// TestF1Clusters: rules in the manner of UAX #29, as they are written.
func TestF1Clusters(t *testing.T) {
	l, err := rules.Parse(`
		CR - LF
		[CR LF Control] /
		/ [CR LF Control]
		- [Extend ZWJ]
		Prepend -
		Pict Extend* ZWJ - Pict
		^ (RI RI)* RI - RI
		[~RI] (RI RI)* RI - RI
		. / .
	`, []string{"Other", "CR", "LF", "Control", "Extend", "ZWJ", "Prepend", "Pict", "RI"})
	if err != nil {
		t.Fatal(err)
	}
	for _, x := range []struct{ text, want string }{
		{"00", "111"}, {"12", "101"}, {"21", "111"}, {"14", "111"}, {"04", "101"}, {"0445", "10001"}, {"60", "101"}, {"63", "111"}, {"61", "111"},
		{"7457", "10001"}, {"757", "1001"}, {"75757", "100001"}, {"77", "111"}, {"747", "1011"}, {"057", "1011"}, {"7547", "10011"},
		{"88", "101"}, {"888", "1011"}, {"8888", "10101"}, {"0888", "11011"}, {"08888", "110101"}, {"8848", "10011"}, {"88888", "101011"},
	} {
		if s := shown(Boundaries(l, textOf(x.text))); s != x.want {
			t.Errorf("Boundaries of %q = %s, not %s", x.text, s, x.want)
		}
		holdAgainst(t, l, textOf(x.text))
	}
}

// someNode is an expression of classes below 3; a right one, unless odd.
func someNode(random *rand.Rand, deep int, odd bool) api.Node {
	if odd && random.Intn(20) == 0 {
		return oddNowhere[random.Intn(len(oddNowhere))]
	}
	op, count := random.Intn(6), 1
	if deep <= 1 {
		op = min(random.Intn(4), 1) // a set, more often than nothing
	}
	switch op {
	case api.OpEmpty:
		return none()
	case api.OpSet:
		var l []int
		for c := range 3 {
			if random.Intn(2) == 0 {
				l = append(l, c)
			}
		}
		return set(l...)
	case api.OpSeq, api.OpAlt:
		count = 2 + random.Intn(2)
		if odd {
			count = random.Intn(4)
		}
	}
	n := api.Node{Op: op}
	for range count {
		n.Parts = append(n.Parts, someNode(random, deep-1, odd))
	}
	return n
}

func someRules(random *rand.Rand, most int, odd bool) []api.Rule {
	var l []api.Rule
	for range random.Intn(most + 1) {
		l = append(l, api.Rule{
			Left:  someNode(random, 1+random.Intn(4), odd),
			Right: someNode(random, 1+random.Intn(4), odd),
			Break: random.Intn(2) == 0,
			Start: random.Intn(3) == 0,
		})
	}
	return l
}

func someText(random *rand.Rand, most int) []int {
	var l []int
	for range random.Intn(most + 1) {
		l = append(l, random.Intn(3))
	}
	return l
}

// TestF1Anything holds expressions of all shapes against the chapter's words.
func TestF1Anything(t *testing.T) {
	random := rand.New(rand.NewSource(6))
	for range 30000 {
		holdAgainst(t, someRules(random, 3, true), someText(random, 6))
	}
}

// TestF1AllTexts holds expressions against the chapter's words, of all short texts.
func TestF1AllTexts(t *testing.T) {
	random := rand.New(rand.NewSource(16))
	all := texts(4, 3)
	for range 200 {
		l := someRules(random, 2, true)
		for _, text := range all {
			holdAgainst(t, l, text)
		}
	}
}

// pattern is what an expression is to package regexp, of texts of the letters a, b, c.
func pattern(n api.Node) string {
	var l []string
	for _, part := range n.Parts {
		l = append(l, "(?:"+pattern(part)+")")
	}
	switch n.Op {
	case api.OpSet:
		if len(n.Classes) == 0 {
			return "[^abc]"
		}
		s := ""
		for _, c := range n.Classes {
			s += string(rune('a' + c))
		}
		return "[" + s + "]"
	case api.OpSeq:
		return strings.Join(l, "")
	case api.OpAlt:
		return strings.Join(l, "|")
	case api.OpStar:
		return l[0] + "*"
	case api.OpOpt:
		return l[0] + "?"
	}
	return ""
}

// TestF1AsPatterns: of longer texts right expressions fit where patterns of package regexp do.
func TestF1AsPatterns(t *testing.T) {
	random := rand.New(rand.NewSource(26))
	for range 3000 {
		for _, r := range someRules(random, 2, false) {
			ahead := "(?:" + pattern(r.Left) + ")$"
			if r.Start {
				ahead = "^" + ahead
			}
			left, right := regexp.MustCompile(ahead), regexp.MustCompile("^(?:"+pattern(r.Right)+")")
			text := someText(random, 40)
			s := ""
			for _, c := range text {
				s += string(rune('a' + c))
			}
			fits := ruleFits(r, text)
			for p := range len(text) + 1 {
				want := left.MatchString(s[:p]) && right.MatchString(s[p:])
				if fits[p] != want || Fits(r, text, p) != want {
					t.Fatalf("Fits(%v, %v, %d) = %v", r, text, p, !want)
				}
			}
		}
	}
}

// TestFollowsOnlyTheFirstRuleThatFits: a rule behind one that fits changes nothing there.
func TestFollowsOnlyTheFirstRuleThatFits(t *testing.T) {
	random := rand.New(rand.NewSource(36))
	fitted := 0
	for range 5000 {
		text := someText(random, 8)
		l := someRules(random, 4, true)
		more := append(slices.Clone(l), someRules(random, 3, true)...)
		was, is := Boundaries(l, text), Boundaries(more, text)
		for p := range len(text) + 1 {
			which := Which(l, text, p)
			if which < 0 {
				if n := Which(more, text, p); n >= 0 && n < len(l) {
					t.Fatalf("Which(%v, %v, %d) = %d, that did not fit", more, text, p, n)
				}
				continue
			}
			fitted++
			if n := Which(more, text, p); n != which {
				t.Fatalf("Which(%v, %v, %d) = %d, not %d", more, text, p, n, which)
			}
			if was[p] != is[p] {
				t.Fatalf("Boundaries(%v, %v) of %d changed with rules behind %d", more, text, p, which)
			}
			if less := l[:which+1]; Which(less, text, p) != which || Boundaries(less, text)[p] != was[p] {
				t.Fatalf("without the rules behind %d of %v %d of %v is otherwise", which, l, p, text)
			}
		}
	}
	if fitted < 1000 {
		t.Errorf("only %d places had a rule", fitted)
	}
}

// TestFollowsAheadCounts: a rule ahead of one that fits, which fits itself, is the one.
func TestFollowsAheadCounts(t *testing.T) {
	text := []int{1, 2, 1}
	behind := api.Rule{Left: set(1), Break: true}
	for _, ahead := range []api.Rule{{Left: set(1)}, {Right: set(2)}, {Left: set(1), Right: set(2), Start: true}, {}} {
		if n := Which([]api.Rule{ahead, behind}, text, 1); n != 0 {
			t.Errorf("%v ahead: Which = %d", ahead, n)
		}
		if s := shown(Boundaries([]api.Rule{ahead, behind}, text)); s[1] != '0' {
			t.Errorf("%v ahead: Boundaries = %s", ahead, s)
		}
		if s := shown(Boundaries([]api.Rule{behind, ahead}, text)); s[1] != '1' {
			t.Errorf("%v behind: Boundaries = %s", ahead, s)
		}
	}
}

// nest is an expression with so many parts in one another, that fits a 1 there, or more.
func nest(op, parts int) api.Node {
	n := set(1)
	for range parts {
		l := []api.Node{n}
		if op == api.OpSeq || op == api.OpAlt {
			l = []api.Node{opt(set(2)), n, star(set(0))}
		}
		n = api.Node{Op: op, Parts: l}
	}
	return n
}

// TestDeepExpressions: expressions as deep as the document bounds them are read, and fit as
// those of the same shape that are 8 parts deep, which are held against the chapter's words.
func TestDeepExpressions(t *testing.T) {
	text := []int{2, 1, 0, 1, 1}
	for _, op := range []int{api.OpSeq, api.OpAlt, api.OpStar, api.OpOpt} {
		shallow := rulesOf(nest(op, 8))
		for i := range shallow {
			holdAgainst(t, shallow[i:i+1], text)
		}
		for _, parts := range []int{19, 20, 32, 1000, 1<<16 - 1, 1 << 16} {
			for i, r := range rulesOf(nest(op, parts)) {
				if got, want := Boundaries([]api.Rule{r}, text), Boundaries(shallow[i:i+1], text); !slices.Equal(got, want) {
					t.Errorf("%d nested parts of Op %d: %s, not %s", parts, op, shown(got), shown(want))
				}
			}
		}
	}
	if n := nest(api.OpStar, 1<<16-1); !Fits(api.Rule{Left: n, Right: n, Start: true}, []int{1, 1, 2}, 2) {
		t.Error("a deep star does not fit")
	}
}

// rulesOf are rules whose Left, or Right, is n.
func rulesOf(n api.Node) []api.Rule {
	return []api.Rule{{Left: n}, {Left: n, Start: true}, {Right: n}}
}

// endless is an expression that is a part of itself.
func endless(op, parts int) api.Node {
	l := make([]api.Node, parts)
	for i := range l {
		l[i] = api.Node{Op: op, Parts: l}
	}
	return l[0]
}

// TestEndlessExpressions: whatever is handed in, calls end (R2); other rules are as they are.
func TestEndlessExpressions(t *testing.T) {
	last := make([]api.Node, 3)
	last[0], last[1], last[2] = set(1), star(set(1)), seq(last...)
	l := []api.Node{endless(api.OpSeq, 1), endless(api.OpSeq, 2), endless(api.OpAlt, 1), endless(api.OpAlt, 3), endless(api.OpStar, 1), endless(api.OpOpt, 1), last[2]}
	text := []int{1, 2, 1}
	for _, n := range l {
		for _, r := range []api.Rule{{Left: n}, {Right: n, Start: true}, {Left: seq(set(1), n), Right: star(n)}} {
			if Fits(r, text, 0) {
				t.Errorf("an endless expression of Op %d fits", n.Op)
			}
			if s := shown(Boundaries([]api.Rule{r, {Left: set(1)}}, text)); s != "1011" {
				t.Errorf("with an endless expression of Op %d Boundaries = %s", n.Op, s)
			}
		}
	}
	for _, n := range []api.Node{endless(api.OpStar, 2), endless(api.OpOpt, 3), endless(9, 2)} {
		if Fits(api.Rule{Left: n}, text, 1) || Fits(api.Rule{Right: n}, text, 1) {
			t.Errorf("Op %d with parts that it may not have fits", n.Op)
		}
	}
}

// TestManyWaysToFit: what fits in very many ways is read in good time.
func TestManyWaysToFit(t *testing.T) {
	n := set(1)
	for range 8 {
		n = star(alt(seq(star(n), opt(set(1))), opt(n)))
	}
	text := slices.Repeat([]int{1}, 300)
	r := api.Rule{Left: seq(n, set(2)), Right: seq(n, set(2))}
	for p := range 5 {
		if Fits(r, text, p*75) {
			t.Error("what is not there fits")
		}
	}
	if !slices.Equal(Boundaries([]api.Rule{r, {}}, text), Boundaries([]api.Rule{{}}, text)) {
		t.Error("a rule that fits nowhere counts")
	}
	options := slices.Concat(slices.Repeat([]api.Node{opt(set(1))}, 200), slices.Repeat([]api.Node{set(1)}, 200))
	for _, size := range []int{199, 200, 300, 400, 401} {
		r := api.Rule{Left: seq(options...), Start: true}
		if got := Fits(r, slices.Repeat([]int{1}, size), size); got != (size >= 200 && size <= 400) {
			t.Errorf("two hundred and two hundred more or less, of %d: %v", size, got)
		}
	}
}

func TestLongTexts(t *testing.T) {
	const size = 300000
	text := make([]int, size)
	for i := range text {
		text[i] = i % 3
	}
	l := []api.Rule{
		{Left: seq(star(seq(set(0), set(1), set(2))), set(0)), Right: set(1), Start: true},
		{Left: seq(star(set(0, 1, 2)), set(1)), Right: seq(star(set(0, 1, 2)), set(2))},
	}
	got := Boundaries(l, text)
	if len(got) != size+1 {
		t.Fatal(len(got))
	}
	for p, is := range got {
		if is != (p%3 == 0) {
			t.Fatalf("%d of %d: %v", p, size, is)
		}
	}
	if Which(l, text, size-1) != 1 || Which(l, text, size-2) != 0 || Which(l, text, size) != -1 {
		t.Error("Which of a long text")
	}
}

// clone is an expression in memory of its own.
func clone(n api.Node) api.Node {
	n.Classes = slices.Clone(n.Classes)
	n.Parts = slices.Clone(n.Parts)
	for i := range n.Parts {
		n.Parts[i] = clone(n.Parts[i])
	}
	return n
}

func same(a, b api.Node) bool {
	return a.Op == b.Op && slices.Equal(a.Classes, b.Classes) && slices.EqualFunc(a.Parts, b.Parts, same)
}

func sameRule(a, b api.Rule) bool {
	return same(a.Left, b.Left) && same(a.Right, b.Right) && a.Break == b.Break && a.Start == b.Start
}

// TestNothingIsKept: what is handed in stays, and may be written over, and so may what is answered (R1).
func TestNothingIsKept(t *testing.T) {
	random := rand.New(rand.NewSource(46))
	for range 500 {
		l, text := someRules(random, 4, true), someText(random, 8)
		var was []api.Rule
		for _, r := range l {
			r.Left, r.Right = clone(r.Left), clone(r.Right)
			was = append(was, r)
		}
		before := slices.Clone(text)
		first := Boundaries(l, text)
		kept := slices.Clone(first)
		for p := range first {
			Which(l, text, p)
			first[p] = !first[p]
		}
		if !slices.Equal(text, before) || !slices.EqualFunc(l, was, sameRule) {
			t.Fatal("what was handed in changed")
		}
		if !slices.Equal(Boundaries(l, text), kept) {
			t.Fatal("Boundaries changed with what it has answered")
		}
		for i := range text {
			text[i] = 9
		}
		if !slices.Equal(Boundaries(was, before), kept) {
			t.Fatal("Boundaries changed with what it was handed")
		}
	}
}
