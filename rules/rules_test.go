package rules

import (
	"errors"
	"fmt"
	"math"
	"math/rand"
	"regexp"
	"slices"
	"strings"
	"testing"

	"foolscap/api"
	"foolscap/props"
)

// names are the classes of most tests.
var names = []string{"Other", "CR", "LF", "RI"}

// The nodes that tests are written with.
func none() api.Node                  { return api.Node{Op: api.OpEmpty} }
func set(places ...int) api.Node      { return api.Node{Op: api.OpSet, Classes: places} }
func seq(parts ...api.Node) api.Node  { return api.Node{Op: api.OpSeq, Parts: parts} }
func alt(parts ...api.Node) api.Node  { return api.Node{Op: api.OpAlt, Parts: parts} }
func star(parts ...api.Node) api.Node { return api.Node{Op: api.OpStar, Parts: parts} }
func opt(parts ...api.Node) api.Node  { return api.Node{Op: api.OpOpt, Parts: parts} }

// same tells whether two expressions are, a list that is nil being as good as an empty one.
func same(a, b api.Node) bool {
	return a.Op == b.Op && slices.Equal(a.Classes, b.Classes) && slices.EqualFunc(a.Parts, b.Parts, same)
}

func sameRule(a, b api.Rule) bool {
	return same(a.Left, b.Left) && same(a.Right, b.Right) && a.Break == b.Break && a.Start == b.Start
}

// deepOf is how deep an expression is.
func deepOf(n api.Node) int {
	deep := 0
	for _, part := range n.Parts {
		deep = max(deep, deepOf(part))
	}
	return deep + 1
}

// nest is an expression of that Op, so deep.
func nest(op, deep int) api.Node {
	n := set(1)
	for range deep - 1 {
		parts := []api.Node{n}
		if op == api.OpSeq || op == api.OpAlt {
			parts = []api.Node{set(0), n, none()}
		}
		n = api.Node{Op: op, Parts: parts}
	}
	return n
}

// rightNodes are expressions that are right for four classes, with their texts, and their
// texts as a part of OpSeq.
var rightNodes = []struct {
	n          api.Node
	text, part string
}{
	{none(), "()", "()"},
	{api.Node{Classes: []int{}, Parts: []api.Node{}}, "()", "()"},
	{set(), "[]", "[]"},
	{api.Node{Op: api.OpSet, Classes: []int{}, Parts: []api.Node{}}, "[]", "[]"},
	{set(0), "Other", "Other"},
	{set(3), "RI", "RI"},
	{set(1, 2), "[CR LF]", "[CR LF]"},
	{set(0, 1, 3), "[Other CR RI]", "[Other CR RI]"},
	{set(0, 1, 2, 3), ".", "."},
	{seq(set(1), set(2)), "CR LF", "(CR LF)"},
	{seq(set(1), none(), set(2, 3), set(0, 1, 2, 3), set()), "CR () [LF RI] . []", "(CR () [LF RI] . [])"},
	{seq(seq(set(1), set(2)), set(3)), "(CR LF) RI", "((CR LF) RI)"},
	{seq(set(3), seq(set(1), set(2))), "RI (CR LF)", "(RI (CR LF))"},
	{seq(alt(set(1), set(2)), set(3)), "(CR | LF) RI", "((CR | LF) RI)"},
	{seq(star(set(1)), opt(set(2))), "CR* LF?", "(CR* LF?)"},
	{alt(set(1), set(2)), "CR | LF", "(CR | LF)"},
	{alt(set(1), none(), set(3)), "CR | () | RI", "(CR | () | RI)"},
	{alt(alt(set(1), set(2)), set(3)), "(CR | LF) | RI", "((CR | LF) | RI)"},
	{alt(set(1), alt(set(2), set(3))), "CR | (LF | RI)", "(CR | (LF | RI))"},
	{alt(seq(set(1), set(2)), seq(set(3), set(0))), "CR LF | RI Other", "(CR LF | RI Other)"},
	{alt(seq(alt(set(1), set(2)), set(3)), star(set(0))), "(CR | LF) RI | Other*", "((CR | LF) RI | Other*)"},
	{star(none()), "()*", "()*"},
	{star(set(1)), "CR*", "CR*"},
	{star(set()), "[]*", "[]*"},
	{star(set(1, 2)), "[CR LF]*", "[CR LF]*"},
	{star(set(0, 1, 2, 3)), ".*", ".*"},
	{star(seq(set(1), set(2))), "(CR LF)*", "(CR LF)*"},
	{star(alt(set(1), set(2))), "(CR | LF)*", "(CR | LF)*"},
	{star(star(set(1))), "CR**", "CR**"},
	{star(opt(set(1))), "CR?*", "CR?*"},
	{opt(none()), "()?", "()?"},
	{opt(set(1)), "CR?", "CR?"},
	{opt(seq(set(1), set(2))), "(CR LF)?", "(CR LF)?"},
	{opt(alt(set(1), set(2))), "(CR | LF)?", "(CR | LF)?"},
	{opt(opt(set(1))), "CR??", "CR??"},
	{opt(star(set(1))), "CR*?", "CR*?"},
	{opt(star(seq(set(1), opt(alt(set(2), set(3)))))), "(CR (LF | RI)?)*?", "(CR (LF | RI)?)*?"},
}

// wrongNodes are expressions that are not right for four classes.
var wrongNodes = []api.Node{
	{Op: -1}, {Op: 6}, {Op: math.MaxInt}, {Op: math.MinInt},
	{Op: -1, Classes: []int{1}}, {Op: 6, Parts: []api.Node{set(1)}}, {Op: 7, Parts: []api.Node{set(1), set(2)}},
	{Op: api.OpEmpty, Classes: []int{1}},
	{Op: api.OpEmpty, Parts: []api.Node{none()}},
	{Op: api.OpEmpty, Parts: []api.Node{set(1), set(2)}},
	{Op: api.OpSet, Classes: []int{1}, Parts: []api.Node{none()}},
	{Op: api.OpSet, Parts: []api.Node{set(1), set(2)}},
	set(4), set(-1), set(0, 4), set(-1, 0), set(1, 1), set(2, 1), set(0, 2, 1), set(0, 1, 1, 2), set(0, 1, 2, 3, 4), set(0, 1, 2, 3, 3),
	set(math.MaxInt), set(math.MinInt), set(math.MinInt, math.MaxInt),
	seq(), seq(set(1)), alt(), alt(set(1)), star(), star(set(1), set(2)), opt(), opt(set(1), set(2)), opt(set(1), set(2), set(3)),
	{Op: api.OpSeq, Classes: []int{1}, Parts: []api.Node{set(1), set(2)}},
	{Op: api.OpAlt, Classes: []int{1}, Parts: []api.Node{set(1), set(2)}},
	{Op: api.OpStar, Classes: []int{1}, Parts: []api.Node{set(1)}},
	{Op: api.OpOpt, Classes: []int{1}, Parts: []api.Node{set(1)}},
	seq(set(1), set(4)), seq(set(4), set(1)), seq(set(1), set(2), set(2, 1)), alt(set(1), seq(set(1))), alt(star(), set(1)),
	star(set(4)), opt(set(-1)), star(opt(star(seq(set(1), alt(set(2), opt()))))),
}

// endless is an expression that is a part of itself.
func endless(op, parts int) api.Node {
	l := make([]api.Node, parts)
	for i := range l {
		l[i] = api.Node{Op: op, Parts: l}
	}
	return l[0]
}

func TestE1Right(t *testing.T) {
	for _, x := range rightNodes {
		for _, r := range []api.Rule{{Left: x.n}, {Right: x.n}, {Left: x.n, Right: x.n, Break: true, Start: true}, {Left: seq(none(), x.n)}, {Right: star(x.n)}} {
			if !Right(r, 4) {
				t.Errorf("%v is not right", r)
			}
		}
	}
	if !Right(api.Rule{}, 0) || !Right(api.Rule{Break: true, Start: true}, 0) {
		t.Error("a rule of nothing is not right")
	}
}

func TestE1RightOfWrong(t *testing.T) {
	wrong := slices.Clone(wrongNodes)
	for _, op := range []int{api.OpEmpty, api.OpSet, api.OpSeq, api.OpAlt, api.OpStar, api.OpOpt} {
		for parts := 1; parts < 4; parts++ {
			wrong = append(wrong, endless(op, parts))
		}
	}
	for _, n := range wrong {
		for i, r := range []api.Rule{{Left: n}, {Right: n}, {Left: n, Right: set(1)}, {Left: set(1), Right: n, Break: true}, {Left: n, Right: n, Start: true}, {Left: seq(none(), n)}, {Right: star(n)}} {
			if Right(r, 4) {
				t.Errorf("a rule of Op %d is right, %d", n.Op, i)
			}
			if s, e := Format(r, names); s != "" || e != api.ErrArg {
				t.Errorf("Format of Op %d = %q, %v, not ErrArg, %d", n.Op, s, e, i)
			}
		}
	}
}

func TestE1RightOfSoManyClasses(t *testing.T) {
	for _, x := range []struct {
		n       api.Node
		classes int
		right   bool
	}{
		{set(), 0, true}, {set(), -1, true}, {set(), math.MinInt, true}, {none(), -5, true},
		{set(0), 0, false}, {set(0), -1, false}, {set(0), 1, true}, {set(1), 1, false}, {set(-1), -1, false}, {set(-2), -1, false},
		{set(0, 23), 24, true}, {set(0, 24), 24, false}, {set(0, 24), 25, true},
		{set(math.MaxInt - 1), math.MaxInt, true}, {set(math.MaxInt), math.MaxInt, false},
	} {
		if got := Right(api.Rule{Left: x.n}, x.classes); got != x.right {
			t.Errorf("Right of %v for %d classes = %v", x.n, x.classes, got)
		}
		if got := Right(api.Rule{Right: seq(set(), x.n)}, x.classes); got != x.right {
			t.Errorf("Right of %v in a sequence, for %d classes = %v", x.n, x.classes, got)
		}
	}
}

func TestE1Deep(t *testing.T) {
	for _, op := range []int{api.OpSeq, api.OpAlt, api.OpStar, api.OpOpt} {
		for _, deep := range []int{1, 2, 19, 20, 21, 22, 1000, 1 << 16} {
			n, right := nest(op, deep), deep <= 20
			for _, r := range []api.Rule{{Left: n}, {Right: n}, {Left: nest(op, 20), Right: n}, {Left: n, Right: nest(op, 20)}} {
				s, e := Format(r, names)
				if Right(r, 4) != right || (e == api.OK) != right || (s != "") != right {
					t.Errorf("Op %d, %d deep: right %v, %.40q, %v", op, deep, Right(r, 4), s, e)
				}
			}
		}
	}
	// The deepest part counts, wherever it stands.
	for _, x := range []struct {
		n     api.Node
		right bool
	}{
		{seq(nest(api.OpStar, 19), set(1)), true}, {seq(set(1), nest(api.OpStar, 19)), true},
		{seq(nest(api.OpStar, 20), set(1)), false}, {seq(set(1), nest(api.OpStar, 20)), false}, {alt(set(1), nest(api.OpOpt, 20), set(1)), false},
	} {
		if Right(api.Rule{Left: x.n}, 4) != x.right {
			t.Errorf("of one %d deep Right tells otherwise", deepOf(x.n))
		}
	}
}

func TestE1FormatOfNodes(t *testing.T) {
	for _, x := range rightNodes {
		side := x.text
		if x.n.Op == api.OpEmpty {
			side = ""
		}
		for _, y := range []struct {
			r    api.Rule
			text string
		}{
			{api.Rule{Left: x.n}, strings.TrimSpace(side + " -")},
			{api.Rule{Right: x.n, Break: true}, strings.TrimSpace("/ " + side)},
			{api.Rule{Left: seq(x.n, set(1))}, x.part + " CR -"},
			{api.Rule{Right: seq(set(1), x.n)}, "- CR " + x.part},
			{api.Rule{Right: star(x.n), Start: true}, "^ - " + x.part + "*"},
			{api.Rule{Right: opt(x.n), Break: true}, "/ " + x.part + "?"},
		} {
			if s, e := Format(y.r, names); s != y.text || e != api.OK {
				t.Errorf("Format(%v) = %q, %v, not %q", y.r, s, e, y.text)
			}
		}
	}
}

func TestE1FormatOfRules(t *testing.T) {
	for _, x := range []struct {
		r    api.Rule
		text string
	}{
		{api.Rule{Left: set(1), Right: set(2)}, "CR - LF"},
		{api.Rule{Left: set(1, 2, 3), Break: true}, "[CR LF RI] /"},
		{api.Rule{Left: seq(star(seq(set(3), set(3))), set(3)), Right: set(3), Start: true}, "^ (RI RI)* RI - RI"},
		{api.Rule{}, "-"},
		{api.Rule{Break: true}, "/"},
		{api.Rule{Start: true}, "^ -"},
		{api.Rule{Start: true, Break: true}, "^ /"},
		{api.Rule{Start: true, Right: set(2)}, "^ - LF"},
		{api.Rule{Start: true, Left: set(1), Break: true}, "^ CR /"},
		{api.Rule{Right: set(0, 1, 2, 3), Break: true}, "/ ."},
		{api.Rule{Left: alt(set(1), set(2)), Right: alt(set(2), set(3))}, "CR | LF - LF | RI"},
		{api.Rule{Left: seq(none(), none()), Right: alt(none(), none())}, "() () - () | ()"},
	} {
		if s, e := Format(x.r, names); s != x.text || e != api.OK {
			t.Errorf("Format(%v) = %q, %v, not %q", x.r, s, e, x.text)
		}
	}
}

// TestE1FormatOfFewClasses: all classes are one, or none at all, and that counts first.
func TestE1FormatOfFewClasses(t *testing.T) {
	for _, x := range []struct {
		n       api.Node
		classes []string
		text    string
	}{
		{set(), nil, ". -"}, {set(), []string{}, ". -"}, {set(), []string{"A"}, "[] -"}, {set(0), []string{"A"}, ". -"},
		{set(0), []string{"A", "B"}, "A -"}, {set(1), []string{"A", "B"}, "B -"}, {set(0, 1), []string{"A", "B"}, ". -"},
	} {
		if s, e := Format(api.Rule{Left: x.n}, x.classes); s != x.text || e != api.OK {
			t.Errorf("Format(%v, %q) = %q, %v, not %q", x.n, x.classes, s, e, x.text)
		}
	}
	if s, e := Format(api.Rule{Left: set(0)}, nil); s != "" || e != api.ErrArg {
		t.Errorf("Format of a class that there is not = %q, %v", s, e)
	}
}

// rightLines are lines with the rules that they are.
var rightLines = []struct {
	line string
	r    api.Rule
}{
	{"CR - LF", api.Rule{Left: set(1), Right: set(2)}},
	{"[CR LF RI] /", api.Rule{Left: set(1, 2, 3), Break: true}},
	{"^ (RI RI)* RI - RI", api.Rule{Left: seq(star(seq(set(3), set(3))), set(3)), Right: set(3), Start: true}},
	{"-", api.Rule{}},
	{"/", api.Rule{Break: true}},
	{"^-", api.Rule{Start: true}},
	{"^/", api.Rule{Start: true, Break: true}},
	{"^ \t / \t CR", api.Rule{Start: true, Right: set(1), Break: true}},
	{"CR-LF", api.Rule{Left: set(1), Right: set(2)}},
	{"\t CR\t- \tLF \t", api.Rule{Left: set(1), Right: set(2)}},
	{"CR - LF # CR", api.Rule{Left: set(1), Right: set(2)}},
	{"CR - LF#@", api.Rule{Left: set(1), Right: set(2)}},
	{"CR -# LF", api.Rule{Left: set(1)}},
	{".-.", api.Rule{Left: set(0, 1, 2, 3), Right: set(0, 1, 2, 3)}},
	{"..-", api.Rule{Left: seq(set(0, 1, 2, 3), set(0, 1, 2, 3))}},
	{"CR.LF-", api.Rule{Left: seq(set(1), set(0, 1, 2, 3), set(2))}},
	{"() - ( \t)", api.Rule{}},
	{"()()-", api.Rule{Left: seq(none(), none())}},
	{"(CR) -", api.Rule{Left: set(1)}},
	{"(((CR))) -", api.Rule{Left: set(1)}},
	{"((())) -", api.Rule{}},
	{"((CR LF)) RI -", api.Rule{Left: seq(seq(set(1), set(2)), set(3))}},
	{"(CR LF) -", api.Rule{Left: seq(set(1), set(2))}},
	{"(CR LF)(CR) -", api.Rule{Left: seq(seq(set(1), set(2)), set(1))}},
	{"CR|LF -", api.Rule{Left: alt(set(1), set(2))}},
	{"CR LF|RI -", api.Rule{Left: alt(seq(set(1), set(2)), set(3))}},
	{"CR|LF RI -", api.Rule{Left: alt(set(1), seq(set(2), set(3)))}},
	{"CR|LF|RI -", api.Rule{Left: alt(set(1), set(2), set(3))}},
	{"(CR|LF)|RI -", api.Rule{Left: alt(alt(set(1), set(2)), set(3))}},
	{"CR|()|RI -", api.Rule{Left: alt(set(1), none(), set(3))}},
	{"- CR*", api.Rule{Right: star(set(1))}},
	{"- CR *", api.Rule{Right: star(set(1))}},
	{"- CR* ?", api.Rule{Right: opt(star(set(1)))}},
	{"- CR?*?", api.Rule{Right: opt(star(opt(set(1))))}},
	{"- CR**", api.Rule{Right: star(star(set(1)))}},
	{"- CR LF*", api.Rule{Right: seq(set(1), star(set(2)))}},
	{"- CR*LF", api.Rule{Right: seq(star(set(1)), set(2))}},
	{"- (CR LF)*", api.Rule{Right: star(seq(set(1), set(2)))}},
	{"- (CR)*", api.Rule{Right: star(set(1))}},
	{"- ()*", api.Rule{Right: star(none())}},
	{"- .?", api.Rule{Right: opt(set(0, 1, 2, 3))}},
	{"- [CR]?", api.Rule{Right: opt(set(1))}},
	{"[] -", api.Rule{Left: set()}},
	{"[ ] -", api.Rule{Left: set()}},
	{"[~] -", api.Rule{Left: set(0, 1, 2, 3)}},
	{"[CR] -", api.Rule{Left: set(1)}},
	{"[RI CR] -", api.Rule{Left: set(1, 3)}},
	{"[ RI\tCR RI RI ] -", api.Rule{Left: set(1, 3)}},
	{"[CR LF RI Other] -", api.Rule{Left: set(0, 1, 2, 3)}},
	{"[~CR] -", api.Rule{Left: set(0, 2, 3)}},
	{"[~CR CR LF] -", api.Rule{Left: set(0, 3)}},
	{"[ ~ RI ] -", api.Rule{Left: set(0, 1, 2)}},
	{"[~Other CR LF RI] -", api.Rule{Left: set()}},
	{"[~Other CR LF] -", api.Rule{Left: set(3)}},
	{"[CR][LF]CR -", api.Rule{Left: seq(set(1), set(2), set(1))}},
	{"CR[LF](RI).-", api.Rule{Left: seq(set(1), set(2), set(3), set(0, 1, 2, 3))}},
}

func TestE2ParseOfRight(t *testing.T) {
	var lines []string
	for _, x := range rightLines {
		for _, text := range []string{x.line, x.line + "\n", "\n \t\n# x\n" + x.line + "\n\n", " \t" + x.line + "\t # /\n"} {
			if l, err := Parse(text, names); err != nil || len(l) != 1 || !sameRule(l[0], x.r) {
				t.Errorf("Parse(%q) = %v, %v, not %v", text, l, err, x.r)
			}
		}
		lines = append(lines, x.line)
	}
	l, err := Parse(strings.Join(lines[:40], "\n"), names)
	if err != nil || len(l) != 40 {
		t.Fatal(l, err)
	}
	for i := range l {
		if !sameRule(l[i], rightLines[i].r) {
			t.Errorf("rule %d = %v, not %v", i, l[i], rightLines[i].r)
		}
	}
}

// TestExamples: the chapter's examples are read, and told again as they are written.
func TestExamples(t *testing.T) {
	classes := []string{"Other", "CR", "LF", "Control", "RI"}
	lines := []string{"CR - LF", "[CR LF Control] /", "^ (RI RI)* RI - RI"}
	want := []api.Rule{
		{Left: set(1), Right: set(2)},
		{Left: set(1, 2, 3), Break: true},
		{Left: seq(star(seq(set(4), set(4))), set(4)), Right: set(4), Start: true},
	}
	l, err := Parse(strings.Join(lines, "\n"), classes)
	if err != nil || !slices.EqualFunc(l, want, sameRule) {
		t.Fatalf("the examples are %v, %v", l, err)
	}
	for i, r := range l {
		if s, e := Format(r, classes); s != lines[i] || e != api.OK || !Right(r, len(classes)) {
			t.Errorf("Format(%v) = %q, %v, not %q", r, s, e, lines[i])
		}
	}
}

func TestE2ParseOfNothing(t *testing.T) {
	for _, s := range []string{"", "\n", "\n\n\n", " \t ", "\t\n ", "#", "# CR - LF", " \t# x\n#\n##"} {
		for _, classes := range [][]string{nil, names} {
			if l, err := Parse(s, classes); err != nil || len(l) != 0 {
				t.Errorf("Parse(%q) = %v, %v", s, l, err)
			}
		}
	}
}

// TestE2ParseOfNames: a name goes as far as it can, and is one of classes as a whole.
func TestE2ParseOfNames(t *testing.T) {
	classes := []string{"a", "A", "_", "0", "aA_0", "Z9z", "abcdefghijklmnopqrst"}
	for i, s := range classes {
		if l, err := Parse(s+"/", classes); err != nil || len(l) != 1 || !same(l[0].Left, set(i)) {
			t.Errorf("Parse of %s = %v, %v", s, l, err)
		}
	}
	for _, s := range []string{"aA", "a_", "Z", "Z9", "z", "aa", "1", "abcdefghijklmnopqrs", "abcdefghijklmnopqrstu", strings.Repeat("a", 100000)} {
		mustFail(t, "/"+s, classes, 1, api.ErrNone)
	}
	if l, err := Parse("- a A", classes); err != nil || !same(l[0].Right, seq(set(0), set(1))) {
		t.Errorf("%v, %v", l, err)
	}
}

func TestE2ParseOfFewClasses(t *testing.T) {
	for _, x := range []struct {
		line    string
		classes []string
		n       api.Node
	}{
		{". -", nil, set()}, {"[] -", nil, set()}, {"[~] -", nil, set()}, {"-", nil, none()}, {"() -", nil, none()},
		{". -", []string{"A"}, set(0)}, {"A -", []string{"A"}, set(0)}, {"[~A] -", []string{"A"}, set()}, {"[~] -", []string{"A"}, set(0)},
	} {
		if l, err := Parse(x.line, x.classes); err != nil || len(l) != 1 || !same(l[0].Left, x.n) {
			t.Errorf("Parse(%q, %q) = %v, %v, not %v", x.line, x.classes, l, err, x.n)
		}
	}
	mustFail(t, "A -", nil, 1, api.ErrNone)
}

// mustFail tells, if Parse does not answer that error of that line, and nothing else.
func mustFail(t *testing.T, text string, classes []string, line int, e api.Errno) {
	t.Helper()
	l, err := Parse(text, classes)
	if l != nil {
		t.Errorf("Parse(%.60q) has rules beside an error: %v", text, l)
	}
	var f *props.Fault
	if !errors.As(err, &f) || f.Line != line || f.Err != error(e) {
		t.Errorf("Parse(%.60q): %v, not line %d: %v", text, err, line, e)
		return
	}
	if n, got := props.Line(err); n != line || got != e || !props.Says(err, e) {
		t.Errorf("the error of Parse(%.60q) tells %d, %v, not %d, %v", text, n, got, line, e)
	}
}

// formless are lines that are neither nothing nor a rule.
var formless = []string{
	"CR", "CR LF", "()", ".", "^", "^ CR", "[CR]", "(", "*", "|", "~",
	"CR - LF - RI", "CR / LF / RI", "CR - LF / RI", "--", "//", "-/", "- CR -", "/ /",
	"(CR - LF", "CR) - LF", "CR - (LF", "CR - LF)", "(CR - LF)", "(CR -) LF", "(-)", ")(-", "(/", "/)", "(CR))-", "((CR)-", "CR -)(",
	"| /", "CR | /", "| CR /", "CR || LF /", "CR | | LF /", "/ |", "/ CR |", "/ | CR", "(|) /", "(CR|) /", "(|CR) /", "(CR||LF) /", "|| /",
	"* /", "? /", "*CR /", "?CR /", "(*) /", "(*CR) /", "CR |* /", "CR | *LF /", "^* /", "^? /", "/ *", "/*", "/ ?CR", "(?CR) /",
	"CR ^ /", "CR^ /", "^^ /", "^ ^ /", "(^) /", "(^ CR) /", "/ ^", "/ ^ CR", "- CR ^", "^ CR ^ -", "CR | ^ LF -", "[^CR] /", "^CR - ^LF",
	"[ /", "] /", "[CR /", "CR] /", "[CR /]", "[-]", "[CR - LF]", "[[CR]] /", "[CR [LF]] /", "[(CR)] /", "[CR | LF] /", "[CR|LF] /", "[CR*] /", "[.] /", "[()] /", "[^] /", "][ /", "[]] /", "[[] /",
	"~ /", "~CR /", "CR ~ /", "(~CR) /", "[CR ~] /", "[CR ~ LF] /", "[~~] /", "[~~CR] /", "[~ CR ~] /", "[~CR /", "~[CR] /", "[~[CR]] /", "[~.] /", "[~^CR] /",
	"(CR /", "(] /", "[) /", "([) /", "[(] /", "([)] /", "(CR] /", "[CR) /",
	"@ /", "CR @ LF /", "CR / @", "CR, LF /", "CR; /", "CR + /", "CR+ /", "CR & LF /", "CR! /", "CR$ /", "$ /", "{CR} /", "<CR> /", "CR = LF", "CR : LF", "CR \\ LF /", "'CR' /", "\"CR\" /", "CR` /", "%/",
	"CR - LF\r", "\r", "\rCR /", "CR\r/", "\v", "\f/", "CR\x00/", "\x00", "\u00A0/", "CR \u00F7 LF", "\u00D7", "\xFF/", "\xC3/", "CR\u00E9 /", "CR \u2013 LF", "\u0660/",
	"XX", "XX - YY - ZZ", "[XX /", "@ XX /",
}

// nameless are lines that have a name that is none of classes.
var nameless = []string{
	"XX /", "XX - LF", "CR - XX", "CR XX /", "CR LF | (RI XX)* /", "[XX] /", "[~XX] /", "[CR XX] /", "[XX CR] /", "[~CR XX LF] /", "cr /", "Cr - LF", "CRLF /", "C /", "CR_ /", "CR1 /", "1 /", "_ /",
	"^ XX -", "- (((XX)))", "XX? /", "(XX) /", "/ . | XX", "XX - YY", "CR LF - RI RIRI", "OtherCR -",
}

func TestE2ParseOfWrong(t *testing.T) {
	for _, x := range []struct {
		lines []string
		e     api.Errno
	}{{formless, api.ErrForm}, {nameless, api.ErrNone}} {
		for _, s := range x.lines {
			mustFail(t, s, names, 1, x.e)
			mustFail(t, s+"\n", names, 1, x.e)
			mustFail(t, "\n# x\nCR -\n\t "+s+" \t# remark\n@", names, 4, x.e)
			mustFail(t, strings.Repeat("/\n", 40)+s+"\nCR /", names, 41, x.e)
		}
	}
}

func TestE2ParseOfDeep(t *testing.T) {
	deep := func(n int) []string {
		return []string{
			"CR" + strings.Repeat("*", n-1),
			"()" + strings.Repeat("?", n-1),
			strings.Repeat("(", n-1) + "CR" + strings.Repeat("*)", n-1),
			strings.Repeat("(CR ", n-1) + "LF" + strings.Repeat(")", n-1),
			strings.Repeat("(", n-1) + "LF" + strings.Repeat("|RI)", n-1),
			"CR|LF RI*|(" + "CR" + strings.Repeat("?*", (n-2)/2) + strings.Repeat("?", n%2) + ")",
			"CR" + strings.Repeat("*", n-2) + " LF",
		}
	}
	for _, s := range deep(20) {
		for _, line := range []string{s + "-", "^" + s + "/ CR", "/" + s, s + "-" + s} {
			l, err := Parse(line, names)
			if err != nil || len(l) != 1 || max(deepOf(l[0].Left), deepOf(l[0].Right)) != 20 || !Right(l[0], 4) {
				t.Errorf("Parse(%q) = %v, %v", line, l, err)
			}
		}
	}
	for _, n := range []int{21, 22, 30, 100} {
		for _, s := range deep(n) {
			for _, line := range []string{s + "-", "^" + s + "/ CR", "/" + s, "CR -" + s, s + "-" + s} {
				mustFail(t, line, names, 1, api.ErrLarge)
				mustFail(t, "-\n\n"+line+"\n@", names, 3, api.ErrLarge)
			}
		}
	}
	mustFail(t, "-"+"CR"+strings.Repeat("*?", 100000), names, 1, api.ErrLarge)
	mustFail(t, strings.Repeat("CR", 100000)+" CR"+strings.Repeat("*?", 100000)+"/", names, 1, api.ErrNone)
}

// TestE2ParseOfBrackets: brackets that add nothing don't count as deep, and 200 of them may be open.
func TestE2ParseOfBrackets(t *testing.T) {
	for _, n := range []int{20, 21, 199, 200} {
		open, shut := strings.Repeat("(", n), strings.Repeat(")", n)
		for _, line := range []string{open + "CR" + shut + "-", "/" + open + shut, open + "CR" + shut + "-" + open + "CR" + shut, "(LF)" + open + "CR" + shut + "(CR)" + open + shut + "-"} {
			if l, err := Parse(line, names); err != nil || len(l) != 1 || !Right(l[0], 4) || deepOf(l[0].Left) > 2 {
				t.Errorf("Parse(%q) = %v, %v", line, l, err)
			}
		}
		mustFail(t, open+"XX"+shut+"-", names, 1, api.ErrNone)
		mustFail(t, open+"CR"+shut+strings.Repeat("*", 20)+"-", names, 1, api.ErrLarge)
		mustFail(t, open+"CR"+shut[1:]+"-", names, 1, api.ErrForm)
		mustFail(t, open[1:]+"CR"+shut+"-", names, 1, api.ErrForm)
	}
	for _, n := range []int{201, 202, 1000, 1 << 16, 300000} {
		open, shut := strings.Repeat("(", n), strings.Repeat(")", n)
		for _, line := range []string{open + "CR" + shut + "-", "/" + open + shut, "/" + open, shut + "/", "XX" + open + "CR" + shut + "-"} {
			_, err := Parse(line, names)
			if n, e := props.Line(err); n != 1 || e != api.ErrForm && e != api.ErrLarge {
				t.Errorf("Parse(%.10q ..): %v", line, err)
			}
		}
	}
}

func TestE2ParseOfMany(t *testing.T) {
	text := strings.Repeat("CR - LF\n", 40)
	for _, s := range []string{"", "\n", "# CR - LF\n \t\n", "\n\n\n#"} {
		if l, err := Parse(text+s, names); err != nil || len(l) != 40 {
			t.Errorf("Parse of 40 rules and %q: %d, %v", s, len(l), err)
		}
	}
	mustFail(t, text+"-", names, 41, api.ErrState)
	mustFail(t, text+"#\n\n^ /\n@\n", names, 43, api.ErrState)
	mustFail(t, text+text, names, 41, api.ErrState)
}

// TestE2OrderOfErrors: of several things wrong with a line the one written first in the chapter, of several lines the first.
func TestE2OrderOfErrors(t *testing.T) {
	stars := strings.Repeat("*", 20)
	full := strings.Repeat("/\n", 40)
	for _, x := range []struct {
		text string
		line int
		e    api.Errno
	}{
		{"XX" + stars + " @ /", 1, api.ErrForm},
		{"CR" + stars + " - LF -", 1, api.ErrForm},
		{"XX - YY )", 1, api.ErrForm},
		{"XX | /", 1, api.ErrForm},
		{"(CR" + stars + " - XX", 1, api.ErrForm},
		{"XX" + stars + "-", 1, api.ErrNone},
		{"CR" + stars + "- XX", 1, api.ErrNone},
		{"XX - CR" + stars, 1, api.ErrNone},
		{"[CR XX]" + stars + "-", 1, api.ErrNone},
		{full + "CR" + stars + " -- XX", 41, api.ErrForm},
		{full + "CR" + stars + " - XX", 41, api.ErrNone},
		{full + "CR" + stars + " -", 41, api.ErrLarge},
		{full + "CR -", 41, api.ErrState},
		{"CR" + stars + "-\nXX -\n@", 1, api.ErrLarge},
		{"/\n\nXX -\n@\nCR" + stars + "-", 3, api.ErrNone},
		{"@\nXX -", 1, api.ErrForm},
		{strings.Repeat("\n", 100000) + "@", 100001, api.ErrForm},
	} {
		mustFail(t, x.text, names, x.line, x.e)
	}
}

// TestE2Wraps: the error is one that wraps a *props.Fault, and that wraps the Errno itself.
func TestE2Wraps(t *testing.T) {
	_, err := Parse("CR /\nXX /", names)
	f, ok := errors.Unwrap(err).(*props.Fault)
	if !ok || f.Line != 2 || errors.Unwrap(f) != error(api.ErrNone) {
		t.Errorf("%v does not wrap a *props.Fault of line 2", err)
	}
	if s := err.Error(); s != "line 2: error 5" {
		t.Errorf("the error's text is %q", s)
	}
	for e := api.Errno(-1); e < 10; e++ {
		if errors.Is(err, e) != (e == api.ErrNone) {
			t.Errorf("%v says %v", err, e)
		}
	}
	if l, err := Parse("CR /", names); err != nil || len(l) != 1 {
		t.Errorf("%v, %v", l, err)
	}
}

// What follows holds Parse against the chapter's words, read in another way: brackets are
// taken away from the innermost on, until a row without any is left.

// symbol is a piece that is not read yet, or an expression.
type symbol struct {
	piece string
	node  *api.Node
}

var pieceForm = regexp.MustCompile(`^(?:[A-Za-z0-9_]+|[-/()|*?.^\[\]~])`)
var nameForm = regexp.MustCompile(`^[A-Za-z0-9_]+$`)
var setForm = regexp.MustCompile(`^\[(~?)([A-Za-z0-9_ ]*)\]$`)

// piecesOf is the pieces of a line, if it has nothing else.
func piecesOf(s string) (l []string, ok bool) {
	for s = strings.TrimLeft(s, " \t"); s != ""; s = strings.TrimLeft(s, " \t") {
		p := pieceForm.FindString(s)
		if p == "" {
			return nil, false
		}
		l, s = append(l, p), s[len(p):]
	}
	return l, true
}

// setOf is the set that such a text is, and whether all of its names are classes.
func setOf(text string, classes []string) (n api.Node, known, ok bool) {
	if nameForm.MatchString(text) {
		text = "[" + text + "]"
	}
	if text == "." {
		text = "[~]"
	}
	m := setForm.FindStringSubmatch(text)
	if m == nil {
		return n, false, false
	}
	known = true
	in := map[string]bool{}
	for _, name := range strings.Fields(m[2]) {
		in[name] = true
		known = known && slices.Contains(classes, name)
	}
	n.Op = api.OpSet
	for i, class := range classes {
		if in[class] == (m[1] == "") {
			n.Classes = append(n.Classes, i)
		}
	}
	return n, known, true
}

// setsRead is the symbols of pieces, sets being read already.
func setsRead(l, classes []string) (row []symbol, known, ok bool) {
	known = true
	for len(l) > 0 {
		n := 1
		switch p := l[0]; {
		case p == "[":
			n = slices.Index(l, "]") + 1
			if n == 0 {
				return nil, false, false
			}
			fallthrough
		case p == "." || nameForm.MatchString(p):
			text := strings.ReplaceAll(strings.Join(l[:n], " "), "[ ~", "[~")
			node, k, ok := setOf(text, classes)
			if !ok {
				return nil, false, false
			}
			known = known && k
			row = append(row, symbol{node: &node})
		case strings.Contains("()|*?", p):
			row = append(row, symbol{piece: p})
		default:
			return nil, false, false
		}
		l = l[n:]
	}
	return row, known, true
}

// flat is what a row without brackets is.
func flat(row []symbol) (api.Node, bool) {
	ways := [][]api.Node{nil}
	for _, s := range row {
		last := &ways[len(ways)-1]
		switch {
		case s.node != nil:
			*last = append(*last, *s.node)
		case len(*last) == 0:
			return api.Node{}, false
		case s.piece == "|":
			ways = append(ways, nil)
		default:
			op := map[string]int{"*": api.OpStar, "?": api.OpOpt}[s.piece]
			(*last)[len(*last)-1] = api.Node{Op: op, Parts: []api.Node{(*last)[len(*last)-1]}}
		}
	}
	var whole []api.Node
	for _, way := range ways {
		switch len(way) {
		case 0:
			return api.Node{}, false
		case 1:
			whole = append(whole, way[0])
		default:
			whole = append(whole, seq(way...))
		}
	}
	if len(whole) == 1 {
		return whole[0], true
	}
	return alt(whole...), true
}

// sideOf is the expression that pieces are, and whether all names are classes.
func sideOf(l, classes []string) (n api.Node, known, ok bool) {
	if len(l) == 0 {
		return none(), true, true
	}
	row, known, ok := setsRead(l, classes)
	if !ok {
		return n, false, false
	}
	for {
		shut := slices.IndexFunc(row, func(s symbol) bool { return s.piece == ")" })
		if shut < 0 {
			break
		}
		open := shut
		for open >= 0 && row[open].piece != "(" {
			open--
		}
		if open < 0 {
			return n, false, false
		}
		inner := none()
		if shut > open+1 {
			if inner, ok = flat(row[open+1 : shut]); !ok {
				return n, false, false
			}
		}
		row = slices.Replace(row, open, shut+1, symbol{node: &inner})
	}
	if slices.ContainsFunc(row, func(s symbol) bool { return s.piece == "(" }) {
		return n, false, false
	}
	n, ok = flat(row)
	return n, known, ok
}

// ruleOf is what is left of a line, by the chapter's words.
func ruleOf(s string, classes []string, ahead int) (r api.Rule, e api.Errno) {
	l, ok := piecesOf(s)
	middles := 0
	for _, p := range l {
		if p == "/" || p == "-" {
			middles++
		}
	}
	if !ok || middles != 1 {
		return r, api.ErrForm
	}
	at := max(slices.Index(l, "/"), slices.Index(l, "-"))
	left, right := l[:at], l[at+1:]
	r.Break = l[at] == "/"
	if r.Start = l[0] == "^"; r.Start {
		left = left[1:]
	}
	var k1, k2, ok1, ok2 bool
	r.Left, k1, ok1 = sideOf(left, classes)
	r.Right, k2, ok2 = sideOf(right, classes)
	switch {
	case !ok1 || !ok2:
		return r, api.ErrForm
	case !k1 || !k2:
		return r, api.ErrNone
	case deepOf(r.Left) > 20 || deepOf(r.Right) > 20:
		return r, api.ErrLarge
	case ahead == 40:
		return r, api.ErrState
	}
	return r, api.OK
}

// holdAgainst holds Parse of a text against the chapter's words, and what is read against
// Right and Format.
func holdAgainst(t *testing.T, text string, classes []string) ([]api.Rule, api.Errno) {
	t.Helper()
	var want []api.Rule
	at, e := 0, api.OK
	for i, s := range strings.Split(text, "\n") {
		s = strings.Trim(strings.SplitN(s, "#", 2)[0], " \t")
		if s == "" {
			continue
		}
		var r api.Rule
		if r, e = ruleOf(s, classes, len(want)); e != api.OK {
			want, at = nil, i+1
			break
		}
		want = append(want, r)
	}
	l, err := Parse(text, classes)
	n, got := props.Line(err)
	if !slices.EqualFunc(l, want, sameRule) || n != at || got != e || (err == nil) != (e == api.OK) {
		t.Fatalf("Parse(%q) = %v, %v, not %v, %d, %v", text, l, err, want, at, e)
	}
	for _, r := range l {
		if !Right(r, len(classes)) {
			t.Fatalf("Parse(%q) has %v, which is not right", text, r)
		}
		s, e := Format(r, classes)
		again, err := Parse(s, classes)
		if e != api.OK || err != nil || len(again) != 1 || !sameRule(again[0], r) {
			t.Fatalf("%v is %q, %v, and that is %v, %v", r, s, e, again, err)
		}
	}
	return l, e
}

// thrown are what lines are thrown together from.
var thrown = []string{
	"CR", "LF", "RI", "Other", "CR", "LF", "/", "-", "/", "-", "(", ")", "(", ")", "|", "*", "?", ".", "^", "[", "]", "[~", "~",
	"()", "(CR", "LF)", "[CR", "LF]", "[LF RI]", "[~CR]", " ", " ", " ", "\t", "#", "\n", "\n", "XX", "_", "@", "\r", "\xC3", "********************",
}

// TestE2ParseOfAnything holds texts thrown together against the chapter's words.
func TestE2ParseOfAnything(t *testing.T) {
	random := rand.New(rand.NewSource(5))
	told := map[api.Errno]int{}
	for range 300000 {
		text := ""
		for range random.Intn(12) {
			text += thrown[random.Intn(len(thrown))]
		}
		_, e := holdAgainst(t, text, names)
		told[e]++
	}
	for _, e := range []api.Errno{api.OK, api.ErrForm, api.ErrNone, api.ErrLarge} {
		if told[e] < 100 {
			t.Errorf("only %d texts told %v", told[e], e)
		}
	}
}

// someNode is an expression that is right for so many classes, at most so deep.
func someNode(random *rand.Rand, classes, deep int) api.Node {
	kind := random.Intn(8)
	if deep == 1 {
		kind = random.Intn(4)
	}
	var n api.Node
	count := 1
	switch kind {
	case 0:
		return none()
	case 1, 2, 3:
		n.Op = api.OpSet
		keep := random.Intn(4)
		for i := range classes {
			if random.Intn(3) < keep {
				n.Classes = append(n.Classes, i)
			}
		}
		return n
	case 4, 5:
		n.Op, count = kind-4+api.OpSeq, 2+random.Intn(3)
	default:
		n.Op = kind - 6 + api.OpStar
	}
	for range count {
		n.Parts = append(n.Parts, someNode(random, classes, deep-1))
	}
	return n
}

func someRule(random *rand.Rand, classes, deep int) api.Rule {
	return api.Rule{
		Left:  someNode(random, classes, deep),
		Right: someNode(random, classes, deep),
		Break: random.Intn(2) == 0,
		Start: random.Intn(2) == 0,
	}
}

// loose is a text of a rule that has more blanks, and brackets, than Format has.
func loose(random *rand.Rand, r api.Rule, classes []string) string {
	blank := func() string { return []string{"", " ", "\t", " \t "}[random.Intn(4)] }
	var write func(n api.Node) string
	write = func(n api.Node) string {
		s := ""
		switch n.Op {
		case api.OpEmpty:
			s = "(" + blank() + ")"
		case api.OpSet:
			var l []string
			others := random.Intn(2) == 0
			for i, class := range classes {
				if slices.Contains(n.Classes, i) != others {
					l = append(l, class, class)
				}
			}
			random.Shuffle(len(l), func(i, j int) { l[i], l[j] = l[j], l[i] })
			s = "[" + blank() + map[bool]string{true: "~"}[others] + blank() + strings.Join(l, " "+blank()) + blank() + "]"
		case api.OpSeq, api.OpAlt:
			for i, part := range n.Parts {
				if i > 0 && n.Op == api.OpAlt {
					s += blank() + "|"
				}
				s += blank() + write(part)
			}
			s = "(" + s + blank() + ")"
		case api.OpStar:
			s = write(n.Parts[0]) + blank() + "*"
		case api.OpOpt:
			s = write(n.Parts[0]) + blank() + "?"
		}
		if random.Intn(6) == 0 {
			s = "(" + blank() + s + blank() + ")"
		}
		return s
	}
	return map[bool]string{true: "^"}[r.Start] + blank() + write(r.Left) + blank() + map[bool]string{true: "/", false: "-"}[r.Break] + blank() + write(r.Right)
}

// TestFollowsReadFromText: a right rule is read from its text, and from looser ones.
func TestFollowsReadFromText(t *testing.T) {
	random := rand.New(rand.NewSource(15))
	for range 20000 {
		classes := []string{"A", "B", "C_1", "d", "_", "9"}[:random.Intn(7)]
		r := someRule(random, len(classes), 1+random.Intn(5))
		if !Right(r, len(classes)) {
			t.Fatalf("%v is not right for %q", r, classes)
		}
		s, e := Format(r, classes)
		for _, text := range []string{s, loose(random, r, classes)} {
			if l, err := Parse(text, classes); e != api.OK || err != nil || len(l) != 1 || !sameRule(l[0], r) {
				t.Fatalf("%v is %q, %v, and that is %v, %v", r, text, e, l, err)
			}
		}
	}
	for _, op := range []int{api.OpSeq, api.OpAlt, api.OpStar, api.OpOpt} {
		r := api.Rule{Left: nest(op, 20), Right: nest(op, 20)}
		s, e := Format(r, names)
		if l, err := Parse(s, names); e != api.OK || err != nil || len(l) != 1 || !sameRule(l[0], r) {
			t.Errorf("Op %d, 20 deep, is %q, %v, and that is %v, %v", op, s, e, l, err)
		}
	}
}

// TestFollowsAllSets: each set of a few classes is read from its text.
func TestFollowsAllSets(t *testing.T) {
	for classes := range 7 {
		for bits := range 1 << classes {
			n := set()
			for i := range classes {
				if bits>>i&1 == 1 {
					n.Classes = append(n.Classes, i)
				}
			}
			all := []string{"A", "B", "C", "D", "E", "F"}[:classes]
			s, e := Format(api.Rule{Left: n}, all)
			if l, err := Parse(s, all); e != api.OK || err != nil || len(l) != 1 || !same(l[0].Left, n) {
				t.Errorf("%v is %q, %v, and that is %v, %v", n, s, e, l, err)
			}
		}
	}
}

// TestFollowsReadIsRight: texts of rules, one piece of which is spoilt, are no rules, or right ones.
func TestFollowsReadIsRight(t *testing.T) {
	random := rand.New(rand.NewSource(25))
	read := 0
	for range 30000 {
		s := loose(random, someRule(random, 4, 1+random.Intn(4)), names)
		l, ok := piecesOf(s)
		if !ok || len(l) > 60 {
			continue
		}
		at, with := random.Intn(len(l)), thrown[random.Intn(len(thrown))]
		switch random.Intn(3) {
		case 0:
			l = slices.Delete(l, at, at+1)
		case 1:
			l[at] = with
		default:
			l = slices.Insert(l, at, with)
		}
		if _, e := holdAgainst(t, strings.Join(l, " "), names); e == api.OK {
			read++
		}
	}
	if read < 1000 {
		t.Errorf("only %d texts were read", read)
	}
}

// TestNothingIsKept: what is handed in stays as it was, and what is answered shares nothing.
func TestNothingIsKept(t *testing.T) {
	random := rand.New(rand.NewSource(35))
	for range 2000 {
		classes := slices.Clone(names)
		r := someRule(random, 4, 4)
		text := fmt.Sprint(r)
		s, e := Format(r, classes)
		if !Right(r, 4) || e != api.OK || fmt.Sprint(r) != text || !slices.Equal(classes, names) {
			t.Fatal("Right or Format has changed what it was handed")
		}
		l, err := Parse(s+"\n"+s, classes)
		if err != nil || !slices.Equal(classes, names) {
			t.Fatal("Parse has changed what it was handed")
		}
		clear(classes)
		if !sameRule(l[0], r) || !sameRule(l[1], r) {
			t.Fatal("Parse keeps its classes")
		}
		spoil(&l[0].Left)
		spoil(&l[0].Right)
		if !sameRule(l[1], r) {
			t.Fatal("two rules share a list")
		}
		if again, err := Parse(s, names); err != nil || !sameRule(again[0], r) {
			t.Fatal("an answer that is written over changes what Parse answers")
		}
	}
	l, err := Parse(". . [CR LF] [CR LF] () () -", names)
	if err != nil {
		t.Fatal(err)
	}
	parts := l[0].Left.Parts
	spoil(&parts[0])
	spoil(&parts[2])
	_ = append(parts[0].Classes, 77)
	_ = append(parts[2].Classes, 77)
	if !same(parts[1], set(0, 1, 2, 3)) || !same(parts[3], set(1, 2)) {
		t.Error("two sets of one rule share a list")
	}
}

// spoil writes over all of an expression.
func spoil(n *api.Node) {
	n.Op = 99
	for i := range n.Classes {
		n.Classes[i] = -1
	}
	for i := range n.Parts {
		spoil(&n.Parts[i])
	}
}

// TestZeroFields: what an Op does not have is none in what is read.
func TestZeroFields(t *testing.T) {
	l, err := Parse("() CR* -\n- .", names)
	if err != nil {
		t.Fatal(err)
	}
	if n := l[0].Right; n.Op != api.OpEmpty || n.Classes != nil || n.Parts != nil {
		t.Errorf("%v", n)
	}
	if n := l[0].Left; n.Classes != nil || n.Parts[0].Classes != nil || n.Parts[0].Parts != nil || n.Parts[1].Classes != nil || n.Parts[1].Parts[0].Parts != nil {
		t.Errorf("%v", n)
	}
}

func FuzzParse(f *testing.F) {
	for _, x := range rightLines {
		f.Add(x.line)
	}
	for _, s := range formless {
		f.Add(s)
	}
	for _, s := range nameless {
		f.Add(s + "\n/")
	}
	f.Fuzz(func(t *testing.T, text string) {
		if strings.Count(text, "(") <= 200 {
			holdAgainst(t, text, names)
			holdAgainst(t, text, nil)
		}
	})
}
