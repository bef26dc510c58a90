package props

import (
	"cmp"
	"errors"
	"fmt"
	"math"
	"math/rand"
	"regexp"
	"slices"
	"strconv"
	"strings"
	"testing"

	"foolscap/api"
)

// right are texts with the ranges that they have.
var right = []struct {
	text string
	l    []api.Range
}{
	{"000D ; CR # return", []api.Range{{First: 13, Last: 13, Class: "CR"}}},
	{"0041..005A;ALetter", []api.Range{{First: 'A', Last: 'Z', Class: "ALetter"}}},
	{"", nil},
	{"\n", nil},
	{"\n\n\n", nil},
	{" \t \n\t", nil},
	{"#", nil},
	{"# 0041 ; A", nil},
	{"  # wrong ; wrong\n#\n\t##", nil},
	{"0041;A", []api.Range{{First: 'A', Last: 'A', Class: "A"}}},
	{"0041;A\n", []api.Range{{First: 'A', Last: 'A', Class: "A"}}},
	{"\n\n0041;A\n\n", []api.Range{{First: 'A', Last: 'A', Class: "A"}}},
	{" \t0041\t \t;\t \tA\t ", []api.Range{{First: 'A', Last: 'A', Class: "A"}}},
	{"0041;A#", []api.Range{{First: 'A', Last: 'A', Class: "A"}}},
	{"0041;A # ;; # \xFF\x00\r", []api.Range{{First: 'A', Last: 'A', Class: "A"}}},
	{"0041..0041;A", []api.Range{{First: 'A', Last: 'A', Class: "A"}}},
	{"00041;A", []api.Range{{First: 'A', Last: 'A', Class: "A"}}},
	{"000041..00042;A", []api.Range{{First: 'A', Last: 'B', Class: "A"}}},
	{"0000;A", []api.Range{{First: 0, Last: 0, Class: "A"}}},
	{"10FFFF;A", []api.Range{{First: api.MaxRune, Last: api.MaxRune, Class: "A"}}},
	{"0000..10FFFF;A", []api.Range{{First: 0, Last: api.MaxRune, Class: "A"}}},
	{"D800..DFFF;Control", []api.Range{{First: 0xD800, Last: 0xDFFF, Class: "Control"}}},
	{"9ABC..9DEF;A", []api.Range{{First: 0x9ABC, Last: 0x9DEF, Class: "A"}}},
	{"0041;0", []api.Range{{First: 'A', Last: 'A', Class: "0"}}},
	{"0041;_", []api.Range{{First: 'A', Last: 'A', Class: "_"}}},
	{"0041;aZ_09zA", []api.Range{{First: 'A', Last: 'A', Class: "aZ_09zA"}}},
	{"0041;abcdefghijklmnopqrst", []api.Range{{First: 'A', Last: 'A', Class: "abcdefghijklmnopqrst"}}},
	{"0041;A\n0042;A\n", []api.Range{{First: 'A', Last: 'A', Class: "A"}, {First: 'B', Last: 'B', Class: "A"}}},
	{"0042..0044;B\n0045;C\n0041;A\n0000..0040;D\n", []api.Range{
		{First: 0, Last: '@', Class: "D"},
		{First: 'A', Last: 'A', Class: "A"},
		{First: 'B', Last: 'D', Class: "B"},
		{First: 'E', Last: 'E', Class: "C"},
	}},
	{"10000;A\n9999;B\n010001;A\n", []api.Range{
		{First: 0x9999, Last: 0x9999, Class: "B"},
		{First: 0x10000, Last: 0x10000, Class: "A"},
		{First: 0x10001, Last: 0x10001, Class: "A"},
	}},
}

// formless are lines that are neither nothing nor a range.
var formless = []string{
	"x", ";", ";A", "0041", "0041;", "0041 ; ", "0041 A", "0041,A", "0041:A",
	"41;A", "041;A", "0000041;A", "0041..42;A", "41..0042;A", "0041..0000042;A", "0000041..0042;A",
	"abcd;A", "00e9;A", "004G;A", "00 41;A", "0x41;A", "U+0041;A", "-041;A", "+041;A", "004_1;A", "00\xC3\xA9;A",
	"0041..;A", "..0042;A", "..;A", "0041.0042;A", "0041...0042;A", "0041....0042;A", "0041..0042..0043;A",
	"0041-0042;A", "0041 ..0042;A", "0041.. 0042;A", "0041 .. 0042;A", "0041. .0042;A",
	"0041 0042;A", "0041;;A", "0041;A;", "0041;A;B", "0041;A B", "0041;A\tB", "0041;A-B", "0041;A.B",
	"0041;A\r", "\r", "\r0041;A", "0041\r;A", "0041;\rA", "\v", "\f", "\x00", "\u00A0", "\u00A00041;A",
	"0041;\xC3\xA9", "0041;A\xFF", "0041;A\x00", "0041;@", "0041;[", "0041;`", "0041;{", "0041;/", "0041;:", "0041;^",
	"/041;A", ":041;A", "@041;A", "G041;A",
	"0041;abcdefghijklmnopqrstu", "0041;A 0042;B", "0041#;A", "00#41;A", "0041;#A", "0041..#0042;A",
}

// rangeless are ranges whose numbers may not be.
var rangeless = []string{
	"110000;A", "FFFFFF;A", "0041..110000;A", "110000..110001;A", "110000..0041;A", "10FFFF..110000;A",
	"0042..0041;A", "10FFFF..0000;A", "0001..0000;A", "00042..0041;A", "FFFFFF..10FFFF;A",
}

// many is a text of so many ranges of one character each, every second one from 256 on.
func many(n int) string {
	var b strings.Builder
	for i := range n {
		fmt.Fprintf(&b, "%04X;A\n", 256+2*i)
	}
	return b.String()
}

// mustFail tells, if Parse does not answer that error of that line, and nothing else.
func mustFail(t *testing.T, text string, line int, e api.Errno) {
	t.Helper()
	l, err := Parse(text)
	if l != nil {
		t.Errorf("Parse(%.60q) has ranges beside an error: %v", text, l)
	}
	var f *Fault
	if !errors.As(err, &f) || f.Line != line || f.Err != error(e) {
		t.Errorf("Parse(%.60q): %v, not line %d: %v", text, err, line, e)
		return
	}
	if !errors.Is(err, e) || !Says(err, e) {
		t.Errorf("Parse(%.60q): %v does not say %v", text, err, e)
	}
	if n, got := Line(err); n != line || got != e {
		t.Errorf("Line of Parse(%.60q) = %d, %v, not %d, %v", text, n, got, line, e)
	}
}

func TestD1ParseOfRight(t *testing.T) {
	for _, x := range right {
		if l, err := Parse(x.text); err != nil || !slices.Equal(l, x.l) {
			t.Errorf("Parse(%q) = %v, %v, not %v", x.text, l, err, x.l)
		}
	}
}

func TestD1ParseOfFormless(t *testing.T) {
	for _, s := range formless {
		mustFail(t, s, 1, api.ErrForm)
		mustFail(t, s+"\n", 1, api.ErrForm)
		mustFail(t, "\n# 0050;A\n0050;A\n\t "+s+" \t# remark\nx", 4, api.ErrForm)
	}
}

func TestD1ParseOfRangeless(t *testing.T) {
	for _, s := range rangeless {
		mustFail(t, s, 1, api.ErrRange)
		mustFail(t, "0050;A\n\n"+s+"\n0050;A", 3, api.ErrRange)
	}
}

func TestD1ParseOfMeeting(t *testing.T) {
	for _, s := range []string{
		"0050", "0060", "0058", "0050..0060", "0040..0050", "0060..0070", "0052..0055", "0000..10FFFF",
		"004F..0050", "0060..0061", "0030", "0020..0030", "0031..0050", "000050",
		"D900", "D900..D900", "DFFF..E000",
	} {
		mustFail(t, "0050..0060;A\n0030;A\nD900..DFFF;A\n"+s+";A\n", 4, api.ErrState)
		mustFail(t, "0050..0060;A\nD900..DFFF;C\n#\n0030;A\n"+s+";B\n\nx", 5, api.ErrState)
	}
	for _, s := range []string{"004F", "0061", "0031..004F", "002F", "0000..002F", "0061..D8FF", "E000..10FFFF"} {
		if l, err := Parse("0050..0060;A\n0030;A\nD900..DFFF;A\n" + s + ";A\n"); err != nil || len(l) != 4 {
			t.Errorf("Parse with %s beside the others = %v, %v", s, l, err)
		}
	}
}

func TestD1ParseOfMany(t *testing.T) {
	text := many(2000)
	for _, s := range []string{"", "\n", "# 0041;A\n \t\n", "\n\n\n#"} {
		if l, err := Parse(text + s); err != nil || len(l) != 2000 {
			t.Errorf("Parse of 2000 ranges and %q: %d, %v", s, len(l), err)
		}
	}
	mustFail(t, many(2001), 2001, api.ErrLarge)
	mustFail(t, many(3000), 2001, api.ErrLarge)
	mustFail(t, text+"\n#\n0041;A\nx", 2003, api.ErrLarge)
	// What is wrong ahead of that in the chapter's order counts.
	mustFail(t, text+"x\n", 2001, api.ErrForm)
	mustFail(t, text+"110000;A\n", 2001, api.ErrRange)
	mustFail(t, text+"0041..0040;A\n", 2001, api.ErrRange)
	mustFail(t, text+"0100;A\n", 2001, api.ErrState)
	mustFail(t, text+"0000..10FFFF;A\n", 2001, api.ErrState)
}

// TestD1OrderOfErrors: of several things wrong with a line the one written first in the chapter, of several lines the first.
func TestD1OrderOfErrors(t *testing.T) {
	mustFail(t, "0041;A\n110000;A;", 2, api.ErrForm)
	mustFail(t, "0041;A\n0042..0041;", 2, api.ErrForm)
	mustFail(t, "0041;A\n0041;A B", 2, api.ErrForm)
	mustFail(t, "0041;A\n0041..110000;A", 2, api.ErrRange)
	mustFail(t, "0041;A\n0041..0040;A", 2, api.ErrRange)
	mustFail(t, "0041;A\n0041;A\n110000;A\nx", 2, api.ErrState)
	mustFail(t, "0041;A\n110000;A\nx\n0041;A", 2, api.ErrRange)
	mustFail(t, "\n\n\nx\n110000;A", 4, api.ErrForm)
	mustFail(t, strings.Repeat("\n", 100000)+"x", 100001, api.ErrForm)
}

// TestD1Wraps: the error is one that wraps a *Fault, and that wraps the Errno itself.
func TestD1Wraps(t *testing.T) {
	_, err := Parse("0041;A\nx")
	f, ok := errors.Unwrap(err).(*Fault)
	if !ok || f.Line != 2 || f.Unwrap() != error(api.ErrForm) || errors.Unwrap(f) != error(api.ErrForm) {
		t.Errorf("%v does not wrap a *Fault of line 2", err)
	}
	if s := err.Error(); s != "line 2: error 2" {
		t.Errorf("the error's text is %q", s)
	}
	for _, e := range []api.Errno{api.OK, api.ErrArg, api.ErrRange, api.ErrLarge, api.ErrNone, api.ErrState, api.ErrLimit, api.ErrFull, -1, 9} {
		if errors.Is(err, e) || Says(err, e) {
			t.Errorf("%v says %v", err, e)
		}
	}
}

func TestD1FaultTells(t *testing.T) {
	for _, x := range []struct {
		f Fault
		s string
	}{
		{Fault{3, api.ErrForm}, "line 3: error 2"},
		{Fault{2001, api.ErrLarge}, "line 2001: error 4"},
		{Fault{0, api.OK}, "line 0: error 0"},
		{Fault{-7, errors.New("odd")}, "line -7: odd"},
		{Fault{math.MaxInt, errors.New("")}, "line " + strconv.Itoa(math.MaxInt) + ": "},
		{Fault{1, nil}, "line 1: "},
		{Fault{1, &Fault{2, api.ErrState}}, "line 1: line 2: error 6"},
		{Fault{1, (*Fault)(nil)}, "line 1: "},
	} {
		if s := x.f.Error(); s != x.s {
			t.Errorf("Error of %v = %q, not %q", x.f, s, x.s)
		}
		if err := x.f.Unwrap(); err != x.f.Err {
			t.Errorf("Unwrap of %v = %v", x.f, err)
		}
	}
}

func TestD1LineAndSays(t *testing.T) {
	fault := &Fault{7, api.ErrRange}
	odd := errors.New("odd")
	for _, x := range []struct {
		name string
		err  error
		line int
		e    api.Errno
	}{
		{"nil", nil, 0, api.OK},
		{"another error", odd, 0, api.OK},
		{"an error around another one", fmt.Errorf("a: %w", odd), 0, api.OK},
		{"an Errno", api.ErrFull, 0, api.ErrFull},
		{"an Errno that the program has no name for", api.Errno(99), 0, 99},
		{"OK", api.OK, 0, api.OK},
		{"an Errno wrapped", fmt.Errorf("a: %w", api.ErrNone), 0, api.ErrNone},
		{"an Errno wrapped among others", errors.Join(odd, api.ErrNone), 0, api.ErrNone},
		{"a Fault", fault, 7, api.ErrRange},
		{"a Fault wrapped", fmt.Errorf("a: %w", fault), 7, api.ErrRange},
		{"a Fault wrapped twice", fmt.Errorf("b: %w", fmt.Errorf("a: %w", fault)), 7, api.ErrRange},
		{"a Fault in a Fault", &Fault{2, fault}, 2, api.ErrRange},
		{"a Fault that wraps its Errno deeper", &Fault{2, fmt.Errorf("a: %w", api.ErrState)}, 2, api.ErrState},
		{"a Fault behind an Errno", errors.Join(api.ErrState, fault), 7, api.ErrRange},
		{"a Fault ahead of an Errno", errors.Join(fault, api.ErrState), 7, api.ErrRange},
		{"a Fault without an Errno", &Fault{7, odd}, 7, api.OK},
		{"a Fault of nothing", &Fault{7, nil}, 7, api.OK},
		{"no Fault at all", (*Fault)(nil), 0, api.OK},
		{"no Fault at all, wrapped", fmt.Errorf("a: %w", (*Fault)(nil)), 0, api.OK},
	} {
		if n, e := Line(x.err); n != x.line || e != x.e {
			t.Errorf("Line of %s = %d, %v, not %d, %v", x.name, n, e, x.line, x.e)
		}
		for e := api.Errno(-1); e < 100; e++ {
			if Says(x.err, e) != errors.Is(x.err, e) {
				t.Errorf("Says of %s, %v = %v", x.name, e, Says(x.err, e))
			}
		}
		if x.e != api.OK && !Says(x.err, x.e) {
			t.Errorf("%s does not say %v", x.name, x.e)
		}
	}
	for e := api.Errno(-1); e < 10; e++ {
		if Says(nil, e) || Says(odd, e) || Says(&Fault{1, nil}, e) || Says((*Fault)(nil), e) {
			t.Errorf("an error without an Errno says %v", e)
		}
	}
	both := errors.Join(api.ErrState, fault)
	if !Says(both, api.ErrState) || !Says(both, api.ErrRange) || Says(both, api.ErrForm) {
		t.Error("an error that wraps two does not say just these")
	}
}

// line is a range's text as the chapter writes it.
var line = regexp.MustCompile(`^([0-9A-F]{4,6})(?:\.\.([0-9A-F]{4,6}))?[ \t]*;[ \t]*([A-Za-z0-9_]{1,20})$`)

// saidOf is what a line says by the chapter's words, with the ranges of the lines ahead.
func saidOf(s string, ahead []api.Range) (r api.Range, nothing bool, e api.Errno) {
	if i := strings.IndexByte(s, '#'); i >= 0 {
		s = s[:i]
	}
	s = strings.Trim(s, " \t")
	if s == "" {
		return r, true, api.OK
	}
	m := line.FindStringSubmatch(s)
	if m == nil {
		return r, false, api.ErrForm
	}
	if m[2] == "" {
		m[2] = m[1]
	}
	first, _ := strconv.ParseInt(m[1], 16, 32)
	last, _ := strconv.ParseInt(m[2], 16, 32)
	if first > 0x10FFFF || last > 0x10FFFF || first > last {
		return r, false, api.ErrRange
	}
	r = api.Range{First: rune(first), Last: rune(last), Class: m[3]}
	for _, a := range ahead {
		if a.First <= r.Last && r.First <= a.Last {
			return r, false, api.ErrState
		}
	}
	if len(ahead) == 2000 {
		return r, false, api.ErrLarge
	}
	return r, false, api.OK
}

// said is what a text says by the chapter's words: its ranges, or a wrong line and its error.
func said(text string) (l []api.Range, at int, e api.Errno) {
	for i, s := range strings.Split(text, "\n") {
		r, nothing, e := saidOf(s, l)
		if e != api.OK {
			return nil, i + 1, e
		}
		if !nothing {
			l = append(l, r)
		}
	}
	slices.SortFunc(l, func(a, b api.Range) int { return cmp.Compare(a.First, b.First) })
	return l, 0, api.OK
}

// holdAgainst holds Parse of a text against the chapter's words.
func holdAgainst(t *testing.T, text string) ([]api.Range, api.Errno) {
	t.Helper()
	want, at, e := said(text)
	l, err := Parse(text)
	n, got := Line(err)
	if !slices.Equal(l, want) || n != at || got != e || (err == nil) != (e == api.OK) {
		t.Fatalf("Parse(%q) = %v, %v, not %v, %d, %v", text, l, err, want, at, e)
	}
	return l, e
}

// pieces are what lines are thrown together from.
var pieces = []string{
	"0041", "0042", "00043", "0044", "10FFFF", "110000", "41", "0000041", "00e9", "D800", "0000",
	"..", ".", ";", ";", " ", "\t", "#", "A", "B_1", "abcdefghijklmnopqrst", "abcdefghijklmnopqrstu", "\r", "\xC3", "\n",
}

// TestD1ParseOfAnything holds texts thrown together against the chapter's words.
func TestD1ParseOfAnything(t *testing.T) {
	random := rand.New(rand.NewSource(4))
	for range 100000 {
		text := ""
		for range random.Intn(12) {
			text += pieces[random.Intn(len(pieces))]
		}
		holdAgainst(t, text)
	}
}

// someLine is a line that is a range mostly, of a class from A to X, and that others may meet.
func someLine(random *rand.Rand) string {
	first := random.Intn(600)
	s := fmt.Sprintf("%0*X", 4+random.Intn(3), first)
	if random.Intn(2) == 0 {
		s += fmt.Sprintf("..%0*X", 4+random.Intn(3), first+random.Intn(8))
	}
	s += strings.Repeat(" ", random.Intn(2)) + ";" + strings.Repeat("\t", random.Intn(2)) + string(rune('A'+random.Intn(api.MaxClasses)))
	switch random.Intn(12) {
	case 0:
		s += " # remark"
	case 1:
		s = "#" + s
	case 2:
		s = ""
	}
	return s
}

// TestFollowsNewTakesWhatParseTells: what Parse tells, New takes, if classes has all names; and each character is of the class that its one range says.
func TestFollowsNewTakesWhatParseTells(t *testing.T) {
	classes := strings.Split("X A B C D E F G H I J K L M N O P Q R S T U V W", " ")
	random := rand.New(rand.NewSource(14))
	taken := 0
	for range 3000 {
		var lines []string
		for range random.Intn(20) {
			lines = append(lines, someLine(random))
		}
		l, e := holdAgainst(t, strings.Join(lines, "\n"))
		if e != api.OK {
			continue
		}
		taken++
		table, e := New(l, classes)
		if e != api.OK {
			t.Fatalf("New of what Parse tells of %q: %v", lines, e)
		}
		for c := rune(-2); c < 620; c++ {
			want, of := 0, 0
			for _, r := range l {
				if r.First <= c && c <= r.Last {
					want, of = slices.Index(classes, r.Class), of+1
				}
			}
			if got := table.Class(c); of > 1 || got != want {
				t.Fatalf("Class(%X) by %v = %d, not %d (in %d ranges)", c, l, got, want, of)
			}
		}
	}
	if taken < 100 {
		t.Errorf("only %d texts were right", taken)
	}
}

func TestFollowsOfRight(t *testing.T) {
	for _, x := range right {
		l, _ := Parse(x.text)
		classes := []string{"Other"}
		for _, r := range l {
			if !slices.Contains(classes, r.Class) {
				classes = append(classes, r.Class)
			}
		}
		if _, e := New(l, classes); e != api.OK {
			t.Errorf("New of Parse(%q): %v", x.text, e)
		}
	}
	l, err := Parse(many(2000))
	table, e := New(l, []string{"Other", "A"})
	if err != nil || e != api.OK {
		t.Fatal(err, e)
	}
	for c := rune(0); c < 5000; c++ {
		want := 0
		if c >= 256 && c < 256+4000 && c%2 == 0 {
			want = 1
		}
		if got := table.Class(c); got != want {
			t.Fatalf("Class(%d) of 2000 ranges = %d, not %d", c, got, want)
		}
	}
}

// names is so many class names.
func names(n int) []string {
	var l []string
	for i := range n {
		l = append(l, "C"+strconv.Itoa(i))
	}
	return l
}

func TestD2NewOfClasses(t *testing.T) {
	for _, l := range [][]string{{"A"}, {"A", "a"}, {"_", "0", "Z9_z"}, {"abcdefghijklmnopqrst"}, names(23), names(24)} {
		if table, e := New(nil, l); e != api.OK || table == nil {
			t.Errorf("New(nil, %q): %v", l, e)
		}
	}
	for _, l := range [][]string{
		nil, {}, names(25), names(1000),
		{""}, {"A", ""}, {"abcdefghijklmnopqrstu"}, {"A B"}, {"A "}, {" A"}, {"A", "B;"}, {"A", "\xC3\xA9"}, {"A", "B\n"}, {"A", "B\x00"},
		{"A-B"}, {"@"}, {"["}, {"`"}, {"{"}, {"/"}, {":"}, {"A", "."},
		{"A", "A"}, {"A", "B", "A"}, {"B", "A", "A"}, append(names(23), "C0"),
	} {
		if table, e := New(nil, l); e != api.ErrArg || table != nil {
			t.Errorf("New(nil, %q) = %v, %v, not ErrArg", l, table, e)
		}
	}
}

func TestD2NewOfRanges(t *testing.T) {
	good := api.Range{First: 'a', Last: 'z', Class: "B"}
	for _, x := range []struct {
		first, last rune
		class       string
		e           api.Errno
	}{
		{'A', 'Z', "A", api.OK},
		{'A', 'A', "B", api.OK},
		{0, 'a' - 1, "A", api.OK},
		{'z' + 1, api.MaxRune, "A", api.OK},
		{0, 0, "A", api.OK},
		{api.MaxRune, api.MaxRune, "A", api.OK},
		{0xD800, 0xDFFF, "A", api.OK},
		{-1, 'A', "A", api.ErrRange},
		{-1, -1, "A", api.ErrRange},
		{math.MinInt32, math.MaxInt32, "A", api.ErrRange},
		{'A', api.MaxRune + 1, "A", api.ErrRange},
		{api.MaxRune + 1, api.MaxRune + 1, "A", api.ErrRange},
		{'A', math.MaxInt32, "A", api.ErrRange},
		{'Z', 'A', "A", api.ErrRange},
		{1, 0, "A", api.ErrRange},
		{0, -1, "A", api.ErrRange},
		{'b', 'a', "no name", api.ErrRange},
		{'a', 'a', "A", api.ErrState},
		{'z', 'z', "A", api.ErrState},
		{'m', 'n', "B", api.ErrState},
		{'a', 'z', "B", api.ErrState},
		{'A', 'a', "A", api.ErrState},
		{'z', api.MaxRune, "A", api.ErrState},
		{0, api.MaxRune, "A", api.ErrState},
		{'m', 'm', "C", api.ErrState},
		{'A', 'Z', "C", api.ErrNone},
		{'A', 'Z', "", api.ErrNone},
		{'A', 'Z', "a", api.ErrNone},
		{'A', 'Z', "A ", api.ErrNone},
	} {
		r := api.Range{First: x.first, Last: x.last, Class: x.class}
		for _, l := range [][]api.Range{{r, good}, {good, r}} {
			table, e := New(l, []string{"A", "B"})
			if e != x.e || (table == nil) != (e != api.OK) {
				t.Errorf("New(%v) = %v, %v, not %v", l, table, e, x.e)
			}
		}
	}
}

// TestD2OrderOfErrors: of several errors the one written first in the chapter, wherever in the list its range stands.
func TestD2OrderOfErrors(t *testing.T) {
	strange := api.Range{First: 'x', Last: 'x', Class: "C"}
	meets := api.Range{First: 'a', Last: 'c', Class: "A"}
	outside := api.Range{First: -1, Last: 3, Class: "A"}
	for _, x := range []struct {
		l       []api.Range
		classes []string
		e       api.Errno
	}{
		{[]api.Range{strange, meets, meets, outside}, nil, api.ErrArg},
		{[]api.Range{outside, meets, strange, meets}, []string{"A", "A"}, api.ErrArg},
		{[]api.Range{strange, meets, meets, outside}, []string{"A"}, api.ErrRange},
		{[]api.Range{strange, outside}, []string{"A"}, api.ErrRange},
		{[]api.Range{meets, meets, outside}, []string{"A"}, api.ErrRange},
		{[]api.Range{strange, meets, meets}, []string{"A"}, api.ErrState},
		{[]api.Range{strange, strange}, []string{"A"}, api.ErrState},
		{[]api.Range{strange, meets}, []string{"A"}, api.ErrNone},
		{[]api.Range{meets, strange}, []string{"A"}, api.ErrNone},
	} {
		if table, e := New(x.l, x.classes); e != x.e || table != nil {
			t.Errorf("New(%v, %q) = %v, %v, not %v", x.l, x.classes, table, e, x.e)
		}
	}
}

// TestD2MeetingFarApart: two ranges that meet are known, though others stand between them in the list.
func TestD2MeetingFarApart(t *testing.T) {
	l := []api.Range{{First: 0, Last: 100, Class: "A"}, {First: 300, Last: 400, Class: "A"}, {First: 200, Last: 210, Class: "A"}}
	for _, r := range []api.Range{{First: 100, Last: 100}, {First: 150, Last: 200}, {First: 205, Last: 206}, {First: 210, Last: 299}, {First: 400, Last: 500}, {First: 150, Last: 450}} {
		r.Class = "A"
		for i := range len(l) + 1 {
			if _, e := New(slices.Insert(slices.Clone(l), i, r), []string{"A"}); e != api.ErrState {
				t.Errorf("New with %v at %d: %v, not ErrState", r, i, e)
			}
		}
	}
}

func TestD2Class(t *testing.T) {
	table, e := New([]api.Range{
		{First: 'a', Last: 'z', Class: "Low"},
		{First: 'A', Last: 'Z', Class: "High"},
		{First: 0, Last: 0, Class: "Zero"},
		{First: '{', Last: '{', Class: "High"},
		{First: '_', Last: '_', Class: "Other"},
		{First: 0xD700, Last: 0xE000, Class: "Zero"},
		{First: api.MaxRune, Last: api.MaxRune, Class: "Low"},
	}, []string{"Other", "High", "Zero", "Unused", "Low"})
	if e != api.OK {
		t.Fatal(e)
	}
	var l []rune
	var want []int
	for _, x := range []struct {
		c     rune
		class int
	}{
		{0, 2}, {1, 0}, {'A' - 1, 0}, {'A', 1}, {'M', 1}, {'Z', 1}, {'Z' + 1, 0}, {'_', 0}, {'a' - 1, 0}, {'a', 4}, {'m', 4}, {'z', 4}, {'{', 1}, {'|', 0},
		{0xD6FF, 0}, {0xD700, 2}, {0xD800, 2}, {0xDFFF, 2}, {0xE000, 2}, {0xE001, 0},
		{api.MaxRune - 1, 0}, {api.MaxRune, 4}, {api.MaxRune + 1, 0}, {-1, 0}, {math.MinInt32, 0}, {math.MaxInt32, 0},
	} {
		if n := table.Class(x.c); n != x.class {
			t.Errorf("Class(%X) = %d, not %d", x.c, n, x.class)
		}
		l = append(l, x.c, x.c)
		want = append(want, x.class, x.class)
	}
	if got := table.Classes(l); !slices.Equal(got, want) {
		t.Errorf("Classes(%X) = %v, not %v", l, got, want)
	}
	if len(table.Classes(nil)) != 0 || len(table.Classes([]rune{})) != 0 {
		t.Error("Classes of nothing has items")
	}
}

func TestD2ClassOfNoRanges(t *testing.T) {
	for _, l := range [][]api.Range{nil, {}} {
		table, e := New(l, []string{"A", "B"})
		if e != api.OK || table.Class('a') != 0 || table.Class(-1) != 0 || !slices.Equal(table.Classes([]rune("ab")), []int{0, 0}) {
			t.Errorf("a table of no ranges: %v, %v", table, e)
		}
	}
}

func TestD2ClassOfAll(t *testing.T) {
	table, e := New([]api.Range{{First: 0, Last: api.MaxRune, Class: "C23"}}, names(24))
	if e != api.OK {
		t.Fatal(e)
	}
	for c := rune(-10); c < api.MaxRune+10; c++ {
		want := 0
		if 0 <= c && c <= api.MaxRune {
			want = 23
		}
		if n := table.Class(c); n != want {
			t.Fatalf("Class(%X) = %d, not %d", c, n, want)
		}
	}
}

// TestD2ManyRanges: New takes more ranges than a text may have, in whatever order.
func TestD2ManyRanges(t *testing.T) {
	var l []api.Range
	for c := rune(0); c < 200000; c += 2 {
		l = append(l, api.Range{First: c, Last: c, Class: "C" + strconv.Itoa(int(c)%24)})
	}
	rand.New(rand.NewSource(24)).Shuffle(len(l), func(i, j int) { l[i], l[j] = l[j], l[i] })
	table, e := New(l, names(24))
	if e != api.OK {
		t.Fatal(e)
	}
	for c := rune(0); c < 200010; c++ {
		want := 0
		if c < 200000 && c%2 == 0 {
			want = int(c) % 24
		}
		if n := table.Class(c); n != want {
			t.Fatalf("Class(%d) = %d, not %d", c, n, want)
		}
	}
}

// TestNothingIsKept: what is handed in stays, and may be written over, and so may what is answered (R1); two objects have nothing to do with each other (R3).
func TestNothingIsKept(t *testing.T) {
	l := []api.Range{{First: 'x', Last: 'z', Class: "B"}, {First: 'a', Last: 'c', Class: "A"}}
	classes := []string{"Other", "A", "B"}
	was, names := slices.Clone(l), slices.Clone(classes)
	table, _ := New(l, classes)
	if !slices.Equal(l, was) || !slices.Equal(classes, names) {
		t.Error("New wrote over what it was handed")
	}
	l[0], l[1] = api.Range{}, api.Range{First: 0, Last: api.MaxRune, Class: "B"}
	classes[0], classes[1], classes[2] = "B", "C", "D"
	other, _ := New([]api.Range{{First: 'a', Last: 'z', Class: "A"}}, []string{"A"})
	text := []rune("ayq")
	places := table.Classes(text)
	if string(text) != "ayq" || !slices.Equal(places, []int{1, 2, 0}) {
		t.Errorf("Classes = %v of %q", places, string(text))
	}
	places[0], text[0] = 9, 'q'
	if table.Class('a') != 1 || other.Class('a') != 0 || !slices.Equal(table.Classes([]rune("ayq")), []int{1, 2, 0}) {
		t.Error("a table changed with what it was handed, or has answered")
	}

	first, _ := Parse("0041;A\n0043;B")
	first[0], first[1] = api.Range{}, api.Range{}
	if again, _ := Parse("0041;A\n0043;B"); again[0].First != 'A' || again[1].Class != "B" {
		t.Error("Parse changed with what it has answered")
	}
	_, err := Parse("x")
	var f *Fault
	errors.As(err, &f)
	f.Line, f.Err = 9, api.ErrFull
	if n, e := lineOf("x"); n != 1 || e != api.ErrForm {
		t.Error("Parse changed with a Fault that it has answered")
	}
}

// lineOf is what is wrong with a text.
func lineOf(text string) (int, api.Errno) {
	_, err := Parse(text)
	return Line(err)
}

// FuzzParse holds any text against the chapter's words.
func FuzzParse(f *testing.F) {
	for _, x := range right {
		f.Add(x.text)
	}
	for _, s := range slices.Concat(formless, rangeless) {
		f.Add(s)
	}
	f.Fuzz(func(t *testing.T, text string) { holdAgainst(t, text) })
}
