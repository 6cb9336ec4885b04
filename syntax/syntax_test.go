package syntax_test

import (
	"math"
	"slices"
	"strconv"
	"strings"
	"testing"

	"armplan/api"
	"armplan/syntax"
	"armplan/token"
)

// words are the first words of the table.
var words = []string{"joint", "limit", "mass", "shape", "skip"}

// permitted lists, for each of them, the numbers of arguments that it may have.
var permitted = [][]int{{9}, {4}, {5}, {5, 8, 11, 14, 17, 20, 23, 26}, {2}}

// unknown are words that are not in the table.
var unknown = []string{"", "Skip", "skips", "ski", "skip ", " skip", "JOINT", "joints", "point", "world", "fixed", "turnz", "a", "0", "9", "-", "\x00", "\xff", "é"}

// source yields numbers by a fixed rule.
type source struct{ state uint64 }

// below returns a number from 0 to n - 1.
func (s *source) below(n int) int {
	s.state = s.state*6364136223846793005 + 1442695040888963407
	return int(s.state >> 33 % uint64(n))
}

// pick returns one of the texts.
func (s *source) pick(texts []string) string {
	return texts[s.below(len(texts))]
}

// statement returns a statement of a line.
func statement(line int, word string, args ...string) api.Statement {
	return api.Statement{Line: line, Word: word, Args: args}
}

// equal reports whether two lists have the same statements.
func equal(a, b []api.Statement) bool {
	return slices.EqualFunc(a, b, func(x, y api.Statement) bool {
		return x.Line == y.Line && x.Word == y.Word && slices.Equal(x.Args, y.Args)
	})
}

// parses fails the test unless Parse returns the statements without an error.
func parses(t *testing.T, src string, want ...api.Statement) {
	t.Helper()
	got, err := syntax.Parse(src)
	if err != (api.SourceError{}) || !equal(got, want) {
		t.Errorf("Parse(%q) = %v, %v; want %v", src[:min(len(src), 200)], got, err, want)
	}
}

// refuses fails the test unless Parse returns the error with the line, and no statements.
func refuses(t *testing.T, src string, code api.Errno, line int) {
	t.Helper()
	got, err := syntax.Parse(src)
	if err != (api.SourceError{Err: code, Line: line}) || len(got) != 0 {
		t.Errorf("Parse(%q) = %v, %v; want %d in line %d", src[:min(len(src), 200)], got, err, code, line)
	}
}

// with returns a line with a first word and n arguments.
func with(word string, n int) string {
	return word + strings.Repeat(" a", n)
}

// TestArguments checks P7.1: the numbers of arguments that each word may have, and no others.
func TestArguments(t *testing.T) {
	for i, word := range words {
		for n := -100; n < 300; n++ {
			if got, want := syntax.Arguments(word, n), slices.Contains(permitted[i], n); got != want {
				t.Errorf("Arguments(%q, %d) = %v", word, n, got)
			}
		}
	}
	if last := permitted[3][api.MaxPoints-1]; len(permitted[3]) != api.MaxPoints || last != 2+3*api.MaxPoints {
		t.Error("a shape of MaxPoints points has", last, "arguments")
	}
}

// TestArgumentsExtremes checks P7.1: no number far beyond is permitted, whatever its remainder.
func TestArgumentsExtremes(t *testing.T) {
	for _, word := range words {
		for d := range 30 {
			for _, n := range []int{math.MinInt + d, math.MaxInt - d, 1<<32 + d, -1<<32 + d} {
				if syntax.Arguments(word, n) {
					t.Errorf("Arguments(%q, %d)", word, n)
				}
			}
		}
	}
}

// TestArgumentsUnknown checks P7.1: a word that is not in the table may have no arguments at all, not even none.
func TestArgumentsUnknown(t *testing.T) {
	for _, word := range unknown {
		for n := -10; n < 40; n++ {
			if syntax.Arguments(word, n) {
				t.Errorf("Arguments(%q, %d)", word, n)
			}
		}
	}
}

// TestParse checks P7.2: each line with a word is a statement with its line, its first word and the others.
func TestParse(t *testing.T) {
	parses(t, "skip a b # near", statement(1, "skip", "a", "b"))
	parses(t, "")
	parses(t, "\n \t\n# skip a b\n")
	parses(t, "\n\tskip\t a  b\t\n\nlimit base 1 2 3#4\n",
		statement(2, "skip", "a", "b"), statement(4, "limit", "base", "1", "2", "3"))
	parses(t, "joint base turnz world 0 0 0 -0.25 0.25 1", statement(1, "joint", "base", "turnz", "world", "0", "0", "0", "-0.25", "0.25", "1"))
	parses(t, "mass base 1 0 -2.5 0\nmass base 1 0 -2.5 0",
		statement(1, "mass", "base", "1", "0", "-2.5", "0"), statement(2, "mass", "base", "1", "0", "-2.5", "0"))
	parses(t, "shape world 1 0 0 0\nshape base 2 1 2 3 4 5 6",
		statement(1, "shape", "world", "1", "0", "0", "0"), statement(2, "shape", "base", "2", "1", "2", "3", "4", "5", "6"))
}

// TestParseWords checks P7.2: the arguments may be any words; what they mean is not looked at.
func TestParseWords(t *testing.T) {
	parses(t, "skip skip skip\nskip ~!\"$ 1.5.5.5", statement(1, "skip", "skip", "skip"), statement(2, "skip", "~!\"$", "1.5.5.5"))
	parses(t, "limit joint mass shape limit", statement(1, "limit", "joint", "mass", "shape", "limit"))
	long := strings.Repeat("w", api.MaxText-len("skip a "))
	parses(t, "skip a "+long, statement(1, "skip", "a", long))
}

// TestParseCounts checks P7.2 and P7.1: every number of arguments of every word is accepted or refused.
func TestParseCounts(t *testing.T) {
	for i, word := range words {
		for n := range 60 {
			src := "# first\n\n" + with(word, n) + " # last"
			if slices.Contains(permitted[i], n) {
				parses(t, src, statement(3, word, slices.Repeat([]string{"a"}, n)...))
				continue
			}
			refuses(t, src, api.ErrArguments, 3)
		}
	}
}

// TestParseUnknown checks P7.2: a first word that is not in the table, whatever the number of arguments; words are compared bytewise.
func TestParseUnknown(t *testing.T) {
	for _, word := range []string{"Skip", "skips", "ski", "s", "JOINT", "jointt", "point", "world", "a", "9", "-", "skip,", "!skip", "skip:"} {
		for n := range 30 {
			refuses(t, "skip a b\n\n "+with(word, n)+"\nskip", api.ErrWord, 3)
		}
	}
	// What follows the byte # belongs to no word.
	refuses(t, "ski#p a b", api.ErrWord, 1)
}

// TestParseText checks P7.2: an error of token.Split comes before all others, with its line.
func TestParseText(t *testing.T) {
	refuses(t, "skip a b\nskip a \x00b", api.ErrText, 2)
	refuses(t, "unknown\nskip\n\nskip a é", api.ErrText, 4)
	refuses(t, "skip a b\r\n", api.ErrText, 1)
	refuses(t, strings.Repeat("skip a b\n", api.MaxStatements+1)+"\x7f", api.ErrText, api.MaxStatements+2)
	refuses(t, "unknown"+strings.Repeat("\n", api.MaxText), api.ErrText, 0)
	refuses(t, "skip a b"+strings.Repeat(" ", api.MaxText-7), api.ErrText, 0)
	parses(t, "skip a b"+strings.Repeat(" ", api.MaxText-8), statement(1, "skip", "a", "b"))
	parses(t, "skip a b#\x00\r\xff", statement(1, "skip", "a", "b"))
}

// TestParseOrder checks P7.2: the first statement with an error counts, and of its errors the first one of the list.
func TestParseOrder(t *testing.T) {
	refuses(t, "skip a\nunknown", api.ErrArguments, 1)
	refuses(t, "unknown\nskip a", api.ErrWord, 1)
	refuses(t, "skip a b\nskip a b c\nskip", api.ErrArguments, 2)
	refuses(t, "unknown a b", api.ErrWord, 1)
	// An error before the statement that is too much comes first; in this statement it does not count.
	many := strings.Repeat("skip a b\n", api.MaxStatements-1)
	refuses(t, many+"skip a\nskip a b\n", api.ErrArguments, api.MaxStatements)
	refuses(t, many+"unknown\nskip a b\n", api.ErrWord, api.MaxStatements)
	for _, last := range []string{"skip a b", "skip a", "unknown", "unknown a b c"} {
		refuses(t, many+"skip a b\n\n"+last+"\nskip a b\n", api.ErrStatements, api.MaxStatements+2)
	}
}

// TestParseLimit checks P7.2: MaxStatements statements are accepted, and the line of the next one is reported; lines without words do not count.
func TestParseLimit(t *testing.T) {
	src := strings.Repeat("skip a b\n# none\n\n", api.MaxStatements)
	got, err := syntax.Parse(src)
	if err != (api.SourceError{}) || len(got) != api.MaxStatements {
		t.Fatal(len(got), err)
	}
	for i, s := range got {
		if want := statement(3*i+1, "skip", "a", "b"); !equal([]api.Statement{s}, []api.Statement{want}) {
			t.Fatal(i, s)
		}
	}
	refuses(t, src+"skip a b", api.ErrStatements, 3*api.MaxStatements+1)
	refuses(t, src+"\n\n\t skip a b\nskip a b\n", api.ErrStatements, 3*api.MaxStatements+3)
	refuses(t, strings.Repeat("a\n", api.MaxText/2), api.ErrWord, 1)
}

// TestParseFresh checks P7.2 with R3: no list of a result shares memory with another one, or with that of another call.
func TestParseFresh(t *testing.T) {
	src := "skip a b\nlimit a 1 2 3\nskip c d"
	want := []api.Statement{statement(1, "skip", "a", "b"), statement(2, "limit", "a", "1", "2", "3"), statement(3, "skip", "c", "d")}
	for i := range want {
		got, _ := syntax.Parse(src)
		_ = append(got[i].Args, "x", "y", "z", "x", "y", "z")
		if !equal(got, want) {
			t.Error("appending to arguments", i, got)
		}
		clear(got[i].Args[:cap(got[i].Args)])
		got[i].Args = want[i].Args
		if !equal(got, want) {
			t.Error("writing to arguments", i, got)
		}
		clear(got)
	}
	parses(t, src, want...)
}

// byLines reads a description line by line: the lines of strings.Split without their comments, and their fields.
func byLines(src string) ([]api.Statement, api.SourceError) {
	if _, err := token.Split(src); err.Err != api.OK {
		return nil, err
	}
	var l []api.Statement
	for i, text := range strings.Split(src, "\n") {
		text, _, _ = strings.Cut(text, "#")
		fields := strings.Fields(text)
		if len(fields) == 0 {
			continue
		}
		place := slices.Index(words, fields[0])
		switch {
		case len(l) == api.MaxStatements:
			return nil, api.SourceError{Err: api.ErrStatements, Line: i + 1}
		case place < 0:
			return nil, api.SourceError{Err: api.ErrWord, Line: i + 1}
		case !slices.Contains(permitted[place], len(fields)-1):
			return nil, api.SourceError{Err: api.ErrArguments, Line: i + 1}
		}
		l = append(l, statement(i+1, fields[0], fields[1:]...))
	}
	return l, api.SourceError{}
}

// line returns a line that rarely has an error.
func (s *source) line() string {
	gap := func() string { return s.pick([]string{" ", " ", "\t", "  ", " \t "}) }
	kind := s.below(len(words))
	word, n := words[kind], permitted[kind][s.below(len(permitted[kind]))]
	switch s.below(60) {
	case 0:
		word = s.pick([]string{"skipp", "x", "Joint", "-1"})
	case 1:
		n = s.below(30)
	case 2:
		return s.pick([]string{"", " ", "#", "# skip", "\t#\xff"})
	case 3:
		word = s.pick([]string{"skip\r", "é", word + "#"})
	}
	text := s.pick([]string{"", " ", "\t\t"}) + word
	for range n {
		text += gap() + s.pick([]string{"a", "b_1", "-1.5", "0", "world", "skip", "~"})
	}
	return text + s.pick([]string{"", "", " ", "#", " # near", "\t"})
}

// TestParseAgainstLines checks P7.2 and P7.4: random descriptions have the statements and errors of their lines, and those that are accepted are read back from what Format writes.
func TestParseAgainstLines(t *testing.T) {
	s := &source{state: 71}
	seen := map[api.Errno]int{}
	for round := range 4000 {
		var lines []string
		for range s.below(12) {
			lines = append(lines, s.line())
		}
		if round%10 == 0 {
			short := strings.Repeat("skip a b\n\n", api.MaxStatements-6)
			lines = append([]string{short}, lines...)
		}
		src := strings.Join(lines, "\n")
		got, err := syntax.Parse(src)
		want, wantErr := byLines(src)
		if err != wantErr || !equal(got, want) {
			t.Fatalf("Parse(%q) = %v, %v; want %v, %v", src, got, err, want, wantErr)
		}
		seen[err.Err]++
		if err.Err == api.OK {
			readsBack(t, got)
		}
	}
	for _, code := range []api.Errno{api.OK, api.ErrText, api.ErrStatements, api.ErrWord, api.ErrArguments} {
		if seen[code] < 20 {
			t.Error("too few descriptions with the code", code, seen[code])
		}
	}
}

// readsBack fails the test unless Parse returns the words and arguments of the statements from what Format writes, with consecutive lines.
func readsBack(t *testing.T, l []api.Statement) {
	t.Helper()
	var want []api.Statement
	for i, s := range l {
		want = append(want, statement(i+1, s.Word, s.Args...))
	}
	parses(t, syntax.Format(l), want...)
}

// TestFormat checks P7.3: words and arguments separated by single spaces, and a line feed after each statement, whatever its line.
func TestFormat(t *testing.T) {
	for _, c := range []struct {
		l    []api.Statement
		want string
	}{
		{nil, ""},
		{[]api.Statement{}, ""},
		{[]api.Statement{statement(1, "skip", "a", "b")}, "skip a b\n"},
		{[]api.Statement{statement(9, "limit", "a", "1", "2", "3"), statement(2, "skip", "b", "a")}, "limit a 1 2 3\nskip b a\n"},
		{[]api.Statement{statement(0, "skip")}, "skip\n"},
		// Statements that Parse does not return are written in the same way.
		{[]api.Statement{{}}, "\n"},
		{[]api.Statement{{}, statement(-1, "x", "")}, "\nx \n"},
		{[]api.Statement{statement(1, "", "", "a", "")}, "  a \n"},
		{[]api.Statement{statement(1, "a b", "c\n", "# d", "\xff")}, "a b c\n # d \xff\n"},
	} {
		if got := syntax.Format(c.l); got != c.want {
			t.Errorf("Format(%v) = %q, want %q", c.l, got, c.want)
		}
	}
}

// TestFormatMany checks P7.3 with more statements and arguments than a description may have.
func TestFormatMany(t *testing.T) {
	args := make([]string, 100)
	for i := range args {
		args[i] = strconv.Itoa(i)
	}
	got := syntax.Format(slices.Repeat([]api.Statement{statement(1, "any", args...)}, 1000))
	if want := strings.Repeat("any "+strings.Join(args, " ")+"\n", 1000); got != want {
		t.Error("a long list of statements")
	}
}

// TestReadBack checks P7.4: every form of every statement is read back with the lines 1, 2, 3 and so on.
func TestReadBack(t *testing.T) {
	src := ""
	for i, word := range words {
		for _, n := range permitted[i] {
			src += "\n \t" + strings.ReplaceAll(with(word, n), " ", "  ") + "\t# comment\n#\n"
		}
	}
	l, err := syntax.Parse(src)
	if err.Err != api.OK || len(l) != len(words)-1+api.MaxPoints {
		t.Fatal(len(l), err)
	}
	readsBack(t, l)
	l, err = syntax.Parse(strings.Repeat("skip a b\n", api.MaxStatements))
	if err.Err != api.OK || len(l) != api.MaxStatements {
		t.Fatal(len(l), err)
	}
	readsBack(t, l)
	readsBack(t, nil)
}

// TestReadBackLongest checks P7.4 with a description of MaxText bytes that ends in a line feed.
func TestReadBackLongest(t *testing.T) {
	src := "skip a " + strings.Repeat("w", api.MaxText-len("skip a \n")) + "\n"
	l, err := syntax.Parse(src)
	if err.Err != api.OK || syntax.Format(l) != src {
		t.Fatal(len(l), err)
	}
	readsBack(t, l)
}

// TestFormatLongest checks P7.3: the last statement ends in a line feed, too, even if the text then has a byte more than a description may have.
func TestFormatLongest(t *testing.T) {
	src := "skip a " + strings.Repeat("w", api.MaxText-len("skip a "))
	l, err := syntax.Parse(src)
	if err.Err != api.OK || syntax.Format(l) != src+"\n" {
		t.Error(len(l), err)
	}
}

// TestFormatKeeps checks P7.3 with R3: the arguments are not changed, nor is the memory behind them.
func TestFormatKeeps(t *testing.T) {
	args := []string{"a", "b", "c", "d"}
	l := []api.Statement{statement(7, "skip", args[:2]...), statement(3, "limit", args[2:]...)}
	before := []api.Statement{statement(7, "skip", "a", "b"), statement(3, "limit", "c", "d")}
	syntax.Format(l)
	syntax.Uses(l, "skip")
	if !slices.Equal(args, []string{"a", "b", "c", "d"}) || !equal(l, before) {
		t.Error(args, l)
	}
}

// TestUses checks P7.3: the indices of the statements with a word, in ascending order.
func TestUses(t *testing.T) {
	l := []api.Statement{
		statement(1, "skip", "a", "b"), statement(2, "limit", "skip", "1", "2", "3"), statement(4, "skip", "limit", "c"),
		statement(5, "mass"), statement(9, "skip"), statement(3, ""), statement(7, "Skip"),
	}
	for word, want := range map[string][]int{
		"skip": {0, 2, 4}, "limit": {1}, "mass": {3}, "": {5}, "Skip": {6}, "joint": nil, "ski": nil, "skip ": nil, "a": nil, "SKIP": nil,
	} {
		if got := syntax.Uses(l, word); !slices.Equal(got, want) {
			t.Errorf("Uses(%q) = %v, want %v", word, got, want)
		}
		if got := syntax.Uses(nil, word); len(got) != 0 {
			t.Errorf("Uses of nothing (%q) = %v", word, got)
		}
	}
	first := syntax.Uses(l, "skip")
	first[0] = 7
	if got := syntax.Uses(l, "skip"); !slices.Equal(got, []int{0, 2, 4}) {
		t.Error("a result is changed by another one", got)
	}
}

// TestUsesOfParse checks P7.3: the uses of all words of a description are its statements, each once.
func TestUsesOfParse(t *testing.T) {
	s := &source{state: 73}
	for range 200 {
		var l []api.Statement
		for i := range s.below(40) {
			l = append(l, statement(i+1, s.pick(words)))
		}
		var all []int
		for _, word := range words {
			uses := syntax.Uses(l, word)
			if !slices.IsSorted(uses) {
				t.Fatal(uses)
			}
			for _, i := range uses {
				if l[i].Word != word {
					t.Fatal(word, i, l[i])
				}
			}
			all = append(all, uses...)
		}
		slices.Sort(all)
		if len(slices.Compact(all)) != len(l) || len(all) != len(l) {
			t.Fatal(all, len(l))
		}
	}
}
