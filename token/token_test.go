package token_test

import (
	"math"
	"math/big"
	"slices"
	"strconv"
	"strings"
	"testing"

	"armplan/api"
	"armplan/token"
)

const (
	least    = math.MinInt64
	greatest = math.MaxInt64
)

// source yields numbers by a fixed rule.
type source struct{ state uint64 }

// below returns a number from 0 to n - 1.
func (s *source) below(n int) int {
	s.state = s.state*6364136223846793005 + 1442695040888963407
	return int(s.state >> 33 % uint64(n))
}

// text returns a text of count parts of the alphabet.
func (s *source) text(alphabet []string, count int) string {
	var b strings.Builder
	for range count {
		b.WriteString(alphabet[s.below(len(alphabet))])
	}
	return b.String()
}

// word returns a word at a place.
func word(text string, line, column int) api.Word {
	return api.Word{Text: text, Line: line, Column: column}
}

// splits fails the test unless Split returns the words without an error.
func splits(t *testing.T, src string, want ...api.Word) {
	t.Helper()
	got, err := token.Split(src)
	if err != (api.SourceError{}) || !slices.Equal(got, want) {
		t.Errorf("Split(%q) = %v, %v; want %v", src, got, err, want)
	}
}

// refuses fails the test unless Split returns ErrText with the line and no words.
func refuses(t *testing.T, src string, line int) {
	t.Helper()
	got, err := token.Split(src)
	if err != (api.SourceError{Err: api.ErrText, Line: line}) || len(got) != 0 {
		t.Errorf("Split(%q) = %v, %v; want line %d", src[:min(len(src), 50)], got, err, line)
	}
}

// TestSplitWords checks P6.1: words with their lines and columns, between spaces, tabs, line feeds and comments.
func TestSplitWords(t *testing.T) {
	splits(t, "")
	splits(t, " \t \n\n\t")
	splits(t, "a b#c", word("a", 1, 1), word("b", 1, 3))
	splits(t, "joint", word("joint", 1, 1))
	splits(t, "\tone\t\ttwo  three ", word("one", 1, 2), word("two", 1, 7), word("three", 1, 12))
	splits(t, "a\nb\n\n c", word("a", 1, 1), word("b", 2, 1), word("c", 4, 2))
	splits(t, "a\nb\n", word("a", 1, 1), word("b", 2, 1))
	splits(t, "-1.5 A_b!~\"$", word("-1.5", 1, 1), word("A_b!~\"$", 1, 6))
}

// TestSplitComments checks P6.1: a comment extends from the byte # to the end of its line and may contain any bytes.
func TestSplitComments(t *testing.T) {
	splits(t, "#")
	splits(t, "# a\nb # c # d\n#\ne", word("b", 2, 1), word("e", 4, 1))
	splits(t, "a# \x00\r\x7f\x80\xff\xc3\xa9 é 世\nb", word("a", 1, 1), word("b", 2, 1))
	// The first bytes of characters that the line feed cuts off.
	splits(t, "#\xe4\xb8\na", word("a", 2, 1))
	splits(t, "#\xf0\na", word("a", 2, 1))
	var all strings.Builder
	for b := range 256 {
		if b != '\n' {
			all.WriteByte(byte(b))
		}
	}
	splits(t, "x#"+all.String()+"\ny", word("x", 1, 1), word("y", 2, 1))
}

// TestSplitBytes checks P6.1: which bytes are permitted outside of comments, and which of them are word bytes.
func TestSplitBytes(t *testing.T) {
	for b := range 256 {
		text := string([]byte{byte(b)})
		switch {
		case b == ' ' || b == '\t':
			splits(t, "a"+text+"b", word("a", 1, 1), word("b", 1, 3))
		case b == '\n':
			splits(t, "a"+text+"b", word("a", 1, 1), word("b", 2, 1))
		case b == '#':
			splits(t, "a"+text+"b", word("a", 1, 1))
		case b >= 33 && b <= 126:
			splits(t, text, word(text, 1, 1))
			splits(t, " a"+text+"b", word("a"+text+"b", 1, 2))
		default:
			refuses(t, text, 1)
			refuses(t, "a\n b#\na"+text+"b", 3)
		}
	}
}

// TestSplitErrors checks P6.1: the line of the first byte that is not permitted, and no words with an error.
func TestSplitErrors(t *testing.T) {
	refuses(t, "a\r\nb", 1)
	refuses(t, "a\nb\rc\r\n", 2)
	refuses(t, "a # \x00\n\n b \x00 # c\n\x00", 3)
	refuses(t, "é", 1)
	refuses(t, "a\n世", 2)
	refuses(t, "\xff", 1)
	refuses(t, "a\nb\n\xe4\xb8\n", 3)
	// An invalid byte counts as the character U+FFFD, which is not permitted either.
	refuses(t, "\ufffd", 1)
	// No character that ends in the byte of a word byte, a space or a comment passes for it.
	for _, r := range []rune{0x120, 0x123, 0x141, 0x10041, 0x2028, 0xa0} {
		refuses(t, string(r), 1)
	}
}

// TestSplitLength checks P6.1: a description has at most MaxText bytes, comments and line feeds included.
func TestSplitLength(t *testing.T) {
	long := strings.Repeat("w", api.MaxText)
	splits(t, long, word(long, 1, 1))
	refuses(t, long+"w", 0)
	refuses(t, strings.Repeat("\n", api.MaxText+1), 0)
	refuses(t, "#"+long, 0)
	refuses(t, strings.Repeat("é", api.MaxText/2)+"a", 0)
	refuses(t, strings.Repeat("é", api.MaxText/2), 1)
	splits(t, strings.Repeat("\n", api.MaxText-1)+"a", word("a", api.MaxText, 1))
	splits(t, strings.Repeat(" ", api.MaxText-1)+"a", word("a", 1, api.MaxText))
	got, err := token.Split(strings.Repeat("a ", api.MaxText/2))
	if err.Err != api.OK || len(got) != api.MaxText/2 || got[api.MaxText/2-1] != word("a", 1, api.MaxText-1) {
		t.Error("a description of many words")
	}
}

// byBytes divides a description one byte at a time.
func byBytes(src string) ([]api.Word, api.SourceError) {
	var words []api.Word
	line, column, open, silent := 1, 1, false, false
	for i := range len(src) {
		b := src[i]
		isWord := b >= 33 && b <= 126 && b != '#' && !silent
		switch {
		case b == '\n':
			line, column, silent = line+1, 0, false
		case silent || b == ' ' || b == '\t':
		case b == '#':
			silent = true
		case !isWord:
			return nil, api.SourceError{Err: api.ErrText, Line: line}
		case open:
			words[len(words)-1].Text += string(rune(b))
		default:
			words = append(words, word(string(rune(b)), line, column))
		}
		open = isWord
		column++
	}
	return words, api.SourceError{}
}

// TestSplitAgainstBytes checks P6.1: random descriptions are divided as they are byte by byte.
func TestSplitAgainstBytes(t *testing.T) {
	s := &source{state: 61}
	alphabet := []string{"a", "Z", "0", "~", "!", "-", " ", " ", "\t", "\n", "\n", "#"}
	rare := []string{"a", "b", " ", "\n", "\n", "#", "\r", "é", "\x80", "\x00", "\x7f"}
	for round := range 20000 {
		src := s.text(alphabet, s.below(30))
		if round%2 == 0 {
			src += s.text(rare, s.below(10))
		}
		got, err := token.Split(src)
		want, wantErr := byBytes(src)
		if err != wantErr || !slices.Equal(got, want) {
			t.Fatalf("Split(%q) = %v, %v; want %v, %v", src, got, err, want, wantErr)
		}
	}
}

// TestSplitFresh checks P6.1 with R3: each call returns a new list.
func TestSplitFresh(t *testing.T) {
	first, _ := token.Split("a b")
	first[0] = word("changed", 7, 7)
	splits(t, "a b", word("a", 1, 1), word("b", 1, 3))
}

// TestNumber checks P6.2: the nearest integer. Two that are equally near do not occur: 65536 / 10^6 is 1024 / 5^6, and no multiple of it ends in a half.
func TestNumber(t *testing.T) {
	for s, want := range map[string]int64{
		"0": 0, "-0": 0, "00000": 0, "0.0": 0, "-0.000000": 0,
		"1": 65536, "-1": -65536, "00001": 65536, "-1.5": -98304, "1.500000": 98304, "12.25": 802816,
		"0.00002": 1, "0.000001": 0, "-0.000001": 0,
		// 65536 * 0.000007 is 0.458752, 65536 * 0.000008 is 0.524288, 65536 * 0.000022 is 1.441792, 65536 * 0.000023 is 1.507328.
		"0.000007": 0, "0.000008": 1, "-0.000007": 0, "-0.000008": -1, "0.000022": 1, "0.000023": 2,
		"0.015625": 1024, "0.999999": 65536, "0.99999": 65535, "-7.999999": -524288,
		"3.14159": 205887, "32767.99999": 2147483647, "32767.999999": 2147483648,
	} {
		if got, ok := token.Number(s); got != want || !ok {
			t.Errorf("Number(%q) = %d, %v; want %d", s, got, ok, want)
		}
	}
}

// TestNumberBounds checks P6.2: a result from -Max to Max is returned, and none beyond.
func TestNumberBounds(t *testing.T) {
	for _, s := range []string{"32768", "32768.0", "32768.000007"} {
		if got, ok := token.Number(s); got != api.Max || !ok {
			t.Error(s, got, ok)
		}
		if got, ok := token.Number("-" + s); got != -api.Max || !ok {
			t.Error("-"+s, got, ok)
		}
	}
	for _, s := range []string{"32768.000008", "32768.1", "32769", "65536", "99999", "99999.999999"} {
		for _, signed := range []string{s, "-" + s} {
			if got, ok := token.Number(signed); got != 0 || ok {
				t.Error(signed, got, ok)
			}
		}
	}
}

// TestNumberTexts checks P6.2: other texts are refused.
func TestNumberTexts(t *testing.T) {
	for _, s := range []string{
		"", "-", ".", "-.", "1.", "-1.", ".5", "-.5", "+1", "--1", "1-", "1.-5", "- 1", " 1", "1 ", "1.5.", "1.5.5", "1..5",
		"123456", "000001", "-000001", "1.1234567", "0.0000000", "1e3", "0x1", "1_0", "1,5", "a", "1a", "1.a", "1.5a", "\x00", "1\x00",
		"١", "1.٣", "１", "é", "\xff", "1.\xff", "Inf", "NaN", "−1", strings.Repeat("1", 1000), "1." + strings.Repeat("0", 1000),
	} {
		if got, ok := token.Number(s); got != 0 || ok {
			t.Errorf("Number(%q) = %d, %v", s, got, ok)
		}
	}
}

// rounded returns the fixed-point number that exact arithmetic yields for a decimal text of the right form.
func rounded(s string) (int64, bool) {
	x, _ := new(big.Rat).SetString(s)
	x.Mul(x, big.NewRat(65536, 1))
	size := new(big.Rat).Abs(x)
	size.Add(size, big.NewRat(1, 2))
	n := new(big.Int).Div(size.Num(), size.Denom()).Int64()
	if n > api.Max {
		return 0, false
	}
	return int64(x.Sign()) * n, true
}

// decimal reports whether s has the form of a number, as strconv and the counts of its bytes tell.
func decimal(s string) bool {
	if len(s) > 0 && s[0] == '-' {
		s = s[1:]
	}
	whole, part, pointed := strings.Cut(s, ".")
	return plain(whole, 5) && (!pointed || plain(part, 6))
}

// plain reports whether s is 1 to most digits.
func plain(s string, most int) bool {
	return len(s) >= 1 && len(s) <= most && strings.Trim(s, "0123456789") == ""
}

// TestNumberAgainstExact checks P6.2: all short texts of an alphabet and random longer ones are read as exact arithmetic says.
func TestNumberAgainstExact(t *testing.T) {
	alphabet := []string{"-", ".", "0", "1", "5", "9", "a"}
	check := func(s string) {
		var want int64
		wantOK := false
		if decimal(s) {
			want, wantOK = rounded(s)
		}
		if got, ok := token.Number(s); got != want || ok != wantOK {
			t.Fatalf("Number(%q) = %d, %v; want %d, %v", s, got, ok, want, wantOK)
		}
	}
	texts := []string{""}
	for range 5 {
		var longer []string
		for _, s := range texts {
			check(s)
			for _, a := range alphabet {
				longer = append(longer, s+a)
			}
		}
		texts = longer
	}
	s := &source{state: 62}
	figures := []string{"0", "1", "2", "3", "4", "5", "6", "7", "8", "9"}
	for range 20000 {
		text := s.text([]string{"", "-"}, 1) + s.text(figures, 1+s.below(6))
		if s.below(4) > 0 {
			text += "." + s.text(figures, s.below(8))
		}
		check(text)
	}
}

// TestFormat checks P6.3: the sign, the integer part, and up to five digits without trailing zeros.
func TestFormat(t *testing.T) {
	for n, want := range map[int64]string{
		0: "0", 65536: "1", -65536: "-1", 98304: "1.5", -98304: "-1.5", 655360: "10", -6553600: "-100",
		1: "0.00002", -1: "-0.00002", 2: "0.00003", 3: "0.00005", 6554: "0.10001", 6553: "0.09999", 13107: "0.2", 65535: "0.99998",
		32768: "0.5", 16384: "0.25", 8192: "0.125", 4096: "0.0625", 2048: "0.03125", -65537: "-1.00002",
		// 100000 / 64 is 1562.5, 3 * 100000 / 64 is 4687.5: of two that are equally near, the greater one.
		1024: "0.01563", 3072: "0.04688", -1024: "-0.01563", -3072: "-0.04688",
		api.Max: "32768", -api.Max: "-32768", api.Max - 1: "32767.99998", 1 - api.Max: "-32767.99998",
	} {
		if got := token.Format(n); got != want {
			t.Errorf("Format(%d) = %q, want %q", n, got, want)
		}
	}
}

// TestFormatBeyond checks P6.3: a number beyond -Max..Max is written as the nearest one within.
func TestFormatBeyond(t *testing.T) {
	for _, n := range []int64{api.Max + 1, 2 * api.Max, 1 << 40, greatest} {
		if got := token.Format(n); got != "32768" {
			t.Error(n, got)
		}
		if got := token.Format(-n); got != "-32768" {
			t.Error(-n, got)
		}
	}
	if got := token.Format(least); got != "-32768" {
		t.Error(got)
	}
}

// written returns the text of a number from -Max to Max, with the digits of the fraction from exact arithmetic.
func written(n int64) string {
	text := ""
	if n < 0 {
		text, n = "-", -n
	}
	text += strconv.FormatInt(n/65536, 10)
	if n%65536 == 0 {
		return text
	}
	hundredThousandths := new(big.Rat).Mul(big.NewRat(n%65536, 65536), big.NewRat(100000, 1))
	hundredThousandths.Add(hundredThousandths, big.NewRat(1, 2))
	digits := new(big.Int).Div(hundredThousandths.Num(), hundredThousandths.Denom()).String()
	for len(digits) < 5 {
		digits = "0" + digits
	}
	for digits[len(digits)-1] == '0' {
		digits = digits[:len(digits)-1]
	}
	return text + "." + digits
}

// TestFormatAgainstExact checks P6.3 with all fractions, and with random numbers.
func TestFormatAgainstExact(t *testing.T) {
	for f := range int64(65536) {
		for _, n := range []int64{f, -f, 7*65536 + f, f - 32768*65536} {
			if got, want := token.Format(n), written(n); got != want {
				t.Fatal(n, got, want)
			}
		}
	}
	s := &source{state: 63}
	for range 20000 {
		n := int64(s.below(1<<30))*5 - api.Max
		n = min(n, api.Max)
		if got, want := token.Format(n), written(n); got != want {
			t.Fatal(n, got, want)
		}
	}
}

// TestReadBack checks P6.5: Number reads what Format writes, with every fraction, with every integer part, and at random.
func TestReadBack(t *testing.T) {
	check := func(n int64) {
		if got, ok := token.Number(token.Format(n)); got != n || !ok {
			t.Fatal(n, token.Format(n), got, ok)
		}
	}
	for f := range int64(65536) {
		for _, whole := range []int64{0, 1, 9, 10, 255, 9999, 10000, 32767} {
			check(whole*65536 + f)
			check(-whole*65536 - f)
		}
	}
	for whole := range int64(32768) {
		for _, f := range []int64{0, 1, 2, 32767, 32768, 65535, 65536} {
			check(whole*65536 + f)
			check(-whole*65536 - f)
		}
	}
	s := &source{state: 64}
	for range 50000 {
		check(min(int64(s.below(1<<30))*5-api.Max, api.Max))
	}
}

// TestInteger checks P6.4: an optional minus sign and 1 to 15 digits denote an integer.
func TestInteger(t *testing.T) {
	for s, want := range map[string]int64{
		"0": 0, "-0": 0, "7": 7, "-7": -7, "000000000000007": 7, "-000000000000007": -7, "65536": 65536,
		"1099511627776": 1 << 40, "999999999999999": 999999999999999, "-999999999999999": -999999999999999, "123456789012345": 123456789012345,
	} {
		if got, ok := token.Integer(s); got != want || !ok {
			t.Errorf("Integer(%q) = %d, %v; want %d", s, got, ok, want)
		}
	}
	for _, s := range []string{
		"", "-", "--1", "+1", "1-", " 1", "1 ", "1.0", "1.", ".1", "1e3", "0x1", "1_000", "a", "1a", "a1", "1000000000000000", "0000000000000000",
		"-1000000000000000", "9223372036854775807", strings.Repeat("9", 1000), "١", "１", "\xff", "1\xff", "\x001", "−1",
	} {
		if got, ok := token.Integer(s); got != 0 || ok {
			t.Errorf("Integer(%q) = %d, %v", s, got, ok)
		}
	}
}

// TestIntegerAgainstStrconv checks P6.4: random texts are read as strconv reads them, if their form is right.
func TestIntegerAgainstStrconv(t *testing.T) {
	s := &source{state: 65}
	alphabet := []string{"0", "1", "2", "3", "4", "5", "6", "7", "8", "9"}
	for range 20000 {
		text := s.text([]string{"", "", "-", "x"}, 1) + s.text(alphabet, s.below(19))
		var want int64
		wantOK := plain(strings.TrimPrefix(text, "-"), 15)
		if wantOK {
			want, _ = strconv.ParseInt(text, 10, 64)
		}
		if got, ok := token.Integer(text); got != want || ok != wantOK {
			t.Fatal(text, got, ok, want, wantOK)
		}
	}
}

// TestName checks P6.4: which texts are names.
func TestName(t *testing.T) {
	for _, s := range []string{
		"a", "z", "joint", "arm2", "left_arm", "a_", "a__9", "a0", "z9", "worlds", "world_", "worl", "aworld", "world1", "abcdefghijklmnop", "a234567890123456",
	} {
		if !token.Name(s) {
			t.Errorf("%q is a name", s)
		}
	}
	for _, s := range []string{
		"", "world", "_", "_a", "1", "1a", "A", "aB", "Arm", "World", "a b", " a", "a ", "a-b", "a.b", "a#", "a\n", "a\x00", "\x00",
		"abcdefghijklmnopq", "a2345678901234567", strings.Repeat("a", 1000), "é", "aé", "a\xff", "\xff", "ａ", "a１",
	} {
		if token.Name(s) {
			t.Errorf("%q is not a name", s)
		}
	}
}

// TestNameBytes checks P6.4: which bytes a name may contain, as its first and as another one.
func TestNameBytes(t *testing.T) {
	for b := range 256 {
		text := string([]byte{byte(b)})
		letter := b >= 'a' && b <= 'z'
		if token.Name(text) != letter {
			t.Error("first", b)
		}
		other := letter || b >= '0' && b <= '9' || b == '_'
		if token.Name("a"+text) != other || token.Name("a"+text+"b") != other {
			t.Error("other", b)
		}
	}
}
