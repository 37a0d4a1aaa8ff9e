package lex

import (
	"fmt"
	"math"
	"math/big"
	"regexp"
	"slices"
	"strings"
	"testing"

	"marblerun/api"
)

func word(text string, at int) Token { return Token{Kind: Word, Text: text, At: at} }

func sign(text string, at int) Token { return Token{Kind: Sign, Text: text, At: at} }

func num(text string, n, at int) Token { return Token{Kind: Num, Text: text, N: n, At: at} }

func end(at int) Token { return Token{Kind: End, At: at} }

func fault(e api.Errno, at, line, column int) api.Fault {
	return api.Fault{Err: e, At: at, Line: line, Col: column}
}

// brief is a text for a message, however long it is.
func brief(s string) string {
	if len(s) > 60 {
		return fmt.Sprintf("%q.. (%d bytes)", s[:60], len(s))
	}
	return fmt.Sprintf("%q", s)
}

// wantTokens: s is these tokens, and beside them all of the fault is 0.
func wantTokens(t *testing.T, s string, want ...Token) {
	t.Helper()
	l, f := Tokens([]byte(s))
	if f != (api.Fault{}) {
		t.Errorf("%s: fault %v", brief(s), f)
	}
	if !slices.Equal(l, want) {
		t.Errorf("%s: %d tokens, %s", brief(s), len(l), brief(fmt.Sprint(l)))
	}
}

// wantFault: s has this fault, and beside it there are no tokens.
func wantFault(t *testing.T, s string, want api.Fault) {
	t.Helper()
	l, f := Tokens([]byte(s))
	if f != want {
		t.Errorf("%s: fault %v, not %v", brief(s), f, want)
	}
	if len(l) != 0 {
		t.Errorf("%s: %d tokens beside a fault", brief(s), len(l))
	}
}

func TestKinds(t *testing.T) { // the types of the chapter
	kinds := [4]byte{End, Word, Num, Sign}
	if kinds != [4]byte{0, 1, 2, 3} {
		t.Error(kinds)
	}
}

func TestExample(t *testing.T) { // P4.1
	wantTokens(t, "a->b", word("a", 0), sign("->", 1), word("b", 3), end(4))
}

func TestNoTokens(t *testing.T) { // P4.1
	wantTokens(t, "", end(0))
	if l, f := Tokens(nil); f != (api.Fault{}) || !slices.Equal(l, []Token{end(0)}) {
		t.Error(l, f)
	}
	for _, s := range []string{
		" ", "\t", "\r", "\n", " \t\r\n", "\n\n\n", "#", "##", "# a", "#\n", "# a\n", "\n#", " # \n\t# \r\n ", "#a\r", "#\x00\x80\xff A-\n",
		"#" + strings.Repeat("x", 100000), strings.Repeat("#\n", 100000), strings.Repeat(" ", 100000),
	} {
		wantTokens(t, s, end(len(s)))
	}
}

func TestWords(t *testing.T) { // P4.1
	long := strings.Repeat("a.9z", 50000)
	for _, s := range []string{"a", "z", "m", "abc", "a0", "a9", "a.", "a..", "a.b", "z9.0a", "place", "trans", "abcdefghijklm", long} {
		wantTokens(t, s, word(s, 0), end(len(s)))
	}
	wantTokens(t, "a b\tc\rd\ne", word("a", 0), word("b", 2), word("c", 4), word("d", 6), word("e", 8), end(9))
	wantTokens(t, "a#b\nc", word("a", 0), word("c", 4), end(5))
	wantTokens(t, "a.#.\nb", word("a.", 0), word("b", 5), end(6))
}

func TestSigns(t *testing.T) { // P4.1
	for _, s := range []string{";", ":", ",", "*", "!", "~", "@", "=", "->"} {
		wantTokens(t, s, sign(s, 0), end(len(s)))
		wantTokens(t, s+s, sign(s, 0), sign(s, len(s)), end(2*len(s)))
		wantTokens(t, "a"+s+"1 ", word("a", 0), sign(s, 1), num("1", 1, 1+len(s)), end(3+len(s)))
	}
	wantTokens(t, "->->#->", sign("->", 0), sign("->", 2), end(7))
}

func TestArrowWithoutOneHalf(t *testing.T) { // P4.1
	wantFault(t, "-", fault(api.ErrSyntax, 0, 1, 1))
	wantFault(t, "a -", fault(api.ErrSyntax, 2, 1, 3))
	wantFault(t, "- >", fault(api.ErrSyntax, 0, 1, 1))
	wantFault(t, "-\n>", fault(api.ErrSyntax, 0, 1, 1))
	wantFault(t, "-#\n>", fault(api.ErrSyntax, 0, 1, 1))
	wantFault(t, "-->", fault(api.ErrSyntax, 0, 1, 1))
	wantFault(t, "->>", fault(api.ErrSyntax, 2, 1, 3))
	wantFault(t, "->-", fault(api.ErrSyntax, 2, 1, 3))
	wantFault(t, "-1", fault(api.ErrSyntax, 0, 1, 1))
	wantFault(t, ">", fault(api.ErrSyntax, 0, 1, 1))
	wantFault(t, "=>", fault(api.ErrSyntax, 1, 1, 2))
}

// TestWordsBesideNumbers: a Word takes the digits that follow it, a Num no letters (P4.1).
func TestWordsBesideNumbers(t *testing.T) {
	wantTokens(t, "a1", word("a1", 0), end(2))
	wantTokens(t, "1a", num("1", 1, 0), word("a", 1), end(2))
	wantTokens(t, "12ab34 5", num("12", 12, 0), word("ab34", 2), num("5", 5, 7), end(8))
	wantTokens(t, "1 2", num("1", 1, 0), num("2", 2, 2), end(3))
	wantTokens(t, "1#\n2", num("1", 1, 0), num("2", 2, 3), end(4))
	wantTokens(t, "1a.2", num("1", 1, 0), word("a.2", 1), end(4))
}

func TestPointWithoutWord(t *testing.T) { // P4.1
	wantFault(t, ".", fault(api.ErrSyntax, 0, 1, 1))
	wantFault(t, ".a", fault(api.ErrSyntax, 0, 1, 1))
	wantFault(t, "1.5", fault(api.ErrSyntax, 1, 1, 2))
	wantFault(t, "a .b", fault(api.ErrSyntax, 2, 1, 3))
	wantFault(t, "a\n.", fault(api.ErrSyntax, 2, 2, 1))
	wantFault(t, ";.", fault(api.ErrSyntax, 1, 1, 2))
	wantFault(t, "->.", fault(api.ErrSyntax, 2, 1, 3))
}

// TestEachByte: which bytes alone, and behind a Word, are what, those above 7f among them (P4.1).
func TestEachByte(t *testing.T) {
	for b := range 256 {
		s := string([]byte{byte(b)})
		switch {
		case s >= "a" && s <= "z":
			wantTokens(t, s, word(s, 0), end(1))
			wantTokens(t, "x"+s, word("x"+s, 0), end(2))
		case s >= "0" && s <= "9":
			wantTokens(t, s, num(s, b-'0', 0), end(1))
			wantTokens(t, "x"+s, word("x"+s, 0), end(2))
		case s == ".":
			wantFault(t, s, fault(api.ErrSyntax, 0, 1, 1))
			wantTokens(t, "x"+s, word("x"+s, 0), end(2))
		case b == 0x20 || b == 0x09 || b == 0x0d || b == 0x0a || s == "#":
			wantTokens(t, s, end(1))
			wantTokens(t, "x"+s, word("x", 0), end(2))
		case strings.Contains(";:,*!~@=", s):
			wantTokens(t, s, sign(s, 0), end(1))
			wantTokens(t, "x"+s, word("x", 0), sign(s, 1), end(2))
		default:
			wantFault(t, s, fault(api.ErrSyntax, 0, 1, 1))
			wantFault(t, "x"+s, fault(api.ErrSyntax, 1, 1, 2))
		}
		if b != 0x0a {
			wantTokens(t, "#"+s+"\nx", word("x", 3), end(4))
		}
	}
}

func TestLettersOutsideASCII(t *testing.T) { // P4.1
	for _, s := range []string{"ä", "a\u00e4", "é", "ａ", "а", "１", "٣", "\u00a0", "\u2028", "\ufeff", "\xff", "\xc3", "→", "\ufffd"} {
		at := strings.Index(s, strings.TrimPrefix(s, "a"))
		wantFault(t, s, fault(api.ErrSyntax, at, 1, at+1))
		wantTokens(t, "#"+s+"\na", word("a", len(s)+2), end(len(s)+3))
	}
	// Only 0a ends a comment.
	for _, s := range []string{"\r", "\v", "\f", "\u0085", "\u2028"} {
		wantTokens(t, "#"+s+"a", end(len(s)+2))
	}
}

func TestNumbers(t *testing.T) { // P4.1
	const most = 1 << 50
	for _, n := range []int{0, 1, 9, 10, 1000000, 1000001, math.MaxInt32, 1 << 32, 1 << 40, 999999999999999, most - 1, most} {
		for _, noughts := range []int{0, 1, 2, 30, 200000} {
			s := strings.Repeat("0", noughts) + fmt.Sprint(n)
			wantTokens(t, s, num(s, n, 0), end(len(s)))
		}
	}
	s := strings.Repeat("0", 200000)
	wantTokens(t, s, num(s, 0, 0), end(len(s)))
}

func TestNumbersTooGreat(t *testing.T) { // P4.1
	for _, s := range []string{
		"1125899906842625", "1125899906842626", "1125899906842634", "1125899906842630", "11258999068426240", "9999999999999999",
		"2000000000000000", "9223372036854775807", "9223372036854775808", "18446744073709551615", "18446744073709551616", "18446744073709551617",
		"36893488147419103233", "100000000000000000000000000000000", "1" + strings.Repeat("0", 200000), strings.Repeat("9", 200000),
	} {
		for _, noughts := range []int{0, 1, 200000} {
			s := strings.Repeat("0", noughts) + s
			wantFault(t, s, fault(api.ErrOver, 0, 1, 1))
			wantFault(t, "a\n =0"+s+";", fault(api.ErrOver, 4, 2, 3))
		}
	}
	wantFault(t, "1125899906842624 1125899906842625", fault(api.ErrOver, 17, 1, 18))
}

// TestWhichFaultComesFirst: the one that begins earlier in the text (P4.1).
func TestWhichFaultComesFirst(t *testing.T) {
	wantFault(t, "1125899906842625 A", fault(api.ErrOver, 0, 1, 1))
	wantFault(t, "A 1125899906842625", fault(api.ErrSyntax, 0, 1, 1))
	wantFault(t, "1125899906842625A", fault(api.ErrOver, 0, 1, 1))
	wantFault(t, "1125899906842625.", fault(api.ErrOver, 0, 1, 1))
	wantFault(t, "1125899906842624A", fault(api.ErrSyntax, 16, 1, 17))
	wantFault(t, "-1125899906842625", fault(api.ErrSyntax, 0, 1, 1))
	wantFault(t, "a\n1125899906842625 -", fault(api.ErrOver, 2, 2, 1))
	wantFault(t, "a\n- 1125899906842625", fault(api.ErrSyntax, 2, 2, 1))
	wantFault(t, "#A 1125899906842625\n\n?", fault(api.ErrSyntax, 21, 3, 1))
	wantFault(t, "A B", fault(api.ErrSyntax, 0, 1, 1))
	wantFault(t, "1125899906842625 1125899906842626", fault(api.ErrOver, 0, 1, 1))
	// Digits of a Word are no number.
	wantTokens(t, "a1125899906842625", word("a1125899906842625", 0), end(17))
}

// The model: what may stand at a place of a text, as a regular expression of bytes.
var (
	modelGap   = regexp.MustCompile(`^(?:[ \t\r\n]|#[^\n]*(?:\n|\z))*`)
	modelToken = regexp.MustCompile(`^(?:([a-z][a-z0-9.]*)|([0-9]+)|([;:,*!~@=]|->))`)
)

// modelTokens is Tokens by the model, for texts of ASCII alone.
func modelTokens(s string) ([]Token, api.Fault) {
	var l []Token
	at := 0
	for {
		at += len(modelGap.FindString(s[at:]))
		if at == len(s) {
			return append(l, end(at)), api.Fault{}
		}
		line := 1 + strings.Count(s[:at], "\n")
		column := len(s[:at]) - len(strings.Join(strings.SplitAfter(s[:at], "\n")[:line-1], "")) + 1
		m := modelToken.FindStringSubmatch(s[at:])
		if m == nil {
			return nil, fault(api.ErrSyntax, at, line, column)
		}
		switch {
		case m[1] != "":
			l = append(l, word(m[1], at))
		case m[2] != "":
			n, _ := new(big.Int).SetString(m[2], 10)
			if n.Cmp(big.NewInt(1125899906842624)) > 0 {
				return nil, fault(api.ErrOver, at, line, column)
			}
			l = append(l, num(m[2], int(n.Int64()), at))
		default:
			l = append(l, sign(m[3], at))
		}
		at += len(m[0])
	}
}

// TestAgainstModel holds Tokens against the model for all short rows of some pieces (P4.1).
func TestAgainstModel(t *testing.T) {
	pieces := []string{"a", "z", "7", ".", "-", ">", ";", " ", "\n", "#", "A", "1125899906842624", "1125899906842625"}
	var try func(s string, more int)
	try = func(s string, more int) {
		l, f := Tokens([]byte(s))
		wantL, wantF := modelTokens(s)
		if f != wantF || !slices.Equal(l, wantL) {
			t.Fatalf("%q: %v %v, not %v %v", s, l, f, wantL, wantF)
		}
		if more == 0 {
			return
		}
		for _, piece := range pieces {
			try(s+piece, more-1)
		}
	}
	try("", 4)
}

// TestTokensShareNothing: the text stays as it is, and tokens do not change with it (P2 and the rule of memory).
func TestTokensShareNothing(t *testing.T) {
	p := []byte("place p = 10; # a\ntrans t: p -> p*2;")
	before := string(p)
	l, _ := Tokens(p)
	if string(p) != before {
		t.Error("the text was changed")
	}
	again, f := Tokens(p)
	if f != (api.Fault{}) || !slices.Equal(l, again) {
		t.Error("another answer at a second call")
	}
	for i := range p {
		p[i] = 'x'
	}
	if !slices.Equal(l, again) || l[0].Text != "place" || l[3].Text != "10" {
		t.Error("tokens changed with the text")
	}
	l[0].Text = "y"
	if again[0].Text != "place" {
		t.Error("answers share memory")
	}
	// Bytes behind the end of a slice belong to nobody.
	q := []byte("ab 12 ->")
	if l, f := Tokens(q[:1]); f != (api.Fault{}) || !slices.Equal(l, []Token{word("a", 0), end(1)}) {
		t.Error(l, f)
	}
	if l, f := Tokens(q[3:4]); f != (api.Fault{}) || !slices.Equal(l, []Token{num("1", 1, 0), end(1)}) {
		t.Error(l, f)
	}
	if _, f := Tokens(q[6:7]); f != fault(api.ErrSyntax, 0, 1, 1) {
		t.Error(f)
	}
	if string(q) != "ab 12 ->" {
		t.Error("bytes beside the text were changed")
	}
}

func TestManyTokens(t *testing.T) { // P1, P4.1
	const n = 200000
	l, f := Tokens([]byte(strings.Repeat("a;", n)))
	if f != (api.Fault{}) || len(l) != 2*n+1 || l[2*n] != end(2*n) || l[2*n-1] != sign(";", 2*n-1) {
		t.Error(len(l), f)
	}
	wantFault(t, strings.Repeat("a;\n", n)+"A", fault(api.ErrSyntax, 3*n, n+1, 1))
}

func TestPlace(t *testing.T) { // P4.2
	for _, c := range []struct {
		text             string
		at, line, column int
	}{
		{"", 0, 1, 1}, {"", 1, 1, 1}, {"", -1, 1, 1},
		{"ab", 0, 1, 1}, {"ab", 1, 1, 2}, {"ab", 2, 1, 3}, {"ab", 3, 1, 3},
		// At an end of line: the 0a is the last byte of the line that it ends.
		{"ab\ncd", 2, 1, 3}, {"ab\ncd", 3, 2, 1}, {"ab\ncd", 4, 2, 2}, {"ab\ncd", 5, 2, 3}, {"ab\ncd", 6, 2, 3},
		{"\n", 0, 1, 1}, {"\n", 1, 2, 1}, {"\n", 2, 2, 1},
		{"\n\n\n", 0, 1, 1}, {"\n\n\n", 1, 2, 1}, {"\n\n\n", 2, 3, 1}, {"\n\n\n", 3, 4, 1}, {"\n\n\n", 4, 4, 1},
		{"a\n\nb\n", 1, 1, 2}, {"a\n\nb\n", 2, 2, 1}, {"a\n\nb\n", 3, 3, 1}, {"a\n\nb\n", 4, 3, 2}, {"a\n\nb\n", 5, 4, 1},
		// A 0d is a byte of its line as others are, and so is each byte of a letter outside ASCII.
		{"a\r\nb", 1, 1, 2}, {"a\r\nb", 2, 1, 3}, {"a\r\nb", 3, 2, 1}, {"a\rb", 2, 1, 3},
		{"ä\nä", 1, 1, 2}, {"ä\nä", 2, 1, 3}, {"ä\nä", 3, 2, 1}, {"ä\nä", 5, 2, 3}, {"\xff\xff", 2, 1, 3},
	} {
		if line, column := Place([]byte(c.text), c.at); line != c.line || column != c.column {
			t.Errorf("Place(%q, %d) = %d, %d", c.text, c.at, line, column)
		}
	}
	if line, column := Place(nil, 7); line != 1 || column != 1 {
		t.Error(line, column)
	}
}

func TestPlaceBeyondTheEnds(t *testing.T) { // P4.2
	p := []byte("a\nbc\ndef")
	for _, at := range []int{-1, -2, -100, math.MinInt} {
		if line, column := Place(p, at); line != 1 || column != 1 {
			t.Errorf("Place(%d) = %d, %d", at, line, column)
		}
	}
	for _, at := range []int{8, 9, 100, math.MaxInt} {
		if line, column := Place(p, at); line != 3 || column != 4 {
			t.Errorf("Place(%d) = %d, %d", at, line, column)
		}
	}
	// The end is that of the slice, not of what lies behind it.
	if line, column := Place(p[:2], 7); line != 2 || column != 1 {
		t.Error(line, column)
	}
}

// TestPlaceAgainstSteps goes through texts byte by byte (P4.2).
func TestPlaceAgainstSteps(t *testing.T) {
	for _, s := range []string{"", "a", "\n", "ab\n\ncd\r\n\n", strings.Repeat("xyz\n", 50) + "q", strings.Repeat("\n", 100)} {
		line, column := 1, 1
		for at := 0; at <= len(s); at++ {
			if l, c := Place([]byte(s), at); l != line || c != column {
				t.Fatalf("Place(%q, %d) = %d, %d, not %d, %d", s, at, l, c, line, column)
			}
			if at < len(s) && s[at] == '\n' {
				line, column = line+1, 1
			} else {
				column++
			}
		}
	}
}

func TestFault(t *testing.T) { // P4.2
	p := []byte("a\nbc")
	for e := api.OK; e <= api.ErrPart; e++ {
		if f := Fault(p, e, 3); f != fault(e, 3, 2, 2) {
			t.Error(f)
		}
	}
	// The place is held within the text, the offset is told as it was given.
	for _, c := range []struct{ at, line, column int }{{-1, 1, 1}, {math.MinInt, 1, 1}, {0, 1, 1}, {1, 1, 2}, {2, 2, 1}, {4, 2, 3}, {5, 2, 3}, {math.MaxInt, 2, 3}} {
		if f := Fault(p, api.ErrName, c.at); f != fault(api.ErrName, c.at, c.line, c.column) {
			t.Error(c, f)
		}
	}
	if f := Fault(nil, api.Errno(-5), 0); f != fault(api.Errno(-5), 0, 1, 1) {
		t.Error(f)
	}
	if string(p) != "a\nbc" {
		t.Error("the text was changed")
	}
}

func TestName(t *testing.T) { // P4.2
	for s, want := range map[string]bool{
		"": false, "a": true, "z": true, "p1": true, "a.": true, "a..b": true, "a.9": true, "place": true, "trans": true,
		"9": false, "9a": false, ".": false, ".a": false, "A": false, "aB": false, "a_b": false, "a-b": false,
		" a": false, "a ": false, "a b": false, "a\n": false, "\na": false, "a#": false, "#a": false, "a;": false, "->": false, ";": false, "a\x00": false,
		"ä": false, "aä": false, "äa": false, "é": false, "ａ": false, "a１": false, "\x80": false, "a\x80": false, "a\xff": false, "\xffa": false, "a\ufffd": false,
		// At MaxName bytes, and beyond.
		"abcdefghijk": true, "abcdefghijkl": true, "abcdefghijklm": false, "a.0.1.2.3.4.": true, "a.0.1.2.3.4.5": false, "a99999999999": true, "a999999999999": false,
		"999999999999": false, "abcdefghijkL": false, "abcdefghijk ": false, "abcdefghijkä": false, "abcdefghijä": false, "éééééé": false,
	} {
		if Name(s) != want {
			t.Errorf("Name(%q) is not %v", s, want)
		}
	}
	if len("abcdefghijkl") != api.MaxName {
		t.Error("MaxName")
	}
	if Name(strings.Repeat("a", 1<<20)) {
		t.Error("a long name")
	}
}

// TestNameIsTheTextOfAWord: of short texts those are names that Tokens reads as one Word from end to end (P4.1, P4.2).
func TestNameIsTheTextOfAWord(t *testing.T) {
	for a := range 256 {
		for _, s := range []string{"", "a", "0", ".", "abcdefghijk", "abcdefghijkl"} {
			for _, s := range []string{string([]byte{byte(a)}) + s, s + string([]byte{byte(a)}), s} {
				l, f := Tokens([]byte(s))
				want := f == (api.Fault{}) && len(l) == 2 && l[0] == word(s, 0) && len(s) <= api.MaxName
				if Name(s) != want {
					t.Errorf("Name(%q) is not %v", s, want)
				}
			}
		}
	}
}
