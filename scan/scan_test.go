package scan

import (
	"fmt"
	"iter"
	"math/rand"
	"regexp"
	"slices"
	"strconv"
	"strings"
	"testing"
	"unsafe"

	"monticule/api"
)

// The chapters' words for what tokens are, as expressions, which know nothing of the package.
var (
	isGap     = regexp.MustCompile(`\A(?:[ \t\n\r]|"[^"]*")*`)
	isName    = regexp.MustCompile(`\A[a-zA-Z][a-zA-Z0-9]*\z`)
	isKeyword = regexp.MustCompile(`\A[a-zA-Z][a-zA-Z0-9]*:\z`)
	isBinary  = regexp.MustCompile(`\A[-+*/<>=~&,@%]{1,2}\z`)
	isNumber  = regexp.MustCompile(`\A[0-9]{1,9}\z`)
	isString  = regexp.MustCompile(`\A'(?:[^']|'')*'\z`)
	isMark    = regexp.MustCompile(`\A(?:[][(){}.^|:]|:=)\z`)
	isUnary   = regexp.MustCompile(`\A[a-z][a-zA-Z0-9]{0,39}\z`)
	isKeys    = regexp.MustCompile(`\A(?:[a-z][a-zA-Z0-9]{0,39}:){1,10}\z`)

	longName   = regexp.MustCompile(`\A[a-zA-Z][a-zA-Z0-9]{40}`)
	longNumber = regexp.MustCompile(`\A[0-9]{10}`)
	openString = regexp.MustCompile(`\A'(?:[^']|'')*\z`)

	letterOrDigit = regexp.MustCompile(`[a-zA-Z0-9]`)
)

// tokenOf is the token that s[at:end] is, if it is one there.
func tokenOf(s string, at, end int) (api.Token, bool) {
	text := s[at:end]
	switch {
	case isName.MatchString(text):
		return id(at, text), true
	case isKeyword.MatchString(text):
		return key(at, text), end == len(s) || s[end] != '='
	case isBinary.MatchString(text):
		return op(at, text), true
	case isNumber.MatchString(text):
		n, _ := strconv.Atoi(text)
		return num(at, n), true
	case isString.MatchString(text):
		return str(at, strings.ReplaceAll(text[1:len(text)-1], "''", "'")), true
	case isMark.MatchString(text):
		return mark(at, text), true
	case text[0] == '#':
		return sym(at, text[1:]), isSelector(text[1:]) && !cutsName(s, at+1, end)
	}
	return api.Token{}, false
}

func isSelector(s string) bool {
	return isUnary.MatchString(s) || isBinary.MatchString(s) || isKeys.MatchString(s)
}

// cutsName tells whether the last letter or digit of s[at:end] is followed by a letter or digit.
func cutsName(s string, at, end int) bool {
	for i := end - 1; i >= at; i-- {
		if letterOrDigit.MatchString(s[i : i+1]) {
			return i+1 < len(s) && letterOrDigit.MatchString(s[i+1:i+2])
		}
	}
	return false
}

// scanned are a text's tokens, or those ahead of the first error, in the chapter's words: each token is the longest one at its place.
func scanned(s string) ([]api.Token, api.Errno, int) {
	if len(s) > 4000 {
		return nil, api.ErrFull, 0
	}
	var l []api.Token
	for at := 0; ; {
		at += len(isGap.FindString(s[at:]))
		if at == len(s) {
			return append(l, end(at)), api.OK, 0
		}
		rest := s[at:]
		if longName.MatchString(rest) || longNumber.MatchString(rest) || openString.MatchString(rest) {
			return l, api.ErrScan, at
		}
		next := at
		for e := at + 1; e <= len(s); e++ {
			if _, is := tokenOf(s, at, e); is {
				next = e
			}
		}
		if next == at {
			return l, api.ErrScan, at
		}
		tok, _ := tokenOf(s, at, next)
		l = append(l, tok)
		at = next
	}
}

func id(at int, text string) api.Token   { return api.Token{Kind: 1, Text: text, At: at} }
func key(at int, text string) api.Token  { return api.Token{Kind: 2, Text: text, At: at} }
func op(at int, text string) api.Token   { return api.Token{Kind: 3, Text: text, At: at} }
func num(at, n int) api.Token            { return api.Token{Kind: 4, N: n, At: at} }
func str(at int, text string) api.Token  { return api.Token{Kind: 5, Text: text, At: at} }
func sym(at int, text string) api.Token  { return api.Token{Kind: 6, Text: text, At: at} }
func mark(at int, text string) api.Token { return api.Token{Kind: 7, Text: text, At: at} }
func end(at int) api.Token               { return api.Token{At: at} }

func list(l ...api.Token) []api.Token { return l }

func show(l []api.Token) string {
	if len(l) > 30 {
		return fmt.Sprintf("%d tokens, at first %s", len(l), show(l[:30]))
	}
	return fmt.Sprintf("%+v", l)
}

func short(s string) string {
	if len(s) > 100 {
		return fmt.Sprintf("%q.. of %d bytes", s[:100], len(s))
	}
	return fmt.Sprintf("%q", s)
}

// check asks All and Stream for tokens, or for an error and the tokens ahead of it.
func check(t *testing.T, s string, want []api.Token, wantErr api.Errno, wantAt int) {
	t.Helper()
	l, e, at := All(s)
	if e != wantErr || at != wantAt {
		t.Errorf("All(%s): %d at %d, not %d at %d", short(s), e, at, wantErr, wantAt)
	}
	if wantErr != api.OK && len(l) != 0 {
		t.Errorf("All(%s): %s beside an error", short(s), show(l))
	}
	if wantErr == api.OK && !slices.Equal(l, want) {
		t.Errorf("All(%s): %s, not %s", short(s), show(l), show(want))
	}
	if l := slices.Collect(Stream(s)); !slices.Equal(l, want) {
		t.Errorf("Stream(%s): %s, not %s", short(s), show(l), show(want))
	}
}

// right asks for tokens; the end, which comes last, is not among those that are given.
func right(t *testing.T, s string, want ...api.Token) {
	t.Helper()
	check(t, s, append(slices.Clone(want), end(len(s))), api.OK, 0)
}

// wrong asks for ErrScan, and for the tokens ahead of it.
func wrong(t *testing.T, s string, at int, ahead ...api.Token) {
	t.Helper()
	check(t, s, ahead, api.ErrScan, at)
}

// compare asks for what the chapter's words say.
func compare(t *testing.T, s string) {
	t.Helper()
	l, e, at := scanned(s)
	check(t, s, l, e, at)
}

func times(s string, n int) string { return strings.Repeat(s, n) }

// gaps are what may stand between two tokens.
func gaps() []string {
	return []string{" ", "\t", "\n", "\r", "\r\n", "  ", " \t\n\r ", `""`, `"a"`, `"a comment of words"`, `"'"`, `"''"`, `"#"`, `"$"`, `"\"`, `"_1234567890"`, `"` + times("a", 50) + `"`, `""""`, `"a""b"`, `"a" "b"`, "\"\n\r\x00\xff\u00e4\"", ` "a" `, "\n\"it's\"\t\"\"", `"a":"b"`[:3]}
}

// sources are tokens' sources, each of which is one token whatever gap stands ahead of it and behind it.
func sources() []string {
	return []string{"a", "Z", "x1", "self", "nil", "Foo9Bar", times("a", 40), "a:", "Z:", "x1:", "at:", times("q", 40) + ":",
		"+", "-", "<=", "->", "@", "%%", ",", "=", "==", "~=", "0", "1", "42", "007", "999999999", "000000000",
		"''", "'a'", "''''", "'it''s'", "'\"'", "'\n'", "'\xff'", "'#'", "' '", "'a''''b'",
		"#a", "#self", "#x1", "#+", "#->", "#at:", "#at:put:", "#" + times("a", 40), "#" + times("k:", 10),
		":=", "(", ")", "[", "]", "{", "}", ".", "^", "|", ":"}
}

// faults are texts of which no token is at the beginning.
func faults() []string {
	return []string{"$", "_", "!", "?", ";", "\\", "`", "\x00", "\x0b", "\x0c", "\x7f", "\x80", "\xff", "\u00e4", "\u0130", "'", "'a", "'''", "'it''s", "''''' ", "\"", "\"a", "\"''", "#", "# ", "#Foo", "#1", "##", "#'a'", "#:", "#(", "#$", "#\xe4", "#\"a\"b",
		times("a", 41), times("Z", 41) + ":", "a" + times("1", 40), "1234567890", "0000000000", "12345678901234567890", "#" + times("a", 41), "#" + times("a", 41) + ":"}
}

// P12.1: the chapter's example.
func TestExample(t *testing.T) {
	right(t, "x:=#at:put: size.", id(0, "x"), mark(1, ":="), sym(3, "at:put:"), id(12, "size"), mark(16, "."))
}

// P12.1: the empty text, and texts of nothing but gaps.
func TestNothing(t *testing.T) {
	right(t, "")
	for _, g := range gaps() {
		right(t, g)
		right(t, g+g+g)
	}
	for _, n := range []int{3999, 4000} {
		right(t, times(" ", n))
		right(t, times("\n", n))
		right(t, `"`+times("a", n-2)+`"`)
	}
	right(t, times(`"`, 4000))
	wrong(t, times(`"`, 3999), 3998)
}

// P12.1 and P12.2: texts of 4000 bytes, and longer ones, of which nothing else is told.
func TestFull(t *testing.T) {
	var names []api.Token
	for i := range 2000 {
		names = append(names, id(2*i, "a"))
	}
	right(t, times("a ", 2000), names...)
	right(t, times("a ", 1999)+" a", append(names[:1999:1999], id(3999, "a"))...)
	right(t, "'"+times("x", 3998)+"'", str(0, times("x", 3998)))
	right(t, times("'", 4000), str(0, times("'", 1999)))
	right(t, times(" ", 3999)+"a", id(3999, "a"))
	right(t, "a"+times(" ", 3999), id(0, "a"))
	wrong(t, times(" ", 3999)+"$", 3999)
	wrong(t, times("'", 3999), 0)
	wrong(t, times("a", 4000), 0)
	wrong(t, "#"+times("a", 3999), 0)
	wrong(t, "#"+times(":", 3999), 0)
	wrong(t, times("1", 4000), 0)
	for _, s := range []string{times("a ", 2000) + " ", times(" ", 4001), times("a", 4001), "$" + times(" ", 4000), times("$", 4001), "'" + times("x", 3999) + "'", times(" ", 4000) + "$", `"` + times("a", 4000), times("1 ", 5000), times("(", 4001), times("a", 1<<20), times("\xff", 4001)} {
		check(t, s, nil, api.ErrFull, 0)
	}
}

// P12.1: names and keywords, of up to 40 letters and digits, and what may stand behind them.
func TestNames(t *testing.T) {
	for n := 1; n <= 43; n++ {
		for _, s := range []string{times("a", n), times("Z", n), "q" + times("0", n-1), times("b", n-1) + "A", times("yY9", n)[:n]} {
			if n > 40 {
				for _, rest := range []string{"", ":", ":=", "::", " ", " :", "+", "'", "$", ":a"} {
					wrong(t, s+rest, 0)
					wrong(t, "x "+s+rest, 2, id(0, "x"))
				}
				continue
			}
			right(t, s, id(0, s))
			right(t, s+":", key(0, s+":"))
			right(t, s+":=", id(0, s), mark(n, ":="))
			right(t, s+"::", key(0, s+":"), mark(n+1, ":"))
			right(t, s+"::=", key(0, s+":"), mark(n+1, ":="))
			right(t, s+":::", key(0, s+":"), mark(n+1, ":"), mark(n+2, ":"))
			right(t, s+" :", id(0, s), mark(n+1, ":"))
			right(t, s+" :=", id(0, s), mark(n+1, ":="))
			right(t, s+": =", key(0, s+":"), op(n+2, "="))
			right(t, s+":b", key(0, s+":"), id(n+1, "b"))
			right(t, s+":1", key(0, s+":"), num(n+1, 1))
			right(t, s+":b:", key(0, s+":"), key(n+1, "b:"))
			right(t, s+":b:=", key(0, s+":"), id(n+1, "b"), mark(n+2, ":="))
			right(t, s+`"":`, id(0, s), mark(n+2, ":"))
			right(t, s+"=", id(0, s), op(n, "="))
			right(t, s+"'b'", id(0, s), str(n, "b"))
			right(t, s+"#b", id(0, s), sym(n, "b"))
			right(t, s+" b", id(0, s), id(n+1, "b"))
		}
	}
}

// P12.1: digits of a name count as the name's, however many they are.
func TestDigitsOfNames(t *testing.T) {
	right(t, "a1234567890", id(0, "a1234567890"))
	right(t, "a1234567890:", key(0, "a1234567890:"))
	right(t, "#a1234567890", sym(0, "a1234567890"))
	right(t, "#a1234567890:b1234567890:", sym(0, "a1234567890:b1234567890:"))
	right(t, "'1234567890'", str(0, "1234567890"))
	right(t, `"1234567890"`)
	right(t, "ab12cd34", id(0, "ab12cd34"))
}

// P12.1: each of the twelve bytes of a binary token alone, each two of them, three and four in a row.
func TestBinary(t *testing.T) {
	const twelve = "+-*/<>=~&,@%"
	for _, a := range strings.Split(twelve, "") {
		right(t, a, op(0, a))
		right(t, a+" "+a, op(0, a), op(2, a))
		right(t, a+`""`+a, op(0, a), op(3, a))
		right(t, "1"+a+"2", num(0, 1), op(1, a), num(2, 2))
		right(t, "a"+a+"b", id(0, "a"), op(1, a), id(2, "b"))
		right(t, a+":", op(0, a), mark(1, ":"))
		for _, b := range strings.Split(twelve, "") {
			right(t, a+b, op(0, a+b))
			right(t, "1"+a+b+"2", num(0, 1), op(1, a+b), num(3, 2))
			for _, c := range strings.Split(twelve, "") {
				right(t, a+b+c, op(0, a+b), op(2, c))
				right(t, a+b+c+a, op(0, a+b), op(2, c+a))
				right(t, a+b+c+a+b, op(0, a+b), op(2, c+a), op(4, b))
			}
		}
	}
}

// P12.1: one to nine digits, more of them, and letters behind and ahead of them.
func TestNumbers(t *testing.T) {
	for s, n := range map[string]int{"0": 0, "1": 1, "9": 9, "10": 10, "00": 0, "01": 1, "007": 7, "08": 8, "123456789": 123456789, "999999999": 999999999, "000000001": 1, "000000000": 0, "100000000": 100000000} {
		z := len(s)
		right(t, s, num(0, n))
		right(t, s+"a", num(0, n), id(z, "a"))
		right(t, s+"e5", num(0, n), id(z, "e5"))
		right(t, s+"x10:", num(0, n), key(z, "x10:"))
		right(t, s+"."+s, num(0, n), mark(z, "."), num(z+1, n))
		right(t, "-"+s, op(0, "-"), num(1, n))
		right(t, s+" "+s, num(0, n), num(z+1, n))
		right(t, s+`"1"`+s, num(0, n), num(z+3, n))
		right(t, s+":", num(0, n), mark(z, ":"))
		right(t, s+":=", num(0, n), mark(z, ":="))
		right(t, "a"+s, id(0, "a"+s))
		right(t, "a "+s, id(0, "a"), num(2, n))
		right(t, "a:"+s, key(0, "a:"), num(2, n))
		right(t, s+times("a", 40), num(0, n), id(z, times("a", 40)))
		wrong(t, s+times("a", 41), z, num(0, n))
		wrong(t, s+"_", z, num(0, n))
	}
	for _, s := range []string{"1234567890", "0000000000", "0000000001", "9999999999", "12345678901", times("1", 18), times("1", 19), times("9", 30), times("0", 100)} {
		for _, rest := range []string{"", "a", " ", ".", "$", "x:"} {
			wrong(t, s+rest, 0)
			wrong(t, "  "+s+rest, 2)
			wrong(t, "1 "+s+rest, 2, num(0, 1))
			wrong(t, "-"+s+rest, 1, op(0, "-"))
		}
	}
}

// P12.1: strings with quotes within, with any byte, and what stands behind them.
func TestStrings(t *testing.T) {
	for s, text := range map[string]string{"''": "", "'a'": "a", "'a b'": "a b", "''''": "'", "''''''": "''", "'it''s'": "it's", "'''a'": "'a", "'a'''": "a'", "'''a'''": "'a'", "'a''''b'": "a''b", "'''a''b'''": "'a'b'", "'\n'": "\n", "'\r\n'": "\r\n", "'a\tb'": "a\tb", "'\"'": "\"", "'\"a\"'": "\"a\"", "'a\"'": "a\"", "' '": " ", "'  '": "  ", "'#$:='": "#$:=", "'\\n'": "\\n", "'\x00'": "\x00", "'\xff\xfe'": "\xff\xfe", "'\u00e4\u20ac'": "\u00e4\u20ac"} {
		z := len(s)
		right(t, s, str(0, text))
		right(t, " "+s+" ", str(1, text))
		right(t, s+" "+s, str(0, text), str(z+1, text))
		right(t, s+`""`+s, str(0, text), str(z+2, text))
		right(t, s+`"'"`+s, str(0, text), str(z+3, text))
		right(t, s+"a", str(0, text), id(z, "a"))
		right(t, "a"+s, id(0, "a"), str(1, text))
		right(t, "a:"+s+".", key(0, "a:"), str(2, text), mark(2+z, "."))
		right(t, s+s, str(0, text+"'"+text))
		wrong(t, s+" '", z+1, str(0, text))
		wrong(t, s[:z-1], 0)
		wrong(t, "x "+s[:z-1], 2, id(0, "x"))
		wrong(t, s+"'", 0)
	}
	for i := range 256 {
		b := string([]byte{byte(i)})
		if b == "'" {
			continue
		}
		right(t, "'"+b+"'", str(0, b))
		right(t, "'a"+b+"c'd", str(0, "a"+b+"c"), id(5, "d"))
		right(t, "'''"+b+"'''", str(0, "'"+b+"'"))
		wrong(t, "'"+b, 0)
		wrong(t, "1 'a"+b+"''", 2, num(0, 1))
	}
}

// P12.1: how many quotes in a row end a string.
func TestQuotesInRow(t *testing.T) {
	for n := 1; n <= 40; n++ {
		if n%2 == 0 {
			right(t, times("'", n), str(0, times("'", n/2-1)))
			right(t, times("'", n)+"a", str(0, times("'", n/2-1)), id(n, "a"))
			wrong(t, times("'", n)+"a'", n+1, str(0, times("'", n/2-1)), id(n, "a"))
			continue
		}
		wrong(t, times("'", n), 0)
		wrong(t, times("'", n)+"a", 0)
		right(t, times("'", n)+"a'", str(0, times("'", n/2)+"a"))
	}
}

// P12.1: a # followed by each kind of selector, the longest of several.
func TestSymbols(t *testing.T) {
	n40 := times("a", 40)
	right(t, "#a", sym(0, "a"))
	right(t, "#self", sym(0, "self"))
	right(t, "#super", sym(0, "super"))
	right(t, "#aZ9", sym(0, "aZ9"))
	right(t, "#"+n40, sym(0, n40))
	right(t, "#"+n40+":", sym(0, n40+":"))
	right(t, "#"+n40+":"+n40+":", sym(0, n40+":"+n40+":"))
	right(t, "#"+times(n40+":", 10), sym(0, times(n40+":", 10)))
	right(t, "#at:", sym(0, "at:"))
	right(t, "#at:put:", sym(0, "at:put:"))
	right(t, "#at:put", sym(0, "at:"), id(4, "put"))
	right(t, "#at:put:x", sym(0, "at:put:"), id(8, "x"))
	right(t, "#at:Put:", sym(0, "at:"), key(4, "Put:"))
	right(t, "#at:put:Foo", sym(0, "at:put:"), id(8, "Foo"))
	right(t, "#at:1", sym(0, "at:"), num(4, 1))
	right(t, "#at:1a:", sym(0, "at:"), num(4, 1), key(5, "a:"))
	right(t, "#at: put:", sym(0, "at:"), key(5, "put:"))
	right(t, "#at:\"\"put:", sym(0, "at:"), key(6, "put:"))
	right(t, "#at::", sym(0, "at:"), mark(4, ":"))
	right(t, "#at::put:", sym(0, "at:"), mark(4, ":"), key(5, "put:"))
	right(t, "#at:=", sym(0, "at:"), op(4, "="))
	right(t, "#at::=", sym(0, "at:"), mark(4, ":="))
	right(t, "#at:put:=1", sym(0, "at:put:"), op(8, "="), num(9, 1))
	right(t, "#at :=", sym(0, "at"), mark(4, ":="))
	right(t, "#at:+", sym(0, "at:"), op(4, "+"))
	right(t, "#at:#put:", sym(0, "at:"), sym(4, "put:"))
	right(t, "#a#b#+#c:", sym(0, "a"), sym(2, "b"), sym(4, "+"), sym(6, "c:"))
	right(t, "#at:'put:'", sym(0, "at:"), str(4, "put:"))
	right(t, "#a+b", sym(0, "a"), op(2, "+"), id(3, "b"))
	right(t, "#a.b", sym(0, "a"), mark(2, "."), id(3, "b"))
	right(t, "#a b", sym(0, "a"), id(3, "b"))
	right(t, "#a'b'", sym(0, "a"), str(2, "b"))
	right(t, "#at:"+n40, sym(0, "at:"), id(4, n40))
	wrong(t, "#at:"+n40+"a", 4, sym(0, "at:"))
	wrong(t, "#at:"+n40+"a:", 4, sym(0, "at:"))
	wrong(t, "#"+n40+"a", 0)
	wrong(t, "#"+n40+"Z", 0)
	wrong(t, "#"+n40+"9", 0)
	wrong(t, "#"+n40+"a:", 0)
	wrong(t, "#"+n40+"a:b:", 0)
	wrong(t, "#at:1234567890", 4, sym(0, "at:"))
	wrong(t, "#at:#", 4, sym(0, "at:"))
	wrong(t, "#at:_", 4, sym(0, "at:"))
	wrong(t, "#a\xe4", 2, sym(0, "a"))
	for n := 1; n <= 13; n++ {
		keys := times("k:", n)
		if n <= 10 {
			right(t, "#"+keys, sym(0, keys))
			right(t, "#"+keys+"a", sym(0, keys), id(1+2*n, "a"))
			continue
		}
		want := list(sym(0, times("k:", 10)))
		for i := 10; i < n; i++ {
			want = append(want, key(1+2*i, "k:"))
		}
		right(t, "#"+keys, want...)
		right(t, "#"+keys+"a", append(want, id(1+2*n, "a"))...)
	}
	right(t, "#"+times("k:", 10)+"k", sym(0, times("k:", 10)), id(21, "k"))
	right(t, "#"+times("k:", 10)+"k:=", sym(0, times("k:", 10)), id(21, "k"), mark(22, ":="))
}

// P12.1: a # followed by binary selectors.
func TestBinarySymbols(t *testing.T) {
	const twelve = "+-*/<>=~&,@%"
	for _, a := range strings.Split(twelve, "") {
		right(t, "#"+a, sym(0, a))
		right(t, "#"+a+"a", sym(0, a), id(2, "a"))
		right(t, "#"+a+"1", sym(0, a), num(2, 1))
		right(t, "#"+a+"a:", sym(0, a), key(2, "a:"))
		right(t, "#"+a+" "+a, sym(0, a), op(3, a))
		right(t, "#"+a+":", sym(0, a), mark(2, ":"))
		right(t, "#"+a+":=", sym(0, a), mark(2, ":="))
		right(t, "#"+a+"#"+a, sym(0, a), sym(2, a))
		wrong(t, a+"#", 1, op(0, a))
		wrong(t, "#"+a+times("1", 10), 2, sym(0, a))
		for _, b := range strings.Split(twelve, "") {
			right(t, "#"+a+b, sym(0, a+b))
			right(t, "#"+a+b+"a", sym(0, a+b), id(3, "a"))
			right(t, "#"+a+b+"1", sym(0, a+b), num(3, 1))
			for _, c := range strings.Split(twelve, "") {
				right(t, "#"+a+b+c, sym(0, a+b), op(3, c))
				right(t, "#"+a+b+c+a+b, sym(0, a+b), op(3, c+a), op(5, b))
			}
		}
	}
}

// P12.1: a # followed by each byte, and by each byte behind a gap, which makes it no symbol.
func TestBehindHash(t *testing.T) {
	for i := range 256 {
		b := string([]byte{byte(i)})
		switch {
		case 'a' <= i && i <= 'z' || isBinary.MatchString(b):
			right(t, "#"+b, sym(0, b))
			right(t, "x#"+b, id(0, "x"), sym(1, b))
		default:
			wrong(t, "#"+b, 0)
			wrong(t, "#"+b+"b", 0)
			wrong(t, "#"+b+"b:", 0)
			wrong(t, "x#"+b, 1, id(0, "x"))
			wrong(t, "1 #"+b+"+", 2, num(0, 1))
		}
		for _, g := range gaps() {
			wrong(t, "#"+g+b, 0)
		}
	}
	wrong(t, "#", 0)
	wrong(t, "a#", 1, id(0, "a"))
	wrong(t, "a: #", 3, key(0, "a:"))
}

// P12.1: each mark, := and : before something else than =, and all marks in a row.
func TestMarks(t *testing.T) {
	for _, m := range []string{"(", ")", "[", "]", "{", "}", ".", "^", "|", ":", ":="} {
		z := len(m)
		right(t, m, mark(0, m))
		right(t, " "+m+" ", mark(1, m))
		right(t, m+"a", mark(0, m), id(z, "a"))
		right(t, m+"1", mark(0, m), num(z, 1))
		right(t, m+"'a'", mark(0, m), str(z, "a"))
		right(t, m+"#a", mark(0, m), sym(z, "a"))
		right(t, m+"-", mark(0, m), op(z, "-"))
		right(t, "1"+m+"2", num(0, 1), mark(1, m), num(1+z, 2))
		right(t, "+"+m+"+", op(0, "+"), mark(1, m), op(1+z, "+"))
		right(t, m+m, mark(0, m), mark(z, m))
		right(t, m+" =", mark(0, m), op(z+1, "="))
		right(t, m+`""=`, mark(0, m), op(z+2, "="))
		wrong(t, m+"$", z, mark(0, m))
	}
	right(t, ":=", mark(0, ":="))
	right(t, "::=", mark(0, ":"), mark(1, ":="))
	right(t, ":==", mark(0, ":="), op(2, "="))
	right(t, ":===", mark(0, ":="), op(2, "=="))
	right(t, ":=:=", mark(0, ":="), mark(2, ":="))
	right(t, ":-", mark(0, ":"), op(1, "-"))
	right(t, ":a", mark(0, ":"), id(1, "a"))
	right(t, ":a:", mark(0, ":"), key(1, "a:"))
	right(t, ":a:=", mark(0, ":"), id(1, "a"), mark(2, ":="))
	right(t, "=:", op(0, "="), mark(1, ":"))
	right(t, "=:=", op(0, "="), mark(1, ":="))
	right(t, "()[]{}.^|:", mark(0, "("), mark(1, ")"), mark(2, "["), mark(3, "]"), mark(4, "{"), mark(5, "}"), mark(6, "."), mark(7, "^"), mark(8, "|"), mark(9, ":"))
}

// P12.1: each byte at the beginning, in the middle and at the end of a text.
func TestEachByte(t *testing.T) {
	begins := regexp.MustCompile(`\A[-a-zA-Z0-9+*/<>=~&,@%][(){}.^|:]*\z|\A[][(){}.^|:]\z`)
	for i := range 256 {
		b := string([]byte{byte(i)})
		switch {
		case strings.Contains(" \t\n\r", b):
			right(t, b)
			right(t, "("+b+")", mark(0, "("), mark(2, ")"))
		case strings.Contains("'\"#", b) || !begins.MatchString(b):
			wrong(t, b, 0)
			wrong(t, b+" a", 0)
			wrong(t, "a "+b+" b", 2, id(0, "a"))
			wrong(t, "a"+b, 1, id(0, "a"))
			wrong(t, "a:"+b, 2, key(0, "a:"))
			wrong(t, "12"+b, 2, num(0, 12))
			wrong(t, "<"+b, 1, op(0, "<"))
			wrong(t, "'x'\n"+b, 4, str(0, "x"))
			wrong(t, "#x"+b, 2, sym(0, "x"))
			wrong(t, "#x:"+b, 3, sym(0, "x:"))
			wrong(t, ":="+b, 2, mark(0, ":="))
			wrong(t, `"c"`+b, 3)
			wrong(t, "( 'a' #b: "+b, 10, mark(0, "("), str(2, "a"), sym(6, "b:"))
		default:
			if l, e, at := All(b); e != api.OK || at != 0 || len(l) != 2 {
				t.Errorf("All(%q): %s, %d at %d", b, show(l), e, at)
			}
		}
		compare(t, b)
		compare(t, b+b)
		compare(t, b+b+b)
		compare(t, "a"+b+"c")
		compare(t, "(a: "+b+" 12)")
	}
}

// P12.1: a text that ends nowhere, as a comment or a string; a " within a string and a ' within a comment.
func TestComments(t *testing.T) {
	right(t, `""`)
	right(t, `a"b"c`, id(0, "a"), id(4, "c"))
	right(t, `a""b`, id(0, "a"), id(3, "b"))
	right(t, `a"b""c"d`, id(0, "a"), id(7, "d"))
	right(t, `1"b"2`, num(0, 1), num(4, 2))
	right(t, `a"b":`, id(0, "a"), mark(4, ":"))
	right(t, `a:"b"=`, key(0, "a:"), op(5, "="))
	right(t, `:"b"=`, mark(0, ":"), op(4, "="))
	right(t, `+"b"-`, op(0, "+"), op(4, "-"))
	right(t, `'a'"b"'c'`, str(0, "a"), str(6, "c"))
	right(t, `#a"b":`, sym(0, "a"), mark(5, ":"))
	right(t, `'"' x "'"`, str(0, `"`), id(4, "x"))
	right(t, `"'" x '"'`, id(4, "x"), str(6, `"`))
	right(t, `'a "b" c'`, str(0, `a "b" c`))
	right(t, `"a 'b' c"`)
	right(t, `"it's" x`, id(7, "x"))
	wrong(t, `"`, 0)
	wrong(t, `"a`, 0)
	wrong(t, `"""`, 2)
	wrong(t, `""a"`, 3, id(2, "a"))
	wrong(t, `"a" "`, 4)
	wrong(t, `a "b`, 2, id(0, "a"))
	wrong(t, "a \"\n b c\n", 2, id(0, "a"))
	wrong(t, `"'`, 0)
	wrong(t, `'"`, 0)
	wrong(t, `"'" '`, 4)
	wrong(t, `'"' "`, 4, str(0, `"`))
	for i := range 256 {
		b := string([]byte{byte(i)})
		if b == `"` {
			continue
		}
		right(t, `"`+b+`"`)
		right(t, `x"a`+b+`c"y`, id(0, "x"), id(6, "y"))
		wrong(t, `x"`+b, 1, id(0, "x"))
	}
}

// P12.1: of two errors the first one, and the tokens ahead of it.
func TestFirstError(t *testing.T) {
	for _, f := range faults() {
		wrong(t, f, 0)
		wrong(t, " \n"+f, 2)
		for _, g := range faults() {
			if strings.ContainsAny(f[:1], "'\"") && strings.Contains(g, f[:1]) {
				continue // it would end the string or the comment
			}
			wrong(t, f+" "+g, 0)
			wrong(t, "a "+f+"\n"+g, 2, id(0, "a"))
			wrong(t, `#at: "no" (`+f+" x)"+g, 11, sym(0, "at:"), mark(10, "("))
		}
	}
	wrong(t, "$ '", 0)
	wrong(t, "1234567890 $", 0)
	wrong(t, "a # $", 2, id(0, "a"))
}

// P12.1: the offset of each of two tokens, of each kind, with each gap ahead of them, between them and behind them.
func TestPairs(t *testing.T) {
	for _, a := range sources() {
		first, e, _ := scanned(a)
		if e != api.OK || len(first) != 2 {
			t.Fatalf("%q is not one token", a)
		}
		right(t, a, first[0])
		for _, b := range sources() {
			second, _, _ := scanned(b)
			compare(t, a+b)
			for _, g := range gaps() {
				x, y := first[0], second[0]
				y.At = len(a) + len(g)
				right(t, a+g+b, x, y)
				x.At += len(g)
				y.At += len(g)
				right(t, g+a+g+b+g, x, y)
			}
		}
	}
}

// words calls a function with all texts of at most n of some pieces.
func words(n int, pieces []string, do func(s string)) {
	do("")
	if n > 0 {
		for _, p := range pieces {
			words(n-1, pieces, func(s string) { do(p + s) })
		}
	}
}

// P12.1 and P12.2: all short texts of a few bytes against the chapter's words.
func TestShort(t *testing.T) {
	for _, x := range []struct {
		n      int
		pieces string
	}{{4, "aA1:='\"# +$|"}, {6, "a:=#"}, {6, "a:#'"}, {7, "'a "}, {7, "'\"a"}, {6, "1a: "}, {5, "=+:#a"}, {7, "a:#"}} {
		words(x.n, strings.Split(x.pieces, ""), func(s string) { compare(t, s) })
		if t.Failed() {
			return
		}
	}
	n40 := times("a", 40)
	words(4, []string{n40, "a", "9", ":", "#", "="}, func(s string) { compare(t, s) })
	words(4, []string{"12345678", "9", "a", "#", "-", " "}, func(s string) { compare(t, s) })
	words(3, []string{"a:b:c:d:e:f:g:h:", "i:", "j", ":", "#", "="}, func(s string) { compare(t, s) })
}

// text is a random one, of tokens, gaps, and now and then an error.
func text(r *rand.Rand) string {
	var s strings.Builder
	for range r.Intn(12) {
		switch r.Intn(10) {
		case 0, 1, 2, 3, 4:
			s.WriteString(sources()[r.Intn(len(sources()))])
		case 5, 6, 7:
			s.WriteString(gaps()[r.Intn(len(gaps()))])
		case 8:
			s.WriteByte("ab1:='\"#+ ^"[r.Intn(11)])
		default:
			if r.Intn(3) == 0 {
				s.WriteString(faults()[r.Intn(len(faults()))])
			} else {
				s.WriteByte(byte(r.Intn(256)))
			}
		}
	}
	return s.String()
}

// P12.1 and P12.2: random texts against the chapter's words.
func TestRandom(t *testing.T) {
	r := rand.New(rand.NewSource(12))
	for range 4000 {
		compare(t, text(r))
	}
	if t.Failed() {
		return
	}
	for range 4000 {
		b := make([]byte, r.Intn(12))
		r.Read(b)
		compare(t, string(b))
	}
}

// streamed are texts, right and wrong ones, with few tokens and with many.
func streamed() []string {
	l := append(sources(), faults()...)
	l = append(l, "", " ", "a", "a b c", "x:=#at:put: size.", "a b $ c", "at: i put: x ^(self + 3) 'x'", `"only"`, "a 'b", "1 \"", times(" ", 4000), times("(", 300), times("#a ", 100), times(" ", 4001), times("a ", 2001))
	return l
}

// collect are the first n tokens of an iterator. It fails if the iterator goes on once the loop stops.
func collect(t *testing.T, tokens iter.Seq[api.Token], n int) []api.Token {
	t.Helper()
	var l []api.Token
	tokens(func(tok api.Token) bool {
		if len(l) >= n {
			t.Fatal("it goes on")
		}
		l = append(l, tok)
		return len(l) < n
	})
	return l
}

// P12.2: a loop may stop after each token, and begins anew each time.
func TestStop(t *testing.T) {
	for _, s := range streamed() {
		want, _, _ := scanned(s)
		tokens := Stream(s)
		for n := 1; n <= len(want); n += 1 + n/20 {
			if l := collect(t, tokens, n); !slices.Equal(l, want[:n]) {
				t.Errorf("%s: the first %d: %s, not %s", short(s), n, show(l), show(want[:n]))
			}
		}
		for range 3 {
			if l := collect(t, tokens, len(want)+1); !slices.Equal(l, want) {
				t.Errorf("%s: again: %s, not %s", short(s), show(l), show(want))
			}
		}
		n := 0
		for range tokens {
			n++
			break
		}
		if n != min(1, len(want)) {
			t.Errorf("%s: a loop of %d", short(s), n)
		}
	}
}

// P12.2: loops over the same iterator, one within the other, do not disturb each other.
func TestNested(t *testing.T) {
	tokens := Stream("a #b: 'c' $")
	want := list(id(0, "a"), sym(2, "b:"), str(6, "c"))
	outer := 0
	for x := range tokens {
		if x != want[outer] {
			t.Errorf("%+v, not %+v", x, want[outer])
		}
		outer++
		if l := slices.Collect(tokens); !slices.Equal(l, want) {
			t.Errorf("%s", show(l))
		}
	}
	next, stop := iter.Pull(tokens)
	defer stop()
	other, stopOther := iter.Pull(tokens)
	defer stopOther()
	for i := range 4 {
		x, ok := next()
		y, okOther := other()
		if ok != (i < 3) || ok != okOther || x != y || ok && x != want[i] {
			t.Errorf("%d: %+v %v, %+v %v", i, x, ok, y, okOther)
		}
	}
}

// toQuote are texts to quote.
func toQuote() []string {
	l := []string{"", "a", "it's", "'", "''", "'''", "'a", "a'", "'a'", "a''b", "\n", "\r\n", "\"", "\"a\"", "\x00", "\xff", "\u00e4", "a b", "#a", "'it''s'", " ", times("'", 1999), times("x", 3998), times("x'", 1332)}
	for i := range 256 {
		b := string([]byte{byte(i)})
		l = append(l, b, "a"+b+"c", b+"'", "'"+b, b+b)
	}
	return l
}

// checkQuote asks for what chapter 12 says of a string's source, byte by byte, and that it is one token, which stands for the text.
func checkQuote(t *testing.T, s string) {
	t.Helper()
	want := []byte{'\''}
	for _, b := range []byte(s) {
		if b == '\'' {
			want = append(want, '\'')
		}
		want = append(want, b)
	}
	want = append(want, '\'')
	got := Quote(s)
	if got != string(want) {
		t.Errorf("Quote(%s): %s", short(s), short(got))
	}
	if len(got) > 4000 {
		check(t, got, nil, api.ErrFull, 0)
		return
	}
	right(t, got, str(0, s))
	right(t, "a:"+got+".", key(0, "a:"), str(2, s), mark(2+len(got), "."))
}

// P12.2 and P12.3: Quote is one token, which stands for the text.
func TestQuote(t *testing.T) {
	for s, want := range map[string]string{"": "''", "a": "'a'", "it's": "'it''s'", "'": "''''", "''": "''''''", "\"": "'\"'", "\n\xff": "'\n\xff'"} {
		if got := Quote(s); got != want {
			t.Errorf("Quote(%q): %q, not %q", s, got, want)
		}
	}
	for _, s := range toQuote() {
		if n := len(s) + strings.Count(s, "'") + 2; n > 3996 {
			continue
		}
		checkQuote(t, s)
	}
	r := rand.New(rand.NewSource(3))
	for range 3000 {
		b := make([]byte, r.Intn(20))
		for i := range b {
			b[i] = "''ab\n\"#\xff"[r.Intn(8)]
		}
		checkQuote(t, string(b))
	}
	for range 300 {
		b := make([]byte, r.Intn(300))
		r.Read(b)
		checkQuote(t, string(b))
	}
}

// P12.2 and P12.3: the source of a long text is all of it, whether it may be scanned or not.
func TestLongQuote(t *testing.T) {
	for _, s := range []string{times("x", 3998), times("'", 1999), times("x'", 1332) + "xx"} {
		got := Quote(s)
		if got != "'"+strings.Join(strings.Split(s, "'"), "''")+"'" || len(got) != 4000 {
			t.Errorf("Quote(%s): %s", short(s), short(got))
		}
		right(t, got, str(0, s))
		check(t, got+" ", nil, api.ErrFull, 0)
	}
	for _, s := range []string{times("x", 3999), times("'", 2000), times("x'", 100000)} {
		got := Quote(s)
		if got != "'"+strings.Join(strings.Split(s, "'"), "''")+"'" {
			t.Errorf("Quote(%s): %s", short(s), short(got))
		}
		check(t, got, nil, api.ErrFull, 0)
	}
}

// moved are tokens with the offsets that they have if a text of n bytes is laid ahead of those from number i on.
func moved(l []api.Token, i, n int) []api.Token {
	m := slices.Clone(l)
	for j := i; j < len(m); j++ {
		m[j].At += n
	}
	return m
}

// checkGaps lays gaps ahead of each token of a text: nothing changes but the offsets of those behind.
func checkGaps(t *testing.T, s string, gaps []string) {
	t.Helper()
	l, e, at := All(s)
	if e != api.OK {
		l = slices.Collect(Stream(s))
		l = append(l, end(at)) // stands for the error's place
	}
	for i, tok := range l {
		for _, g := range gaps {
			with := s[:tok.At] + g + s[tok.At:]
			want := moved(l, i, len(g))
			if e == api.OK {
				check(t, with, want, api.OK, 0)
			} else {
				check(t, with, want[:len(l)-1], e, at+len(g))
			}
		}
	}
}

// P12.3: blanks, line ends and comments between tokens change nothing but the offsets.
func TestGaps(t *testing.T) {
	for _, s := range []string{"", "a", "x:=#at:put: size.", "#at:put", "12ab", "+-*", "::=", "a:b:=c", "#a:=1", "'a'#b", "a 'b", "a#", "(a)$", "at: i put: x1 |t| t:=i+-3.^(self foo:#a:b: with:'it''s')<=#-> x:"} {
		checkGaps(t, s, gaps())
	}
	words(4, strings.Split("a:=#1+", ""), func(s string) { checkGaps(t, s, []string{" ", `"a"`}) })
	r := rand.New(rand.NewSource(5))
	for range 1500 {
		checkGaps(t, text(r), gaps()[r.Intn(10):][:3])
	}
}

// P12.3: what stands between tokens may be any gap, or any other, or several.
func TestOtherGaps(t *testing.T) {
	r := rand.New(rand.NewSource(7))
	for range 1000 {
		var want []api.Token
		var s, other strings.Builder
		for range r.Intn(10) {
			source := sources()[r.Intn(len(sources()))]
			for range 1 + r.Intn(3) {
				s.WriteString(gaps()[r.Intn(len(gaps()))])
			}
			other.WriteString(gaps()[r.Intn(len(gaps()))])
			l, _, _ := scanned(source)
			want = append(want, l[0])
			want[len(want)-1].At = s.Len()
			s.WriteString(source)
			other.WriteString(source)
		}
		right(t, s.String(), want...)
		l, e, _ := All(other.String())
		if e != api.OK || len(l) != len(want)+1 {
			t.Fatalf("%q: %s, %d", other.String(), show(l), e)
		}
		for i, tok := range want {
			tok.At = l[i].At
			if tok != l[i] {
				t.Errorf("%q: %+v, not %+v", other.String(), l[i], tok)
			}
		}
	}
}

// within tells whether a text lies in the memory of another one.
func within(part, whole string) bool {
	if part == "" || whole == "" {
		return false
	}
	p, w := uintptr(unsafe.Pointer(unsafe.StringData(part))), uintptr(unsafe.Pointer(unsafe.StringData(whole)))
	return w <= p && p < w+uintptr(len(whole))
}

// P12.3: results are new memory: no text is a piece of the source, nor of another result.
func TestNewMemory(t *testing.T) {
	for _, s := range streamed() {
		s = strings.Clone(s)
		l, _, _ := All(s)
		streamed := Stream(s)
		lists := [][]api.Token{l, slices.Collect(streamed), slices.Collect(streamed)}
		if again, _, _ := All(s); !slices.Equal(again, l) {
			t.Errorf("%s: again %s, not %s", short(s), show(again), show(l))
		}
		for i, x := range lists {
			for _, tok := range x {
				if within(tok.Text, s) {
					t.Errorf("%s: %+v is a piece of it", short(s), tok)
				}
			}
			for _, y := range lists[:i] {
				if len(x) > 0 && len(y) > 0 && &x[0] == &y[0] {
					t.Errorf("%s: lists share memory", short(s))
				}
				for j := range min(len(x), len(y)) {
					if len(y[j].Text) > 1 && within(x[j].Text, y[j].Text) {
						t.Errorf("%s: %+v twice", short(s), x[j])
					}
				}
			}
		}
	}
	for _, s := range toQuote() {
		s = strings.Clone(s)
		got, again := Quote(s), Quote(s)
		if within(got, s) || within(s, got) || within(got, again) {
			t.Errorf("Quote(%s) is no new memory", short(s))
		}
	}
}

// P12.3: a change to a result is not seen in later ones, nor in a list of the same text.
func TestChangedResults(t *testing.T) {
	const s = "x:=#at:put: size."
	want := list(id(0, "x"), mark(1, ":="), sym(3, "at:put:"), id(12, "size"), mark(16, "."), end(17))
	first, _, _ := All(s)
	tokens := Stream(s)
	second := slices.Collect(tokens)
	for _, l := range [][]api.Token{first, second} {
		for i := range l {
			l[i] = api.Token{Kind: 9, Text: "changed", N: 1, At: 2}
		}
		_ = append(l[:1], l...)
	}
	check(t, s, want, api.OK, 0)
	if l := slices.Collect(tokens); !slices.Equal(l, want) {
		t.Errorf("%s", show(l))
	}
	if _, e, _ := All("$"); e != api.ErrScan {
		t.Error(e)
	}
	check(t, s, want, api.OK, 0)
	kept, _, _ := All("a b c d e f g")
	_, _, _ = All("1 2 3 4 5 6 7")
	if !slices.Equal(kept, list(id(0, "a"), id(2, "b"), id(4, "c"), id(6, "d"), id(8, "e"), id(10, "f"), id(12, "g"), end(13))) {
		t.Errorf("%s", show(kept))
	}
}

// P12.2 and P12.3: an argument is not kept: what becomes of its memory afterwards is not seen in a result.
func TestNotKept(t *testing.T) {
	b := []byte("ab: 'cd' #ef + 12.")
	s := unsafe.String(&b[0], len(b))
	want := list(key(0, "ab:"), str(4, "cd"), sym(9, "ef"), op(13, "+"), num(15, 12), mark(17, "."), end(18))
	l, _, _ := All(s)
	tokens := Stream(s)
	half := collect(t, tokens, 3)
	q := Quote(s)
	for i := range b {
		b[i] = '$'
	}
	if !slices.Equal(l, want) || !slices.Equal(half, want[:3]) {
		t.Errorf("%s, %s", show(l), show(half))
	}
	if l := slices.Collect(tokens); !slices.Equal(l, want) {
		t.Errorf("%s", show(l))
	}
	if q != "'ab: ''cd'' #ef + 12.'" {
		t.Errorf("%q", q)
	}
}
