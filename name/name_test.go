package name

import (
	"math/rand"
	"regexp"
	"slices"
	"strings"
	"testing"
	"unsafe"

	"monticule/api"
)

// The chapter's section 'Terms', as expressions, which know nothing of the package.
var (
	isName    = regexp.MustCompile(`\A[a-zA-Z][a-zA-Z0-9]{0,39}\z`)
	isClass   = regexp.MustCompile(`\A[A-Z][a-zA-Z0-9]{0,39}\z`)
	isVar     = regexp.MustCompile(`\A[a-z][a-zA-Z0-9]{0,39}\z`)
	isKeyword = regexp.MustCompile(`\A([a-z][a-zA-Z0-9]{0,39}:){1,10}\z`)
	isMarks   = regexp.MustCompile(`\A[-+*/<>=~&,@%]{1,2}\z`)
)

func reservedNames() []string { return []string{"self", "super", "nil", "true", "false"} }

func builtIn() []string {
	return []string{"Object", "Nil", "Boolean", "Integer", "String", "Symbol", "Array", "Block", "Class", "System"}
}

// name40 and name41 are just the longest name, and one character more.
func name40() string { return strings.Repeat("a", 40) }
func name41() string { return strings.Repeat("a", 41) }

// notNames are texts that are no names, whatever the case of their first letter.
func notNames() []string {
	return []string{"", "1", "1a", "12345", "_", "_a", "a_", "a_b", "a b", " a", "a ", "a\n", "\na", "a.b", "a-b", "a:b", "a@", "a[", "a`", "a{", "a/",
		"Foo bar", "Foo>>bar", "a\x00", "\x00", "\x00a", "\u00e4", "a\u00e4", "\u00e4a", "\u00c4b", "\u0430", "a\u0661", "\uff41", "\ufffd", "a\ufffd", "\U0001d44e",
		"\x80", "\xff", "a\xff", "\xffa", "a\xc3", "\xe4b", "A\x80B", name41(), strings.Repeat("A", 41), strings.Repeat("a", 4000), "1" + strings.Repeat("a", 39), strings.Repeat("\u00e4", 20)}
}

func same(t *testing.T, what, s string, got, want bool) {
	t.Helper()
	if got != want {
		t.Errorf("%s(%q): %v, not %v", what, s, got, want)
	}
}

// P6.1: ordinary names, and names of just the greatest length.
func TestNames(t *testing.T) {
	for _, s := range []string{"a", "z", "x1", "foo", "fooBar", "fooBar29", "aA", "a0", "z9Z", "selfish", "Self", "nil1", "nils", "tRue", "superb", "falseAlarm", "se", "sel", "object", name40(), "z" + strings.Repeat("9", 39)} {
		upper := 'A' <= s[0] && s[0] <= 'Z'
		same(t, "Is", s, Is(s), true)
		same(t, "Class", s, Class(s), upper)
		same(t, "Var", s, Var(s), !upper)
	}
	for _, s := range []string{"A", "Z", "A1", "Foo", "FOO", "FooBar", "A0", "Z9z", "Self", "Super", "Nil", "True", "False", "Nope", strings.Repeat("A", 40), "Z" + strings.Repeat("0", 39)} {
		same(t, "Is", s, Is(s), true)
		same(t, "Class", s, Class(s), true)
		same(t, "Var", s, Var(s), false)
	}
}

// P6.1: what is no name is no class name and no variable name either, nor a built-in class.
func TestNotNames(t *testing.T) {
	for _, s := range notNames() {
		same(t, "Is", s, Is(s), false)
		same(t, "Class", s, Class(s), false)
		same(t, "Var", s, Var(s), false)
		same(t, "Always", s, Always(s), false)
	}
}

// P6.1: self and the like are names, but no variable names.
func TestReserved(t *testing.T) {
	for _, s := range reservedNames() {
		same(t, "Is", s, Is(s), true)
		same(t, "Class", s, Class(s), false)
		same(t, "Var", s, Var(s), false)
		for _, near := range []string{s + "s", s + "1", s[:len(s)-1], s + s, "x" + s} {
			same(t, "Var", near, Var(near), true)
		}
	}
}

// P6.1: each built-in class, and names that are nearly one.
func TestAlways(t *testing.T) {
	for _, s := range builtIn() {
		same(t, "Always", s, Always(s), true)
		same(t, "Class", s, Class(s), true)
		for _, other := range []string{strings.ToLower(s), strings.ToUpper(s), s + "s", s + " ", " " + s, s + "\x00", s[1:], s[:len(s)-1], s + s} {
			same(t, "Always", other, Always(other), false)
		}
	}
	for _, s := range []string{"", "Foo", "object", "UndefinedObject", "True", "False", "Float", "Character", "Self", "Super", "Method", "ObjectNil", "Object,Nil"} {
		same(t, "Always", s, Always(s), false)
	}
	for _, s := range reservedNames() {
		same(t, "Always", s, Always(s), false)
	}
}

// P6.1: each byte first, and behind a letter.
func TestEachByte(t *testing.T) {
	for i := range 256 {
		b := byte(i)
		lower, upper, digit := 'a' <= b && b <= 'z', 'A' <= b && b <= 'Z', '0' <= b && b <= '9'
		for _, rest := range []string{"", "q", "Q7", "z" + strings.Repeat("q", 38)} {
			s := string([]byte{b}) + rest
			same(t, "Is", s, Is(s), lower || upper)
			same(t, "Class", s, Class(s), upper)
			same(t, "Var", s, Var(s), lower)
		}
		for _, place := range []int{1, 2, 20, 39} {
			x := []byte(name40())
			x[place] = b
			same(t, "Is", string(x), Is(string(x)), lower || upper || digit)
			same(t, "Var", string(x), Var(string(x)), lower || upper || digit)
			x[0] = 'A'
			same(t, "Class", string(x), Class(string(x)), lower || upper || digit)
		}
	}
}

// wantSelector checks all that is told of a selector; none has no parts.
func wantSelector(t *testing.T, sel string, kind, args int, parts ...string) {
	t.Helper()
	if got := Kind(sel); got != kind {
		t.Errorf("Kind(%q): %d, not %d", sel, got, kind)
	}
	if got := Args(sel); got != args {
		t.Errorf("Args(%q): %d, not %d", sel, got, args)
	}
	if got := Parts(sel); !slices.Equal(got, parts) {
		t.Errorf("Parts(%q): %q, not %q", sel, got, parts)
	}
	joined := sel
	if kind == api.SelNone {
		joined = ""
	}
	if got := Join(parts...); got != joined {
		t.Errorf("Join(%q): %q, not %q", parts, got, joined)
	}
	if kind == api.SelNone && Join(sel) != "" {
		t.Errorf("Join(%q): %q", sel, Join(sel))
	}
}

func wantNone(t *testing.T, sel string) {
	t.Helper()
	wantSelector(t, sel, api.SelNone, -1)
}

// P6.2: unary selectors; self and the like are some.
func TestUnary(t *testing.T) {
	for _, s := range append(reservedNames(), "a", "x1", "foo", "fooBar", "size", "printString", name40()) {
		wantSelector(t, s, api.SelUnary, 0, s)
	}
	for _, s := range append(append(builtIn(), notNames()...), "A", "Foo", "FooBar", strings.Repeat("A", 40)) {
		wantNone(t, s)
	}
}

// P6.2: binary selectors of one and of two characters; none of three, and none with another character.
func TestBinary(t *testing.T) {
	marks := "+-*/<>=~&,@%"
	for i := range 256 {
		one := string([]byte{byte(i)})
		good := strings.Contains(marks, one)
		if good {
			wantSelector(t, one, api.SelBinary, 1, one)
		}
		for _, mark := range strings.Split(marks, "") {
			for _, two := range []string{one + mark, mark + one} {
				if good {
					wantSelector(t, two, api.SelBinary, 1, two)
				} else {
					wantNone(t, two)
				}
			}
			wantNone(t, one+mark+mark)
			wantNone(t, mark+one+mark)
			wantNone(t, mark+mark+one)
		}
	}
	for _, s := range []string{"<=", ">=", "->", "==", "~=", "//", "--", ",,"} {
		wantSelector(t, s, api.SelBinary, 1, s)
	}
	for _, s := range []string{"===", "<=>", "~==", "+++", "++++", marks, "^", "|", "#", "!", "?", "\\", "(", ";", ".", "_", "'", "\"", "\u00d7", "+\u00d7", "\u00f7", "\xf7", "+\xff", "\ufffd", "+\ufffd", "+ ", " +", "+\n"} {
		wantNone(t, s)
	}
}

// P6.2: keyword selectors of one to ten names; none of eleven.
func TestKeyword(t *testing.T) {
	wantSelector(t, "at:", api.SelKeyword, 1, "at:")
	wantSelector(t, "at:put:", api.SelKeyword, 2, "at:", "put:")
	wantSelector(t, "a1:aB2:z:", api.SelKeyword, 3, "a1:", "aB2:", "z:")
	wantSelector(t, "a:a:", api.SelKeyword, 2, "a:", "a:")
	wantSelector(t, "self:super:nil:true:false:", api.SelKeyword, 5, "self:", "super:", "nil:", "true:", "false:")
	for n := 1; n <= 10; n++ {
		for _, part := range []string{"a:", "fooBar:", name40() + ":"} {
			wantSelector(t, strings.Repeat(part, n), api.SelKeyword, n, slices.Repeat([]string{part}, n)...)
		}
	}
	for n := 11; n <= 13; n++ {
		for _, part := range []string{"a:", name40() + ":"} {
			wantNone(t, strings.Repeat(part, n))
		}
	}
	wantNone(t, strings.Repeat("a:", 10)+"b")
	wantNone(t, strings.Repeat("a:", 10)+":")
	wantNone(t, strings.Repeat("a:", 100000))
}

// P6.2: the names of a keyword selector at each place: too long, with another first letter, empty.
func TestKeywordNames(t *testing.T) {
	for n := 1; n <= 10; n++ {
		for place := range n {
			parts := slices.Repeat([]string{"k:"}, n)
			parts[place] = name40() + ":"
			wantSelector(t, strings.Join(parts, ""), api.SelKeyword, n, parts...)
			for _, bad := range []string{name41() + ":", "K:", "Ab:", "1:", "1a:", ":", "a::", " a:", "a :", "a b:", "_:", "+:", "\u00e4:", "\xff:", "a\x00:", strings.Repeat("A", 40) + ":"} {
				parts[place] = bad
				wantNone(t, strings.Join(parts, ""))
				if got := Join(parts...); got != "" {
					t.Errorf("Join(%q): %q", parts, got)
				}
			}
		}
	}
}

// P6.2: texts that are nearly keyword selectors.
func TestNotKeyword(t *testing.T) {
	for _, s := range []string{"at:put", "a:b", ":", "::", ":at", ":at:", "::at:", "at::", "at::put:", "at:put::", ":at:put:", "At:", "At:put:", "at:Put:", "a:B:", "at: put:", "at:put: ", " at:put:", "at:\nput:", "at:put:\n", "at:+", "+at:", "+:", "at:=", ":=", "at;put;", "at\uff1aput\uff1a", "at:put:\xff", "at:put:\x00"} {
		wantNone(t, s)
	}
}

// P6.2: Join takes the Parts of a selector, and nothing else.
func TestJoin(t *testing.T) {
	for _, x := range []struct {
		parts []string
		want  string
	}{
		{nil, ""},
		{[]string{}, ""},
		{[]string{""}, ""},
		{[]string{"", ""}, ""},
		{[]string{"size"}, "size"},
		{[]string{"self"}, "self"},
		{[]string{"+"}, "+"},
		{[]string{"<="}, "<="},
		{[]string{"at:"}, "at:"},
		{[]string{"at:", "put:"}, "at:put:"},
		{[]string{"put:", "at:"}, "put:at:"},
		{[]string{"a", "b"}, ""},
		{[]string{"size", ""}, ""},
		{[]string{"", "size"}, ""},
		{[]string{"<", "="}, ""},
		{[]string{"<=", ""}, ""},
		{[]string{"at:put:"}, ""},
		{[]string{"at:put:", "x:"}, ""},
		{[]string{"x:", "at:put:"}, ""},
		{[]string{"at", ":"}, ""},
		{[]string{"a", "t:", "put:"}, ""},
		{[]string{"at:p", "ut:"}, ""},
		{[]string{"at:put", ":"}, ""},
		{[]string{"at", ":put:"}, ""},
		{[]string{"at:", "put"}, ""},
		{[]string{"at", "put"}, ""},
		{[]string{"at", "put:"}, ""},
		{[]string{"at:", ""}, ""},
		{[]string{"", "at:"}, ""},
		{[]string{"at:", "", "put:"}, ""},
		{[]string{"at:", ":"}, ""},
		{[]string{"at:", "+"}, ""},
		{[]string{"At:", "put:"}, ""},
		{[]string{"Foo"}, ""},
		{[]string{"==="}, ""},
		{[]string{name41()}, ""},
		{[]string{"a", strings.Repeat("a", 39)}, ""},
		{slices.Repeat([]string{"a:"}, 10), strings.Repeat("a:", 10)},
		{slices.Repeat([]string{"a:"}, 11), ""},
		{slices.Repeat([]string{""}, 11), ""},
		{slices.Repeat([]string{"a:"}, 1000), ""},
	} {
		if got := Join(x.parts...); got != x.want {
			t.Errorf("Join(%q): %q, not %q", x.parts, got, x.want)
		}
	}
}

// P6.2: every way to cut a selector into arguments; Join takes just the one of its Parts.
func TestJoinCuts(t *testing.T) {
	for _, sel := range []string{"size", "<=", "at:", "at:put:", "a:b:c:d:"} {
		parts := Parts(sel)
		for cuts := range 1 << (len(sel) - 1) {
			pieces := cut(sel, cuts)
			want := ""
			if slices.Equal(pieces, parts) {
				want = sel
			}
			if got := Join(pieces...); got != want {
				t.Errorf("Join(%q): %q, not %q", pieces, got, want)
			}
		}
	}
}

// cut cuts a text behind each byte whose bit is set.
func cut(s string, bits int) []string {
	var pieces []string
	start := 0
	for i := range len(s) {
		if i == len(s)-1 || bits>>i&1 == 1 {
			pieces = append(pieces, s[start:i+1])
			start = i + 1
		}
	}
	return pieces
}

// P6.2: the examples of the chapter.
func TestExamples(t *testing.T) {
	if Args("at:put:") != 2 || Args("<=") != 1 || Kind("Foo") != api.SelNone || Args("Foo") != -1 || len(Parts("Foo")) != 0 {
		t.Errorf("%d, %d, %d, %d, %q", Args("at:put:"), Args("<="), Kind("Foo"), Args("Foo"), Parts("Foo"))
	}
}

// checkModel compares all functions with the expressions, for one text; and counts the kinds that it is of.
func checkModel(t *testing.T, s string) {
	t.Helper()
	same(t, "Is", s, Is(s), isName.MatchString(s))
	same(t, "Class", s, Class(s), isClass.MatchString(s))
	same(t, "Var", s, Var(s), isVar.MatchString(s) && !slices.Contains(reservedNames(), s))
	same(t, "Always", s, Always(s), slices.Contains(builtIn(), s))
	kinds := 0
	if isVar.MatchString(s) {
		kinds++
		wantSelector(t, s, api.SelUnary, 0, s)
	}
	if isMarks.MatchString(s) {
		kinds++
		wantSelector(t, s, api.SelBinary, 1, s)
	}
	if isKeyword.MatchString(s) {
		kinds++
		parts := strings.SplitAfter(strings.TrimSuffix(s, ":"), ":")
		parts[len(parts)-1] += ":"
		wantSelector(t, s, api.SelKeyword, len(parts), parts...)
	}
	switch kinds {
	case 0:
		wantNone(t, s)
	case 1:
	default:
		t.Errorf("%q is of %d kinds", s, kinds)
	}
}

// P6.1 to P6.3: all short texts of a few characters.
func TestAllShort(t *testing.T) {
	alphabet := []string{"a", "z", "A", "0", ":", "+", "=", "_", "\u00e4", "\xff"}
	texts := []string{""}
	for range 5 {
		var longer []string
		for _, s := range texts {
			checkModel(t, s)
			for _, c := range alphabet {
				longer = append(longer, s+c)
			}
		}
		texts = longer
	}
}

// P6.1 to P6.3: random texts, most of them a selector or nearly one.
func TestRandom(t *testing.T) {
	random := rand.New(rand.NewSource(6))
	pieces := append(append(reservedNames(), builtIn()...), "a", "bC", "D", "7", ":", "::", "+", "<=", ",", "^", "\xff", "x1:", "put:", name40()+":", name40(), name41())
	for range 30000 {
		var b strings.Builder
		for range random.Intn(13) {
			piece := pieces[random.Intn(len(pieces))]
			if random.Intn(3) > 0 {
				piece = "k:"
			}
			b.WriteString(piece)
		}
		checkModel(t, b.String())
	}
}

// P6.3: the selectors of each kind are told apart, and each is of one kind.
func TestOneKind(t *testing.T) {
	kinds := map[string]int{"x": api.SelUnary, "x:": api.SelKeyword, ",": api.SelBinary, "xx": api.SelUnary, "x:x:": api.SelKeyword, ",,": api.SelBinary}
	for sel, want := range kinds {
		if got := Kind(sel); got != want {
			t.Errorf("%q: %d, not %d", sel, got, want)
		}
	}
	if api.SelUnary != 1 || api.SelBinary != 2 || api.SelKeyword != 3 || api.SelNone != 0 {
		t.Error("the kinds have other numbers")
	}
}

// P6.3: lists are new memory: what is done to one is not seen in another.
func TestPartsAreNew(t *testing.T) {
	for _, x := range []struct {
		sel  string
		want []string
	}{{"at:put:", []string{"at:", "put:"}}, {"size", []string{"size"}}, {"+", []string{"+"}}} {
		first, second := Parts(x.sel), Parts(x.sel)
		clear(first[:cap(first)])
		_ = append(second[:1], "mine", "mine", "mine")
		second[0] = "mine"
		if got := Parts(x.sel); !slices.Equal(got, x.want) {
			t.Errorf("%q: %q", x.sel, got)
		}
		if Kind(x.sel) == api.SelNone || Args(x.sel) < 0 || Join(x.want...) != x.sel {
			t.Errorf("%q is no selector any more", x.sel)
		}
	}
}

// shares tells whether a text lies within the memory of another.
func shares(s, whole string) bool {
	at, from := uintptr(unsafe.Pointer(unsafe.StringData(s))), uintptr(unsafe.Pointer(unsafe.StringData(whole)))
	return from <= at && at < from+uintptr(len(whole))
}

// P6.3: the texts of a result lie in new memory too.
func TestTextsAreNew(t *testing.T) {
	for _, sel := range []string{"size", "<=", "+", "at:", "at:put:"} {
		parts := Parts(sel)
		for i, part := range parts {
			if shares(part, sel) {
				t.Errorf("part %d of %q is a piece of it", i, sel)
			}
		}
		joined := Join(parts...)
		for i, part := range parts {
			if shares(part, joined) || shares(joined, part) {
				t.Errorf("Join of %q keeps part %d", parts, i)
			}
		}
	}
}

// P6.3: Join changes and keeps none of its arguments, nor the spare capacity behind them.
func TestJoinKeepsNothing(t *testing.T) {
	for _, x := range []struct {
		whole []string
		n     int
		want  string
	}{
		{[]string{"at:", "put:", "spare", "spare"}, 2, "at:put:"},
		{[]string{"at:", "put", "spare:", "spare"}, 2, ""},
		{[]string{"size", "spare"}, 1, "size"},
		{[]string{"at:put:", "spare"}, 1, ""},
		{[]string{"spare", "spare"}, 0, ""},
	} {
		before := slices.Clone(x.whole)
		got := Join(x.whole[:x.n]...)
		if got != x.want || !slices.Equal(x.whole, before) {
			t.Errorf("Join(%q): %q, and the arguments are %q", before[:x.n], got, x.whole)
		}
		clear(x.whole)
		if got != x.want || Join(before[:x.n]...) != x.want {
			t.Errorf("Join(%q) kept its arguments", before[:x.n])
		}
	}
}

// P6.3: a result does not depend on earlier calls.
func TestNoState(t *testing.T) {
	for range 3 {
		wantNone(t, "Foo")
		wantSelector(t, "at:put:", api.SelKeyword, 2, "at:", "put:")
		wantNone(t, "at:put")
		wantSelector(t, "self", api.SelUnary, 0, "self")
		same(t, "Var", "self", Var("self"), false)
		same(t, "Always", "Object", Always("Object"), true)
	}
}
