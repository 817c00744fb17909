package def

import (
	"bytes"
	"fmt"
	"math"
	"math/rand"
	"regexp"
	"slices"
	"strings"
	"testing"
	"unsafe"

	"monticule/api"
	"monticule/octet"
)

// What the chapters 6 and 7 say of names and keys, as expressions, which know nothing of the packages.
const (
	classPattern    = `[A-Z][a-zA-Z0-9]{0,39}`
	varPattern      = `[a-z][a-zA-Z0-9]{0,39}`
	selectorPattern = `(?:[a-z][a-zA-Z0-9]{0,39}|[-+*/<>=~&,@%]{1,2}|(?:[a-z][a-zA-Z0-9]{0,39}:){1,10})`
)

var (
	isClass     = regexp.MustCompile(`\A` + classPattern + `\z`)
	isVar       = regexp.MustCompile(`\A` + varPattern + `\z`)
	isSel       = regexp.MustCompile(`\A` + selectorPattern + `\z`)
	isMethodKey = regexp.MustCompile(`\A(` + classPattern + `)>>(` + selectorPattern + `)\z`)
)

func builtIn() []string {
	return []string{"Object", "Nil", "Boolean", "Integer", "String", "Symbol", "Array", "Block", "Class", "System"}
}

func reserved() []string { return []string{"self", "super", "nil", "true", "false"} }

func class(class, super string, vars ...string) api.Def {
	return api.Def{Kind: api.DefClass, Class: class, Super: super, Vars: vars}
}

func method(class, selector, source string) api.Def {
	return api.Def{Kind: api.DefMethod, Class: class, Selector: selector, Source: source}
}

// names are n different variable names.
func names(n int) []string {
	var l []string
	for i := range n {
		l = append(l, fmt.Sprintf("v%d", i))
	}
	return l
}

// name40 and name41 begin with a letter and have just the greatest length, and one more.
func name40(first string) string { return first + strings.Repeat("q", 39) }
func name41(first string) string { return first + strings.Repeat("q", 40) }

// anyBytes is a source of n bytes, with each byte in it where n is great enough.
func anyBytes(n int) string {
	b := make([]byte, n)
	for i := range b {
		b[i] = byte(255 - i)
	}
	return string(b)
}

// A keyed definition is a valid one with its key.
type keyed struct {
	key string
	d   api.Def
}

// keyedDefs are valid definitions, at the edges too.
func keyedDefs() []keyed {
	l := []keyed{
		{"Stack", class("Stack", "Object", "items", "top")},
		{"A", class("A", "B")},
		{"A", class("A", "A")},
		{"A", api.Def{Kind: api.DefClass, Class: "A", Super: "B", Vars: []string{}}},
		{"A", class("A", "B", "x")},
		{"A", class("A", "B", "x", "y", "xX", "selfish", "nils", "a", "tRue")},
		{"A", class("A", "B", names(19)...)},
		{"A", class("A", "B", names(20)...)},
		{"A1b", class("A1b", "Z9")},
		{"Objects", class("Objects", "Class")},
		{"OBJECT", class("OBJECT", "Self")},
		{name40("A"), class(name40("A"), name40("B"), name40("a"), name40("b"))},
		{"Stack>>size", method("Stack", "size", "size ^size")},
		{"Stack>>size", method("Stack", "size", "")},
		{"Stack>>size", api.Def{Kind: api.DefMethod, Class: "Stack", Vars: []string{}, Selector: "size"}},
		{"A>>self", method("A", "self", "self ^self")},
		{"A>>super", method("A", "super", "nonsense (")},
		{"A>>at:put:", method("A", "at:put:", "at: a put: b ^a")},
		{"A>>a:", method("A", "a:", "x")},
		{"A>>" + strings.Repeat("k:", 10), method("A", strings.Repeat("k:", 10), "x")},
		{"A>>" + strings.Repeat(name40("k")+":", 10), method("A", strings.Repeat(name40("k")+":", 10), "x")},
		{"A>>+", method("A", "+", "+ a ^a")},
		{"A>><=", method("A", "<=", "<= a ^a")},
		{"A>>>", method("A", ">", "> a ^a")},
		{"A>>>>", method("A", ">>", ">> a ^a")},
		{"A>>>=", method("A", ">=", ">= a ^a")},
		{"A>>=>", method("A", "=>", "=> a ^a")},
		{name40("A") + ">>" + name40("a"), method(name40("A"), name40("a"), "x")},
		{"A>>b", method("A", "b", strings.Repeat("x", 3999))},
		{"A>>b", method("A", "b", strings.Repeat("x", 4000))},
		{"A>>b", method("A", "b", anyBytes(4000))},
		{"A>>b", method("A", "b", strings.Repeat("\u00e4", 2000))},
		{"A>>b", method("A", "b", "\x00\xff\xc3")},
	}
	for _, s := range builtIn() {
		l = append(l, keyed{"Mine", class("Mine", s)}, keyed{s + ">>size", method(s, "size", "size ^1")})
	}
	return l
}

// wrongDefs are definitions that are not valid, each for one reason.
func wrongDefs() []api.Def {
	l := []api.Def{
		{},
		class("", "B"), class("a", "B"), class("1A", "B"), class("A_", "B"), class("A b", "B"), class("A>>b", "B"), class("\u00c4", "B"), class("A\xff", "B"), class(name41("A"), "B"), class("nil", "B"), class(" A", "B"),
		class("A", ""), class("A", "b"), class("A", "9"), class("A", "B "), class("A", "nil"), class("A", "object"), class("A", name41("B")), class("A", "B>>c"),
		class("A", "B", "x", "x"), class("A", "B", "x", "y", "x"), class("A", "B", "y", "x", "x"), class("A", "B", ""), class("A", "B", "x", ""), class("A", "B", "X"), class("A", "B", "x", "Y"), class("A", "B", "Object"), class("A", "B", "1"), class("A", "B", "x:"), class("A", "B", "+"), class("A", "B", "x y"), class("A", "B", name41("x")), class("A", "B", "\u00e4"), class("A", "B", "x\x00"),
		class("A", "B", names(21)...), class("A", "B", names(400)...), class("A", "B", make([]string, 21)...),
		class("A", "B", append(names(19), "v0")...), class("A", "B", append(names(19), "v18")...),
		{Kind: api.DefClass, Class: "A", Super: "B", Selector: "b"},
		{Kind: api.DefClass, Class: "A", Super: "B", Source: "x"},
		{Kind: api.DefClass, Class: "A", Super: "B", Selector: "B"},
		{Kind: api.DefClass, Class: "A", Selector: "b", Source: "b ^1"},
		method("", "b", ""), method("a", "b", ""), method("nil", "b", ""), method("A>>b", "b", ""), method("A ", "b", ""), method(name41("A"), "b", ""), method("\u00c4", "b", ""),
		method("A", "", ""), method("A", "B", ""), method("A", "Object", ""), method("A", "b:c", ""), method("A", ":", ""), method("A", "b::", ""), method("A", "B:", ""), method("A", "b c", ""), method("A", "+++", ""), method("A", ">>>", ""), method("A", "+b", ""), method("A", "^", ""), method("A", "\u00e4", ""), method("A", "1", ""), method("A", name41("b"), ""), method("A", strings.Repeat("k:", 11), ""),
		method("A", "b", strings.Repeat("x", 4001)), method("A", "b", anyBytes(4001)), method("A", "b", "x"+strings.Repeat("\u00e4", 2000)), method("A", "b", strings.Repeat("x", 100000)),
		{Kind: api.DefMethod, Class: "A", Selector: "b", Super: "B"},
		{Kind: api.DefMethod, Class: "A", Selector: "b", Super: "x"},
		{Kind: api.DefMethod, Class: "A", Selector: "b", Vars: []string{"x"}},
		{Kind: api.DefMethod, Class: "A", Selector: "b", Vars: []string{""}},
		{Kind: api.DefMethod, Class: "A", Super: "B", Vars: []string{"x"}},
	}
	for _, s := range builtIn() {
		l = append(l, class(s, "B"), class(s, "Object", "x"))
	}
	for _, s := range reserved() {
		l = append(l, class("A", "B", s), class("A", "B", "x", s))
	}
	for _, kind := range []int{0, 3, -1, -2, 9, 255, 257, 258, 1<<32 + 1, 1<<32 + 2, math.MaxInt64, math.MinInt64} {
		for _, d := range []api.Def{class("A", "B", "x"), method("A", "b", "b ^1"), {Class: "A"}} {
			d.Kind = kind
			l = append(l, d)
		}
	}
	return l
}

// encoded is the encoding of the chapter, put together by hand, for definitions that are not valid too.
func encoded(d api.Def) []byte {
	var w octet.Writer
	w.Num(d.Kind)
	switch d.Kind {
	case 1:
		w.Text(d.Class)
		w.Text(d.Super)
		w.Texts(d.Vars)
	case 2:
		w.Text(d.Class)
		w.Text(d.Selector)
		w.Text(d.Source)
	}
	return w.Bytes()
}

// show is a definition for a message, without the most part of a long one.
func show(d api.Def) string { return fmt.Sprintf("%.200s", fmt.Sprintf("%#v", d)) }

// isZero tells whether a definition has nothing in any field.
func isZero(d api.Def) bool {
	return d.Kind == 0 && d.Class == "" && d.Super == "" && len(d.Vars) == 0 && d.Selector == "" && d.Source == ""
}

// P7.1: Right and Key of valid definitions, and Split of their keys.
func TestValid(t *testing.T) {
	for _, x := range keyedDefs() {
		if !Right(x.d) || Key(x.d) != x.key {
			t.Errorf("%s: %v, %q, not %q", show(x.d), Right(x.d), Key(x.d), x.key)
		}
		if c, s, ok := Split(x.key); c != x.d.Class || s != x.d.Selector || !ok {
			t.Errorf("Split(%q): %q, %q, %v", x.key, c, s, ok)
		}
	}
}

// P7.1: Right and Key of definitions that are not valid.
func TestWrong(t *testing.T) {
	for i, d := range wrongDefs() {
		if Right(d) || Key(d) != "" {
			t.Errorf("%d, %s: %v, %q", i, show(d), Right(d), Key(d))
		}
	}
}

// P7.1: a field of the other kind, set in a definition that is valid without it.
func TestFieldOfTheOtherKind(t *testing.T) {
	for _, x := range keyedDefs() {
		a, b := x.d, x.d
		if x.d.Kind == api.DefClass {
			a.Selector, b.Source = "b", "b ^1"
		} else {
			a.Super, b.Vars = "B", []string{"x"}
		}
		for _, d := range []api.Def{a, b} {
			if Right(d) || Key(d) != "" {
				t.Errorf("%s is right", show(d))
			}
		}
	}
}

// P7.1: each number of variables up to the greatest, and greater ones, all names being different.
func TestManyVars(t *testing.T) {
	for _, n := range []int{21, 100, 300000} {
		if Right(class("A", "B", names(n)...)) {
			t.Errorf("%d variables are right", n)
		}
	}
	for n := range 21 {
		if !Right(class("A", "B", names(n)...)) {
			t.Errorf("%d variables are not right", n)
		}
	}
}

// P7.1: two equal variables, at each pair of places.
func TestEqualVars(t *testing.T) {
	for n := 2; n <= 20; n++ {
		for j := range n {
			for i := range j {
				l := names(n)
				l[j] = l[i]
				if Right(class("A", "B", l...)) {
					t.Errorf("%d variables, %d and %d equal, are right", n, i, j)
				}
			}
		}
	}
}

// P7.1: Split of what is not a key.
func TestSplitWrong(t *testing.T) {
	keys := []string{"", ">>", ">", ">>>", ">>>>", ">>>>>", "a", "self", "nil", "1", "A>>", "A>", ">>a", ">>+", ">a", "a>>b", "nil>>b", "1>>b", "A>b", "A>>B", "A>>Object", "A>>b:c", "A>>1", "A >>b", "A>> b", "A>>b ", " A", "A ", "A\n", "A\x00",
		"A>>b>>c", "A>>b>c", "A>>b>>", "A>>>>>", "A>>>b", "A>>>>b", "A>>>:", "A>>^", "A>>+++", "A>>b::", "A>>:", "A>>" + strings.Repeat("k:", 11), "A>>>>>>", "A>>B>>c", "A>>" + name41("b"), name41("A"), name41("A") + ">>b", "\u00c4", "A>>\u00e4", "A\xff", "A>>b\xff", "A#b", "A.b", "A b", "A::b", "at:put:", "+", "b", "A<<b", "A > > b"}
	keys = append(keys, builtIn()...)
	for _, s := range builtIn() {
		keys = append(keys, s+">>", s+">>Foo", s+">b", s+" ")
	}
	for _, key := range keys {
		if c, s, ok := Split(key); c != "" || s != "" || ok {
			t.Errorf("Split(%q): %q, %q, %v", key, c, s, ok)
		}
	}
}

// checkSplit holds Split against the chapter's terms.
func checkSplit(t *testing.T, key string) {
	t.Helper()
	c, s, ok := "", "", false
	if parts := isMethodKey.FindStringSubmatch(key); parts != nil {
		c, s, ok = parts[1], parts[2], true
	} else if isClass.MatchString(key) && !slices.Contains(builtIn(), key) {
		c, ok = key, true
	}
	gotClass, gotSelector, gotOK := Split(key)
	if gotClass != c || gotSelector != s || gotOK != ok {
		t.Errorf("Split(%q): %q, %q, %v, not %q, %q, %v", key, gotClass, gotSelector, gotOK, c, s, ok)
	}
}

// P7.1: Split of all short texts of a few characters.
func TestSplitAllShort(t *testing.T) {
	texts := []string{""}
	for range 7 {
		var longer []string
		for _, s := range texts {
			checkSplit(t, s)
			for _, c := range []string{"a", "A", ">", ":", "=", "7", "\xff"} {
				longer = append(longer, s+c)
			}
		}
		texts = longer
	}
}

// P7.1: Split of random texts, most of them a key or nearly one.
func TestSplitRandom(t *testing.T) {
	random := rand.New(rand.NewSource(7))
	pieces := append(append(builtIn(), reserved()...), ">>", ">>", ">>", ">", "A", "Foo", "b", "at:", "put:", "k:k:k:k:", "+", "<=", " ", "", "\u00e4", name40("A"), name40("a"), name41("A"), name41("a"))
	for range 50000 {
		var b strings.Builder
		for range random.Intn(6) {
			b.WriteString(pieces[random.Intn(len(pieces))])
		}
		checkSplit(t, b.String())
	}
}

// right is the chapter's section 'Terms', in its own words.
func right(d api.Def) bool {
	switch d.Kind {
	case 1:
		seen := map[string]int{}
		for _, s := range d.Vars {
			seen[s]++
			if !isVar.MatchString(s) || slices.Contains(reserved(), s) || seen[s] > 1 {
				return false
			}
		}
		return isClass.MatchString(d.Class) && !slices.Contains(builtIn(), d.Class) && isClass.MatchString(d.Super) && len(d.Vars) <= 20 && len(d.Selector)+len(d.Source) == 0
	case 2:
		return isClass.MatchString(d.Class) && isSel.MatchString(d.Selector) && len(d.Source) <= 4000 && len(d.Super)+len(d.Vars) == 0
	}
	return false
}

// randomDef is a definition that is nearly valid, and often is.
func randomDef(random *rand.Rand) api.Def {
	pick := func(l ...string) string { return l[random.Intn(len(l))] }
	seldom := func(s string) string {
		if random.Intn(8) > 0 {
			return ""
		}
		return s
	}
	className := func() string {
		return pick("A", "B", "Foo", "Ab", "Z9", "Object", "System", name40("A"), seldom("a"), "Stack", "Foo", "Foo1")
	}
	d := api.Def{Kind: 1 + random.Intn(2), Class: className()}
	if random.Intn(20) == 0 {
		d.Kind = random.Intn(6) - 2
	}
	if d.Kind == 1 {
		d.Super = className()
		for range random.Intn(4) {
			d.Vars = append(d.Vars, pick("x", "y", "z", "w", "fooBar", name40("v"), seldom("self")+"v", "u"))
		}
		if random.Intn(10) == 0 {
			d.Vars = append(d.Vars, names(17+random.Intn(6))...)
		}
		d.Selector, d.Source = seldom(seldom("b")), seldom(seldom("x"))
		return d
	}
	d.Selector = pick("b", "size", "+", ">", ">>", "at:put:", "self", name40("b"), seldom("B"), "a:", "<=", "k:k:k:")
	d.Source = pick("", "b ^1", anyBytes(300), anyBytes(4000), anyBytes(4000+random.Intn(2)), "\u00e4")
	d.Super = seldom(seldom("B"))
	if random.Intn(30) == 0 {
		d.Vars = []string{"x"}
	}
	return d
}

// P7.1 to P7.3: random definitions against the chapter's terms; both answers must occur.
func TestRandom(t *testing.T) {
	random := rand.New(rand.NewSource(8))
	counts := map[bool]int{}
	for range 20000 {
		d := randomDef(random)
		want := right(d)
		counts[want]++
		if Right(d) != want || (Key(d) != "") != want {
			t.Fatalf("%s: %v, %q", show(d), Right(d), Key(d))
		}
		if want {
			checkWritten(t, d)
		} else {
			checkNotWritten(t, d)
		}
	}
	if counts[true] < 1000 || counts[false] < 1000 {
		t.Errorf("%d valid, %d not", counts[true], counts[false])
	}
}

// P7.1: Same of definitions that differ in just one field, whether they are valid or not.
func TestSame(t *testing.T) {
	all := []api.Def{
		{},
		{Kind: 1, Class: "A", Super: "B", Vars: []string{"x", "y"}, Selector: "s", Source: "t"},
		{Kind: 2, Class: "A", Super: "B", Vars: []string{"x", "y"}, Selector: "s", Source: "t"},
		{Kind: -1, Class: "A", Super: "B", Vars: []string{"x", "y"}, Selector: "s", Source: "t"},
		{Kind: 1, Class: "a", Super: "B", Vars: []string{"x", "y"}, Selector: "s", Source: "t"},
		{Kind: 1, Class: "B", Super: "A", Vars: []string{"x", "y"}, Selector: "s", Source: "t"},
		{Kind: 1, Class: "A", Super: "", Vars: []string{"x", "y"}, Selector: "s", Source: "t"},
		{Kind: 1, Class: "A", Super: "b", Vars: []string{"x", "y"}, Selector: "s", Source: "t"},
		{Kind: 1, Class: "A", Super: "B", Vars: []string{"y", "x"}, Selector: "s", Source: "t"},
		{Kind: 1, Class: "A", Super: "B", Vars: []string{"x"}, Selector: "s", Source: "t"},
		{Kind: 1, Class: "A", Super: "B", Vars: []string{"x", "y", ""}, Selector: "s", Source: "t"},
		{Kind: 1, Class: "A", Super: "B", Vars: []string{"x", "x"}, Selector: "s", Source: "t"},
		{Kind: 1, Class: "A", Super: "B", Vars: []string{"xy"}, Selector: "s", Source: "t"},
		{Kind: 1, Class: "A", Super: "B", Vars: []string{"xy", ""}, Selector: "s", Source: "t"},
		{Kind: 1, Class: "A", Super: "B", Selector: "s", Source: "t"},
		{Kind: 1, Class: "A", Super: "B", Vars: []string{"x", "y"}, Selector: "", Source: "t"},
		{Kind: 1, Class: "A", Super: "B", Vars: []string{"x", "y"}, Selector: "t", Source: "s"},
		{Kind: 1, Class: "A", Super: "B", Vars: []string{"x", "y"}, Selector: "s", Source: ""},
		{Kind: 1, Class: "A", Super: "B", Vars: []string{"x", "y"}, Selector: "s", Source: "t "},
		{Kind: 1, Class: "AB", Super: "", Vars: []string{"x", "y"}, Selector: "s", Source: "t"},
		{Kind: 1},
		{Kind: 2},
		{Kind: 3},
		{Vars: []string{""}},
	}
	for i, a := range all {
		for j, b := range all {
			b.Vars = slices.Clone(b.Vars)
			if Same(a, b) != (i == j) {
				t.Errorf("Same(%v, %v): %v", a, b, Same(a, b))
			}
		}
	}
	for _, d := range []api.Def{class("A", "B"), method("A", "b", "x"), {}} {
		empty := d
		empty.Vars = make([]string, 0, 3)
		if !Same(d, empty) || !Same(empty, d) {
			t.Errorf("%v: a nil list and an empty one differ", d)
		}
	}
}

// P7.1: the order of keys, which are compared bytewise.
func TestCompare(t *testing.T) {
	// They rise. ("0" < ">" < "A" < "a": a method of A stands behind class A0 and ahead of class AA.)
	rising := []api.Def{
		{},
		class("A", "B"), class("A0", "B"), class("A0a", "B"), class("A9", "B"),
		method("A", "%", ""), method("A", "+", ""), method("A", "++", ""), method("A", ">", ""), method("A", ">>", ""), method("A", "a", ""), method("A", "a:", ""), method("A", "a:b:", ""), method("A", "aA", ""), method("A", "aa", ""), method("A", "b", ""),
		class("AA", "B"), method("AA", "a", ""), class("Aa", "B"), class("Ab", "B"), class("B", "A"), method("Integer", "size", ""), class("Stack", "Object"), method("Stack", "size", ""), class("Stacks", "A")}
	for i, a := range rising {
		for j, b := range rising {
			want := 0
			if i < j {
				want = -1
			} else if i > j {
				want = 1
			}
			if got := Compare(a, b); got != want {
				t.Errorf("Compare(%v, %v): %d, not %d", a, b, got, want)
			}
		}
	}
}

// P7.1: only keys count for Compare; the key of what is not valid is the empty string.
func TestCompareOnlyKeys(t *testing.T) {
	for _, x := range [][2]api.Def{
		{class("A", "B", "x"), class("A", "C", "y", "z")},
		{method("A", "b", "b ^1"), method("A", "b", "")},
		{api.Def{}, class("Zoo", "")},
		{class("Object", "A"), class("Nil", "A")},
		{method("A", "B", ""), class("Z", "B", "x", "x")},
	} {
		if Compare(x[0], x[1]) != 0 || Compare(x[1], x[0]) != 0 {
			t.Errorf("Compare(%v, %v) is not 0", x[0], x[1])
		}
	}
	for i, wrong := range wrongDefs() {
		for _, d := range []api.Def{class("A", "B"), method("A", "b", "")} {
			if Compare(wrong, d) != -1 || Compare(d, wrong) != 1 || Compare(wrong, wrong) != 0 {
				t.Errorf("%d: %d, %d, %d", i, Compare(wrong, d), Compare(d, wrong), Compare(wrong, wrong))
			}
		}
	}
}

// P7.1: Compare and Key agree for random definitions.
func TestCompareRandom(t *testing.T) {
	random := rand.New(rand.NewSource(9))
	for range 5000 {
		a, b := randomDef(random), randomDef(random)
		if got, want := Compare(a, b), bytes.Compare([]byte(Key(a)), []byte(Key(b))); got != want {
			t.Errorf("%q, %q: %d, not %d", Key(a), Key(b), got, want)
		}
	}
}

// P7.2: the bytes of a class and of a method.
func TestBytes(t *testing.T) {
	for _, x := range []struct {
		d    api.Def
		want string
	}{
		{class("A", "Bc"), "\x00\x00\x00\x01\x00\x00\x00\x01A\x00\x00\x00\x02Bc\x00\x00\x00\x00"},
		{class("A", "B", "x", "yz"), "\x00\x00\x00\x01\x00\x00\x00\x01A\x00\x00\x00\x01B\x00\x00\x00\x02\x00\x00\x00\x01x\x00\x00\x00\x02yz"},
		{method("A", "at:", "\xff"), "\x00\x00\x00\x02\x00\x00\x00\x01A\x00\x00\x00\x03at:\x00\x00\x00\x01\xff"},
		{method("Nil", "+", ""), "\x00\x00\x00\x02\x00\x00\x00\x03Nil\x00\x00\x00\x01+\x00\x00\x00\x00"},
	} {
		var w octet.Writer
		Write(&w, x.d)
		if got := string(w.Bytes()); got != x.want || w.Err() != api.OK {
			t.Errorf("%v: %q, %v", x.d, got, w.Err())
		}
		if d, e := Read(octet.Open([]byte(x.want))); e != api.OK || !Same(d, x.d) {
			t.Errorf("%q: %v, %v", x.want, d, e)
		}
	}
}

// checkWritten writes a valid definition between other values and reads it back.
func checkWritten(t *testing.T, d api.Def) {
	t.Helper()
	var w octet.Writer
	w.Num(7)
	Write(&w, d)
	w.Int(-1)
	want := append(append([]byte{0, 0, 0, 7}, encoded(d)...), bytes.Repeat([]byte{0xff}, 8)...)
	if !bytes.Equal(w.Bytes(), want) || w.Err() != api.OK {
		t.Errorf("%s: %.200q, %v", show(d), w.Bytes(), w.Err())
	}
	r := octet.Open(w.Bytes())
	r.Num()
	got, e := Read(r)
	if e != api.OK || got.Kind != d.Kind || got.Class != d.Class || got.Super != d.Super || !slices.Equal(got.Vars, d.Vars) || got.Selector != d.Selector || got.Source != d.Source {
		t.Errorf("%s is read back as %s, %v", show(d), show(got), e)
	}
	if r.Err() != api.OK || r.Left() != 8 || r.Int() != -1 || r.End() != api.OK {
		t.Errorf("%s: %v, %d left", show(d), r.Err(), r.Left())
	}
}

// checkNotWritten writes a definition that is not valid, and reads its encoding.
func checkNotWritten(t *testing.T, d api.Def) {
	t.Helper()
	var w octet.Writer
	w.Text("ab")
	Write(&w, d)
	if got := string(w.Bytes()); got != "\x00\x00\x00\x02ab" || w.Err() != api.ErrArg {
		t.Errorf("%s: %.200q, %v", show(d), got, w.Err())
	}
	// The error stays, as after Num of -1.
	w.Num(1)
	Write(&w, class("A", "B"))
	if got := string(w.Bytes()); got != "\x00\x00\x00\x02ab" || w.Err() != api.ErrArg {
		t.Errorf("behind %s: %.200q, %v", show(d), got, w.Err())
	}
	if d.Kind < 0 || d.Kind >= 1<<31 || right(onlyEncoded(d)) {
		return
	}
	r := octet.Open(append(encoded(d), "rest"...))
	got, e := Read(r)
	if e != api.ErrDef || !isZero(got) || r.Left() != 4 || r.Err() != api.OK {
		t.Errorf("%s: %s, %v, %d left, %v", show(d), show(got), e, r.Left(), r.Err())
	}
}

// onlyEncoded is a definition without the fields that its encoding does not have.
func onlyEncoded(d api.Def) api.Def {
	switch d.Kind {
	case 1:
		d.Selector, d.Source = "", ""
	case 2:
		d.Super, d.Vars = "", nil
	}
	return d
}

// P7.2 and P7.3: valid definitions are written and read back.
func TestWriteRead(t *testing.T) {
	for _, x := range keyedDefs() {
		checkWritten(t, x.d)
	}
}

// P7.2: Write and Read of definitions that are not valid.
func TestWriteReadWrong(t *testing.T) {
	for _, d := range wrongDefs() {
		checkNotWritten(t, d)
	}
}

// P7.2: a writer with an error keeps it and what it has, whatever is written.
func TestWriteToFailedWriter(t *testing.T) {
	for _, d := range []api.Def{class("A", "B", "x"), method("A", "b", "b ^1"), {}, class("Object", "B")} {
		var w octet.Writer
		w.Num(5)
		w.Num(-7)
		Write(&w, d)
		if got := string(w.Bytes()); got != "\x00\x00\x00\x05" || w.Err() != api.ErrArg {
			t.Errorf("%v: %q, %v", d, got, w.Err())
		}
	}
}

// P7.2: several definitions one behind the other, and what comes when there are no more.
func TestSeveral(t *testing.T) {
	var w octet.Writer
	for _, x := range keyedDefs() {
		Write(&w, x.d)
	}
	r := octet.Open(w.Bytes())
	for _, x := range keyedDefs() {
		if d, e := Read(r); e != api.OK || !Same(d, x.d) {
			t.Errorf("%q: %s, %v", x.key, show(d), e)
		}
	}
	if r.End() != api.OK {
		t.Errorf("End %v", r.End())
	}
	for range 2 {
		if d, e := Read(r); e != api.ErrShort || !isZero(d) || r.Err() != api.ErrShort || r.Left() != 0 {
			t.Errorf("behind the end: %v, %v, %v, %d left", d, e, r.Err(), r.Left())
		}
	}
}

// P7.2: what is not valid is consumed, so that the next definition is read.
func TestReadBehindWrong(t *testing.T) {
	next := method("A", "b", "b ^1")
	for _, d := range wrongDefs() {
		if d.Kind < 0 || d.Kind >= 1<<31 || right(onlyEncoded(d)) {
			continue
		}
		r := octet.Open(append(encoded(d), encoded(next)...))
		if got, e := Read(r); e != api.ErrDef || !isZero(got) || r.Err() != api.OK {
			t.Errorf("%s: %s, %v", show(d), show(got), e)
		}
		if got, e := Read(r); e != api.OK || !Same(got, next) || r.End() != api.OK {
			t.Errorf("behind %s: %s, %v, %d left", show(d), show(got), e, r.Left())
		}
	}
}

// partEnds are the lengths of a definition's encoding up to each of its values.
func partEnds(d api.Def) []int {
	var w octet.Writer
	ends := []int{0}
	mark := func() { ends = append(ends, len(w.Bytes())) }
	w.Num(d.Kind)
	mark()
	w.Text(d.Class)
	mark()
	if d.Kind == api.DefMethod {
		w.Text(d.Selector)
		mark()
		w.Text(d.Source)
	} else {
		w.Text(d.Super)
		mark()
		w.Texts(d.Vars)
	}
	mark()
	return ends
}

// P7.2: bytes that end too early: the error of the reader, and the value that failed is left, those ahead of it are not.
func TestReadShort(t *testing.T) {
	// The last ones are not valid: that they end too early comes first, since a definition is judged whole.
	for _, d := range []api.Def{class("Stack", "Object", "items", "top"), class("A", "B"), method("Stack", "at:put:", "at: a put: b ^a"), method("A", "b", ""), class("a", "b", "x", "x"), class("Object", "B"), method("a", "B", "x")} {
		whole := encoded(d)
		ends := partEnds(d)
		for cut := range len(whole) {
			r := octet.Open(whole[:cut])
			got, e := Read(r)
			at := 0
			for _, end := range ends {
				if end <= cut {
					at = end
				}
			}
			if e != api.ErrShort || !isZero(got) || r.Err() != api.ErrShort || r.Left() != cut-at {
				t.Errorf("%v, cut at %d: %v, %v, %v, %d left, not %d", d, cut, got, e, r.Err(), r.Left(), cut-at)
			}
		}
	}
}

// P7.2: numbers that are too great, and lengths that the bytes do not have.
func TestReadBadNumbers(t *testing.T) {
	const a, b = "\x00\x00\x00\x01A", "\x00\x00\x00\x01b"
	const big = "\x80\x00\x00\x00"
	for _, x := range []struct {
		b    string
		want api.Errno
		left int
	}{
		{big + "abc", api.ErrForm, 7},
		{"\xff\xff\xff\xff", api.ErrForm, 4},
		{"\x00\x00\x00\x01" + big + "A", api.ErrForm, 5},
		{"\x00\x00\x00\x01" + a + big, api.ErrForm, 4},
		{"\x00\x00\x00\x01" + a + a + big, api.ErrForm, 4},
		{"\x00\x00\x00\x01" + a + a + "\x00\x00\x00\x04" + big, api.ErrForm, 8},
		{"\x00\x00\x00\x01" + a + a + "\x00\x00\x00\x05" + big, api.ErrShort, 8},
		{"\x00\x00\x00\x01" + a + a + "\x00\x00\x00\x02" + b + big, api.ErrForm, 13},
		{"\x00\x00\x00\x01" + a + a + "\x7f\xff\xff\xff" + b, api.ErrShort, 9},
		{"\x00\x00\x00\x01" + a + "\x7f\xff\xff\xff" + b, api.ErrShort, 9},
		{"\x00\x00\x00\x02" + big, api.ErrForm, 4},
		{"\x00\x00\x00\x02" + a + big, api.ErrForm, 4},
		{"\x00\x00\x00\x02" + a + b + big, api.ErrForm, 4},
		{"\x00\x00\x00\x02" + a + b + "\x00\x00\x00\x03ab", api.ErrShort, 6},
		{"\x00\x00\x00\x02" + b + b + big, api.ErrForm, 4},
		{"\x00\x00\x00\x02" + b + a + "\x00\x00\x00\x00", api.ErrDef, 0},
		{"\x00\x00\x00\x02" + b + a + "\x00\x00\x00\x00" + big, api.ErrDef, 4},
	} {
		r := octet.Open([]byte(x.b))
		sticks := x.want
		if x.want == api.ErrDef {
			sticks = api.OK
		}
		if d, e := Read(r); e != x.want || !isZero(d) || r.Left() != x.left || r.Err() != sticks {
			t.Errorf("%q: %v, %v, %v, %d left", x.b, d, e, r.Err(), r.Left())
		}
	}
}

// P7.2: of another Kind just its number is consumed, whatever follows.
func TestReadOtherKind(t *testing.T) {
	for _, kind := range []int{0, 3, 4, 9, 255, 256, 257, 1 << 16, 1 << 24, 1<<31 - 1} {
		for _, rest := range []string{"", "x", "\xff\xff\xff\xff\xff", string(encoded(class("A", "B")))[4:]} {
			var w octet.Writer
			w.Num(kind)
			r := octet.Open(append(w.Bytes(), rest...))
			if d, e := Read(r); e != api.ErrDef || !isZero(d) || r.Err() != api.OK || r.Left() != len(rest) {
				t.Errorf("%d, %q: %v, %v, %v, %d left", kind, rest, d, e, r.Err(), r.Left())
			}
		}
	}
}

// P7.2: a reader with an error returns that, though a definition would be there, and nothing is consumed.
func TestReadFromFailedReader(t *testing.T) {
	good := encoded(class("A", "B", "x"))
	r := octet.Open(append([]byte{0x80, 0, 0, 0}, good...))
	r.Num()
	for range 2 {
		if d, e := Read(r); e != api.ErrForm || !isZero(d) || r.Err() != api.ErrForm || r.Left() != 4+len(good) {
			t.Errorf("%v, %v, %v, %d left", d, e, r.Err(), r.Left())
		}
	}
	// A text that is too long for the bytes, whose number would do as a Kind.
	r = octet.Open([]byte{0, 0, 0, 2, 'a'})
	r.Text()
	if d, e := Read(r); e != api.ErrShort || !isZero(d) || r.Err() != api.ErrShort || r.Left() != 5 {
		t.Errorf("%v, %v, %v, %d left", d, e, r.Err(), r.Left())
	}
}

// P7.2 and P5: any bytes are refused, or are exactly the encoding of what is read.
func TestReadAnyBytes(t *testing.T) {
	random := rand.New(rand.NewSource(10))
	reads := 0
	for range 50000 {
		b := encoded(randomDef(random))
		if len(b) > 200 {
			continue
		}
		for range random.Intn(3) {
			if len(b) > 0 {
				b[random.Intn(len(b))] ^= 1 << random.Intn(8)
			}
		}
		b = b[:len(b)-random.Intn(2)*random.Intn(len(b)+1)]
		r := octet.Open(b)
		d, e := Read(r)
		used := len(b) - r.Left()
		switch {
		case e != api.OK && !isZero(d):
			t.Fatalf("%q: %v beside %v", b, d, e)
		case e == api.OK && (!right(d) || !bytes.Equal(encoded(d), b[:used])):
			t.Fatalf("%q is read as %v", b, d)
		case e == api.OK:
			reads++
		case e != api.ErrDef && e != r.Err():
			t.Fatalf("%q: %v, but the reader has %v", b, e, r.Err())
		}
	}
	if reads < 1000 {
		t.Errorf("just %d were read", reads)
	}
}

// P7.3: valid definitions with the same key are of the same kind, and Split tells which.
func TestOneKindAKey(t *testing.T) {
	random := rand.New(rand.NewSource(11))
	kinds := map[string]int{}
	note := func(d api.Def) {
		key := Key(d)
		if key == "" {
			return
		}
		if kind, ok := kinds[key]; ok && kind != d.Kind {
			t.Errorf("%q is of kind %d and of kind %d", key, kind, d.Kind)
		}
		kinds[key] = d.Kind
		if _, selector, ok := Split(key); !ok || (selector != "") != (d.Kind == api.DefMethod) {
			t.Errorf("%q: %q, %v, kind %d", key, selector, ok, d.Kind)
		}
	}
	for _, x := range keyedDefs() {
		note(x.d)
	}
	for range 5000 {
		note(randomDef(random))
	}
}

// P7.3: no function changes its arguments, nor the spare capacity behind their lists.
func TestArgumentsStay(t *testing.T) {
	all := wrongDefs()
	for _, x := range keyedDefs() {
		all = append(all, x.d)
	}
	for _, d := range all {
		whole := append(slices.Clone(d.Vars), "spare", "spare")
		before := slices.Clone(whole)
		d.Vars = whole[:len(d.Vars)]
		old := d
		old.Vars = slices.Clone(d.Vars)
		var w octet.Writer
		Right(d)
		Key(d)
		Same(d, d)
		Compare(d, d)
		Write(&w, d)
		if !slices.Equal(whole, before) {
			t.Errorf("%s has become %s", show(old), show(d))
		}
	}
}

// P7.3: Write keeps nothing of a definition: what is done to its list later is not seen.
func TestWriteKeepsNothing(t *testing.T) {
	d := class("A", "B", "x", "y")
	var w octet.Writer
	Write(&w, d)
	d.Vars[0] = "changed"
	if got, e := Read(octet.Open(w.Bytes())); e != api.OK || !Same(got, class("A", "B", "x", "y")) {
		t.Errorf("%v, %v", got, e)
	}
}

// P7.3: what is read is new memory: neither the bytes nor another reading share it.
func TestReadIsNew(t *testing.T) {
	for _, want := range []api.Def{class("A", "B", "x", "y"), method("A", "b", "b ^1")} {
		b := encoded(want)
		first, _ := Read(octet.Open(b))
		second, _ := Read(octet.Open(b))
		before := slices.Clone(b)
		clear(first.Vars[:cap(first.Vars)])
		if !Same(second, want) || !bytes.Equal(b, before) {
			t.Errorf("%v has become %v", want, second)
		}
		r := octet.Open(b)
		third, _ := Read(r)
		clear(b)
		if !Same(third, want) || !Same(second, want) {
			t.Errorf("%v has become %v", want, third)
		}
	}
}

// P7.3: several definitions of one reader do not share their lists.
func TestReadsDoNotShare(t *testing.T) {
	a, b := class("A", "B", "x", "y"), class("C", "D", "z", "w")
	r := octet.Open(append(encoded(a), encoded(b)...))
	first, _ := Read(r)
	second, _ := Read(r)
	_ = append(first.Vars, "mine", "mine", "mine")
	clear(first.Vars[:cap(first.Vars)])
	if !Same(second, b) {
		t.Errorf("%v", second)
	}
}

// shares tells whether a text lies within the memory of another.
func shares(s, whole string) bool {
	at, from := uintptr(unsafe.Pointer(unsafe.StringData(s))), uintptr(unsafe.Pointer(unsafe.StringData(whole)))
	return len(s) > 0 && from <= at && at < from+uintptr(len(whole))
}

// P7.3: the texts of Key and Split lie in new memory.
func TestTextsAreNew(t *testing.T) {
	for _, x := range keyedDefs() {
		if key := Key(x.d); shares(key, x.d.Class) || shares(key, x.d.Selector) {
			t.Errorf("the key %q is a piece of its definition", key)
		}
		if c, s, _ := Split(x.key); shares(c, x.key) || shares(s, x.key) {
			t.Errorf("the parts of %q are pieces of it", x.key)
		}
	}
}

// Without a writer or a reader there is nothing to do, and no reason to panic.
func TestNothingToUse(t *testing.T) {
	Write(nil, class("A", "B"))
	Write(nil, api.Def{})
	if d, e := Read(nil); e != api.ErrArg || !isZero(d) {
		t.Errorf("%v, %v", d, e)
	}
}

// P7.1 to P7.3: a result does not depend on earlier calls.
func TestNoState(t *testing.T) {
	for range 3 {
		for _, x := range keyedDefs()[:16] {
			if !Right(x.d) || Key(x.d) != x.key {
				t.Errorf("%q is not right any more", x.key)
			}
			checkWritten(t, x.d)
		}
		for _, d := range wrongDefs()[:16] {
			if Right(d) || Key(d) != "" {
				t.Errorf("%v is right now", d)
			}
			checkNotWritten(t, d)
		}
	}
}
