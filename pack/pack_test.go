package pack

import (
	"bytes"
	"encoding/binary"
	"encoding/hex"
	"fmt"
	"hash/crc32"
	"math"
	"math/rand"
	"regexp"
	"slices"
	"strings"
	"testing"
	"unsafe"

	"monticule/api"
	"monticule/def"
	"monticule/snap"
)

// className is what chapter 6 says of class names, as an expression, which knows nothing of package name.
var className = regexp.MustCompile(`\A[A-Z][a-zA-Z0-9]{0,39}\z`)

func class(class, super string, vars ...string) api.Def {
	return api.Def{Kind: api.DefClass, Class: class, Super: super, Vars: vars}
}

func method(class, selector, source string) api.Def {
	return api.Def{Kind: api.DefMethod, Class: class, Selector: selector, Source: source}
}

// keyOf is a key in the words of chapter 7.
func keyOf(d api.Def) string {
	if d.Kind == api.DefMethod {
		return d.Class + ">>" + d.Selector
	}
	return d.Class
}

// rising are definitions by rising keys: a class and its methods, keys of which one is the beginning of another. ("0" < ">" < "A" < "a": the methods of A stand behind class A0 and ahead of class AA.)
func rising() []api.Def {
	return []api.Def{
		class("A", "Object", "x", "y"),
		class("A0", "A"),
		method("A", "+", "+ a ^a"),
		method("A", ">", "> a ^a"),
		method("A", ">>", ">> a ^a"),
		method("A", "a", "a ^1"),
		method("A", "a:", "a: x ^x"),
		method("A", "a:b:", ""),
		method("A", "aa", "\x00\xff\xc3"),
		class("AA", "Nowhere"),
		method("AA", "a", strings.Repeat("x", 4000)),
		class("Aa", "Object", names("v", 20)...),
		method("Integer", "zork", "zork ^self"),
		class("Stack", "Object", "items", "top"),
		method("Stack", "size", "size ^1"),
	}
}

// wrongDefs are definitions that are not valid. All but those that encodable refuses have an encoding.
func wrongDefs() []api.Def {
	return []api.Def{
		{},
		{Kind: 3, Class: "Zz", Super: "B"},
		{Kind: -1, Class: "Zz", Super: "B"},
		class("", "B"), class("a", "B"), class("Zz", ""), class("Object", "B"), class("Zz", "B", "x", "x"), class("Zz", "B", "self"), class("A", "B", "X"), class("A", "B", names("v", 21)...),
		method("", "b", ""), method("A", "", ""), method("A", "B", ""), method("a", "b", ""), method("A", "a", strings.Repeat("x", 4001)),
		{Kind: api.DefClass, Class: "A", Super: "Object", Source: "x"},
		{Kind: api.DefClass, Class: "A", Super: "Object", Selector: "x"},
		{Kind: api.DefMethod, Class: "A", Selector: "a", Super: "B"},
		{Kind: api.DefMethod, Class: "A", Selector: "a", Vars: []string{"x"}},
	}
}

// encodable tells whether a definition that is not valid has an encoding, which is not that of a valid one.
func encodable(d api.Def) bool {
	return d.Kind >= 0 && (d.Kind != api.DefClass || d.Selector == "" && d.Source == "") && (d.Kind != api.DefMethod || d.Super == "" && len(d.Vars) == 0)
}

// names are n rising names, which begin alike.
func names(first string, n int) []string {
	var l []string
	for i := range n {
		l = append(l, fmt.Sprintf("%s%03d", first, i))
	}
	return l
}

// many are n definitions by rising keys.
func many(n int) []api.Def {
	var l []api.Def
	for _, s := range names("C", n) {
		l = append(l, class(s, "Object", "x"))
	}
	return l
}

// small is a valid package with something in each field.
func small() api.Package {
	return api.Package{Name: "Tools", Version: 7, Needs: []string{"Base", "Core"}, Defs: []api.Def{class("A", "Object", "x"), method("A", "b", "b ^x")}}
}

// large is a valid package with much in each field.
func large() api.Package {
	return api.Package{Name: "M" + strings.Repeat("q", 39), Version: math.MaxInt32, Needs: append([]string{"B", "Ba", "Baa", "Object", "Tool"}, names("Tools", 15)...), Defs: rising()}
}

// with is the small package with a change.
func with(change func(p *api.Package)) api.Package {
	p := small()
	change(&p)
	return p
}

func named(s string) api.Package { return with(func(p *api.Package) { p.Name = s }) }

func versioned(n int) api.Package { return with(func(p *api.Package) { p.Version = n }) }

func needing(l ...string) api.Package { return with(func(p *api.Package) { p.Needs = l }) }

func defining(l ...api.Def) api.Package { return with(func(p *api.Package) { p.Defs = l }) }

// classNames are texts that are class names.
func classNames() []string {
	return []string{"A", "Z", "P", "Ab", "A1", "AB", "Z9z", "Object", "Integer", "System", "Nil", "Self", "M" + strings.Repeat("q", 39)}
}

// noClassNames are texts that are not, each for one reason.
func noClassNames() []string {
	return []string{"", "a", "tools", "tOOLS", "1", "1A", "_A", "A_", "A b", " A", "A ", "A\n", "A\x00", "A:", "A>>b", "A.", "+", "nil", "self", "\u00c4", "A\u00e4", "A\xff", "@", "[", "A[", "A/", "A`", "A{", "M" + strings.Repeat("q", 40), strings.Repeat("M", 5000)}
}

func wrongVersions() []int {
	return []int{0, -1, -2, -math.MaxInt32, math.MinInt32, 1 << 31, 1<<31 + 1, 1 << 32, 1<<32 + 1, -1<<32 + 1, math.MaxInt64, math.MinInt64, math.MinInt64 + 1}
}

// An example is a package, and what is to be seen in it.
type example struct {
	what string
	p    api.Package
}

// valid are packages that are valid, at the edges too.
func valid() []example {
	l := []example{
		{"small", small()}, {"large", large()},
		{"the chapter's", api.Package{Name: "P", Version: 1, Defs: []api.Def{class("A", "Object")}}},
		{"nothing in it", api.Package{Name: "P", Version: 1}},
		{"empty lists", api.Package{Name: "P", Version: 1, Needs: []string{}, Defs: []api.Def{}}},
		{"20 needs", needing(names("N", 20)...)}, {"19 needs", needing(names("N", 19)...)}, {"one need", needing("Base")},
		{"the own name's beginning", needing("T", "Tool")}, {"the own name goes on", needing("Tools0", "ToolsA", "Toolsa")},
		{"needs around the own name", needing("Toolr", "Toolt")},
		{"a need is the beginning of the next", needing("A", "AA", "AAA", "AAAa", "AAa", "Aa")},
		{"digits ahead of upper case ahead of lower case", needing("A0", "A9", "AA", "AZ", "Aa", "Az", "B")},
		{"built-in classes", needing("Array", "Class", "Object", "System")},
		{"a class and its methods", defining(class("A", "B"), method("A", "+", ""), method("A", "a", ""), method("A", "a:", ""))},
		{"methods alone", defining(method("A", "a", ""), method("Object", "a", ""))},
		{"a class of the package's name", defining(class("Tools", "Tools"))},
		{"one definition", defining(class("A", "A"))},
		{"499 definitions", defining(many(499)...)}, {"500 definitions", defining(many(500)...)},
	}
	for _, s := range classNames() {
		l = append(l, example{"name " + s, named(s)}, example{"need " + s, needing(s)})
	}
	for _, n := range []int{1, 2, 255, 256, 65536, 1 << 30, math.MaxInt32 - 1, math.MaxInt32} {
		l = append(l, example{fmt.Sprint("version ", n), versioned(n)})
	}
	for i, d := range rising() {
		l = append(l, example{"only " + keyOf(d), defining(d)}, example{"up to " + keyOf(d), defining(rising()[:i+1]...)})
	}
	return l
}

// wrongHeads are packages whose Name, Version or Needs are not valid, each for one reason; their definitions are.
func wrongHeads() []example {
	l := []example{
		{"the zero value", api.Package{}},
		{"21 needs", needing(names("N", 21)...)}, {"22 needs", needing(names("N", 22)...)}, {"900 needs", needing(names("N", 900)...)},
		{"needs fall", needing("Core", "Base")}, {"the last falls", needing("Base", "Core", "Cor")}, {"it is above the first alone", needing("Base", "Core", "Bb")},
		{"equal needs", needing("Base", "Base")}, {"equal, not next to each other", needing("Base", "Core", "Base")}, {"equal at the end", needing("Base", "Core", "Core")},
		{"the beginning of a need behind it", needing("Basement", "Base")}, {"as if case were nothing", needing("Aa", "AB")}, {"upper case ahead of a digit", needing("AA", "A0")},
		{"its own name", needing("Tools")}, {"its own name first", needing("Tools", "Zork")}, {"its own name last", needing("Base", "Tools")}, {"its own name within", needing("Base", "Tools", "Zork")},
		{"its own name as the 20th", needing(append(names("N", 19), "Tools")...)},
	}
	for _, s := range noClassNames() {
		l = append(l, example{fmt.Sprintf("name %.60q", s), named(s)}, example{fmt.Sprintf("need %.60q", s), needing(s)}, example{fmt.Sprintf("need Base and %.60q", s), needing("Base", s)})
	}
	for _, n := range wrongVersions() {
		l = append(l, example{fmt.Sprint("version ", n), versioned(n)})
	}
	return l
}

// wrongBodies are packages whose Defs are not valid.
func wrongBodies() []example {
	a, b, c := class("A", "Object"), method("A", "b", "b ^1"), class("C", "A")
	l := []example{
		{"501 definitions", defining(many(501)...)}, {"502 definitions", defining(many(502)...)}, {"900 definitions", defining(many(900)...)},
		{"definitions fall", defining(b, a)}, {"the last falls", defining(a, c, b)}, {"a longer selector first", defining(method("A", "bb", ""), b)}, {"a longer name first", defining(class("A0", "A"), a)},
		{"as if class names came first", defining(a, b, class("A0", "A"))},
		{"twice", defining(a, a)}, {"the same key with other fields", defining(a, class("A", "B", "y"))}, {"the same method with another source", defining(b, method("A", "b", ""))}, {"twice, not next to each other", defining(a, b, a)}, {"twice at the end", defining(a, b, b)},
		{"501, not rising", defining(append(many(500), many(1)...)...)},
	}
	for _, d := range wrongDefs() {
		for at := range 4 {
			l = append(l, example{fmt.Sprintf("%.80q at %d", fmt.Sprint(d), at), defining(slices.Insert(rising()[:3], at, d)...)})
		}
	}
	return l
}

// wrongs are packages that are not valid.
func wrongs() []example {
	return append(wrongHeads(), wrongBodies()...)
}

// show is all of a package; those of the same fields look the same.
func show(p api.Package) string {
	s := fmt.Sprintf("%q %d %q", p.Name, p.Version, p.Needs)
	for _, d := range p.Defs {
		s += fmt.Sprintf(" / %d %q %q %q %q %q", d.Kind, d.Class, d.Super, d.Vars, d.Selector, d.Source)
	}
	return s
}

// isZero tells whether a package has nothing in any field.
func isZero(p api.Package) bool {
	return p.Name == "" && p.Version == 0 && len(p.Needs) == 0 && len(p.Defs) == 0
}

// The encodings of the chapters 1, 2, 7 and 8, put together by hand, for what is not valid too.

func num(n int) []byte { return binary.BigEndian.AppendUint32(nil, uint32(n)) }

func text(s string) []byte { return append(num(len(s)), s...) }

func texts(l []string) []byte {
	b := num(len(l))
	for _, s := range l {
		b = append(b, text(s)...)
	}
	return b
}

func octets(d api.Def) []byte {
	switch d.Kind {
	case api.DefClass:
		return slices.Concat(num(d.Kind), text(d.Class), text(d.Super), texts(d.Vars))
	case api.DefMethod:
		return slices.Concat(num(d.Kind), text(d.Class), text(d.Selector), text(d.Source))
	}
	return num(d.Kind)
}

func numbered(n int, l ...api.Def) []byte {
	b := num(n)
	for _, d := range l {
		b = append(b, octets(d)...)
	}
	return b
}

// fieldsOf are the five parts of the contents: the first number, the name, the version, the needs, the definitions.
func fieldsOf(p api.Package) [][]byte {
	return [][]byte{num(0x4D504B47), text(p.Name), num(p.Version), texts(p.Needs), numbered(len(p.Defs), p.Defs...)}
}

func contentsOf(p api.Package) []byte { return slices.Concat(fieldsOf(p)...) }

func seal(b []byte) []byte {
	return binary.LittleEndian.AppendUint32(slices.Clone(b), crc32.ChecksumIEEE(b))
}

func encoded(p api.Package) []byte { return seal(contentsOf(p)) }

// A reference reads bytes in the words of the chapters 1, 7, 8 and 11.
type reference struct {
	rest []byte
	err  api.Errno
}

func (r *reference) num() int {
	if r.err != api.OK {
		return 0
	}
	if len(r.rest) < 4 {
		r.err = api.ErrShort
		return 0
	}
	n := binary.BigEndian.Uint32(r.rest)
	if n >= 1<<31 {
		r.err = api.ErrForm
		return 0
	}
	r.rest = r.rest[4:]
	return int(n)
}

func (r *reference) text() string {
	n := r.num()
	if r.err == api.OK && n > len(r.rest) {
		r.err = api.ErrShort
	}
	if r.err != api.OK {
		return ""
	}
	s := string(r.rest[:n])
	r.rest = r.rest[n:]
	return s
}

func (r *reference) texts() []string {
	n := r.num()
	if r.err == api.OK && n > len(r.rest) {
		r.err = api.ErrShort
	}
	var l []string
	for len(l) < n && r.err == api.OK {
		l = append(l, r.text())
	}
	return l
}

func (r *reference) def() api.Def {
	d := api.Def{Kind: r.num()}
	switch d.Kind {
	case api.DefClass:
		d.Class, d.Super, d.Vars = r.text(), r.text(), r.texts()
	case api.DefMethod:
		d.Class, d.Selector, d.Source = r.text(), r.text(), r.text()
	}
	if r.err == api.OK && !def.Right(d) {
		r.err = api.ErrDef
	}
	return d
}

func (r *reference) defs() []api.Def {
	n := r.num()
	if r.err == api.OK && n > 500 {
		r.err = api.ErrFull
	}
	var l []api.Def
	for len(l) < n && r.err == api.OK {
		d := r.def()
		if r.err == api.OK && len(l) > 0 && keyOf(d) <= keyOf(l[len(l)-1]) {
			r.err = api.ErrOrder
		}
		l = append(l, d)
	}
	if r.err == api.OK && len(r.rest) > 0 {
		r.err = api.ErrForm
	}
	return l
}

// expected is the package of bytes, or their first error.
func expected(b []byte) (api.Package, api.Errno) {
	if len(b) < 4 {
		return api.Package{}, api.ErrShort
	}
	contents := b[:len(b)-4]
	if crc32.ChecksumIEEE(contents) != binary.LittleEndian.Uint32(b[len(b)-4:]) {
		return api.Package{}, api.ErrSum
	}
	r := &reference{rest: contents}
	if n := r.num(); r.err == api.OK && n != 0x4D504B47 {
		r.err = api.ErrForm
	}
	p := api.Package{Name: r.text(), Version: r.num(), Needs: r.texts(), Defs: r.defs()}
	if r.err == api.OK && !isValid(p) {
		r.err = api.ErrArg
	}
	if r.err != api.OK {
		return api.Package{}, r.err
	}
	return p, api.OK
}

// isValid tells in the chapter's words whether a package is valid.
func isValid(p api.Package) bool {
	ok := className.MatchString(p.Name) && p.Version > 0 && p.Version < 1<<31 && len(p.Needs) <= 20 && !slices.Contains(p.Needs, p.Name) && len(p.Defs) <= 500
	for i, s := range p.Needs {
		ok = ok && className.MatchString(s) && (i == 0 || bytes.Compare([]byte(p.Needs[i-1]), []byte(s)) < 0)
	}
	for i, d := range p.Defs {
		ok = ok && def.Right(d) && (i == 0 || bytes.Compare([]byte(keyOf(p.Defs[i-1])), []byte(keyOf(d))) < 0)
	}
	return ok
}

// checkParse asks that bytes are read as a package.
func checkParse(t *testing.T, what string, b []byte, want api.Package) {
	t.Helper()
	if p, e := Parse(b); e != api.OK || show(p) != show(want) {
		t.Errorf("%s: Parse: %v, %.300s, not %.300s", what, e, show(p), show(want))
	}
}

// checkNone asks that bytes are refused with an error, and nothing beside it.
func checkNone(t *testing.T, what string, b []byte, want api.Errno) {
	t.Helper()
	if p, e := Parse(b); e != want || !isZero(p) {
		t.Errorf("%s: Parse: %v, %.300s, not %v", what, e, show(p), want)
	}
}

// checkSnap asks that a snapshot has just these definitions.
func checkSnap(t *testing.T, what string, s *snap.Snap, want []api.Def) {
	t.Helper()
	if s == nil {
		t.Errorf("%s: no snapshot", what)
		return
	}
	got := api.Package{Defs: slices.Collect(s.All())}
	if s.Len() != len(want) || show(got) != show(api.Package{Defs: want}) {
		t.Errorf("%s: the snapshot is %.300s", what, show(got))
	}
}

// snapOf is the snapshot of definitions.
func snapOf(t *testing.T, l []api.Def) *snap.Snap {
	t.Helper()
	s, e := snap.New(l...)
	if e != api.OK {
		t.Fatal(e)
	}
	return s
}

// checkValid asks all of a package that is valid.
func checkValid(t *testing.T, what string, p api.Package) {
	t.Helper()
	before := show(p)
	if !Right(p) {
		t.Errorf("%s: not right", what)
	}
	b, e := Write(p)
	if e != api.OK || !bytes.Equal(b, encoded(p)) {
		t.Errorf("%s: Write: %v, %.300x", what, e, b)
	}
	checkParse(t, what, b, p)
	checkSnap(t, what, Snap(p), p.Defs)
	made, e := Make(p.Name, p.Version, p.Needs, snapOf(t, p.Defs))
	if e != api.OK || show(made) != before {
		t.Errorf("%s: Make: %v, %.300s", what, e, show(made))
	}
	if !Same(p, p) || !Same(p, made) || !Same(made, p) {
		t.Errorf("%s: not the same as itself", what)
	}
	if show(p) != before {
		t.Errorf("%s has become %.300s", what, show(p))
	}
}

// P11.1 to P11.3: all of packages that are valid.
func TestValid(t *testing.T) {
	for _, x := range valid() {
		checkValid(t, x.what, x.p)
	}
}

// P11.1: Right, Write and Snap of packages that are not valid.
func TestWrong(t *testing.T) {
	for _, x := range wrongs() {
		before := show(x.p)
		if Right(x.p) {
			t.Errorf("%s: right", x.what)
		}
		if b, e := Write(x.p); len(b) != 0 || e != api.ErrArg {
			t.Errorf("%s: Write: %v, %.100x", x.what, e, b)
		}
		if s := Snap(x.p); s != nil {
			t.Errorf("%s: a snapshot", x.what)
		}
		if show(x.p) != before {
			t.Errorf("%s has become %.300s", x.what, show(x.p))
		}
	}
}

// The chapter's example.
func TestExample(t *testing.T) {
	p := api.Package{Name: "P", Version: 1, Defs: []api.Def{class("A", "Object")}}
	b, e := Write(p)
	if e != api.OK {
		t.Fatal(e)
	}
	checkParse(t, "P", b, p)
}

// P11.1: the very bytes.
func TestBytes(t *testing.T) {
	for _, x := range []struct {
		p    api.Package
		want string
	}{
		{api.Package{Name: "P", Version: 1, Defs: []api.Def{class("A", "Object")}},
			"4d504b47" + "0000000150" + "00000001" + "00000000" + "00000001" + "00000001" + "0000000141" + "000000064f626a656374" + "00000000" + "85994a23"},
		{api.Package{Name: "Tools", Version: 258, Needs: []string{"B", "Co"}, Defs: []api.Def{class("A", "B", "x"), method("A", "b", "b ^x")}},
			"4d504b47" + "00000005546f6f6c73" + "00000102" + "00000002" + "0000000142" + "00000002436f" + "00000002" +
				"00000001" + "0000000141" + "0000000142" + "00000001" + "0000000178" + "00000002" + "0000000141" + "0000000162" + "0000000462205e78" + "4bd30ed1"},
		{api.Package{Name: "P", Version: 1<<31 - 1}, "4d504b47" + "0000000150" + "7fffffff" + "00000000" + "00000000" + "6d803e04"},
	} {
		b, e := Write(x.p)
		if e != api.OK || hex.EncodeToString(b) != x.want {
			t.Errorf("%s: %v, %x", show(x.p), e, b)
		}
		want, _ := hex.DecodeString(x.want)
		checkParse(t, "bytes", want, x.p)
	}
}

// P11.1: each number of needs, and one of them changed at each place.
func TestNeeds(t *testing.T) {
	for n := range 25 {
		if got := Right(needing(names("N", n)...)); got != (n <= 20) {
			t.Errorf("%d needs: %v", n, got)
		}
	}
	for n := 1; n <= 20; n++ {
		for i := range n {
			for _, s := range []string{"", "n", "tools", "N 1", "Tools"} {
				l := names("N", n)
				if s == "Tools" {
					l = append(names("N", i), append([]string{"Tools"}, names("Z", n-i-1)...)...)
				} else {
					l[i] = s
				}
				if p := needing(l...); Right(p) {
					t.Errorf("right: %s", show(p))
				}
			}
			for j := range i {
				l, m := names("N", n), names("N", n)
				l[i], l[j] = l[j], l[i]
				m[i] = m[j]
				if Right(needing(l...)) || Right(needing(m...)) {
					t.Errorf("right: %q or %q", l, m)
				}
			}
		}
	}
}

// P11.1: all orders and choices of a few needs, held against the chapter's words.
func TestNeedsAllShort(t *testing.T) {
	lists := [][]string{nil}
	for range 4 {
		var longer [][]string
		for _, l := range lists {
			if p := needing(l...); Right(p) != isValid(p) {
				t.Errorf("%q: %v", l, Right(p))
			}
			for _, s := range []string{"A", "AA", "Aa", "A0", "Tools", "b", "Zork"} {
				longer = append(longer, append(slices.Clone(l), s))
			}
		}
		lists = longer
	}
}

// P11.1: two definitions exchanged, or one twice, at each pair of places.
func TestDefs(t *testing.T) {
	for i := range rising() {
		for j := range i {
			l, m := rising(), rising()
			l[i], l[j] = l[j], l[i]
			m[i] = m[j]
			for _, p := range []api.Package{defining(l...), defining(m...)} {
				if b, e := Write(p); Right(p) || Snap(p) != nil || len(b) != 0 || e != api.ErrArg {
					t.Errorf("right: %d and %d", i, j)
				}
				checkNone(t, fmt.Sprint(i, " and ", j), encoded(p), api.ErrOrder)
			}
		}
	}
}

// P11.1: one definition of very many is at fault, at either end and within.
func TestDefsFarOff(t *testing.T) {
	for _, at := range []int{0, 1, 250, 498, 499} {
		l := many(500)
		l[at] = class("C", "c")
		if Right(defining(l...)) {
			t.Errorf("right, though %d is not", at)
		}
		if at > 0 {
			l[at] = l[at-1]
			if Right(defining(l...)) {
				t.Errorf("right, though %d is the one ahead of it", at)
			}
		}
	}
}

// P11.1: Make of a snapshot without definitions, nil too.
func TestMakeEmpty(t *testing.T) {
	for _, s := range []*snap.Snap{nil, {}, snapOf(t, nil), snapOf(t, many(1)).Drop("C000")} {
		p, e := Make("P", 3, []string{"A"}, s)
		if e != api.OK || show(p) != show(api.Package{Name: "P", Version: 3, Needs: []string{"A"}}) {
			t.Errorf("%v, %s", e, show(p))
		}
		if p, e := Make("P", 0, []string{"A"}, s); e != api.ErrArg || !isZero(p) {
			t.Errorf("%v, %s", e, show(p))
		}
	}
	for _, needs := range [][]string{nil, {}} {
		p, e := Make("P", 1, needs, nil)
		if e != api.OK || p.Name != "P" || p.Version != 1 || len(p.Needs) != 0 || len(p.Defs) != 0 {
			t.Errorf("%v, %s", e, show(p))
		}
	}
}

// P11.1: Make with a name, a version or needs that are not valid, without definitions, with few, and with as many as there may be.
func TestMakeWrong(t *testing.T) {
	for _, l := range [][]api.Def{nil, rising(), many(500)} {
		s := snapOf(t, l)
		for _, x := range wrongHeads() {
			if p, e := Make(x.p.Name, x.p.Version, x.p.Needs, s); e != api.ErrArg || !isZero(p) {
				t.Errorf("%s: %v, %.200s", x.what, e, show(p))
			}
		}
		checkSnap(t, "behind Make", s, l)
	}
}

// P11.1: the definitions of Make stand by their keys, however the snapshot came to be.
func TestMakeOrders(t *testing.T) {
	random := rand.New(rand.NewSource(1))
	for range 30 {
		l := rising()
		random.Shuffle(len(l), func(i, j int) { l[i], l[j] = l[j], l[i] })
		p, e := Make("P", 1, nil, snapOf(t, l))
		if e != api.OK || show(p) != show(api.Package{Name: "P", Version: 1, Defs: rising()}) {
			t.Errorf("%v, %.300s", e, show(p))
		}
	}
}

// changes are packages that differ from p in just one thing.
func changes(p api.Package) []example {
	var l []example
	add := func(what string, change func(p *api.Package)) {
		q := p
		q.Needs = slices.Clone(p.Needs)
		q.Defs = slices.Clone(p.Defs)
		for i, d := range q.Defs {
			q.Defs[i].Vars = slices.Clone(d.Vars)
		}
		change(&q)
		l = append(l, example{what, q})
	}
	add("name", func(p *api.Package) { p.Name += "x" })
	add("case of name", func(p *api.Package) { p.Name = strings.ToLower(p.Name) })
	add("version", func(p *api.Package) { p.Version++ })
	add("version far off", func(p *api.Package) { p.Version += 1 << 32 })
	add("no needs", func(p *api.Package) { p.Needs = nil })
	add("a need more", func(p *api.Package) { p.Needs = append(p.Needs, "Zork") })
	add("an empty need more", func(p *api.Package) { p.Needs = append(p.Needs, "") })
	add("a need less", func(p *api.Package) { p.Needs = p.Needs[1:] })
	add("the last need less", func(p *api.Package) { p.Needs = p.Needs[:len(p.Needs)-1] })
	add("order of needs", func(p *api.Package) { p.Needs[0], p.Needs[1] = p.Needs[1], p.Needs[0] })
	add("no definitions", func(p *api.Package) { p.Defs = nil })
	add("a definition more", func(p *api.Package) { p.Defs = append(p.Defs, class("Zork", "A")) })
	add("a zero definition more", func(p *api.Package) { p.Defs = append(p.Defs, api.Def{}) })
	add("a definition less", func(p *api.Package) { p.Defs = p.Defs[1:] })
	add("the last definition less", func(p *api.Package) { p.Defs = p.Defs[:len(p.Defs)-1] })
	add("order of definitions", func(p *api.Package) { p.Defs[0], p.Defs[1] = p.Defs[1], p.Defs[0] })
	for i := range p.Needs {
		add(fmt.Sprint("need ", i), func(p *api.Package) { p.Needs[i] += "x" })
	}
	for i := range p.Defs {
		add(fmt.Sprint("kind ", i), func(p *api.Package) { p.Defs[i].Kind += 2 })
		add(fmt.Sprint("class ", i), func(p *api.Package) { p.Defs[i].Class += "x" })
		add(fmt.Sprint("super ", i), func(p *api.Package) { p.Defs[i].Super += "x" })
		add(fmt.Sprint("a var more ", i), func(p *api.Package) { p.Defs[i].Vars = append(p.Defs[i].Vars, "zork") })
		add(fmt.Sprint("selector ", i), func(p *api.Package) { p.Defs[i].Selector += "x" })
		add(fmt.Sprint("source ", i), func(p *api.Package) { p.Defs[i].Source += "x" })
		for j := range p.Defs[i].Vars {
			add(fmt.Sprint("var ", i, j), func(p *api.Package) { p.Defs[i].Vars[j] += "x" })
		}
		if len(p.Defs[i].Vars) > 1 {
			add(fmt.Sprint("order of vars ", i), func(p *api.Package) { slices.Reverse(p.Defs[i].Vars) })
		}
	}
	return l
}

// P11.1: Same sees each change, of packages that are valid and that are not.
func TestSame(t *testing.T) {
	bad := large()
	bad.Name, bad.Version = "Bad name", -5
	slices.Reverse(bad.Needs)
	slices.Reverse(bad.Defs)
	for _, p := range []api.Package{small(), large(), bad} {
		for _, x := range changes(p) {
			if Same(p, x.p) || Same(x.p, p) {
				t.Errorf("%s: the same", x.what)
			}
			if !Same(x.p, x.p) {
				t.Errorf("%s: not the same as itself", x.what)
			}
		}
	}
	all := append(changes(small()), changes(bad)...)
	var shows []string
	for _, x := range all {
		shows = append(shows, show(x.p))
	}
	for i, x := range all {
		for j, y := range all {
			if Same(x.p, y.p) != (shows[i] == shows[j]) {
				t.Errorf("%s and %s: %v", x.what, y.what, Same(x.p, y.p))
			}
		}
	}
}

// P11.1: nil and empty lists are alike.
func TestSameEmpty(t *testing.T) {
	var l []api.Package
	for _, needs := range [][]string{nil, {}, make([]string, 0, 3)} {
		for _, defs := range [][]api.Def{nil, {}, make([]api.Def, 0, 3)} {
			l = append(l, api.Package{Name: "P", Version: 1, Needs: needs, Defs: defs})
		}
	}
	for _, a := range l {
		for _, b := range l {
			x, y := a, b
			x.Defs, y.Defs = []api.Def{class("A", "B")}, []api.Def{class("A", "B", []string{}...)}
			if !Same(a, b) || !Same(x, y) || Same(a, y) || Same(x, b) {
				t.Errorf("%#v and %#v", a, b)
			}
		}
		checkValid(t, "empty", a)
	}
	if !Same(api.Package{}, api.Package{Needs: []string{}, Defs: []api.Def{}}) || Same(api.Package{}, small()) {
		t.Error("the zero value")
	}
}

// P11.2: the beginnings of an encoding, and one with a byte more.
func TestParseCut(t *testing.T) {
	checkNone(t, "nil", nil, api.ErrShort)
	for _, p := range []api.Package{small(), large(), {Name: "P", Version: 1}} {
		b := encoded(p)
		for n := range b {
			want := api.ErrSum
			if n < 4 {
				want = api.ErrShort
			}
			checkNone(t, fmt.Sprint("cut at ", n), b[:n], want)
		}
		for _, x := range []byte{0, 1, 0x7f, 0xff} {
			checkNone(t, "a byte more", append(slices.Clone(b), x), api.ErrSum)
			checkNone(t, "a byte ahead", append([]byte{x}, b...), api.ErrSum)
		}
	}
}

// P11.2: each byte changed, without and with the right seal.
func TestParseChanged(t *testing.T) {
	counts := map[api.Errno]int{}
	for _, p := range []api.Package{small(), {Name: "P", Version: 1}, {Name: "Ab", Version: 65536, Needs: []string{"Aa"}, Defs: rising()[3:8]}} {
		for i := range encoded(p) {
			for _, x := range []byte{1, 2, 3, 0x20, 0x80, 0xff} {
				b := encoded(p)
				b[i] ^= x
				checkNone(t, fmt.Sprint("changed at ", i), b, api.ErrSum)
				b = seal(b[:len(b)-4])
				want, e := expected(b)
				counts[e]++
				if got, gotErr := Parse(b); gotErr != e || show(got) != show(want) {
					t.Errorf("changed at %d: %v, %s, not %v, %s", i, gotErr, show(got), e, show(want))
				}
			}
		}
	}
	for _, e := range []api.Errno{api.OK, api.ErrArg, api.ErrShort, api.ErrForm, api.ErrFull, api.ErrDef, api.ErrOrder} {
		if counts[e] == 0 {
			t.Errorf("%v never came", e)
		}
	}
}

// P11.2: contents that end too early, ahead of each field and within it, or go on too long, with the right seal.
func TestParseEnds(t *testing.T) {
	for _, p := range []api.Package{small(), large(), {Name: "P", Version: 1}} {
		contents := contentsOf(p)
		for n := range contents {
			checkNone(t, fmt.Sprint("contents cut at ", n), seal(contents[:n]), api.ErrShort)
		}
		for _, more := range [][]byte{{0}, {0xff}, num(0), num(1), octets(class("Zork", "A")), contents} {
			checkNone(t, fmt.Sprintf("%.20x more", more), seal(append(slices.Clone(contents), more...)), api.ErrForm)
		}
	}
	checkNone(t, "no contents", seal(nil), api.ErrShort)
	checkNone(t, "sealed twice", seal(encoded(small())), api.ErrForm)
}

// P11.2: another first number, in front of anything.
func TestParseMagic(t *testing.T) {
	rest := contentsOf(small())[4:]
	for _, n := range []uint32{0, 1, 0x4D504B46, 0x4D504B48, 0x4D4F4E54, 0x474B504D, 0x4D504B00, 0x4D504BC7, 0x7FFFFFFF, 0x80000000, 0xCD504B47, 0xFFFFFFFF} {
		for cut := 0; cut <= len(rest); cut++ {
			b := slices.Concat(num(int(n)), rest[:cut])
			checkNone(t, fmt.Sprintf("%x and %d bytes", n, cut), seal(b), api.ErrForm)
		}
	}
}

// A fault is a field of contents that is wrong.
type fault struct {
	what  string
	field int // its number, as of fieldsOf
	b     []byte
	want  api.Errno
	ends  bool // nothing may follow it
}

// faults are wrong fields for the small package.
func faults() []fault {
	tooBig, huge := num(1<<31), num(math.MaxInt32)
	a, b := class("A", "Object"), method("A", "b", "b ^1")
	l := []fault{
		{"another number", 0, num(0x4D504B48), api.ErrForm, false}, {"no number", 0, tooBig, api.ErrForm, false}, {"a short number", 0, num(0x4D504B47)[:3], api.ErrShort, true},
		{"name's length", 1, tooBig, api.ErrForm, false}, {"name too long", 1, huge, api.ErrShort, false}, {"no name", 1, nil, api.ErrShort, true}, {"name ends", 1, text("Tools")[:8], api.ErrShort, true},
		{"version of 2^31", 2, tooBig, api.ErrForm, false}, {"version of 2^32-1", 2, num(-1), api.ErrForm, false}, {"no version", 2, nil, api.ErrShort, true}, {"version ends", 2, num(7)[:1], api.ErrShort, true},
		{"needs' number", 3, tooBig, api.ErrForm, false}, {"too many needs", 3, huge, api.ErrShort, false}, {"over a million needs", 3, num(1000001), api.ErrShort, false}, {"no needs", 3, nil, api.ErrShort, true}, {"needs end", 3, texts([]string{"A", "B"})[:12], api.ErrShort, true},
		{"need's length", 3, slices.Concat(num(1), tooBig), api.ErrForm, false}, {"need too long", 3, slices.Concat(num(1), huge), api.ErrShort, false}, {"the second need's length", 3, slices.Concat(num(2), text("A"), tooBig), api.ErrForm, false},
		{"definitions' number", 4, tooBig, api.ErrForm, false}, {"too many definitions", 4, num(501), api.ErrFull, false}, {"501 definitions", 4, numbered(501, many(501)...), api.ErrFull, false}, {"very many definitions", 4, huge, api.ErrFull, false}, {"no definitions", 4, nil, api.ErrShort, true}, {"a definition less", 4, numbered(2, a), api.ErrShort, true}, {"a definition more", 4, numbered(1, a, b), api.ErrForm, false}, {"a byte more", 4, append(numbered(1, a), 0), api.ErrForm, false},
		{"definitions fall", 4, numbered(2, b, a), api.ErrOrder, false}, {"twice", 4, numbered(2, a, a), api.ErrOrder, false}, {"fall, then wrong", 4, numbered(3, b, a, class("C", "")), api.ErrOrder, false}, {"wrong, then fall", 4, numbered(3, b, class("C", ""), a), api.ErrDef, false}, {"class's length", 4, slices.Concat(num(1), num(1), tooBig), api.ErrForm, false}, {"a wrong one, then too early an end", 4, numbered(2, class("C", "")), api.ErrDef, false},
	}
	for _, d := range wrongDefs() {
		if encodable(d) {
			l = append(l, fault{fmt.Sprintf("definition %.60q", fmt.Sprint(d)), 4, numbered(1, d), api.ErrDef, false})
			l = append(l, fault{fmt.Sprintf("definitions, and %.60q", fmt.Sprint(d)), 4, numbered(3, a, b, d), api.ErrDef, false})
		}
	}
	return append(l, invalidFields()...)
}

// invalidFields are fields that can be read, though no valid package has them.
func invalidFields() []fault {
	l := []fault{{"version 0", 2, num(0), api.ErrArg, false}}
	for _, s := range noClassNames() {
		l = append(l, fault{fmt.Sprintf("name %.60q", s), 1, text(s), api.ErrArg, false}, fault{fmt.Sprintf("need %.60q", s), 3, texts([]string{"Base", s}), api.ErrArg, false})
	}
	for _, needs := range [][]string{{"Core", "Base"}, {"Base", "Base"}, {"Base", "Tools"}, {"Tools"}, {"Basement", "Base"}, names("N", 21), names("N", 900)} {
		l = append(l, fault{fmt.Sprintf("needs %.60q", needs), 3, texts(needs), api.ErrArg, false})
	}
	return l
}

// sealedWith is the small package, sealed, with faults by rising fields.
func sealedWith(l ...fault) []byte {
	fields := fieldsOf(small())
	for _, x := range l {
		fields[x.field] = x.b
		if x.ends {
			fields = fields[:x.field+1]
			break
		}
	}
	return seal(slices.Concat(fields...))
}

// first is the error of two faults by rising fields: what cannot be read comes ahead of what is not valid.
func first(x, y fault) api.Errno {
	if x.want == api.ErrArg {
		return y.want
	}
	return x.want
}

// P11.2: each fault alone, and each two of them.
func TestParseFaults(t *testing.T) {
	l := faults()
	for _, x := range l {
		checkNone(t, x.what, sealedWith(x), x.want)
		for _, y := range l {
			if y.field > x.field {
				checkNone(t, x.what+" and "+y.what, sealedWith(x, y), first(x, y))
			}
		}
	}
}

// P11.2: the contents of each package that is not valid.
func TestParseWrong(t *testing.T) {
	for _, x := range wrongHeads() {
		if x.p.Version < 0 || x.p.Version > math.MaxInt32 {
			continue // it has no encoding
		}
		checkNone(t, x.what, encoded(x.p), api.ErrArg)
	}
	for _, n := range []uint32{1 << 31, 1<<31 + 1, math.MaxUint32} {
		checkNone(t, "version too great", encoded(versioned(int(n))), api.ErrForm)
	}
	for _, x := range wrongBodies() {
		if !slices.ContainsFunc(x.p.Defs, func(d api.Def) bool { return !def.Right(d) && !encodable(d) }) {
			want, e := expected(encoded(x.p))
			if e == api.OK || e == api.ErrArg {
				t.Fatalf("%s: %v, %.200s", x.what, e, show(want))
			}
			checkNone(t, x.what, encoded(x.p), e)
		}
	}
}

// P11.2: just the rising order of definitions is an encoding.
func TestParseOrders(t *testing.T) {
	l := []api.Def{class("A", "Object"), class("A0", "A"), method("A", "b", ""), class("AA", "B")}
	for a := range 4 {
		for b := range 4 {
			for c := range 4 {
				p := defining(l[a], l[b], l[c])
				if a < b && b < c {
					checkParse(t, "rising", encoded(p), p)
					continue
				}
				checkNone(t, fmt.Sprint(a, b, c), encoded(p), api.ErrOrder)
			}
		}
	}
}

// spare is a copy of a list with texts behind its end.
func spare(l []string) []string { return append(slices.Clone(l), "spare", "spare")[:len(l)] }

// hasSpare tells whether the texts behind the end of a list are those of spare.
func hasSpare(l []string) bool {
	return slices.Equal(l[len(l):len(l)+2], []string{"spare", "spare"})
}

// spacious is a copy of a package with something behind the end of each list.
func spacious(p api.Package) api.Package {
	p.Needs = spare(p.Needs)
	p.Defs = append(slices.Clone(p.Defs), class("Spare", "Object"), class("Spare", "Object"))[:len(p.Defs)]
	for i, d := range p.Defs {
		p.Defs[i].Vars = spare(d.Vars)
	}
	return p
}

// checkSpacious asks that a package of spacious is as it was.
func checkSpacious(t *testing.T, what string, p, was api.Package) {
	t.Helper()
	if show(p) != show(was) {
		t.Errorf("%s: it has become %.300s", what, show(p))
	}
	ok := hasSpare(p.Needs)
	for _, d := range p.Defs {
		ok = ok && hasSpare(d.Vars)
	}
	for _, d := range p.Defs[len(p.Defs) : len(p.Defs)+2] {
		ok = ok && d.Class == "Spare"
	}
	if !ok {
		t.Errorf("%s: what lies behind the lists has changed", what)
	}
}

// spoil changes all that can be changed in a package, behind the end of its lists too.
func spoil(p *api.Package) {
	for i := range p.Defs {
		l := p.Defs[i].Vars
		l = l[:cap(l)]
		for j := range l {
			l[j] = "spoilt"
		}
	}
	clear(p.Defs[:cap(p.Defs)])
	clear(p.Needs[:cap(p.Needs)])
	*p = api.Package{}
}

// P11.3: what is given is not changed.
func TestArgumentsStay(t *testing.T) {
	for _, x := range append(valid(), wrongs()...) {
		p := spacious(x.p)
		Right(p)
		Write(p)
		Snap(p)
		Same(p, p)
		Same(p, x.p)
		Make(p.Name, p.Version, p.Needs, nil)
		checkSpacious(t, x.what, p, x.p)
	}
	for _, want := range []api.Package{small(), large()} {
		for _, b := range [][]byte{encoded(want), encoded(want)[:30], seal(contentsOf(want)[:30]), nil} {
			room := append(slices.Clone(b), "spare"...)
			before := slices.Clone(room)
			Parse(room[:len(b)])
			if !bytes.Equal(room, before) {
				t.Errorf("%x has become %x", before, room)
			}
		}
	}
}

// P11.3: what is given is not kept.
func TestArgumentsNotKept(t *testing.T) {
	for _, want := range []api.Package{small(), large()} {
		p := spacious(want)
		needs := spare(want.Needs)
		s := Snap(p)
		made, e := Make(want.Name, want.Version, needs, s)
		if e != api.OK {
			t.Fatal(e)
		}
		b := encoded(want)
		parsed, e := Parse(b)
		if e != api.OK {
			t.Fatal(e)
		}
		spoil(&p)
		clear(needs[:cap(needs)])
		clear(b[:cap(b)])
		checkSnap(t, "Snap", s, want.Defs)
		if show(made) != show(want) || show(parsed) != show(want) {
			t.Errorf("%.200s, %.200s", show(made), show(parsed))
		}
	}
}

// P11.3: results are new memory: what is done to them reaches nothing else.
func TestResults(t *testing.T) {
	for _, want := range []api.Package{small(), large()} {
		p, b := spacious(want), encoded(want)
		s := snapOf(t, want.Defs)
		results := func() []api.Package {
			made, _ := Make(p.Name, p.Version, p.Needs, s)
			parsed, _ := Parse(b)
			return []api.Package{made, parsed}
		}
		earlier, spoilt := results(), results()
		written, other := Snap(p), Snap(p)
		first, _ := Write(p)
		second, _ := Write(p)
		for i := range spoilt {
			spoil(&spoilt[i])
		}
		clear(first[:cap(first)])
		for d := range written.All() {
			clear(d.Vars[:cap(d.Vars)])
		}
		if !bytes.Equal(second, encoded(want)) || !bytes.Equal(b, encoded(want)) {
			t.Error("bytes have changed")
		}
		for _, q := range append(earlier, results()...) {
			if show(q) != show(want) {
				t.Errorf("%.300s", show(q))
			}
		}
		checkSpacious(t, "given", p, want)
		for _, u := range []*snap.Snap{s, written, other} {
			checkSnap(t, "snapshot", u, want.Defs)
		}
	}
}

// P11.3: two lists of one result share no memory, nor does one grow into another.
func TestListsOfOneResult(t *testing.T) {
	for _, want := range []api.Package{small(), large()} {
		made, _ := Make(want.Name, want.Version, want.Needs, snapOf(t, want.Defs))
		parsed, _ := Parse(encoded(want))
		for _, p := range []api.Package{made, parsed} {
			lists := [][]string{p.Needs}
			for _, d := range p.Defs {
				lists = append(lists, d.Vars)
			}
			for _, l := range lists {
				_ = append(l, "more", "more")
			}
			if show(p) != show(want) {
				t.Errorf("grown into: %.300s", show(p))
			}
			for i, l := range lists {
				before := slices.Clone(lists[(i+1)%len(lists)])
				clear(l)
				if !slices.Equal(lists[(i+1)%len(lists)], before) {
					t.Error("two lists share memory")
				}
			}
		}
	}
}

// textsOf are all texts of a package that are not empty.
func textsOf(p api.Package) []string {
	l := append([]string{p.Name}, p.Needs...)
	for _, d := range p.Defs {
		l = append(append(l, d.Vars...), d.Class, d.Super, d.Selector, d.Source)
	}
	return slices.DeleteFunc(l, func(s string) bool { return s == "" })
}

// P11.3: the texts lie in new memory too: a piece of a long text that is kept would keep the whole of it.
func TestTextsAreNew(t *testing.T) {
	for _, p := range []api.Package{small(), large()} {
		s := snapOf(t, p.Defs)
		of := api.Package{Defs: slices.Collect(Snap(p).All())}
		made, _ := Make(p.Name, p.Version, p.Needs, s)
		again, _ := Make(p.Name, p.Version, p.Needs, s)
		if n := len(textsOf(p)); len(textsOf(made)) != n || len(textsOf(of)) != n-1-len(p.Needs) {
			t.Fatalf("%d texts", n)
		}
		for _, x := range []struct {
			what     string
			from, to api.Package
		}{{"Snap", p, of}, {"Make", p, made}, {"Make twice", made, again}} {
			for _, text := range textsOf(x.to) {
				if slices.ContainsFunc(textsOf(x.from), func(s string) bool { return unsafe.StringData(s) == unsafe.StringData(text) }) {
					t.Errorf("%s: %.60q is what was given", x.what, text)
				}
			}
		}
	}
}

// randomPackage is a package, mostly a valid one, that has an encoding.
func randomPackage(random *rand.Rand) api.Package {
	pick := func(l ...string) string { return l[random.Intn(len(l))] }
	p := api.Package{Name: pick("P", "Tools", "Base", "Ab", "A", "Object"), Version: 1 + random.Intn(3)}
	if random.Intn(10) == 0 {
		p.Name = noClassNames()[random.Intn(28)]
	}
	if random.Intn(10) == 0 {
		p.Version = 0
	}
	for range random.Intn(4) {
		p.Needs = append(p.Needs, pick("Base", "Basement", "Core", "Aa", "AA", "Zork"))
	}
	for range random.Intn(4) {
		d := rising()[random.Intn(10)]
		if random.Intn(20) == 0 {
			d = wrongDefs()[random.Intn(15)]
		}
		if d.Kind >= 0 {
			p.Defs = append(p.Defs, d)
		}
	}
	if random.Intn(4) > 0 {
		slices.Sort(p.Needs)
		p.Needs = slices.Compact(p.Needs)
	}
	if random.Intn(4) > 0 {
		slices.SortFunc(p.Defs, func(a, b api.Def) int { return strings.Compare(keyOf(a), keyOf(b)) })
		p.Defs = slices.CompactFunc(p.Defs, func(a, b api.Def) bool { return keyOf(a) == keyOf(b) })
	}
	return p
}

// P11.1 and P5: random packages: what is valid is encoded and read back, what is not is refused.
func TestRandom(t *testing.T) {
	random := rand.New(rand.NewSource(2))
	rights := 0
	for range 10000 {
		p := randomPackage(random)
		want := isValid(p)
		b, e := Write(p)
		s := Snap(p)
		if Right(p) != want || (e == api.OK) != want || (len(b) > 0) != want || (s != nil) != want {
			t.Fatalf("%s: %v, not %v", show(p), Right(p), want)
		}
		if want {
			rights++
			checkValid(t, "random", p)
		}
	}
	if rights < 1000 || rights > 9000 {
		t.Errorf("%d are right", rights)
	}
}

// P11.2 and P5: any bytes are refused with the error that the chapter names, or are exactly the encoding of what is returned.
func TestParseAnyBytes(t *testing.T) {
	random := rand.New(rand.NewSource(3))
	counts := map[api.Errno]int{}
	for range 60000 {
		b := contentsOf(randomPackage(random))
		if random.Intn(2) == 0 {
			b[random.Intn(len(b))] ^= 1 << random.Intn(8)
		}
		if random.Intn(8) == 0 {
			b = b[:random.Intn(len(b))]
		}
		if random.Intn(16) == 0 {
			b = append(b, byte(random.Intn(256)))
		}
		if random.Intn(16) > 0 {
			b = seal(b)
		}
		want, wantErr := expected(b)
		p, e := Parse(b)
		counts[e]++
		if e != wantErr || show(p) != show(want) {
			t.Fatalf("%x: %v, %s, not %v, %s", b, e, show(p), wantErr, show(want))
		}
		if again, writeErr := Write(p); e == api.OK && (writeErr != api.OK || !bytes.Equal(again, b)) {
			t.Fatalf("%x is written as %x", b, again)
		}
	}
	for _, e := range []api.Errno{api.OK, api.ErrArg, api.ErrShort, api.ErrForm, api.ErrSum, api.ErrFull, api.ErrDef, api.ErrOrder} {
		if counts[e] < 200 {
			t.Errorf("%v: just %d times", e, counts[e])
		}
	}
}
