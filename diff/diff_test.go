package diff

import (
	"bytes"
	"fmt"
	"math/rand"
	"slices"
	"strings"
	"testing"
	"unsafe"

	"monticule/api"
	"monticule/def"
	"monticule/snap"
)

func class(class, super string, vars ...string) api.Def {
	return api.Def{Kind: api.DefClass, Class: class, Super: super, Vars: vars}
}

func method(class, selector, source string) api.Def {
	return api.Def{Kind: api.DefMethod, Class: class, Selector: selector, Source: source}
}

// list is one side of an edit.
func list(l ...api.Def) []api.Def { return l }

// patch is a list of edits.
func patch(l ...api.Edit) []api.Edit { return l }

// adds, drops and turns are edits of the key of a definition.
func adds(d api.Def) api.Edit  { return api.Edit{Key: keyOf(d), New: list(d)} }
func drops(d api.Def) api.Edit { return api.Edit{Key: keyOf(d), Old: list(d)} }
func turns(from, to api.Def) api.Edit {
	return api.Edit{Key: keyOf(from), Old: list(from), New: list(to)}
}

// keyOf is a key in the words of chapter 7.
func keyOf(d api.Def) string {
	if d.Kind == api.DefMethod {
		return d.Class + ">>" + d.Selector
	}
	return d.Class
}

// many are n classes by rising keys.
func many(first string, n int) []api.Def {
	var l []api.Def
	for i := range n {
		l = append(l, class(fmt.Sprintf("%s%04d", first, i), "Object", "x"))
	}
	return l
}

// eachOf are the edits that one function makes of definitions.
func eachOf(edit func(api.Def) api.Edit, l []api.Def) []api.Edit {
	var p []api.Edit
	for _, d := range l {
		p = append(p, edit(d))
	}
	return p
}

// wrongs are definitions that are not valid.
func wrongs() []api.Def {
	return []api.Def{
		{}, {Kind: 3, Class: "A", Super: "B"}, {Kind: -1, Class: "A", Super: "B"},
		class("A", ""), class("A", "b"), class("A", "B", "x", "x"), class("A", "B", "self"), class("A", "B", "X"), class("a", "B"), class("Object", "B"),
		{Kind: api.DefClass, Class: "A", Super: "B", Source: "x"},
		{Kind: api.DefClass, Class: "A", Super: "B", Selector: "x"},
		method("A", "", ""), method("A", "B", ""), method("a", "b", ""), method("A", "b", strings.Repeat("x", 4001)),
		{Kind: api.DefMethod, Class: "A", Selector: "b", Super: "B"},
		{Kind: api.DefMethod, Class: "A", Selector: "b", Vars: []string{"x"}},
	}
}

// lists are the definitions of snapshots: each is to become each other one. ("0" < ">" < "A" < "a".)
func lists() [][]api.Def {
	a, b, m := class("A", "Object", "x", "y"), class("B", "A"), method("A", "b", "b ^1")
	all := []api.Def{a, class("A0", "A"), class("A0a", "A", "z"), method("A", "+", "+ a ^a"), method("A", ">", ""), method("A", ">>", "x"), m, method("A", "b:", "b: x ^x"), method("A", "ba", "ba ^2"), class("AA", "Nowhere"), class("Aa", "Object"), b, method("Integer", "zork", "zork ^self"), class("Stack", "Object", "items", "top")}
	l := [][]api.Def{
		nil,
		{a},
		{b},
		{m},
		{a, m},
		{b, m},
		{a, b},
		{a, b, m},
		{class("A", "Object", "y", "x"), b, m},
		{class("A", "Object", "x"), b, m},
		{class("A", "Object"), b, m},
		{class("A", "B", "x", "y"), b, m},
		{a, class("B", "Object"), m},
		{a, b, method("A", "b", "b ^2")},
		{a, b, method("A", "b", "")},
		{a, b, method("A", "bb", "b ^1")},
		{a, b, method("B", "b", "b ^1")},
		{a, m, class("C", "A")},
		{class("C", "A"), class("D", "A"), class("E", "A")},
		{class("D", "A", "x"), class("E", "A"), class("F", "A"), class("G", "A")},
		all,
		all[1:],
		all[:len(all)-1],
		slices.Delete(slices.Clone(all), 5, 8),
		many("C", 10),
		many("C", 500),
		many("D", 500),
	}
	return append(l, many("C", 510)[10:])
}

// show is all of a definition; those of the same fields look the same.
func show(d api.Def) string {
	return fmt.Sprintf("%d %q %q %q %q %q", d.Kind, d.Class, d.Super, d.Vars, d.Selector, d.Source)
}

// shows are definitions for comparing.
func shows(l []api.Def) []string {
	var texts []string
	for _, d := range l {
		texts = append(texts, show(d))
	}
	return texts
}

// showPatch are edits for comparing.
func showPatch(p []api.Edit) []string {
	var texts []string
	for _, x := range p {
		texts = append(texts, fmt.Sprintf("%q: %q to %q", x.Key, shows(x.Old), shows(x.New)))
	}
	return texts
}

func checkPatch(t *testing.T, what string, got, want []api.Edit) {
	t.Helper()
	if !slices.Equal(showPatch(got), showPatch(want)) {
		t.Errorf("%s: %.500q, not %.500q", what, showPatch(got), showPatch(want))
	}
}

// sorted are definitions by rising keys.
func sorted(l []api.Def) []api.Def {
	return slices.SortedFunc(slices.Values(l), func(a, b api.Def) int { return bytes.Compare([]byte(keyOf(a)), []byte(keyOf(b))) })
}

// made is a snapshot of definitions.
func made(t *testing.T, l ...api.Def) *snap.Snap {
	t.Helper()
	s, e := snap.New(l...)
	if e != api.OK {
		t.Fatalf("New of %d definitions: %v", len(l), e)
	}
	return s
}

// checkSnap asks that a snapshot has just these definitions.
func checkSnap(t *testing.T, what string, s *snap.Snap, l []api.Def) {
	t.Helper()
	if s == nil {
		t.Errorf("%s: no snapshot", what)
		return
	}
	if got, want := shows(slices.Collect(s.All())), shows(sorted(l)); !slices.Equal(got, want) {
		t.Errorf("%s: %.500q, not %.500q", what, got, want)
	}
}

// applied is what Apply must make.
func applied(t *testing.T, s *snap.Snap, p []api.Edit) *snap.Snap {
	t.Helper()
	if !Right(p) || !Fits(s, p) {
		t.Errorf("%.300q: Right %v, Fits %v", showPatch(p), Right(p), Fits(s, p))
	}
	u, e := Apply(s, p)
	if u == nil || e != api.OK {
		t.Fatalf("%.300q: %v, %v", showPatch(p), u, e)
	}
	return u
}

// checkNone asks that Apply fails.
func checkNone(t *testing.T, what string, s *snap.Snap, p []api.Edit, want api.Errno) {
	t.Helper()
	if u, e := Apply(s, p); u != nil || e != want {
		t.Errorf("%.300s: %v, %v, not %v", what, u, e, want)
	}
}

// rightOf tells in the chapter's words whether a patch is valid.
func rightOf(p []api.Edit) bool {
	side := func(key string, l []api.Def) bool {
		return len(l) == 0 || len(l) == 1 && def.Right(l[0]) && keyOf(l[0]) == key
	}
	for i, x := range p {
		rises := i == 0 || bytes.Compare([]byte(p[i-1].Key), []byte(x.Key)) < 0
		differs := !slices.Equal(shows(x.Old), shows(x.New))
		if !rises || !differs || !side(x.Key, x.Old) || !side(x.Key, x.New) {
			return false
		}
	}
	return true
}

// fitsTo tells in the chapter's words whether a patch applies to definitions.
func fitsTo(l []api.Def, p []api.Edit) bool {
	for _, x := range p {
		var old []api.Def
		for _, d := range l {
			if keyOf(d) == x.Key {
				old = append(old, d)
			}
		}
		if !slices.Equal(shows(old), shows(x.Old)) {
			return false
		}
	}
	return true
}

// becomes are definitions with New for each Key.
func becomes(l []api.Def, p []api.Edit) []api.Def {
	var out []api.Def
	for _, d := range l {
		if !slices.ContainsFunc(p, func(x api.Edit) bool { return x.Key == keyOf(d) }) {
			out = append(out, d)
		}
	}
	for _, x := range p {
		out = append(out, x.New...)
	}
	return out
}

// between is the patch of two lists in the chapter's words: it goes through both by rising keys.
func between(a, b []api.Def) []api.Edit {
	a, b = sorted(a), sorted(b)
	var p []api.Edit
	for len(a) > 0 || len(b) > 0 {
		switch {
		case len(b) == 0 || len(a) > 0 && keyOf(a[0]) < keyOf(b[0]):
			p, a = append(p, drops(a[0])), a[1:]
		case len(a) == 0 || keyOf(b[0]) < keyOf(a[0]):
			p, b = append(p, adds(b[0])), b[1:]
		default:
			if show(a[0]) != show(b[0]) {
				p = append(p, turns(a[0], b[0]))
			}
			a, b = a[1:], b[1:]
		}
	}
	return p
}

// The chapter's example.
func TestExample(t *testing.T) {
	a := class("A", "Object")
	p := Of(made(t), made(t, a))
	if len(p) != 1 || p[0].Key != "A" || len(p[0].Old) != 0 || len(p[0].New) != 1 || show(p[0].New[0]) != show(a) {
		t.Errorf("%q", showPatch(p))
	}
}

// P9.1: patches that are written out.
func TestOf(t *testing.T) {
	a, ab, aa, b, c := class("A", "Object", "x"), method("A", "b", "b ^1"), class("AA", "B"), class("B", "A"), class("C", "B", "y", "z")
	a2, ab2, b2, c2 := class("A", "Object", "y"), method("A", "b", "b ^2"), class("B", "Object"), class("C", "B", "z", "y")
	for _, x := range []struct {
		what string
		a, b []api.Def
		want []api.Edit
	}{
		{"none", nil, nil, nil},
		{"the same", list(a, ab, b), list(b, a, ab), nil},
		{"all are new", nil, list(b, ab, a), patch(adds(a), adds(ab), adds(b))},
		{"all go", list(b, ab, a), nil, patch(drops(a), drops(ab), drops(b))},
		{"all are others", list(a, ab), list(b, c), patch(drops(a), drops(ab), adds(b), adds(c))},
		{"by turns", list(a, aa, c), list(ab, b), patch(drops(a), adds(ab), drops(aa), adds(b), drops(c))},
		{"the first is new", list(b, c), list(a, b, c), patch(adds(a))},
		{"the middle is new", list(a, c), list(a, b, c), patch(adds(b))},
		{"the last is new", list(a, b), list(a, b, c), patch(adds(c))},
		{"the first goes", list(a, b, c), list(b, c), patch(drops(a))},
		{"the middle goes", list(a, b, c), list(a, c), patch(drops(b))},
		{"the last goes", list(a, b, c), list(a, b), patch(drops(c))},
		{"other variables", list(a, b, c), list(a2, b, c), patch(turns(a, a2))},
		{"another superclass", list(a, b, c), list(a, b2, c), patch(turns(b, b2))},
		{"another order of variables", list(a, b, c), list(a, b, c2), patch(turns(c, c2))},
		{"another source", list(a, ab, c), list(a, ab2, c), patch(turns(ab, ab2))},
		{"all differ", list(a, ab, b, c), list(a2, ab2, b2, c2), patch(turns(a, a2), turns(ab, ab2), turns(b, b2), turns(c, c2))},
		{"a class goes, its method stays", list(a, ab), list(ab), patch(drops(a))},
		{"a method goes, its class stays", list(a, ab), list(a), patch(drops(ab))},
		{"a class for its method", list(a), list(ab), patch(drops(a), adds(ab))},
		{"the beginning of a key goes", list(a, aa), list(aa), patch(drops(a))},
		{"the longer key goes", list(a, aa), list(a), patch(drops(aa))},
		{"the beginning of a key differs", list(a, aa), list(a2, aa), patch(turns(a, a2))},
		{"each kind", list(a, b, c), list(ab, b2, c), patch(drops(a), adds(ab), turns(b, b2))},
	} {
		p := Of(made(t, x.a...), made(t, x.b...))
		checkPatch(t, x.what, p, x.want)
		if !Right(p) {
			t.Errorf("%s: it is not valid", x.what)
		}
	}
}

// P9.1: the keys of a patch rise bytewise: a digit, >, a capital and a small letter.
func TestOfOrder(t *testing.T) {
	want := []string{"A", "A0", "A0>>a", "A0a", "A>>+", "A>>>", "A>>>>", "A>>a", "A>>a:", "A>>a:b:", "A>>aA", "A>>aa", "A>>ab", "AA", "AA>>a", "Aa", "B", "Integer>>zork", "Z"}
	var l []api.Def
	for _, key := range want {
		c, selector, isKey := def.Split(key)
		d := class(c, "Object")
		if selector != "" {
			d = method(c, selector, "x")
		}
		if !isKey || keyOf(d) != key {
			t.Fatalf("%q", key)
		}
		l = append(l, d)
	}
	random := rand.New(rand.NewSource(1))
	for range 20 {
		random.Shuffle(len(l), func(i, j int) { l[i], l[j] = l[j], l[i] })
		n := random.Intn(len(l))
		for _, p := range [][]api.Edit{Of(nil, made(t, l...)), Of(made(t, l...), nil), Of(made(t, l[:n]...), made(t, l[n:]...))} {
			if got := Keys(p); !slices.Equal(got, want) || !Right(p) {
				t.Fatalf("%q, not %q", got, want)
			}
		}
	}
}

// P9.1 and P9.3: snapshots without definitions, nil ones among them.
func TestOfNone(t *testing.T) {
	l := list(class("A", "Object", "x"), method("A", "b", "b ^1"))
	empty := []*snap.Snap{nil, {}, made(t), made(t, l...).Drop("A", "A>>b")}
	for _, a := range empty {
		for _, b := range empty {
			if p := Of(a, b); len(p) != 0 {
				t.Errorf("%q", showPatch(p))
			}
		}
		s := made(t, l...)
		checkPatch(t, "to", Of(a, s), patch(adds(l[0]), adds(l[1])))
		checkPatch(t, "from", Of(s, a), patch(drops(l[0]), drops(l[1])))
		checkSnap(t, "to", applied(t, a, Of(a, s)), l)
		checkSnap(t, "from", applied(t, s, Of(s, a)), nil)
		checkSnap(t, "back", applied(t, a, Turn(Of(s, a))), l)
		checkSnap(t, "nothing", applied(t, a, nil), nil)
		if Fits(a, patch(drops(l[0]))) || !Fits(a, patch(adds(l[0]))) || !Fits(a, nil) {
			t.Error("Fits")
		}
		checkNone(t, "drops", a, patch(drops(l[0])), api.ErrMerge)
		checkNone(t, "not valid", a, patch(api.Edit{Key: "A"}), api.ErrOrder)
	}
}

// P9.1: a nil list of variables and an empty one are the same.
func TestEmptyVars(t *testing.T) {
	a, b := class("A", "B"), class("A", "B")
	a.Vars, b.Vars = nil, []string{}
	m, n := method("A", "b", "x"), method("A", "b", "x")
	n.Vars = []string{}
	s, u := made(t, a, m), made(t, b, n)
	if len(Of(s, u)) != 0 || len(Of(u, s)) != 0 {
		t.Error("they differ")
	}
	for _, p := range [][]api.Edit{patch(turns(a, b)), patch(turns(b, a)), patch(turns(m, n)), patch(turns(n, m))} {
		if Right(p) {
			t.Errorf("%q is valid", showPatch(p))
		}
	}
	for _, p := range [][]api.Edit{patch(drops(a), drops(n)), patch(drops(b), drops(m)), patch(api.Edit{Key: "A", Old: list(b), New: list()})} {
		if !Right(p) || !Fits(s, p) || !Fits(u, p) {
			t.Errorf("%q: %v, %v, %v", showPatch(p), Right(p), Fits(s, p), Fits(u, p))
		}
	}
	if Right(patch(api.Edit{Key: "A", Old: nil, New: list()})) {
		t.Error("nil and empty are different")
	}
}

// A judged patch is one with what Right must say of it.
type judged struct {
	what string
	p    []api.Edit
	want bool
}

// judgedPatches are patches at the edges, valid or not.
func judgedPatches() []judged {
	a, a2, ab, b, b2 := class("A", "Object", "x"), class("A", "Object", "y"), method("A", "b", "b ^1"), class("B", "A"), class("B", "Object")
	edit := func(key string, from, to []api.Def) []api.Edit { return patch(api.Edit{Key: key, Old: from, New: to}) }
	l := []judged{
		{"nil", nil, true},
		{"no edits", patch(), true},
		{"one that adds", patch(adds(a)), true},
		{"one that drops", patch(drops(a)), true},
		{"one that turns", patch(turns(a, a2)), true},
		{"one of a method", patch(turns(ab, method("A", "b", ""))), true},
		{"one of a method of a built-in class", patch(adds(method("Object", "b", ""))), true},
		{"in order", patch(adds(a), drops(ab), turns(b, b2)), true},
		{"out of order", patch(adds(b), adds(a)), false},
		{"a method ahead of its class", patch(adds(ab), adds(a)), false},
		{"a longer key first", patch(adds(class("AA", "B")), adds(a)), false},
		{"out of order at the end", patch(adds(a), adds(b), adds(ab)), false},
		{"out of order at the beginning", patch(adds(ab), adds(a), adds(b)), false},
		{"lower than the last, not than the first", patch(adds(a), adds(class("C", "A")), adds(b)), false},
		{"twice the same", patch(adds(a), adds(a)), false},
		{"twice the same key", patch(drops(a), adds(a2)), false},
		{"twice the same key at the end", patch(adds(a), adds(b), drops(b)), false},
		{"a key twice, not side by side", patch(adds(a), adds(b), adds(a)), false},
		{"one that is not valid at the beginning", patch(api.Edit{Key: "A"}, adds(b)), false},
		{"one that is not valid at the end", patch(adds(a), api.Edit{Key: "B"}), false},
		{"one that is not valid in the middle", patch(adds(a), api.Edit{Key: "A>>b"}, adds(b)), false},
		{"no sides", edit("A", nil, nil), false},
		{"empty sides", edit("A", list(), list()), false},
		{"no sides, no key", edit("", nil, nil), false},
		{"no sides, no key at all", patch(api.Edit{}), false},
		{"no sides, a key that is none", edit("a", nil, nil), false},
		{"the same on both sides", edit("A", list(a), list(a)), false},
		{"the same method on both sides", edit("A>>b", list(ab), list(ab)), false},
		{"two old", edit("A", list(a, a), nil), false},
		{"two new", edit("A", nil, list(a, a)), false},
		{"two different old", edit("A", list(a, a2), nil), false},
		{"two different new", edit("A", nil, list(a, a2)), false},
		{"one old, two new", edit("A", list(a), list(a2, a2)), false},
		{"two old, one new", edit("A", list(a2, a2), list(a)), false},
		{"two new, the second of another key", edit("A", nil, list(a, b)), false},
		{"two old, the first of another key", edit("A", list(b, a), nil), false},
		{"three new", edit("A", nil, list(a, a, a)), false},
		{"old of another key", edit("B", list(a), nil), false},
		{"new of another key", edit("B", nil, list(a)), false},
		{"new of another key beside old", edit("A", list(a), list(b)), false},
		{"old of another key beside new", edit("A", list(b), list(a)), false},
		{"both of another key", edit("C", list(a), list(a2)), false},
		{"new is a method of it", edit("A", list(a), list(ab)), false},
		{"new is the class of it", edit("A>>b", list(ab), list(a)), false},
		{"new of another selector", edit("A>>b", nil, list(method("A", "bb", ""))), false},
		{"new of another class", edit("A>>b", nil, list(method("B", "b", ""))), false},
		{"a longer key", edit("AA", nil, list(a)), false},
		{"a shorter key", edit("A", nil, list(class("AA", "B"))), false},
		{"the key of a built-in class", edit("Object", nil, list(class("Object", "A"))), false},
	}
	for _, key := range []string{"", "x", "a", "A>>", ">>b", "A>b", "A>>B", "A b", "A>>b ", "Object", strings.Repeat("A", 41)} {
		l = append(l,
			judged{"no key, new", edit(key, nil, list(a)), false},
			judged{"no key, old", edit(key, list(ab), nil), false},
			judged{"no key, neither", edit(key, nil, nil), false},
			judged{"no key, behind others", patch(adds(a), api.Edit{Key: key, New: list(b)}), false})
	}
	for _, d := range wrongs() {
		for _, key := range []string{keyOf(d), "", "A"} {
			l = append(l,
				judged{"new is not valid", edit(key, nil, list(d)), false},
				judged{"old is not valid", edit(key, list(d), nil), false},
				judged{"neither is valid", edit(key, list(d), list(wrongs()[1])), false})
		}
		l = append(l,
			judged{"new is not valid, old is", edit("A", list(a), list(d)), false},
			judged{"old is not valid, new is", edit("A", list(d), list(a)), false},
			judged{"new of a method is not valid, old is", edit("A>>b", list(ab), list(d)), false})
	}
	return l
}

// P9.1: what Right says, of the way back too; what is not valid fits nothing.
func TestRight(t *testing.T) {
	some := made(t, class("A", "Object", "x"), method("A", "b", "b ^1"))
	for _, x := range judgedPatches() {
		if got := Right(x.p); got != x.want || got != rightOf(x.p) {
			t.Errorf("%s, %.300q: %v", x.what, showPatch(x.p), got)
		}
		if got := Right(Turn(x.p)); got != x.want {
			t.Errorf("the way back of %s, %.300q: %v", x.what, showPatch(x.p), got)
		}
		if x.want {
			continue
		}
		for _, s := range []*snap.Snap{nil, made(t), some, some.Drop("A"), made(t, class("A", "Object", "y"), class("B", "A"))} {
			if Fits(s, x.p) {
				t.Errorf("%s, %.300q: it fits", x.what, showPatch(x.p))
			}
			checkNone(t, x.what, s, x.p, api.ErrOrder)
		}
	}
}

// P9.1 and P9.2: a valid patch that applies, or does not.
func TestFits(t *testing.T) {
	a, ab, b, c := class("A", "Object", "x"), method("A", "b", "b ^1"), class("B", "A"), class("C", "B")
	l := list(a, ab, b)
	s := made(t, l...)
	for _, x := range []judged{
		{"no edits", nil, true},
		{"old is there", patch(drops(a)), true},
		{"old of a method is there", patch(drops(ab)), true},
		{"old is there, and becomes another", patch(turns(b, class("B", "Object"))), true},
		{"all are there", patch(drops(a), drops(ab), turns(b, class("B", "Object"))), true},
		{"the key is not there", patch(adds(c)), true},
		{"the key of a method is not there", patch(adds(method("A", "bb", ""))), true},
		{"the key is not there, its beginning is", patch(adds(class("AA", "B"))), true},
		{"all of it", patch(drops(a), adds(class("AA", "B")), adds(c)), true},
		{"old has another superclass", patch(drops(class("A", "B", "x"))), false},
		{"old has other variables", patch(drops(class("A", "Object", "y"))), false},
		{"old has more variables", patch(drops(class("A", "Object", "x", "y"))), false},
		{"old has no variables", patch(drops(class("A", "Object"))), false},
		{"old has another source", patch(drops(method("A", "b", "b ^2"))), false},
		{"old has another source, new is there", patch(turns(method("A", "b", "b ^2"), ab)), false},
		{"old has other variables, new is there", patch(turns(class("A", "Object", "y"), a)), false},
		{"old is not there", patch(drops(c)), false},
		{"old of a method is not there", patch(drops(method("A", "bb", ""))), false},
		{"old is not there, new neither", patch(turns(c, class("C", "A"))), false},
		{"old is empty, the key is there", patch(adds(class("A", "Object", "y"))), false},
		{"old is empty, new is there", patch(adds(a)), false},
		{"old is empty, the key of a method is there", patch(adds(method("A", "b", ""))), false},
		{"just the first does not", patch(adds(a), drops(ab), drops(b), adds(c)), false},
		{"just the middle does not", patch(drops(a), adds(ab), drops(b)), false},
		{"just the last does not", patch(drops(a), drops(ab), drops(b), drops(c)), false},
	} {
		if !Right(x.p) || !rightOf(x.p) {
			t.Errorf("%s: it is not valid", x.what)
		}
		if got := Fits(s, x.p); got != x.want || got != fitsTo(l, x.p) {
			t.Errorf("%s: %v", x.what, got)
		}
		if !x.want {
			checkNone(t, x.what, s, x.p, api.ErrMerge)
			continue
		}
		u := applied(t, s, x.p)
		checkSnap(t, x.what, u, becomes(l, x.p))
		checkPatch(t, x.what, Of(s, u), x.p)
	}
	checkSnap(t, "the snapshot itself", s, l)
}

// P9.2: a patch that would make just 500 definitions, and 501.
func TestApplyFull(t *testing.T) {
	c, d := many("C", 500), many("D", 600)
	other := class("C0007", "Other")
	for _, x := range []struct {
		what string
		l    []api.Def
		p    []api.Edit
		want api.Errno
	}{
		{"500 of none", nil, eachOf(adds, d[:500]), api.OK},
		{"501 of none", nil, eachOf(adds, d[:501]), api.ErrFull},
		{"600 of none", nil, eachOf(adds, d), api.ErrFull},
		{"500 of 499", c[:499], eachOf(adds, d[:1]), api.OK},
		{"501 of 499", c[:499], eachOf(adds, d[:2]), api.ErrFull},
		{"499 of 499, nothing", c[:499], nil, api.OK},
		{"500 of 500, nothing", c, nil, api.OK},
		{"501 of 500", c, eachOf(adds, d[:1]), api.ErrFull},
		{"501 of 500, the first", c, patch(adds(class("A", "B"))), api.ErrFull},
		{"501 of 500, a method", c, patch(adds(method("C0003", "b", ""))), api.ErrFull},
		{"500 of 500, one becomes another", c, patch(turns(c[7], other)), api.OK},
		{"499 of 500", c, patch(drops(c[499])), api.OK},
		{"500 of 500, one goes ahead of a new one", c, patch(drops(c[499]), adds(d[0])), api.OK},
		{"500 of 500, a new one ahead of one that goes", c, patch(adds(class("B", "A")), drops(c[0])), api.OK},
		{"500 of 500, a new one ahead of the last, which goes", c, patch(adds(class("B", "A")), drops(c[499])), api.OK},
		{"500 of 500, three new ones ahead of three that go", c, append(eachOf(adds, many("B", 3)), eachOf(drops, c[100:103])...), api.OK},
		{"500 of 500, all are new", c, append(eachOf(drops, c), eachOf(adds, d[:500])...), api.OK},
		{"500 of 500, all are new, and ahead", c, append(eachOf(adds, many("B", 500)), eachOf(drops, c)...), api.OK},
		{"501 of 500, more come than go", c, append(eachOf(adds, many("B", 3)), eachOf(drops, c[100:102])...), api.ErrFull},
		{"501 of 500, one goes, one turns, two come", c, append(patch(drops(c[0]), turns(c[7], other)), eachOf(adds, d[:2])...), api.ErrFull},
		{"501 of 500, all go, 501 come", c, append(eachOf(drops, c), eachOf(adds, d[:501])...), api.ErrFull},
		{"501 of 500, and one does not apply", c, append(patch(adds(c[7])), eachOf(adds, d[:1])...), api.ErrMerge},
		{"501 of 500, and the last does not apply", c, append(eachOf(adds, d[:1]), drops(class("E", "A"))), api.ErrMerge},
		{"501 of 500, and one is not valid", c, append(eachOf(adds, d[:1]), api.Edit{Key: "E"}), api.ErrOrder},
		{"501 of 500, out of order", c, patch(adds(d[1]), adds(d[0])), api.ErrOrder},
		{"all of it, the wrong one last", c, append(patch(adds(c[7])), adds(d[0]), adds(d[1]), api.Edit{Key: "E"}), api.ErrOrder},
		{"all of it, the wrong one first", c, append(patch(api.Edit{Key: "A"}, adds(c[7])), eachOf(adds, d)...), api.ErrOrder},
		{"does not apply, then not valid", c[:10], patch(drops(d[0]), drops(d[0])), api.ErrOrder},
		{"not valid, then does not apply", c[:10], patch(api.Edit{Key: "A"}, drops(d[0])), api.ErrOrder},
	} {
		s := made(t, x.l...)
		if got := Fits(s, x.p); got != (x.want == api.OK || x.want == api.ErrFull) {
			t.Errorf("%s: Fits is %v", x.what, got)
		}
		if x.want != api.OK {
			checkNone(t, x.what, s, x.p, x.want)
		} else {
			u := applied(t, s, x.p)
			checkSnap(t, x.what, u, becomes(x.l, x.p))
			checkPatch(t, x.what, Of(s, u), x.p)
			checkSnap(t, x.what, applied(t, u, Turn(x.p)), x.l)
		}
		checkSnap(t, x.what, s, x.l)
	}
}

// P9.2: what becomes of a nil snapshot.
func TestApplyNil(t *testing.T) {
	a, b := class("A", "Object", "x"), class("B", "A")
	checkSnap(t, "nothing", applied(t, nil, nil), nil)
	checkSnap(t, "two", applied(t, nil, patch(adds(a), adds(b))), list(a, b))
	checkNone(t, "drops", nil, patch(drops(a)), api.ErrMerge)
	checkNone(t, "turns", nil, patch(turns(b, class("B", "Object"))), api.ErrMerge)
	checkNone(t, "too many", nil, eachOf(adds, many("C", 501)), api.ErrFull)
	checkNone(t, "too many, one drops", nil, append(eachOf(adds, many("C", 501)), drops(class("D", "A"))), api.ErrMerge)
	checkNone(t, "not valid", nil, patch(adds(b), adds(a)), api.ErrOrder)
}

// P9.1: Turn of each patch, valid or not, and twice; its keys.
func TestTurn(t *testing.T) {
	for _, x := range judgedPatches() {
		var want []api.Edit
		var keys []string
		for _, y := range x.p {
			want = append(want, api.Edit{Key: y.Key, Old: y.New, New: y.Old})
			keys = append(keys, y.Key)
		}
		got := Turn(x.p)
		checkPatch(t, x.what, got, want)
		checkPatch(t, "twice "+x.what, Turn(got), x.p)
		for _, p := range [][]api.Edit{x.p, got} {
			if !slices.Equal(Keys(p), keys) {
				t.Errorf("%s: %q, not %q", x.what, Keys(p), keys)
			}
		}
	}
}

// P9.1: Keys of no edits and of several, in the order in which they stand, also where that is not a valid one.
func TestKeys(t *testing.T) {
	for _, want := range [][]string{nil, {}, {"A"}, {""}, {"A", "A>>b", "B"}, {"B", "A", "A", "", "x"}} {
		var p []api.Edit
		for _, key := range want {
			p = append(p, api.Edit{Key: key, New: list(class("Zz", "B"))})
		}
		if got := Keys(p); !slices.Equal(got, want) {
			t.Errorf("%q, not %q", got, want)
		}
	}
}

// P9.1 to P9.3: from each snapshot to each other one, and back.
func TestThereAndBack(t *testing.T) {
	for i, a := range lists() {
		for j, b := range lists() {
			what := fmt.Sprintf("%d to %d", i, j)
			s, u := made(t, a...), made(t, b...)
			p := Of(s, u)
			checkPatch(t, what, p, between(a, b))
			if (len(p) == 0) != (i == j) || !rightOf(p) {
				t.Errorf("%s: %.300q", what, showPatch(p))
			}
			there := applied(t, s, p)
			checkSnap(t, what, there, b)
			back := Turn(p)
			checkPatch(t, "back from "+what, back, Of(u, s))
			checkSnap(t, "back from "+what, applied(t, u, back), a)
			checkSnap(t, "back from what was made", applied(t, there, back), a)
			if !there.Same(u) || len(Of(there, u)) != 0 || len(Of(s, s)) != 0 {
				t.Errorf("%s: it is not the same", what)
			}
			checkSnap(t, what, s, a)
			checkSnap(t, what, u, b)
		}
	}
}

// randomDef is a definition with one of a few keys, seldom one that is not valid.
func randomDef(random *rand.Rand) api.Def {
	pick := func(l ...string) string { return l[random.Intn(len(l))] }
	if random.Intn(60) == 0 {
		return wrongs()[random.Intn(len(wrongs()))]
	}
	if random.Intn(2) == 0 {
		return method(pick("A", "B"), pick("a", "aa", "+"), pick("", "x"))
	}
	return class(pick("A", "AA", "B", "C"), pick("Object", "A"), [][]string{nil, {}, {"x"}, {"x", "y"}}[random.Intn(4)]...)
}

// randomDefs are valid definitions with different keys.
func randomDefs(random *rand.Rand) []api.Def {
	var l []api.Def
	for range random.Intn(8) {
		d := randomDef(random)
		if def.Right(d) && !slices.ContainsFunc(l, func(x api.Def) bool { return keyOf(x) == keyOf(d) }) {
			l = append(l, d)
		}
	}
	return l
}

// randomEdit is an edit, mostly one that applies to definitions.
func randomEdit(random *rand.Rand, l []api.Def) api.Edit {
	d, other := randomDef(random), randomDef(random)
	x := adds(d)
	if len(l) > 0 && random.Intn(2) == 0 {
		x = drops(l[random.Intn(len(l))])
		if random.Intn(2) == 0 && keyOf(other) == x.Key || random.Intn(30) == 0 {
			x.New = list(other)
		}
	}
	if random.Intn(40) == 0 {
		x.Old = append(x.Old, d)
	}
	if random.Intn(40) == 0 {
		x.Key = keyOf(other)
	}
	return x
}

// P9.1 to P9.3: random patches against plain lists: those that apply are the patch to what they make.
func TestRandom(t *testing.T) {
	random := rand.New(rand.NewSource(2))
	counts := map[api.Errno]int{}
	for range 40000 {
		l := randomDefs(random)
		s := made(t, l...)
		var p []api.Edit
		for range random.Intn(4) {
			p = append(p, randomEdit(random, l))
		}
		if random.Intn(4) > 0 {
			slices.SortStableFunc(p, func(a, b api.Edit) int { return strings.Compare(a.Key, b.Key) })
		}
		want := api.OK
		switch {
		case !rightOf(p):
			want = api.ErrOrder
		case !fitsTo(l, p):
			want = api.ErrMerge
		}
		counts[want]++
		if Right(p) != (want != api.ErrOrder) || Fits(s, p) != (want == api.OK) {
			t.Fatalf("%q and %q: Right %v, Fits %v, not %v", shows(l), showPatch(p), Right(p), Fits(s, p), want)
		}
		if want != api.OK {
			checkNone(t, fmt.Sprint(showPatch(p)), s, p, want)
			continue
		}
		u := applied(t, s, p)
		checkSnap(t, "random", u, becomes(l, p))
		checkPatch(t, "random", Of(s, u), p)
		checkSnap(t, "random, back", applied(t, u, Turn(p)), l)
	}
	for _, e := range []api.Errno{api.OK, api.ErrOrder, api.ErrMerge} {
		if counts[e] < 2000 {
			t.Errorf("%v: just %d times", e, counts[e])
		}
	}
}

// spare is a patch whose lists, at each level, have more behind their end.
func spare() []api.Edit {
	vars := func(l ...string) []string { return append(l, "spare", "spare")[:len(l)] }
	defs := func(l ...api.Def) []api.Def { return append(l, class("Spare", "B"), class("Spare", "B"))[:len(l)] }
	a, a2 := class("A", "Object", vars("x", "y")...), class("A", "B", vars("y")...)
	m, b := method("A", "b", "b ^1"), class("B", "A", vars("z")...)
	l := []api.Edit{
		{Key: "A", Old: defs(a), New: defs(a2)},
		{Key: "A>>b", Old: defs(), New: defs(m)},
		{Key: "B", Old: defs(b), New: defs()},
		{Key: "Spare"}, {Key: "Spare"},
	}
	return l[:3]
}

// deepShow is all of a patch, behind the ends of its lists too.
func deepShow(p []api.Edit) []string {
	var l []string
	for _, x := range p[:cap(p)] {
		l = append(l, x.Key)
		for _, side := range [][]api.Def{x.Old, x.New} {
			for _, d := range side[:cap(side)] {
				d.Vars = d.Vars[:cap(d.Vars)]
				l = append(l, show(d))
			}
		}
	}
	return l
}

// spoil changes all that can be changed in a patch, behind the ends of its lists too.
func spoil(p []api.Edit) {
	p = p[:cap(p)]
	for i, x := range p {
		for _, side := range [][]api.Def{x.Old, x.New} {
			side = side[:cap(side)]
			for j := range side {
				vars := side[j].Vars[:cap(side[j].Vars)]
				for k := range vars {
					vars[k] = "spoilt"
				}
				side[j] = class("Spoilt", "B")
			}
		}
		p[i] = api.Edit{Key: "Spoilt"}
	}
}

// P9.3: no call changes or keeps what it is given.
func TestArguments(t *testing.T) {
	l := list(class("A", "Object", "x", "y"), class("B", "A", "z"), class("C", "B"))
	want := list(class("A", "B", "y"), class("C", "B"), method("A", "b", "b ^1"))
	s := made(t, l...)
	before := deepShow(spare())
	p := spare()
	u := applied(t, s, p)
	turned, keys := Turn(p), Keys(p)
	back := applied(t, u, turned)
	checkNone(t, "twice", u, p, api.ErrMerge)
	checkNone(t, "out of order", s, append(p[:2:2], p[:1]...), api.ErrOrder)
	if got := deepShow(p); !slices.Equal(got, before) {
		t.Errorf("%q, not %q", got, before)
	}
	spoil(p)
	checkSnap(t, "what was made", u, want)
	checkSnap(t, "the way back", back, l)
	checkPatch(t, "turned", turned, between(want, l))
	if !slices.Equal(keys, []string{"A", "A>>b", "B"}) {
		t.Errorf("%q", keys)
	}
	checkSnap(t, "the snapshot itself", s, l)
}

// P9.3: results are new memory: what is done to one reaches no snapshot and no other result, nor another part of it.
func TestResults(t *testing.T) {
	l := list(class("A", "Object", "x", "y"), class("B", "A", "z"), method("B", "b", "b ^1"))
	k := list(class("A", "Object", "y", "x"), class("C", "A", "z"), method("B", "b", "b ^2"))
	s, u := made(t, l...), made(t, k...)
	want := between(l, k)
	for range 2 {
		p, q := Of(s, u), Of(s, u)
		turned, twice := Turn(p), Turn(Turn(p))
		keys, again := Keys(p), Keys(p)
		there := applied(t, s, p)
		for i := range p {
			spoil(p[i : i+1 : i+1])
			checkPatch(t, "the rest", p[i+1:], want[i+1:])
		}
		spoil(twice)
		keys[0] = "spoilt"
		_ = append(keys, "more")
		checkPatch(t, "another result", q, want)
		checkPatch(t, "turned", turned, between(k, l))
		spoil(turned)
		checkPatch(t, "another result", q, want)
		if !slices.Equal(again, Keys(want)) {
			t.Errorf("%q", again)
		}
		checkSnap(t, "there", there, k)
		checkSnap(t, "from", s, l)
		checkSnap(t, "to", u, k)
	}
}

// P9.3: no side of an edit reaches into the other one.
func TestSidesAreApart(t *testing.T) {
	a, b := class("A", "Object", "x", "y"), class("A", "Object", "y")
	both := list(a)
	for _, p := range [][]api.Edit{Of(made(t, a), made(t, b)), Turn(patch(turns(b, a))), Turn(Turn(patch(api.Edit{Key: "A", Old: both, New: both})))} {
		after := show(p[0].New[0])
		_ = append(p[0].Old, b, b)
		_ = append(p[0].Old[0].Vars, "more", "more")
		p[0].Old[0].Vars[0] = "spoilt"
		p[0].Old[0] = api.Def{}
		if show(p[0].New[0]) != after {
			t.Errorf("%q has become %q", after, show(p[0].New[0]))
		}
	}
	checkSnap(t, "what was given", made(t, both...), list(class("A", "Object", "x", "y")))
}

// P9.3: an error, a refusal and a success leave the snapshots as they were.
func TestSnapshotsStay(t *testing.T) {
	l := list(class("A", "Object", "x"), method("A", "b", "b ^1"))
	s := made(t, l...)
	for _, x := range judgedPatches() {
		Fits(s, x.p)
		Apply(s, x.p)
		Apply(nil, x.p)
		checkSnap(t, x.what, s, l)
	}
	u := applied(t, s, nil)
	if u == s {
		t.Error("it is the snapshot itself")
	}
	checkSnap(t, "nothing", u, l)
}

// textsOf are all texts of a patch.
func textsOf(p []api.Edit) []string {
	var l []string
	for _, x := range p {
		l = append(l, x.Key)
		for _, d := range append(slices.Clone(x.Old), x.New...) {
			l = append(append(l, d.Class, d.Super, d.Selector, d.Source), d.Vars...)
		}
	}
	return l
}

// share tells whether a text of one list lies where one of the other does.
func share(a, b []string) bool {
	for _, s := range a {
		for _, u := range b {
			if s != "" && u != "" && unsafe.StringData(s) == unsafe.StringData(u) {
				return true
			}
		}
	}
	return false
}

// P9.3: the texts lie in new memory too: a piece of a long text that is kept would keep the whole of it.
func TestTextsAreNew(t *testing.T) {
	p := spare()
	turned := Turn(p)
	if share(textsOf(p), textsOf(turned)) || share(textsOf(p), Keys(p)) || share(Keys(p), Keys(p)) {
		t.Error("Turn or Keys hand out what they are given")
	}
	s := made(t, class("A", "Object", "x", "y"), class("B", "A", "z"))
	u := applied(t, s, p)
	for d := range u.All() {
		if share(textsOf(p), textsOf(patch(adds(d)))) {
			t.Errorf("%s keeps what was given", keyOf(d))
		}
	}
	q := Of(s, u)
	if share(textsOf(q), textsOf(Of(s, u))) || share(textsOf(q), textsOf(p)) {
		t.Error("Of hands out what it keeps, or was given")
	}
}
