package snap

import (
	"bytes"
	"encoding/binary"
	"fmt"
	"math/rand"
	"slices"
	"sort"
	"strings"
	"testing"
	"unsafe"

	"monticule/api"
	"monticule/def"
)

func class(class, super string, vars ...string) api.Def {
	return api.Def{Kind: api.DefClass, Class: class, Super: super, Vars: vars}
}

func method(class, selector, source string) api.Def {
	return api.Def{Kind: api.DefMethod, Class: class, Selector: selector, Source: source}
}

// rising are definitions by rising keys: a class ahead of its methods, keys of which one is the beginning of another. ("0" < ">" < "A" < "a": the methods of A stand behind class A0 and ahead of class AA.)
func rising() []api.Def {
	return []api.Def{
		class("A", "Object", "x", "y"),
		class("A0", "A"),
		class("A0a", "A", "z"),
		method("A", "+", "+ a ^a"),
		method("A", "++", "++ a ^a"),
		method("A", ">", "> a ^a"),
		method("A", ">>", ">> a ^a"),
		method("A", "a", "a ^1"),
		method("A", "a:", "a: x ^x"),
		method("A", "a:b:", ""),
		method("A", "aA", "\x00\xff\xc3"),
		method("A", "aa", "aa ^2"),
		class("AA", "Nowhere"),
		method("AA", "a", strings.Repeat("x", 4000)),
		class("Aa", "Object"),
		class("B", "A", "x"),
		method("Integer", "zork", "zork ^self"),
		class("Stack", "Object", "items", "top"),
		method("Stack", "size", "size ^1"),
		class("Stacks", "Stack"),
	}
}

// wrongs are definitions that are not valid.
func wrongs() []api.Def {
	return []api.Def{
		{},
		{Kind: 3, Class: "Zz", Super: "B"},
		{Kind: -1, Class: "Zz", Super: "B"},
		class("", "B"), class("a", "B"), class("Zz", ""), class("Object", "B"), class("Zz", "B", "x", "x"), class("Zz", "B", "self"), class("A", "B", "X"),
		{Kind: api.DefClass, Class: "A", Super: "Object", Source: "x"},
		method("", "b", ""), method("A", "", ""), method("A", "B", ""), method("a", "b", ""), method("A", "a", strings.Repeat("x", 4001)),
		{Kind: api.DefMethod, Class: "A", Selector: "a", Super: "B"},
	}
}

// many are n classes with different keys, which do not rise.
func many(n int) []api.Def {
	var l []api.Def
	for i := range n {
		l = append(l, class(fmt.Sprintf("C%d", i), "Object", "x"))
	}
	return l
}

// join is a new list of a list and more definitions.
func join(l []api.Def, more ...api.Def) []api.Def { return append(slices.Clone(l), more...) }

// keyOf is a key in the words of chapter 7.
func keyOf(d api.Def) string {
	if d.Kind == api.DefMethod {
		return d.Class + ">>" + d.Selector
	}
	return d.Class
}

// sorted are definitions by rising keys.
func sorted(l []api.Def) []api.Def {
	l = slices.Clone(l)
	sort.SliceStable(l, func(i, j int) bool {
		return bytes.Compare([]byte(keyOf(l[i])), []byte(keyOf(l[j]))) < 0
	})
	return l
}

// show is all of a definition; those of the same fields look the same.
func show(d api.Def) string {
	return fmt.Sprintf("%d %q %q %q %q %q", d.Kind, d.Class, d.Super, d.Vars, d.Selector, d.Source)
}

// shows are definitions for comparing.
func shows(l []api.Def) []string {
	var texts []string
	for _, d := range l {
		texts = append(texts, show(d))
	}
	return texts
}

func num(n int) []byte { return binary.BigEndian.AppendUint32(nil, uint32(n)) }

func text(s string) []byte { return append(num(len(s)), s...) }

// octets is the encoding of one definition, put together by hand, for those that are not valid too.
func octets(d api.Def) []byte {
	b := num(d.Kind)
	switch d.Kind {
	case api.DefClass:
		b = append(append(b, text(d.Class)...), text(d.Super)...)
		b = append(b, num(len(d.Vars))...)
		for _, s := range d.Vars {
			b = append(b, text(s)...)
		}
	case api.DefMethod:
		b = append(append(append(b, text(d.Class)...), text(d.Selector)...), text(d.Source)...)
	}
	return b
}

// numbered is a number and the encodings of definitions, in the order in which they are given.
func numbered(n int, l ...api.Def) []byte {
	b := num(n)
	for _, d := range l {
		b = append(b, octets(d)...)
	}
	return b
}

// encoded is the encoding of a snapshot of definitions.
func encoded(l []api.Def) []byte { return numbered(len(l), sorted(l)...) }

// made is a snapshot that New must return.
func made(t *testing.T, l ...api.Def) *Snap {
	t.Helper()
	s, e := New(l...)
	if s == nil || e != api.OK {
		t.Fatalf("New of %d definitions: %v, %v", len(l), s, e)
	}
	return s
}

// put is a snapshot that Put must return.
func put(t *testing.T, s *Snap, d api.Def) *Snap {
	t.Helper()
	u, e := s.Put(d)
	if u == nil || e != api.OK {
		t.Fatalf("Put of %s: %v, %v", keyOf(d), u, e)
	}
	return u
}

// all are what All yields.
func all(s *Snap) []api.Def {
	var l []api.Def
	for d := range s.All() {
		l = append(l, d)
	}
	return l
}

// check asks all that a snapshot tells: it must have just these definitions, which are given in any order.
func check(t *testing.T, s *Snap, l []api.Def) {
	t.Helper()
	want := sorted(l)
	if s.Len() != len(want) {
		t.Errorf("Len is %d, not %d", s.Len(), len(want))
	}
	if got := all(s); !slices.Equal(shows(got), shows(want)) {
		t.Errorf("All is %.500q, not %.500q", shows(got), shows(want))
	}
	for _, d := range want {
		if got, ok := s.Get(keyOf(d)); !ok || show(got) != show(d) {
			t.Errorf("Get(%q): %.200s, %v", keyOf(d), show(got), ok)
		}
	}
	if got := s.Write(); !bytes.Equal(got, encoded(want)) {
		t.Errorf("Write is %.300q, not %.300q", got, encoded(want))
	}
}

// checkNone asks that there is no snapshot beside an error.
func checkNone(t *testing.T, what string, s *Snap, e, want api.Errno) {
	t.Helper()
	if s != nil || e != want {
		t.Errorf("%.200s: %v, %v, not %v", what, s, e, want)
	}
}

// The chapter's example.
func TestExample(t *testing.T) {
	a, b := class("A", "Object"), method("A", "b", "b ^1")
	s := made(t, a, b)
	check(t, s, []api.Def{a, b})
	check(t, s.Drop("A"), []api.Def{b})
}

// P8.1: New of no definition, of one, of several, of just MaxDefs.
func TestNew(t *testing.T) {
	check(t, made(t), nil)
	check(t, made(t, []api.Def{}...), nil)
	for _, d := range rising() {
		check(t, made(t, d), []api.Def{d})
	}
	check(t, made(t, rising()...), rising())
	for _, n := range []int{2, 10, 11, 499, 500} {
		check(t, made(t, many(n)...), many(n))
	}
}

// P8.1: New of too many, whatever comes behind the first that is too much.
func TestNewFull(t *testing.T) {
	for _, n := range []int{501, 502, 2000} {
		s, e := New(many(n)...)
		checkNone(t, fmt.Sprint(n), s, e, api.ErrFull)
	}
}

// P8.1: the first error of New, and which one it is where a definition has several.
func TestNewErrors(t *testing.T) {
	a, b, c := class("A", "Object"), method("A", "b", "b ^1"), class("C", "A", "x")
	wrong := class("Z", "z")
	full := many(500)
	for _, x := range []struct {
		what string
		l    []api.Def
		want api.Errno
	}{
		{"the same one twice", []api.Def{a, a}, api.ErrTwice},
		{"the same key with other fields", []api.Def{a, class("A", "B", "y")}, api.ErrTwice},
		{"the same method with another source", []api.Def{b, a, method("A", "b", "")}, api.ErrTwice},
		{"the last has the key of the first", []api.Def{a, b, c, a}, api.ErrTwice},
		{"the last two have the same key", []api.Def{a, b, c, c}, api.ErrTwice},
		{"a wrong one first", []api.Def{wrong, a}, api.ErrDef},
		{"a wrong one last", []api.Def{a, b, wrong}, api.ErrDef},
		{"a wrong one ahead of one that is there", []api.Def{a, wrong, a}, api.ErrDef},
		{"a wrong one behind one that is there", []api.Def{a, a, wrong}, api.ErrTwice},
		{"a wrong one that would have an earlier key", []api.Def{a, class("A", "a")}, api.ErrDef},
		{"two wrong ones", []api.Def{wrong, wrong}, api.ErrDef},
		{"two without a key", []api.Def{{}, {}}, api.ErrDef},
		{"one too many", join(full, a), api.ErrFull},
		{"one too many, it is wrong", join(full, wrong), api.ErrDef},
		{"one too many, its key is there", join(full, class("C7", "A")), api.ErrTwice},
		{"one too many, it is wrong and has an earlier key", join(full, class("C7", "a")), api.ErrDef},
		{"one too many ahead of a wrong one", join(full, a, wrong), api.ErrFull},
		{"one too many ahead of one that is there", join(full, a, full[0]), api.ErrFull},
		{"the last place twice", join(full[:499], full[0]), api.ErrTwice},
		{"the last place wrong", join(full[:499], wrong, a), api.ErrDef},
		{"one that is there, then too many", join(full[:499], full[3], a, b, c), api.ErrTwice},
	} {
		s, e := New(x.l...)
		checkNone(t, x.what, s, e, x.want)
	}
}

// P8.1: each definition that is not valid, at each place.
func TestNewWrong(t *testing.T) {
	for _, wrong := range wrongs() {
		for at := range 4 {
			s, e := New(slices.Insert(rising()[:3:3], at, wrong)...)
			checkNone(t, show(wrong), s, e, api.ErrDef)
		}
	}
}

// P8.1: Put of a new key and of one that is there; the snapshot itself stays.
func TestPut(t *testing.T) {
	l := rising()
	for i, d := range l {
		rest := slices.Delete(slices.Clone(l), i, i+1)
		s := made(t, rest...)
		u := put(t, s, d)
		check(t, u, l)
		check(t, s, rest)
		if u == s || u.Same(s) || s.Same(u) {
			t.Errorf("Put of %q: it is the same", keyOf(d))
		}
		other := class(d.Class, "Other", "w")
		if d.Kind == api.DefMethod {
			other = method(d.Class, d.Selector, "another source")
		}
		v := put(t, u, other)
		check(t, v, append(rest, other))
		check(t, u, l)
		if v.Same(u) || v == u {
			t.Errorf("Put of another %q: it is the same", keyOf(d))
		}
	}
}

// P8.1: Put of just what is there returns another snapshot with the same definitions.
func TestPutSame(t *testing.T) {
	s := made(t, rising()...)
	for _, d := range rising() {
		u := put(t, s, d)
		if u == s || !u.Same(s) {
			t.Errorf("Put of %q: %v, %v", keyOf(d), u == s, u.Same(s))
		}
	}
	check(t, s, rising())
}

// P8.1: Put into an empty snapshot.
func TestPutFirst(t *testing.T) {
	for _, s := range []*Snap{nil, {}, made(t), made(t, rising()[0]).Drop("A")} {
		for _, d := range rising() {
			check(t, put(t, s, d), []api.Def{d})
			check(t, s, nil)
		}
	}
}

// P8.1: Put of what is not valid, into a full snapshot too.
func TestPutWrong(t *testing.T) {
	for _, l := range [][]api.Def{nil, rising(), many(500)} {
		s := made(t, l...)
		for _, wrong := range wrongs() {
			u, e := s.Put(wrong)
			checkNone(t, show(wrong), u, e, api.ErrDef)
		}
		check(t, s, l)
	}
	u, e := (*Snap)(nil).Put(class("A", "a"))
	checkNone(t, "into nil", u, e, api.ErrDef)
	full := made(t, many(500)...)
	u, e = full.Put(class("C3", "a"))
	checkNone(t, "wrong, its key is there", u, e, api.ErrDef)
}

// P8.1: Put into snapshots of 499 and 500 definitions.
func TestPutFull(t *testing.T) {
	l := many(500)
	s := made(t, l[:499]...)
	full := put(t, s, l[499])
	check(t, full, l)
	check(t, s, l[:499])
	for _, d := range []api.Def{class("D", "Object"), method("C0", "b", "b ^1"), class("B", "Object"), class("C", "Object"), class("C500", "Object")} {
		u, e := full.Put(d)
		checkNone(t, keyOf(d), u, e, api.ErrFull)
	}
	for _, at := range []int{0, 7, 250, 499} {
		d := class(l[at].Class, "Other", "y", "z")
		want := slices.Clone(l)
		want[at] = d
		check(t, put(t, full, d), want)
		want = slices.Clone(l[:499])
		if at < 499 {
			want[at] = d
			check(t, put(t, s, d), want)
		}
	}
	check(t, full, l)
	check(t, put(t, full.Drop("C9"), class("D", "Object")), append(slices.Delete(slices.Clone(l), 9, 10), class("D", "Object")))
}

// P8.1: a snapshot is filled one by one, and no further.
func TestPutOneByOne(t *testing.T) {
	var s *Snap
	for _, d := range many(500) {
		s = put(t, s, d)
	}
	check(t, s, many(500))
	u, e := s.Put(class("D", "Object"))
	checkNone(t, "one more", u, e, api.ErrFull)
}

// without are definitions without some keys.
func without(l []api.Def, keys ...string) []api.Def {
	return slices.DeleteFunc(slices.Clone(l), func(d api.Def) bool { return slices.Contains(keys, keyOf(d)) })
}

// P8.1: Drop of keys that are there and that are not.
func TestDrop(t *testing.T) {
	l := rising()
	s := made(t, l...)
	var keys []string
	for _, d := range l {
		keys = append(keys, keyOf(d))
	}
	lists := [][]string{nil, {}, {""}, {"", ""}, {"zz"}, {"A>>"}, {"A>>zork"}, {"a"}, {">>a"}, {"Object"}, {"A", "A"}, {"A", "zz", "A"}, {"B", "A"}, {"A", "A>>a", "Stack"}, {"zz", "A>>a", "", "B"}, {"Stack>>size", "Stack"}, keys, append(slices.Clone(keys), keys...), keys[1:], keys[:len(keys)-1]}
	for _, key := range keys {
		lists = append(lists, []string{key}, []string{key, key})
	}
	for _, drop := range lists {
		u := s.Drop(drop...)
		if u == nil || u == s {
			t.Fatalf("Drop of %q is no other snapshot", drop)
		}
		check(t, u, without(l, drop...))
		if u.Same(s) != (len(without(l, drop...)) == len(l)) {
			t.Errorf("Drop of %q: Same is %v", drop, u.Same(s))
		}
		check(t, s, l)
	}
}

// P8.1: Drop of a class leaves its methods; a class whose name it begins with stays too.
func TestDropOnlyKeys(t *testing.T) {
	a, ab, abc := class("A", "Object"), method("A", "b", ""), class("Ab", "A")
	check(t, made(t, a, ab, abc).Drop("A"), []api.Def{ab, abc})
	check(t, made(t, a, ab, abc).Drop("A>>b"), []api.Def{a, abc})
	check(t, made(t, a, ab, abc).Drop("Ab"), []api.Def{a, ab})
	check(t, made(t, a, ab, abc).Drop("A>", "A>>", "b", "a"), []api.Def{a, ab, abc})
}

// P8.1: what is dropped can be put again, and dropped keys make place.
func TestDropAndPut(t *testing.T) {
	full := made(t, many(500)...)
	s := full.Drop("C1", "C2")
	if s.Len() != 498 {
		t.Errorf("%d", s.Len())
	}
	s = put(t, put(t, s, many(500)[2]), many(500)[1])
	if !s.Same(full) {
		t.Error("it is another one")
	}
	check(t, s, many(500))
}

// P8.2: Get of what is not there.
func TestGetNone(t *testing.T) {
	for _, s := range []*Snap{nil, {}, made(t), made(t, rising()...), made(t, method("Zoo", "b", ""))} {
		for _, key := range []string{"", "Zz", "Zoo", "a", "A>>", "A>", ">>", "A>>zork", "A>>A", "A>>a>>a", " A", "A ", "a:", "Object", "nonsense (", "\xff", strings.Repeat("A", 5000)} {
			if d, ok := s.Get(key); ok || show(d) != show(api.Def{}) {
				t.Errorf("Get(%.40q): %s, %v", key, show(d), ok)
			}
		}
	}
}

// P8.2: a loop over All may stop at each place.
func TestAllStopped(t *testing.T) {
	l := rising()
	seq := made(t, l...).All()
	for stop := range len(l) + 1 {
		var got []api.Def
		for d := range seq {
			if len(got) == stop {
				break
			}
			got = append(got, d)
		}
		if !slices.Equal(shows(got), shows(l[:stop])) {
			t.Errorf("up to %d: %q", stop, shows(got))
		}
	}
	// The iterator itself must not go on after it has been told to stop.
	calls := 0
	seq(func(api.Def) bool { calls++; return calls < 3 })
	if calls != 3 {
		t.Errorf("%d calls", calls)
	}
}

// P8.2: one iterator, used several times and within itself, begins anew each time.
func TestAllAgain(t *testing.T) {
	l := rising()
	s := made(t, l...)
	seq := s.All()
	for range 2 {
		i := 0
		for d := range seq {
			if show(d) != show(l[i]) {
				t.Errorf("%d: %s", i, show(d))
			}
			j := 0
			for inner := range seq {
				if show(inner) != show(l[j]) {
					t.Errorf("%d, %d: %s", i, j, show(inner))
				}
				j++
			}
			i++
		}
		if i != len(l) {
			t.Errorf("%d of %d", i, len(l))
		}
	}
}

// P8.2: an iterator yields what was there, whatever is made of the snapshot meanwhile.
func TestAllWhilePutting(t *testing.T) {
	l := rising()
	s := made(t, l...)
	u := s
	i := 0
	for d := range s.All() {
		if show(d) != show(l[i]) {
			t.Errorf("%d: %s", i, show(d))
		}
		u = u.Drop(keyOf(d))
		u = put(t, u, class(fmt.Sprintf("New%d", i), "Object"))
		i++
	}
	check(t, s, l)
	if i != len(l) || u.Len() != len(l) {
		t.Errorf("%d, %d", i, u.Len())
	}
}

// P8.2: Same of snapshots that differ in one definition, or in none.
func TestSame(t *testing.T) {
	a, b, m := class("A", "Object", "x", "y"), class("B", "A"), method("A", "b", "b ^1")
	lists := [][]api.Def{
		nil,
		{a},
		{b},
		{m},
		{a, b},
		{a, m},
		{b, m},
		{a, b, m},
		{class("A", "Object", "y", "x"), b, m},
		{class("A", "Object", "x"), b, m},
		{class("A", "Object", "x", "y", "z"), b, m},
		{class("A", "Object"), b, m},
		{class("A", "B", "x", "y"), b, m},
		{a, class("B", "Object"), m},
		{a, b, method("A", "b", "b ^2")},
		{a, b, method("A", "b", "")},
		{a, b, method("A", "c", "b ^1")},
		{a, b, method("B", "b", "b ^1")},
		{a, class("C", "A"), m},
		{a, b, m, class("C", "A")},
		rising(),
		many(499),
		many(500),
	}
	for i, l := range lists {
		for j, k := range lists {
			s, u := made(t, l...), made(t, k...)
			if s.Same(u) != (i == j) || u.Same(s) != (i == j) {
				t.Errorf("%d and %d: %v, %v", i, j, s.Same(u), u.Same(s))
			}
			if !s.Same(s) {
				t.Errorf("%d is not the same as itself", i)
			}
		}
	}
}

// P8.2: a nil list of variables and an empty one are the same.
func TestSameEmptyVars(t *testing.T) {
	a := made(t, class("A", "B"), method("A", "b", ""))
	b := made(t, api.Def{Kind: api.DefClass, Class: "A", Super: "B", Vars: []string{}}, api.Def{Kind: api.DefMethod, Class: "A", Selector: "b", Vars: make([]string, 0, 3)})
	if !a.Same(b) || !b.Same(a) || !bytes.Equal(a.Write(), b.Write()) {
		t.Error("they differ")
	}
}

// P8.2: the bytes that Write returns.
func TestBytes(t *testing.T) {
	for _, x := range []struct {
		l    []api.Def
		want string
	}{
		{nil, "\x00\x00\x00\x00"},
		{[]api.Def{class("A", "Bc")}, "\x00\x00\x00\x01\x00\x00\x00\x01\x00\x00\x00\x01A\x00\x00\x00\x02Bc\x00\x00\x00\x00"},
		{[]api.Def{class("B", "C", "x"), method("A", "b", "^"), class("A", "B")}, "\x00\x00\x00\x03" +
			"\x00\x00\x00\x01\x00\x00\x00\x01A\x00\x00\x00\x01B\x00\x00\x00\x00" +
			"\x00\x00\x00\x02\x00\x00\x00\x01A\x00\x00\x00\x01b\x00\x00\x00\x01^" +
			"\x00\x00\x00\x01\x00\x00\x00\x01B\x00\x00\x00\x01C\x00\x00\x00\x01\x00\x00\x00\x01x"},
	} {
		s := made(t, x.l...)
		if got := string(s.Write()); got != x.want {
			t.Errorf("%q, not %q", got, x.want)
		}
		u, e := Parse([]byte(x.want))
		if e != api.OK || !u.Same(s) {
			t.Errorf("%q: %v", x.want, e)
		}
	}
}

// P8.3: Parse of what Write returned.
func TestParse(t *testing.T) {
	for _, l := range [][]api.Def{nil, rising()[:1], rising()[:2], rising(), many(10), many(499), many(500)} {
		s := made(t, l...)
		u, e := Parse(s.Write())
		if u == nil || e != api.OK || !u.Same(s) || !s.Same(u) {
			t.Fatalf("%d definitions: %v", len(l), e)
		}
		check(t, u, l)
	}
	for _, d := range rising() {
		u, e := Parse(encoded([]api.Def{d}))
		if e != api.OK {
			t.Fatalf("%s: %v", keyOf(d), e)
		}
		check(t, u, []api.Def{d})
	}
}

// P8.3: bytes that end too early, at each place, and bytes left behind.
func TestParseCut(t *testing.T) {
	for _, l := range [][]api.Def{nil, rising()[:1], rising()[:12], many(500)} {
		whole := encoded(l)
		for cut := range len(whole) {
			if len(whole)-cut > 2000 && cut%17 != 0 {
				continue
			}
			s, e := Parse(whole[:cut])
			checkNone(t, fmt.Sprintf("%d definitions, cut at %d", len(l), cut), s, e, api.ErrShort)
		}
		for _, more := range []string{"\x00", "\xff", "\x80\x00\x00\x00", "\x00\x00\x00\x00", "\x00\x00\x00\x07", string(octets(class("Zz", "B"))), string(whole)} {
			s, e := Parse(append(bytes.Clone(whole), more...))
			checkNone(t, fmt.Sprintf("%d definitions and %.20q", len(l), more), s, e, api.ErrForm)
		}
	}
}

// P8.3: the number of definitions.
func TestParseNumber(t *testing.T) {
	one := string(octets(class("A", "B")))
	for _, x := range []struct {
		b    string
		want api.Errno
	}{
		{"", api.ErrShort},
		{"\x00", api.ErrShort},
		{"\x00\x00\x00", api.ErrShort},
		{"\xff\xff\xff", api.ErrShort},
		{"\x80\x00\x00\x00", api.ErrForm},
		{"\xff\xff\xff\xff", api.ErrForm},
		{"\x80\x00\x00\x00" + one, api.ErrForm},
		{"\x80\x00\x00\x01" + one, api.ErrForm},
		{"\x7f\xff\xff\xff", api.ErrFull},
		{"\x7f\xff\xff\xff" + one, api.ErrFull},
		{string(num(501)), api.ErrFull},
		{string(num(501)) + "\x00", api.ErrFull},
		{string(num(501)) + "\x00\x00\x00\x07", api.ErrFull},
		{string(num(501)) + one + one, api.ErrFull},
		{string(num(502)), api.ErrFull},
		{string(num(512)) + one, api.ErrFull},
		{string(num(1 << 16)), api.ErrFull},
		{string(num(1 << 24)), api.ErrFull},
		{string(numbered(501, sorted(many(501))...)), api.ErrFull},
		{string(numbered(501, sorted(many(500))...)), api.ErrFull},
		{string(numbered(500, sorted(many(501))...)), api.ErrForm},
		{string(numbered(500, sorted(many(499))...)), api.ErrShort},
		{string(num(500)), api.ErrShort},
		{string(num(500)) + one, api.ErrShort},
		{string(num(1)), api.ErrShort},
		{string(num(2)) + one, api.ErrShort},
		{string(num(0)) + one, api.ErrForm},
		{string(num(1)) + one + one, api.ErrForm},
	} {
		s, e := Parse([]byte(x.b))
		checkNone(t, fmt.Sprintf("%.40q", x.b), s, e, x.want)
	}
	s, e := Parse(nil)
	checkNone(t, "nil", s, e, api.ErrShort)
}

// P8.3: the errors of definitions and of their order, and which one comes first.
func TestParseErrors(t *testing.T) {
	a, ab, b, c := class("A", "Object"), method("A", "b", "b ^1"), class("B", "A", "x"), class("C", "B")
	wrong, low := class("Zz", "z"), class("A", "a")
	kind := api.Def{Kind: 7}
	bad := []byte{0x80, 0, 0, 0}
	plus := func(b []byte, more ...byte) []byte { return append(b, more...) }
	for _, x := range []struct {
		what string
		b    []byte
		want api.Errno
	}{
		{"another kind", numbered(1, kind), api.ErrDef},
		{"kind 0", numbered(1, api.Def{}), api.ErrDef},
		{"kind 3", numbered(1, api.Def{Kind: 3}), api.ErrDef},
		{"another kind, more behind", plus(numbered(1, kind), 1, 2, 3), api.ErrDef},
		{"a kind out of range", plus(num(1), bad...), api.ErrForm},
		{"a text out of range", plus(numbered(1), 0, 0, 0, 1, 0x80, 0, 0, 0), api.ErrForm},
		{"the second is of another kind", numbered(2, a, kind), api.ErrDef},
		{"the second is wrong", numbered(2, a, wrong), api.ErrDef},
		{"the second is wrong, and too low", numbered(2, b, low), api.ErrDef},
		{"the second is wrong, with the same class", numbered(2, a, low), api.ErrDef},
		{"the first is wrong, the second too low", numbered(3, wrong, b, a), api.ErrDef},
		{"the first is wrong, the second missing", numbered(2, wrong), api.ErrDef},
		{"the first is wrong, bytes left", plus(numbered(1, wrong), 0), api.ErrDef},
		{"the first is wrong, a number behind it out of range", plus(numbered(2, wrong), bad...), api.ErrDef},
		{"the same twice", numbered(2, a, a), api.ErrOrder},
		{"the same method twice", numbered(3, a, ab, ab), api.ErrOrder},
		{"the same key, other fields", numbered(2, a, class("A", "B", "x")), api.ErrOrder},
		{"the same key, another source", numbered(2, ab, method("A", "b", "")), api.ErrOrder},
		{"falling", numbered(2, b, a), api.ErrOrder},
		{"a method ahead of its class", numbered(2, ab, a), api.ErrOrder},
		{"a longer key first", numbered(2, class("Ab", "B"), a), api.ErrOrder},
		{"a longer selector first", numbered(2, method("A", "bc", ""), ab), api.ErrOrder},
		{"falling at the end", numbered(4, a, b, c, ab), api.ErrOrder},
		{"the last is the first", numbered(3, a, b, a), api.ErrOrder},
		{"lower than the last, not than the first", numbered(3, a, c, b), api.ErrOrder},
		{"falling, then wrong", numbered(3, b, a, wrong), api.ErrOrder},
		{"falling, then another kind", numbered(3, b, a, kind), api.ErrOrder},
		{"falling, then short", numbered(3, b, a), api.ErrOrder},
		{"falling, then a number out of range", plus(numbered(3, b, a), bad...), api.ErrOrder},
		{"falling, then bytes left", plus(numbered(2, b, a), 0), api.ErrOrder},
		{"falling twice", numbered(3, c, b, a), api.ErrOrder},
		{"cut where it would fall", numbered(2, b, a)[:len(numbered(2, b, a))-1], api.ErrShort},
		{"cut within a wrong one", numbered(2, a, wrong)[:len(numbered(2, a, wrong))-1], api.ErrShort},
		{"short, though bytes of another kind would follow", plus(numbered(2, a), 0, 0, 7), api.ErrShort},
		{"the second's number out of range", plus(numbered(2, a), bad...), api.ErrForm},
	} {
		s, e := Parse(x.b)
		checkNone(t, x.what, s, e, x.want)
	}
}

// P8.3: each definition that is not valid, behind others.
func TestParseWrong(t *testing.T) {
	for _, wrong := range wrongs() {
		if wrong.Kind < 0 || wrong.Kind == api.DefClass && wrong.Source != "" || wrong.Kind == api.DefMethod && wrong.Super != "" {
			continue // it has no encoding, or that of a valid one
		}
		for n := range 3 {
			s, e := Parse(numbered(n+1, append(rising()[:n:n], wrong)...))
			checkNone(t, show(wrong), s, e, api.ErrDef)
		}
	}
}

// P8.3: all orders of a few definitions: just the rising one is an encoding.
func TestParseOrders(t *testing.T) {
	l := []api.Def{class("A", "Object"), class("A0", "A"), method("A", "b", ""), class("AA", "B"), class("B", "A")}
	orders(l, func(order []api.Def) {
		s, e := Parse(numbered(len(l), order...))
		if slices.Equal(shows(order), shows(l)) {
			if e != api.OK {
				t.Errorf("rising: %v", e)
			} else {
				check(t, s, l)
			}
			return
		}
		checkNone(t, fmt.Sprintf("%q", shows(order)), s, e, api.ErrOrder)
	})
}

// orders calls use with each order of a list.
func orders(l []api.Def, use func([]api.Def)) {
	var place func(n int)
	l = slices.Clone(l)
	place = func(n int) {
		if n == len(l) {
			use(slices.Clone(l))
			return
		}
		for i := n; i < len(l); i++ {
			l[n], l[i] = l[i], l[n]
			place(n + 1)
			l[n], l[i] = l[i], l[n]
		}
	}
	place(0)
}

// P8.4: the order in which definitions are given does not matter: all orders of a few, and random ones of many.
func TestOrders(t *testing.T) {
	few := []api.Def{class("A", "Object", "x"), class("A0", "A"), method("A", "b", "b ^1"), class("AA", "B"), method("B", "+", "")}
	want := made(t, few...)
	orders(few, func(order []api.Def) {
		s := made(t, order...)
		var u *Snap
		for _, d := range order {
			u = put(t, u, d)
		}
		if !s.Same(want) || !u.Same(want) || !bytes.Equal(s.Write(), want.Write()) || !bytes.Equal(u.Write(), want.Write()) {
			t.Errorf("%q is another one", shows(order))
		}
	})
	random := rand.New(rand.NewSource(1))
	for _, l := range [][]api.Def{rising(), many(500)} {
		for range 10 {
			random.Shuffle(len(l), func(i, j int) { l[i], l[j] = l[j], l[i] })
			check(t, made(t, l...), l)
		}
	}
}

// P8.4: each method of a nil snapshot, and of a zero one.
func TestNil(t *testing.T) {
	for _, s := range []*Snap{nil, {}} {
		check(t, s, nil)
		if d, ok := s.Get(""); ok || show(d) != show(api.Def{}) {
			t.Errorf("Get: %v, %v", d, ok)
		}
		for _, other := range []*Snap{nil, {}, made(t), made(t, class("A", "B")).Drop("A")} {
			if !s.Same(other) || !other.Same(s) {
				t.Error("it is not the same as an empty one")
			}
		}
		one := made(t, class("A", "B"))
		if s.Same(one) || one.Same(s) {
			t.Error("it is the same as one that has a definition")
		}
		for _, keys := range [][]string{nil, {""}, {"A"}, {"A", "A", "zz"}} {
			u := s.Drop(keys...)
			if u == nil || u == s {
				t.Fatal("Drop returns no other snapshot")
			}
			check(t, u, nil)
		}
		check(t, put(t, s, class("A", "B", "x")), []api.Def{class("A", "B", "x")})
		u, e := s.Put(api.Def{})
		checkNone(t, "Put", u, e, api.ErrDef)
		u, e = Parse(s.Write())
		if e != api.OK || u == nil || !u.Same(s) {
			t.Errorf("Parse: %v, %v", u, e)
		}
		check(t, s, nil)
	}
}

// P8.4: what is given to New, Put, Drop and Parse is neither changed nor kept.
func TestArguments(t *testing.T) {
	given := rising()
	for i := range given {
		given[i].Vars = append(slices.Clone(given[i].Vars), "spare", "spare")[:len(given[i].Vars)]
	}
	given = append(given, class("Spare", "Object"), class("Spare", "Object"))[:len(given)]
	one := class("Stack", "A", "p", "q", "spare")
	one.Vars = one.Vars[:2]
	keys := []string{"zz", "A", "B", "A", "spare"}
	s := made(t, given...)
	u := put(t, s, one)
	v := u.Drop(keys[:4]...)
	b := append(v.Write(), "spare"...)
	before := bytes.Clone(b)
	w, e := Parse(b[:len(b)-5])
	if e != api.OK {
		t.Fatal(e)
	}
	for i, d := range given[:len(given)+2] {
		if i < len(rising()) && (show(d) != show(rising()[i]) || !slices.Equal(d.Vars[len(d.Vars):len(d.Vars)+2], []string{"spare", "spare"})) || i >= len(rising()) && d.Class != "Spare" {
			t.Errorf("%d has become %s", i, show(d))
		}
	}
	if show(one) != show(class("Stack", "A", "p", "q")) || one.Vars[:3][2] != "spare" || !slices.Equal(keys, []string{"zz", "A", "B", "A", "spare"}) || !bytes.Equal(b, before) {
		t.Errorf("%s, %q, %q", show(one), keys, b)
	}
	for i := range given {
		clear(given[i].Vars)
		given[i] = api.Def{}
	}
	clear(one.Vars)
	clear(keys)
	clear(b)
	changed := append(without(rising(), "Stack"), class("Stack", "A", "p", "q"))
	check(t, s, rising())
	check(t, u, changed)
	check(t, v, without(changed, "A", "B"))
	check(t, w, without(changed, "A", "B"))
}

// spoil changes all that can be changed in a definition, its spare capacity too.
func spoil(d *api.Def) {
	_ = append(d.Vars, "mine", "mine", "mine")
	l := d.Vars[:cap(d.Vars)]
	for i := range l {
		l[i] = "spoilt"
	}
	*d = api.Def{}
}

// P8.4: results are new memory: what is done to them reaches no snapshot and no other result.
func TestResults(t *testing.T) {
	l := rising()
	s := made(t, l...)
	parsed, e := Parse(s.Write())
	if e != api.OK {
		t.Fatal(e)
	}
	for _, u := range []*Snap{s, parsed, s.Drop("zz"), put(t, s, l[0]), s} {
		seq := u.All()
		results := all(u)
		for _, d := range l {
			got, _ := u.Get(keyOf(d))
			other, _ := u.Get(keyOf(d))
			spoil(&got)
			if show(other) != show(d) {
				t.Errorf("%s has become %s", show(d), show(other))
			}
		}
		for d := range seq {
			spoil(&d)
		}
		b, c := u.Write(), u.Write()
		clear(b[:cap(b)])
		if !bytes.Equal(c, encoded(l)) {
			t.Error("two results of Write share memory")
		}
		if !slices.Equal(shows(results), shows(l)) {
			t.Errorf("%q", shows(results))
		}
		for i := range results {
			spoil(&results[i])
			if rest := results[i+1:]; !slices.Equal(shows(rest), shows(l[i+1:])) {
				t.Errorf("behind %d: %q", i, shows(rest))
			}
		}
		for _, other := range []*Snap{s, parsed, u} {
			check(t, other, l)
		}
	}
}

// texts are all texts of a definition.
func texts(d api.Def) []string {
	return append(slices.Clone(d.Vars), d.Class, d.Super, d.Selector, d.Source)
}

// shareText tells whether a text of one definition lies where one of the other does.
func shareText(a, b api.Def) bool {
	for _, s := range texts(a) {
		for _, u := range texts(b) {
			if s != "" && u != "" && unsafe.StringData(s) == unsafe.StringData(u) {
				return true
			}
		}
	}
	return false
}

// P8.4: the texts lie in new memory too: a piece of a long text that is kept would keep the whole of it.
func TestTextsAreNew(t *testing.T) {
	for _, d := range rising() {
		s := made(t, d)
		u := put(t, s.Drop(keyOf(d)), d)
		kept, _ := s.Get(keyOf(d))
		again, _ := s.Get(keyOf(d))
		fromPut, _ := u.Get(keyOf(d))
		for _, got := range []api.Def{kept, fromPut, all(s)[0], s.defs[keyOf(d)], u.defs[keyOf(d)]} {
			if shareText(got, d) {
				t.Errorf("%s keeps what was given", keyOf(d))
			}
		}
		if shareText(kept, again) || shareText(kept, s.defs[keyOf(d)]) || shareText(all(s)[0], s.defs[keyOf(d)]) {
			t.Errorf("%s is handed out, not a copy", keyOf(d))
		}
	}
}

// reference reads bytes in the words of the chapters 1, 7 and 8.
type reference struct {
	rest []byte
	err  api.Errno
}

func (r *reference) num() int {
	if r.err != api.OK {
		return 0
	}
	if len(r.rest) < 4 {
		r.err = api.ErrShort
		return 0
	}
	n := binary.BigEndian.Uint32(r.rest)
	if n >= 1<<31 {
		r.err = api.ErrForm
		return 0
	}
	r.rest = r.rest[4:]
	return int(n)
}

func (r *reference) text() string {
	n := r.num()
	if r.err == api.OK && n > len(r.rest) {
		r.err = api.ErrShort
	}
	if r.err != api.OK {
		return ""
	}
	s := string(r.rest[:n])
	r.rest = r.rest[n:]
	return s
}

func (r *reference) texts() []string {
	n := r.num()
	if r.err == api.OK && n > len(r.rest) {
		r.err = api.ErrShort
	}
	var l []string
	for len(l) < n && r.err == api.OK {
		l = append(l, r.text())
	}
	return l
}

func (r *reference) def() api.Def {
	d := api.Def{Kind: r.num()}
	if d.Kind == api.DefClass {
		d.Class, d.Super, d.Vars = r.text(), r.text(), r.texts()
	} else if d.Kind == api.DefMethod {
		d.Class, d.Selector, d.Source = r.text(), r.text(), r.text()
	}
	if r.err == api.OK && !def.Right(d) {
		r.err = api.ErrDef
	}
	return d
}

// expected are the definitions of an encoding, or its first error from the left.
func expected(b []byte) ([]api.Def, api.Errno) {
	r := &reference{rest: b}
	n := r.num()
	if n > 500 {
		return nil, api.ErrFull
	}
	var l []api.Def
	for len(l) < n && r.err == api.OK {
		d := r.def()
		if r.err == api.OK && len(l) > 0 && keyOf(d) <= keyOf(l[len(l)-1]) {
			r.err = api.ErrOrder
		}
		l = append(l, d)
	}
	if r.err == api.OK && len(r.rest) > 0 {
		r.err = api.ErrForm
	}
	return l, r.err
}

// randomDef is a definition, mostly a valid one, with one of a few keys.
func randomDef(random *rand.Rand) api.Def {
	pick := func(l ...string) string { return l[random.Intn(len(l))] }
	name := pick("A", "B", "Ab", "A0", "AA", "Stack", "Zoo", "Nil")
	if random.Intn(40) == 0 {
		return wrongs()[random.Intn(len(wrongs()))]
	}
	if random.Intn(2) == 0 || name == "Nil" {
		return method(name, pick("a", "b", "ab", "+", ">", ">>", "a:", "a:b:"), pick("", "a ^1", "\xff", "b"))
	}
	return class(name, pick("Object", "A", "B"), [][]string{nil, {}, {"x"}, {"x", "y"}, {"y", "x"}}[random.Intn(5)]...)
}

// P8.3 and P5: any bytes are refused with the error that the chapter names, or are exactly the encoding of what is returned.
func TestParseAnyBytes(t *testing.T) {
	random := rand.New(rand.NewSource(2))
	counts := map[api.Errno]int{}
	for range 60000 {
		var l []api.Def
		for range random.Intn(5) {
			if d := randomDef(random); d.Kind >= 0 {
				l = append(l, d)
			}
		}
		if random.Intn(3) > 0 {
			l = sorted(l)
		}
		b := numbered(len(l), l...)
		if random.Intn(4) == 0 {
			b = numbered(len(l)+random.Intn(3)-1, l...)
		}
		if random.Intn(2) == 0 {
			b[random.Intn(len(b))] ^= 1 << random.Intn(8)
		}
		if random.Intn(8) == 0 {
			b = b[:random.Intn(len(b))]
		}
		want, wantErr := expected(b)
		s, e := Parse(b)
		counts[e]++
		switch {
		case e != wantErr || (s == nil) != (e != api.OK):
			t.Fatalf("%q: %v, %v, not %v", b, s, e, wantErr)
		case e == api.OK && (!slices.Equal(shows(all(s)), shows(want)) || !bytes.Equal(s.Write(), b)):
			t.Fatalf("%q is read as %q", b, shows(all(s)))
		}
	}
	for _, e := range []api.Errno{api.OK, api.ErrShort, api.ErrForm, api.ErrFull, api.ErrDef, api.ErrOrder} {
		if counts[e] < 200 {
			t.Errorf("%v: just %d times", e, counts[e])
		}
	}
}

// newError is the first error of New, in the chapter's words.
func newError(l []api.Def) api.Errno {
	for i, d := range l {
		earlier := slices.ContainsFunc(l[:i], func(x api.Def) bool { return keyOf(x) == keyOf(d) })
		switch {
		case !def.Right(d):
			return api.ErrDef
		case earlier:
			return api.ErrTwice
		case i >= 500:
			return api.ErrFull
		}
	}
	return api.OK
}

// P8.1: New of random definitions, few of which have the same key.
func TestNewRandom(t *testing.T) {
	random := rand.New(rand.NewSource(3))
	counts := map[api.Errno]int{}
	for range 10000 {
		var l []api.Def
		for range random.Intn(8) {
			l = append(l, randomDef(random))
		}
		s, e := New(l...)
		counts[e]++
		if want := newError(l); e != want || (s == nil) != (e != api.OK) {
			t.Fatalf("%q: %v, %v, not %v", shows(l), s, e, want)
		}
		if e == api.OK {
			check(t, s, l)
		}
	}
	for _, e := range []api.Errno{api.OK, api.ErrDef, api.ErrTwice} {
		if counts[e] < 200 {
			t.Errorf("%v: just %d times", e, counts[e])
		}
	}
}

// A version is a snapshot with what it must have.
type version struct {
	s *Snap
	l []api.Def
}

// next is a version that a random Put or Drop makes of another; it is the same one where Put must fail.
func next(t *testing.T, random *rand.Rand, v version) version {
	if random.Intn(3) == 0 {
		var keys []string
		for range random.Intn(4) {
			keys = append(keys, keyOf(randomDef(random)))
		}
		return version{v.s.Drop(keys...), without(v.l, keys...)}
	}
	d := randomDef(random)
	s, e := v.s.Put(d)
	if !def.Right(d) {
		checkNone(t, show(d), s, e, api.ErrDef)
		return v
	}
	if e != api.OK {
		t.Fatalf("%s: %v", show(d), e)
	}
	return version{s, append(without(v.l, keyOf(d)), d)}
}

// P8.1, P8.2 and P8.4: random versions, each made of an earlier one, against plain lists; none changes when others are made of it.
func TestVersions(t *testing.T) {
	random := rand.New(rand.NewSource(4))
	versions := []version{{}, {made(t, rising()...), rising()}}
	for range 600 {
		versions = append(versions, next(t, random, versions[random.Intn(len(versions))]))
	}
	for _, v := range versions {
		check(t, v.s, v.l)
		other := versions[random.Intn(len(versions))]
		same := slices.Equal(shows(sorted(v.l)), shows(sorted(other.l)))
		if v.s.Same(other.s) != same || !v.s.Same(made(t, v.l...)) {
			t.Errorf("Same of %q and %q: not %v", shows(v.l), shows(other.l), same)
		}
	}
}
