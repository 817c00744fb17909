package merge

import (
	"fmt"
	"maps"
	"math/rand"
	"slices"
	"strings"
	"testing"
	"unsafe"

	"monticule/api"
	"monticule/snap"
)

// The tests write a definition as a word, key|fields: of a class its superclass and its variables, of a method its source. A snapshot is words with blanks between them.

// defOf is the definition of a word.
func defOf(word string) api.Def {
	key, fields, _ := strings.Cut(word, "|")
	if class, selector, isMethod := strings.Cut(key, ">>"); isMethod {
		return api.Def{Kind: api.DefMethod, Class: class, Selector: selector, Source: fields}
	}
	super, vars, some := strings.Cut(fields, ",")
	d := api.Def{Kind: api.DefClass, Class: key, Super: super}
	if some {
		d.Vars = strings.Split(vars, ",")
	}
	return d
}

// wordOf is the word of a definition.
func wordOf(d api.Def) string {
	if d.Kind == api.DefMethod {
		return d.Class + ">>" + d.Selector + "|" + d.Source
	}
	return d.Class + "|" + strings.Join(append([]string{d.Super}, d.Vars...), ",")
}

// made is the snapshot of words.
func made(t *testing.T, words string) *snap.Snap {
	t.Helper()
	var l []api.Def
	for _, word := range strings.Fields(words) {
		l = append(l, defOf(word))
	}
	s, e := snap.New(l...)
	if e != api.OK {
		t.Fatalf("New of %.200q: %v", words, e)
	}
	return s
}

// wordsOf are the words of a snapshot, by rising keys.
func wordsOf(s *snap.Snap) string {
	var words []string
	for d := range s.All() {
		words = append(words, wordOf(d))
	}
	return strings.Join(words, " ")
}

// many are the words of n classes.
func many(first string, n int) string {
	var words []string
	for i := range n {
		words = append(words, fmt.Sprintf("%s%04d|Object,x", first, i))
	}
	return strings.Join(words, " ")
}

// join are the words of all.
func join(words ...string) string {
	return strings.Join(strings.Fields(strings.Join(words, " ")), " ")
}

// table are words by their keys.
type table map[string]string

func tableOf(words string) table {
	t := table{}
	for _, word := range strings.Fields(words) {
		key, _, _ := strings.Cut(word, "|")
		t[key] = word
	}
	return t
}

// words are the words of a table by rising keys.
func (t table) words() string {
	var words []string
	for _, key := range slices.Sorted(maps.Keys(t)) {
		words = append(words, t[key])
	}
	return strings.Join(words, " ")
}

// three are the words of three snapshots.
type three struct{ base, ours, theirs string }

func (x three) String() string {
	return fmt.Sprintf("%.100q, %.100q, %.100q", x.base, x.ours, x.theirs)
}

// made are the snapshots of the three.
func (x three) made(t *testing.T) (base, ours, theirs *snap.Snap) {
	t.Helper()
	return made(t, x.base), made(t, x.ours), made(t, x.theirs)
}

// merged tells in the chapter's words, key by key, what is merged and which keys are conflicts.
func (x three) merged() (table, []string) {
	base, ours, theirs := tableOf(x.base), tableOf(x.ours), tableOf(x.theirs)
	keys := table{}
	for _, side := range []table{base, ours, theirs} {
		maps.Copy(keys, side)
	}
	merged := table{}
	var conflicts []string
	for _, key := range slices.Sorted(maps.Keys(keys)) {
		inOurs, inTheirs := ours[key] != base[key], theirs[key] != base[key]
		word := base[key]
		switch {
		case inOurs && inTheirs && ours[key] != theirs[key]:
			conflicts = append(conflicts, key)
			continue
		case inOurs:
			word = ours[key]
		case inTheirs:
			word = theirs[key]
		}
		if word != "" {
			merged[key] = word
		}
	}
	return merged, conflicts
}

// chosen tells what is merged where each conflict gets what is chosen.
func (x three) chosen(mine func(key string) bool) table {
	merged, conflicts := x.merged()
	for _, key := range conflicts {
		side := tableOf(x.theirs)
		if mine(key) {
			side = tableOf(x.ours)
		}
		if word, there := side[key]; there {
			merged[key] = word
		}
	}
	return merged
}

// checkSnap asks that there is a snapshot of just these words, or, if there are too many, none and ErrFull.
func checkSnap(t *testing.T, what string, s *snap.Snap, e api.Errno, want table) {
	t.Helper()
	if len(want) > api.MaxDefs {
		if s != nil || e != api.ErrFull {
			t.Errorf("%s: %v, %v, not full", what, s, e)
		}
		return
	}
	if s == nil || e != api.OK {
		t.Errorf("%s: %v, %v", what, s, e)
	} else if got := wordsOf(s); got != want.words() {
		t.Errorf("%s: %.300q, not %.300q", what, got, want.words())
	}
}

// checkMerge asks Conflicts and Merge.
func checkMerge(t *testing.T, what string, base, ours, theirs *snap.Snap, want table, conflicts []string) {
	t.Helper()
	if got := Conflicts(base, ours, theirs); !slices.Equal(got, conflicts) {
		t.Errorf("%s: Conflicts: %.300q, not %.300q", what, got, conflicts)
	}
	s, but, e := Merge(base, ours, theirs)
	if len(want) > api.MaxDefs {
		conflicts = nil
	}
	if !slices.Equal(but, conflicts) {
		t.Errorf("%s: Merge: %.300q, not %.300q", what, but, conflicts)
	}
	if len(conflicts) > 0 {
		if e != api.ErrMerge {
			t.Errorf("%s: Merge: %v, not ErrMerge", what, e)
		}
		e = api.OK
	}
	checkSnap(t, what+": Merge", s, e, want)
}

// checkChoose asks Choose, and for which keys it calls mine.
func checkChoose(t *testing.T, x three, mine func(key string) bool) {
	t.Helper()
	base, ours, theirs := x.made(t)
	var asked []string
	s, e := Choose(base, ours, theirs, func(key string) bool {
		asked = append(asked, key)
		return mine(key)
	})
	checkSnap(t, x.String()+": Choose", s, e, x.chosen(mine))
	if _, conflicts := x.merged(); !slices.Equal(asked, conflicts) {
		t.Errorf("%s: mine was called with %.300q, not %.300q", x, asked, conflicts)
	}
}

func always(string) bool { return true }
func never(string) bool  { return false }

// checkAll asks all functions, with ours and theirs exchanged too.
func checkAll(t *testing.T, x three) {
	t.Helper()
	want, conflicts := x.merged()
	base, ours, theirs := x.made(t)
	checkMerge(t, x.String(), base, ours, theirs, want, conflicts)
	checkMerge(t, x.String()+" exchanged", base, theirs, ours, want, conflicts)
	s, e := Choose(base, ours, theirs, nil)
	checkSnap(t, x.String()+": Choose of nil", s, e, x.chosen(always))
	even := func(key string) bool { return slices.Index(conflicts, key)%2 == 0 }
	odd := func(key string) bool { return !even(key) }
	for _, mine := range []func(string) bool{always, never, even, odd} {
		checkChoose(t, x, mine)
	}
	for i, s := range []*snap.Snap{base, ours, theirs} {
		if want := tableOf([]string{x.base, x.ours, x.theirs}[i]).words(); wordsOf(s) != want {
			t.Errorf("%s: snapshot %d has become %.300q", x, i, wordsOf(s))
		}
	}
}

// The chapter's example.
func TestExample(t *testing.T) {
	base, ours, theirs := three{"", "A|Object,x", "A|Object,y"}.made(t)
	if got := Conflicts(base, ours, theirs); !slices.Equal(got, []string{"A"}) {
		t.Errorf("%q", got)
	}
	s, but, e := Merge(base, ours, theirs)
	if s == nil || s.Len() != 0 || !slices.Equal(but, []string{"A"}) || e != api.ErrMerge {
		t.Errorf("%v, %q, %v", s, but, e)
	}
	for want, mine := range map[string]func(string) bool{"A|Object,x": always, "A|Object,y": never} {
		if s, e := Choose(base, ours, theirs, mine); e != api.OK || wordsOf(s) != want {
			t.Errorf("%v, %v, not %q", s, e, want)
		}
	}
}

// P10.1: merges that are written out.
func TestMerge(t *testing.T) {
	for _, x := range []struct {
		what      string
		of        three
		want      string
		conflicts string
	}{
		{"none", three{}, "", ""},
		{"in base alone: both drop it", three{"A|Object", "", ""}, "", ""},
		{"in ours alone", three{"", "A|Object", ""}, "A|Object", ""},
		{"in theirs alone", three{"", "", "A|Object"}, "A|Object", ""},
		{"in ours and theirs, alike", three{"", "A|Object,x", "A|Object,x"}, "A|Object,x", ""},
		{"in ours and theirs, not alike", three{"", "A|Object,x", "A|Object,y"}, "", "A"},
		{"theirs drops, ours leaves", three{"A|Object", "A|Object", ""}, "", ""},
		{"theirs drops, ours changes", three{"A|Object", "A|Object,x", ""}, "", "A"},
		{"ours drops, theirs leaves", three{"A|Object", "", "A|Object"}, "", ""},
		{"ours drops, theirs changes", three{"A|Object", "", "A|Object,x"}, "", "A"},
		{"in all, the same", three{"A|Object,x", "A|Object,x", "A|Object,x"}, "A|Object,x", ""},
		{"in all, another one in ours", three{"A|Object,x", "A|B,x", "A|Object,x"}, "A|B,x", ""},
		{"in all, another one in theirs", three{"A|Object,x", "A|Object,x", "A|B,x"}, "A|B,x", ""},
		{"in all, the same other one", three{"A|Object,x", "A|Object,y", "A|Object,y"}, "A|Object,y", ""},
		{"in all, different ones", three{"A|Object,x", "A|Object,y", "A|Object,z"}, "", "A"},
		{"another superclass and another variable", three{"A|Object,x", "A|B,x", "A|Object,y"}, "", "A"},
		{"the variables in another order", three{"A|Object,x,y", "A|Object,y,x", "A|Object,x"}, "", "A"},
		{"the same variables in two orders", three{"", "A|Object,y,x", "A|Object,x,y"}, "", "A"},
		{"one more variable on each side", three{"A|Object,x", "A|Object,x,y", "A|Object,x,z"}, "", "A"},
		{"one more variable, on both sides", three{"A|Object,x", "A|Object,x,y", "A|Object,x,y"}, "A|Object,x,y", ""},
		{"a source, in ours", three{"A>>b|1", "A>>b|2", "A>>b|1"}, "A>>b|2", ""},
		{"a source, in theirs", three{"A>>b|1", "A>>b|1", "A>>b|"}, "A>>b|", ""},
		{"a source, on both sides", three{"A>>b|1", "A>>b|2", "A>>b|3"}, "", "A>>b"},
		{"a source and an empty one", three{"A>>b|1", "A>>b|2", "A>>b|"}, "", "A>>b"},
		{"a source, alike", three{"A>>b|1", "A>>b|2", "A>>b|2"}, "A>>b|2", ""},
		{"a class, and its method on the other side", three{"A|Object A>>b|1", "A|Object,x A>>b|1", "A|Object A>>b|2"}, "A|Object,x A>>b|2", ""},
		{"a class goes, its method changes", three{"A|Object A>>b|1", "A>>b|1", "A|Object A>>b|2"}, "A>>b|2", ""},
		{"a class is a conflict, its method none", three{"A|Object A>>b|1", "A|Object,x A>>b|2", "A|Object,y A>>b|1"}, "A>>b|2", "A"},
		{"a method is a conflict, its class none", three{"A|Object A>>b|1", "A|Object,x A>>b|2", "A|Object A>>b|3"}, "A|Object,x", "A>>b"},
		{"a class for its method", three{"A|Object", "A>>b|1", "A|Object,x"}, "A>>b|1", "A"},
		{"one key begins another one", three{"A|Object AA|Object", "A|Object,x AA|Object", "A|Object AA|Object,x"}, "A|Object,x AA|Object,x", ""},
		{"the beginning is a conflict", three{"", "A|Object,x AA|Object", "A|Object,y"}, "AA|Object", "A"},
		{"the longer one is a conflict", three{"", "A|Object,x AA|Object", "AA|B"}, "A|Object,x", "AA"},
		{"a selector begins another one", three{"", "A>>b|1 A>>ba|1 A>>b:|1", "A>>b|1 A>>ba|2 A>>b:|1"}, "A>>b|1 A>>b:|1", "A>>ba"},
		{"one on each side", three{"", "A|Object", "B|Object"}, "A|Object B|Object", ""},
		{"drops on both sides", three{"A|Object B|Object C|Object", "B|Object C|Object", "A|Object B|Object"}, "B|Object", ""},
		{"each for the other one", three{"A|Object B|Object", "A|Object", "B|Object"}, "", ""},
		{"conflicts at the beginning", three{"C|A", "A|Object,x B|A,x C|A", "A|Object,y B|A,y C|A"}, "C|A", "A B"},
		{"conflicts in the middle", three{"A|B D|B", "A|B B|A,x C|A,x D|B", "A|B B|A,y C|A,y D|B"}, "A|B D|B", "B C"},
		{"conflicts at the end", three{"A|B", "A|B C|A,x D|B,x", "A|B C|A,y D|B,y"}, "A|B", "C D"},
		{"conflicts by turns", three{"A|A B|A C|A D|A E|A", "A|B B|B C|B D|A", "A|C B|A C|C D|B E|B"}, "B|B D|B", "A C E"},
		{"all are conflicts", three{"A|A B|A C|A", "A|B C|B D|B", "B|C C|C D|C"}, "", "A B C D"},
		{"each kind", three{"A|A B|A C|A D|A E|A", "A|A,x B|A,x C|A,x E|A F|A G|A,x", "A|A,y B|A,x D|A,y E|A,z F|A G|A,y"}, "B|A,x E|A,z F|A", "A C D G"},
	} {
		base, ours, theirs := x.of.made(t)
		checkMerge(t, x.what, base, ours, theirs, tableOf(x.want), strings.Fields(x.conflicts))
		checkAll(t, x.of)
	}
}

// P10.1, P10.2: one key with each of four contents in each of the three, alone and between others, as a class and as a method.
func TestOneKey(t *testing.T) {
	for _, contents := range [][]string{{"", "B|Object,x", "B|Object,y", "B|C,x"}, {"", "B>>b|", "B>>b|b", "B>>b|b^1"}} {
		for _, base := range contents {
			for _, ours := range contents {
				for _, theirs := range contents {
					checkAll(t, three{base, ours, theirs})
					checkAll(t, three{join("A|Object B>>a|1", base, "BB|B Z|Object"), join("A|Object,x B>>a|1", ours, "BB|B"), join("A|Object B>>a|1", theirs, "BB|B,y Z|Object")})
				}
			}
		}
	}
}

// P10.1: the keys of conflicts rise bytewise: a digit, >, a capital and a small letter.
func TestOrder(t *testing.T) {
	want := strings.Fields("A A0 A0>>a A0a A>>+ A>>> A>>>> A>>a A>>a: A>>a:b: A>>aA A>>aa A>>ab AA AA>>a Aa B Integer>>zork Z")
	var ours, theirs []string
	for i, key := range want {
		ours = append(ours, key+"|Object")
		theirs = append([]string{key + "|Other"}, theirs...)
		if i%3 == 0 {
			theirs = theirs[1:]
		}
	}
	base := strings.ReplaceAll(join(ours...), "|Object", "|Base")
	x := three{base, join(ours...), join(theirs...)}
	for range 20 {
		if got := Conflicts(x.made(t)); !slices.Equal(got, want) {
			t.Fatalf("%q, not %q", got, want)
		}
		checkAll(t, x)
	}
}

// P10.1, P10.2: snapshots without definitions, nil ones among them.
func TestNone(t *testing.T) {
	for i := range 27 {
		words := []string{"", "", "A|Object"}
		snaps := []*snap.Snap{nil, made(t, ""), made(t, words[2])}
		b, o, h := i/9, i/3%3, i%3
		x := three{words[b], words[o], words[h]}
		want, conflicts := x.merged()
		what := fmt.Sprint(b, o, h)
		checkMerge(t, what, snaps[b], snaps[o], snaps[h], want, conflicts)
		s, e := Choose(snaps[b], snaps[o], snaps[h], func(string) bool { t.Error("mine was called"); return true })
		checkSnap(t, what, s, e, want)
		s, e = Choose(snaps[b], snaps[o], snaps[h], nil)
		checkSnap(t, what, s, e, want)
	}
	ours, theirs := made(t, "A|Object,x"), made(t, "A|Object,y")
	checkMerge(t, "conflict without a base", nil, ours, theirs, table{}, []string{"A"})
	checkMerge(t, "ours is nil", ours, nil, theirs, table{}, []string{"A"})
	checkMerge(t, "theirs is nil", ours, theirs, nil, table{}, []string{"A"})
	for _, x := range [][3]*snap.Snap{{nil, ours, theirs}, {theirs, ours, nil}, {theirs, nil, ours}} {
		s, e := Choose(x[0], x[1], x[2], nil)
		checkSnap(t, "Choose", s, e, tableOf(wordsOf(x[1])))
		s, e = Choose(x[0], x[1], x[2], never)
		checkSnap(t, "Choose of theirs", s, e, tableOf(wordsOf(x[2])))
	}
}

// P10.1: just 500 merged definitions, and 501, with conflicts beside them and without.
func TestMergeFull(t *testing.T) {
	two := three{"", "A|Object,x B|A", "A|Object,y B|Object"}
	for _, x := range []struct {
		what     string
		of       three
		want     api.Errno
		merged   int
		conflict string
	}{
		{"500 of two sides", three{"", many("C", 250), many("D", 250)}, api.OK, 500, ""},
		{"501 of two sides", three{"", many("C", 250), many("D", 251)}, api.ErrFull, 0, ""},
		{"501, more of ours", three{"", many("C", 499), "D|A E|A"}, api.ErrFull, 0, ""},
		{"501, more of theirs", three{"", "A|B B|A", many("C", 499)}, api.ErrFull, 0, ""},
		{"1000 of two sides", three{"", many("C", 500), many("D", 500)}, api.ErrFull, 0, ""},
		{"the same 500 on both", three{"", many("C", 500), many("C", 500)}, api.OK, 500, ""},
		{"500 stay", three{many("C", 500), many("C", 500), many("C", 500)}, api.OK, 500, ""},
		{"all 500 go", three{many("C", 500), "", many("C", 500)}, api.OK, 0, ""},
		{"500 go, other 500 come", three{many("C", 500), many("D", 500), many("C", 500)}, api.OK, 500, ""},
		{"499 and one of each side", three{many("C", 499), join(many("C", 499), "A|B"), join(many("C", 499), "D|B")}, api.ErrFull, 0, ""},
		{"498 and one of each side", three{many("C", 498), join(many("C", 498), "A|B"), join(many("C", 498), "D|B")}, api.OK, 500, ""},
		{"one side drops what the other adds", three{many("C", 500), many("C", 499), join(many("C", 498), "A|B D|B")}, api.OK, 500, ""},
		{"one side drops less than the other adds", three{many("C", 499), many("C", 498), join(many("C", 498), "A|B D|B")}, api.OK, 500, ""},
		{"500 and conflicts", three{"", join(many("C", 250), two.ours), join(many("D", 250), two.theirs)}, api.ErrMerge, 500, "A B"},
		{"501 and conflicts", three{"", join(many("C", 251), two.ours), join(many("D", 250), two.theirs)}, api.ErrFull, 0, ""},
		{"499 and conflicts", three{"", join(many("C", 249), two.ours), join(many("D", 250), two.theirs)}, api.ErrMerge, 499, "A B"},
		{"500 and a dropped conflict", three{"A|Object", join(many("C", 250), "A|Object,x"), many("D", 250)}, api.ErrMerge, 500, "A"},
		{"501 and a dropped conflict", three{"A|Object", join(many("C", 250), "A|Object,x"), many("D", 251)}, api.ErrFull, 0, ""},
		{"499 stay, one conflict", three{join(many("C", 499), "A|Object"), join(many("C", 499), "A|B"), join(many("C", 499), "A|C")}, api.ErrMerge, 499, "A"},
		{"500 conflicts", three{"", many("C", 500), strings.ReplaceAll(many("C", 500), ",x", ",y")}, api.ErrMerge, 0, strings.ReplaceAll(many("C", 500), "|Object,x", "")},
	} {
		s, but, e := Merge(x.of.made(t))
		if e != x.want || (s == nil) != (e == api.ErrFull) || s.Len() != x.merged || !slices.Equal(but, strings.Fields(x.conflict)) {
			t.Errorf("%s: %v, %d, %.100q, %v", x.what, s == nil, s.Len(), but, e)
		}
		checkAll(t, x.of)
	}
}

// P10.2: what is chosen makes just 500 definitions, or 501.
func TestChooseFull(t *testing.T) {
	odd := func(key string) bool { return key == "A" || key == "E" }
	for _, x := range []struct {
		what string
		of   three
		mine func(string) bool
		want int // 501 stands for ErrFull
	}{
		{"499 and one of ours", three{"", join(many("C", 249), "A|B"), join(many("D", 250), "A|C")}, nil, 500},
		{"499 and one of theirs", three{"", join(many("C", 249), "A|B"), join(many("D", 250), "A|C")}, never, 500},
		{"500 and one of ours", three{"", join(many("C", 250), "A|B"), join(many("D", 250), "A|C")}, nil, 501},
		{"500 and one of theirs", three{"", join(many("C", 250), "A|B"), join(many("D", 250), "A|C")}, never, 501},
		{"500 and one that ours drops", three{"A|B", many("C", 250), join(many("D", 250), "A|C")}, nil, 500},
		{"500 and one that ours drops, of theirs", three{"A|B", many("C", 250), join(many("D", 250), "A|C")}, never, 501},
		{"500 and one that theirs drops", three{"A|B", join(many("C", 250), "A|C"), many("D", 250)}, never, 500},
		{"500 and one that theirs drops, of ours", three{"A|B", join(many("C", 250), "A|C"), many("D", 250)}, always, 501},
		{"501 and one that is dropped", three{"A|B", many("C", 250), join(many("D", 251), "A|C")}, always, 501},
		{"498 and each other one", three{"A|A B|A E|A", join(many("C", 249), "A|B E|B"), join(many("D", 249), "B|C E|C")}, odd, 501},
		{"497 and each other one", three{"A|A B|A E|A", join(many("C", 249), "A|B E|B"), join(many("D", 248), "B|C E|C")}, odd, 500},
		{"500 conflicts", three{"", many("C", 500), strings.ReplaceAll(many("C", 500), ",x", ",y")}, never, 500},
		{"500 without conflicts", three{"", many("C", 250), many("D", 250)}, never, 500},
		{"501 without conflicts", three{"", many("C", 251), many("D", 250)}, never, 501},
	} {
		base, ours, theirs := x.of.made(t)
		s, e := Choose(base, ours, theirs, x.mine)
		if x.want > 500 {
			if s != nil || e != api.ErrFull {
				t.Errorf("%s: %d, %v", x.what, s.Len(), e)
			}
		} else if s == nil || s.Len() != x.want || e != api.OK {
			t.Errorf("%s: %d, not %d, %v", x.what, s.Len(), x.want, e)
		}
		checkAll(t, x.of)
	}
}

// P10.2: choices that are written out.
func TestChoose(t *testing.T) {
	// Conflicts: A (in all), B (new), D (ours drops it), E (theirs drops it), F>>f.
	x := three{"A|A C|A D|A E|A F>>f|1 G|A", "A|B B|B C|B E|B F>>f|2 G|A", "A|C B|C C|A D|C F>>f|3 H|C"}
	base, ours, theirs := x.made(t)
	for _, y := range []struct {
		mine string // the keys for which ours is chosen
		want string
	}{
		{"A B D E F>>f", "A|B B|B C|B E|B F>>f|2 H|C"},
		{"", "A|C B|C C|B D|C F>>f|3 H|C"},
		{"A", "A|B B|C C|B D|C F>>f|3 H|C"},
		{"B", "A|C B|B C|B D|C F>>f|3 H|C"},
		{"D", "A|C B|C C|B F>>f|3 H|C"},
		{"E", "A|C B|C C|B D|C E|B F>>f|3 H|C"},
		{"F>>f", "A|C B|C C|B D|C F>>f|2 H|C"},
		{"A D F>>f", "A|B B|C C|B F>>f|2 H|C"},
		{"B E", "A|C B|B C|B D|C E|B F>>f|3 H|C"},
		{"C G H F f A>>f", "A|C B|C C|B D|C F>>f|3 H|C"},
	} {
		chosen := strings.Fields(y.mine)
		mine := func(key string) bool { return slices.Contains(chosen, key) }
		s, e := Choose(base, ours, theirs, mine)
		checkSnap(t, y.mine, s, e, tableOf(y.want))
		checkChoose(t, x, mine)
	}
	s, e := Choose(base, ours, theirs, nil)
	checkSnap(t, "nil", s, e, tableOf("A|B B|B C|B E|B F>>f|2 H|C"))
}

// P10.2: mine may change its mind: each of its answers counts for one key.
func TestChooseByTurns(t *testing.T) {
	x := three{"", "A|A B|A C|A D|A", "A|B B|B C|B D|B"}
	base, ours, theirs := x.made(t)
	for bits := range 16 {
		var asked, want []string
		for i, key := range []string{"A", "B", "C", "D"} {
			super := "|B"
			if bits>>i&1 == 1 {
				super = "|A"
			}
			want = append(want, key+super)
		}
		s, e := Choose(base, ours, theirs, func(key string) bool {
			asked = append(asked, key)
			return bits>>(len(asked)-1)&1 == 1
		})
		checkSnap(t, fmt.Sprint(bits), s, e, tableOf(join(want...)))
		if !slices.Equal(asked, []string{"A", "B", "C", "D"}) {
			t.Errorf("%q", asked)
		}
	}
}

// P10.2: mine may use the snapshots itself.
func TestChooseWithin(t *testing.T) {
	x := three{"A|A B|A C|A", "A|B B|B D|B", "A|C B|C C|B D|C"}
	base, ours, theirs := x.made(t)
	want, conflicts := x.merged()
	calls := 0
	s, e := Choose(base, ours, theirs, func(key string) bool {
		calls++
		checkMerge(t, "within", base, ours, theirs, want, conflicts)
		s, e := Choose(base, ours, theirs, never)
		checkSnap(t, "within", s, e, x.chosen(never))
		base.Drop(key)
		ours.Drop(key)
		return key != "B"
	})
	checkSnap(t, "with B of theirs", s, e, tableOf("A|B B|C D|B"))
	if calls != len(conflicts) {
		t.Errorf("%d calls, not %d", calls, len(conflicts))
	}
}

// sides are snapshots: each is merged with each other two.
func sides() []string {
	return []string{
		"",
		"A|Object,x",
		"B|A",
		"A>>b|1",
		"A|Object,x A>>b|1",
		"A|Object,x B|A",
		"A|Object,x A>>b|1 B|A",
		"A|Object,y A>>b|1 B|A",
		"A|Object A>>b|1 B|A",
		"A|B,x A>>b|1 B|A",
		"A|Object,x A>>b|1 B|Object",
		"A|Object,x A>>b|2 B|A",
		"A|Object,x A>>b|2 B|Object",
		"A|Object,x A>>b| B|A",
		"A|Object,x A>>b:|1 B|A",
		"A|Object,x B|A B>>b|1",
		"A|Object A0|A A0a|A A>>+|1 A>>b|1 A>>ba|1 AA|A Aa|A B|A Z|B",
		"A|Object A0|A,x A0a|A A>>+|2 A>>b|1 A>>ba|2 AA|A Aa|A,y B|A",
		"A0|B A0a|A A>>+|3 A>>b|1 AA|A Aa|A,x B|A Z|B",
		"C|A D|A E|A",
	}
}

// P10.1 to P10.3: each snapshot with each other two, against the chapter's words.
func TestEachWithEach(t *testing.T) {
	for _, base := range sides() {
		for _, ours := range sides() {
			for _, theirs := range sides() {
				checkAll(t, three{base, ours, theirs})
			}
		}
	}
}

// P10.1 to P10.3: the same of big ones.
func TestBigWithBig(t *testing.T) {
	l := []string{many("C", 500), join(strings.ReplaceAll(many("C", 300), ",x", ",y"), many("D", 200)), strings.ReplaceAll(join(many("C", 400), many("D", 100)), "Object", "A")}
	for _, base := range l {
		for _, ours := range l {
			for _, theirs := range l {
				checkAll(t, three{base, ours, theirs})
			}
		}
	}
}

// P10.1 to P10.3: random snapshots of a few keys.
func TestRandom(t *testing.T) {
	random := rand.New(rand.NewSource(1))
	keys := strings.Fields("A A0 A>>+ A>>a A>>a: AA B B>>a C")
	side := func() string {
		var words []string
		for _, key := range keys {
			if n := random.Intn(4); n > 0 {
				words = append(words, key+[]string{"|Object", "|A", "|B"}[n-1])
			}
		}
		random.Shuffle(len(words), func(i, j int) { words[i], words[j] = words[j], words[i] })
		return join(words...)
	}
	for range 3000 {
		checkAll(t, three{side(), side(), side()})
	}
}

// P10.3: where one side is base, or both are alike, the result is the other one.
func TestOneSide(t *testing.T) {
	for _, l := range [][]string{sides(), {"A|Object,x", many("C", 500), many("D", 500)}} {
		for _, base := range l {
			for _, words := range l {
				checkOneSide(t, base, words)
			}
		}
	}
}

// checkOneSide merges with a base in all ways that must give just the words.
func checkOneSide(t *testing.T, base, words string) {
	t.Helper()
	mine := func(key string) bool { t.Errorf("mine was called with %q", key); return true }
	b, x, same := made(t, base), made(t, words), made(t, words)
	for i, y := range [][3]*snap.Snap{{b, x, b}, {b, b, x}, {b, x, x}, {b, x, same}, {x, x, x}, {x, x, same}} {
		what := fmt.Sprintf("%.100q and %.100q, %d", base, words, i)
		checkMerge(t, what, y[0], y[1], y[2], tableOf(words), nil)
		s, e := Choose(y[0], y[1], y[2], mine)
		checkSnap(t, what, s, e, tableOf(words))
		if m, _, _ := Merge(y[0], y[1], y[2]); !m.Same(x) || !s.Same(x) || slices.Contains(y[:], m) || slices.Contains(y[:], s) {
			t.Errorf("%s: it is not another one with the same definitions", what)
		}
	}
}

// spoilAll changes all that a snapshot hands out.
func spoilAll(s *snap.Snap) {
	for d := range s.All() {
		d.Class, d.Source = "Spoilt", "spoilt"
		vars := d.Vars[:cap(d.Vars)]
		for i := range vars {
			vars[i] = "spoilt"
		}
	}
}

// P10.3: what is done to a result reaches no snapshot and no other result.
func TestResults(t *testing.T) {
	x := three{"A|A,x B|A,x C|A,x D|A,x E|A", "A|B,x,y B|B C|B,x D|A,x E|A", "A|C B|C,y,z C|A,x D|A,x F|A,w"}
	base, ours, theirs := x.made(t)
	want, conflicts := x.merged()
	first, firstBut, _ := Merge(base, ours, theirs)
	firstKeys := Conflicts(base, ours, theirs)
	firstChosen, _ := Choose(base, ours, theirs, never)
	for range 3 {
		s, but, _ := Merge(base, ours, theirs)
		chosen, _ := Choose(base, ours, theirs, never)
		for _, u := range []*snap.Snap{s, chosen} {
			spoilAll(u)
			u.Drop("A", "C")
		}
		for _, keys := range [][]string{but, Conflicts(base, ours, theirs)} {
			_ = append(keys, "more")
			for i := range keys[:cap(keys)] {
				keys[:cap(keys)][i] = "spoilt"
			}
		}
		checkSnap(t, "what was spoilt", s, api.OK, want)
		checkSnap(t, "what was spoilt", chosen, api.OK, x.chosen(never))
		checkMerge(t, "again", base, ours, theirs, want, conflicts)
		checkSnap(t, "the first", first, api.OK, want)
		checkSnap(t, "the first that was chosen", firstChosen, api.OK, x.chosen(never))
		if !slices.Equal(firstBut, conflicts) || !slices.Equal(firstKeys, conflicts) {
			t.Errorf("%q and %q, not %q", firstBut, firstKeys, conflicts)
		}
		checkAll(t, x)
	}
	for i, s := range []*snap.Snap{base, ours, theirs} {
		checkSnap(t, fmt.Sprint(i), s, api.OK, tableOf([]string{x.base, x.ours, x.theirs}[i]))
	}
}

// P10.3: what becomes of the snapshots later does not reach what was made of them, also where a call has failed.
func TestSnapshotsStay(t *testing.T) {
	for _, x := range []three{
		{"A|A", "A|A B|A", "C|A"},
		{"A|A", "A|B B|A", "A|C D|A,x"},
		{"A|A", join(many("C", 400), "A|B"), join(many("D", 400), "A|C")},
	} {
		base, ours, theirs := x.made(t)
		want, conflicts := x.merged()
		s, but, e := Merge(base, ours, theirs)
		for range 2 {
			Conflicts(ours, base, theirs)
			Merge(theirs, ours, base)
			Choose(base, theirs, ours, never)
			for i, u := range []*snap.Snap{base, ours, theirs} {
				spoilAll(u)
				u.Drop("A")
				u.Put(defOf("A|New"))
				checkSnap(t, x.String(), u, api.OK, tableOf([]string{x.base, x.ours, x.theirs}[i]))
			}
		}
		if e == api.ErrFull {
			conflicts = nil
		} else {
			e = api.OK
		}
		checkSnap(t, x.String(), s, e, want)
		if !slices.Equal(but, conflicts) {
			t.Errorf("%s: %q, not %q", x, but, conflicts)
		}
	}
}

// P10.3: the texts lie in new memory too: a piece of a long text that is kept would keep the whole of it.
func TestTextsAreNew(t *testing.T) {
	base, ours, theirs := three{"", "A|A B>>b|1 C|A", "A|B B>>b|2 C|B"}.made(t)
	seen := map[*byte]bool{}
	note := func(keys ...string) {
		for _, key := range keys {
			if at := unsafe.StringData(key); seen[at] {
				t.Errorf("%q lies where another one does", key)
			} else {
				seen[at] = true
			}
		}
	}
	var kept []string // so that no place is used again
	for range 3 {
		_, but, _ := Merge(base, ours, theirs)
		kept = append(append(kept, but...), Conflicts(base, ours, theirs)...)
		Choose(base, ours, theirs, func(key string) bool { kept = append(kept, key); return true })
	}
	note(kept...)
	if len(kept) != 27 {
		t.Errorf("%d", len(kept))
	}
}
