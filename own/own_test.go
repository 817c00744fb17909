package own

import (
	"fmt"
	"slices"
	"strings"
	"testing"
	"unsafe"

	"monticule/api"
)

// defs are definitions, valid or not: each field is set in one of them.
func defs() []api.Def {
	return []api.Def{
		{},
		{Kind: api.DefClass, Class: "A", Super: "Object", Vars: []string{"x", "y", ""}},
		{Kind: api.DefMethod, Class: "A", Selector: "b", Source: "b ^1"},
		{Kind: -7, Class: "a long class", Super: "another", Vars: []string{"x"}, Selector: "any:", Source: strings.Repeat("s", 4001)},
	}
}

func show(d api.Def) string {
	return fmt.Sprintf("%d %q %q %q %q %q", d.Kind, d.Class, d.Super, d.Vars, d.Selector, d.Source)
}

// share tells whether two texts lie at the same place.
func share(a, b string) bool {
	return a != "" && b != "" && unsafe.StringData(a) == unsafe.StringData(b)
}

// checkOwn asks that a definition is like another one, but shares nothing with it.
func checkOwn(t *testing.T, got, given api.Def) {
	t.Helper()
	if show(got) != show(given) {
		t.Errorf("%.200s, not %.200s", show(got), show(given))
	}
	if share(got.Class, given.Class) || share(got.Super, given.Super) || share(got.Selector, given.Selector) || share(got.Source, given.Source) {
		t.Errorf("%.200s shares a text", show(got))
	}
	checkOwnTexts(t, got.Vars, given.Vars)
}

// checkOwnTexts asks that texts are like others, but share nothing with them.
func checkOwnTexts(t *testing.T, got, given []string) {
	t.Helper()
	if !slices.Equal(got, given) {
		t.Fatalf("%q, not %q", got, given)
	}
	before := slices.Clone(given)
	for i := range got {
		if share(got[i], given[i]) {
			t.Errorf("%q is the same text", got[i])
		}
		got[i] = "changed"
	}
	_ = append(got, "more", "more")
	if !slices.Equal(given, before) {
		t.Errorf("%q has become %q", before, given)
	}
}

func TestDef(t *testing.T) {
	for _, d := range defs() {
		checkOwn(t, Def(d), d)
	}
}

func TestDefs(t *testing.T) {
	for n := range len(defs()) + 1 {
		given := defs()[:n]
		got := Defs(given)
		if len(got) != n {
			t.Fatalf("%d, not %d", len(got), n)
		}
		for i, d := range got {
			got[i] = api.Def{Class: "changed"}
			checkOwn(t, d, given[i])
		}
	}
	if len(Defs(nil)) != 0 {
		t.Error("of none")
	}
}

func TestTexts(t *testing.T) {
	for _, given := range [][]string{nil, {}, {""}, {"x"}, {"x", "", "long text", "x"}, []string{"x", "y", "spare"}[:2]} {
		checkOwnTexts(t, Texts(given), given)
	}
}
