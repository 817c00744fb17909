// Package own copies values into memory of their own, for the layers that neither keep arguments nor hand out what they keep.
package own

import (
	"strings"

	"monticule/api"
)

// Def is a copy of a definition. The texts are copied too: a piece of a long one would keep the whole of it.
func Def(d api.Def) api.Def {
	return api.Def{
		Kind:     d.Kind,
		Class:    strings.Clone(d.Class),
		Super:    strings.Clone(d.Super),
		Vars:     Texts(d.Vars),
		Selector: strings.Clone(d.Selector),
		Source:   strings.Clone(d.Source),
	}
}

// Defs are copies of definitions.
func Defs(l []api.Def) []api.Def {
	var copies []api.Def
	for _, d := range l {
		copies = append(copies, Def(d))
	}
	return copies
}

// Texts are copies of texts.
func Texts(l []string) []string {
	var copies []string
	for _, s := range l {
		copies = append(copies, strings.Clone(s))
	}
	return copies
}
