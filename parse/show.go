package parse

import (
	"slices"
	"strconv"
	"strings"

	"monticule/api"
	"monticule/name"
	"monticule/scan"
)

// writer writes trees.
type writer struct{ strings.Builder }

// Same tells whether trees are alike.
func Same(a, b api.Method) bool {
	return a.Selector == b.Selector && slices.Equal(a.Params, b.Params) && slices.Equal(a.Temps, b.Temps) && slices.EqualFunc(a.Body, b.Body, sameNode)
}

func sameNode(a, b api.Node) bool {
	return a.Kind == b.Kind && a.Text == b.Text && a.N == b.N && a.Super == b.Super && slices.Equal(a.Params, b.Params) && slices.Equal(a.Temps, b.Temps) && slices.EqualFunc(a.Kids, b.Kids, sameNode)
}

// Show is a source of a tree.
func Show(m api.Method) string {
	var w writer
	for i, part := range name.Parts(m.Selector) {
		w.WriteString(part + " ")
		if i < len(m.Params) {
			w.WriteString(m.Params[i] + " ")
		}
	}
	w.temps(m.Temps)
	w.list(m.Body)
	return strings.TrimSuffix(w.String(), " ")
}

// temps writes the temps, if there are any, with a blank behind them.
func (w *writer) temps(names []string) {
	if len(names) > 0 {
		w.WriteString("| " + strings.Join(names, " ") + " | ")
	}
}

// list writes nodes with periods between them.
func (w *writer) list(nodes []api.Node) {
	for i, node := range nodes {
		if i > 0 {
			w.WriteString(". ")
		}
		w.node(node)
	}
}

// node writes one without parentheses. It takes any number of kids for each kind, since anyone can make a node.
func (w *writer) node(n api.Node) {
	switch n.Kind {
	case api.NodeInt:
		w.WriteString(strconv.Itoa(n.N))
	case api.NodeString:
		w.WriteString(scan.Quote(n.Text))
	case api.NodeSymbol:
		w.WriteString("#" + n.Text)
	case api.NodeVar:
		w.WriteString(n.Text)
	case api.NodeAssign:
		w.WriteString(n.Text + " := ")
		w.list(n.Kids)
	case api.NodeSend:
		w.send(n)
	case api.NodeBlock:
		w.block(n)
	case api.NodeReturn:
		w.WriteString("^")
		w.list(n.Kids)
	case api.NodeArray:
		w.WriteString("{")
		w.list(n.Kids)
		w.WriteString("}")
	}
}

// block writes a block. The bar behind its parameters must be there where temps or statements are.
func (w *writer) block(n api.Node) {
	w.WriteString("[")
	for _, param := range n.Params {
		w.WriteString(":" + param + " ")
	}
	if len(n.Params) > 0 {
		w.WriteString("| ")
	}
	w.temps(n.Temps)
	w.list(n.Kids)
	w.WriteString("]")
}

// send writes the receiver, and the words of the selector, each with its argument, if it has one.
func (w *writer) send(n api.Node) {
	kind := name.Kind(n.Text)
	if n.Super {
		w.WriteString(super)
	} else if len(n.Kids) > 0 {
		w.operand(n.Kids[0], min(kind, api.SelBinary)) // unlike binary sends, keyword sends in a row would become one
	}
	for i, part := range name.Parts(n.Text) {
		w.WriteString(" " + part)
		if i+1 < len(n.Kids) {
			w.WriteString(" ")
			w.operand(n.Kids[i+1], kind-1)
		}
	}
}

// operand writes a receiver or an argument, in parentheses if it is bound more loosely than what may stand there.
func (w *writer) operand(n api.Node, most int) {
	if binding(n) <= most {
		w.node(n)
		return
	}
	w.WriteString("(")
	w.node(n)
	w.WriteString(")")
}

// binding is how loosely a node is bound: a send as the kind of its selector says, an assignment as a keyword send, a primary not at all.
func binding(n api.Node) int {
	switch n.Kind {
	case api.NodeSend:
		return name.Kind(n.Text)
	case api.NodeAssign:
		return api.SelKeyword
	}
	return api.SelNone
}
