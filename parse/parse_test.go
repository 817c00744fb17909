package parse

import (
	"fmt"
	"math/rand"
	"slices"
	"strings"
	"testing"
	"unsafe"

	"monticule/api"
	"monticule/scan"
)

// Trees, written shortly.

func num(n int) api.Node                   { return api.Node{Kind: 1, N: n} }
func str(text string) api.Node             { return api.Node{Kind: 2, Text: text} }
func sym(text string) api.Node             { return api.Node{Kind: 3, Text: text} }
func id(text string) api.Node              { return api.Node{Kind: 4, Text: text} }
func set(text string, n api.Node) api.Node { return api.Node{Kind: 5, Text: text, Kids: nodes(n)} }
func ret(n api.Node) api.Node              { return api.Node{Kind: 8, Kids: nodes(n)} }
func arr(kids ...api.Node) api.Node        { return api.Node{Kind: 9, Kids: kids} }
func nodes(l ...api.Node) []api.Node       { return l }
func names(l ...string) []string           { return l }

func call(selector string, kids ...api.Node) api.Node {
	return api.Node{Kind: 6, Text: selector, Kids: kids}
}

// up is a send to super.
func up(selector string, args ...api.Node) api.Node {
	return api.Node{Kind: 6, Text: selector, Super: true, Kids: append(nodes(id("self")), args...)}
}

func block(params, temps []string, kids ...api.Node) api.Node {
	return api.Node{Kind: 7, Params: params, Temps: temps, Kids: kids}
}

// do is a block with neither parameters nor temps.
func do(kids ...api.Node) api.Node { return block(nil, nil, kids...) }

// told is all that a tree holds, nil and empty lists alike.
func told(m api.Method) string {
	var b strings.Builder
	fmt.Fprintf(&b, "%q %q %q", m.Selector, m.Params, m.Temps)
	tellAll(&b, m.Body)
	return b.String()
}

func tellAll(b *strings.Builder, l []api.Node) {
	b.WriteString("(")
	for _, n := range l {
		fmt.Fprintf(b, " %d %q %d %t %q %q", n.Kind, n.Text, n.N, n.Super, n.Params, n.Temps)
		tellAll(b, n.Kids)
	}
	b.WriteString(")")
}

// A grammar in the chapter's words, which knows nothing of the package. What is still to come is a list of its parts; each token leads from the possible lists to the next ones.

type part struct {
	how  int
	word string // of a terminal, or the name of a rule
	of   []*part
}

const (
	terminal = iota
	inOrder
	oneOf
	maybe
	anyTimes
	rule
	deeper  // what follows is one level deeper, whatever it is
	bracket // word, and then what is one level deeper
	badName // word would be a part of a pattern, if it formed a selector
)

func word(w string) *part       { return &part{how: terminal, word: w} }
func all(l ...*part) *part      { return &part{how: inOrder, of: l} }
func either(l ...*part) *part   { return &part{how: oneOf, of: l} }
func opt(l ...*part) *part      { return &part{how: maybe, of: nodesOf(l)} }
func many(l ...*part) *part     { return &part{how: anyTimes, of: nodesOf(l)} }
func see(r string) *part        { return &part{how: rule, word: r} }
func deep(l ...*part) *part     { return &part{how: deeper, of: nodesOf(l)} }
func bad(w string) *part        { return &part{how: badName, word: w} }
func nodesOf(l []*part) []*part { return []*part{all(l...)} }
func in(open, close string, l ...*part) *part {
	return all(&part{how: bracket, word: open, of: nodesOf(l)}, word(close))
}

// sends are up to n keywords, each with its argument.
func sends(n int) *part {
	if n == 0 {
		return all()
	}
	return opt(word("lower keyword"), see("operand2"), sends(n-1))
}

// patterns are up to n keywords, each with its name.
func patterns(n int) *part {
	if n == 0 {
		return opt(bad("keyword"))
	}
	return either(bad("upper keyword"), all(word("lower keyword"), word("name"), opt(patterns(n-1))))
}

var grammar = map[string]*part{
	"method":     all(see("pattern"), see("temps"), see("statements"), word("end")),
	"text":       all(see("temps"), see("statements"), word("end")),
	"pattern":    either(word("lower name"), bad("upper name"), all(word("binary"), word("name")), patterns(10)),
	"temps":      opt(word("|"), many(word("name")), word("|")),
	"statements": opt(either(all(see("expression"), opt(word("."), see("statements"))), all(word("^"), deep(see("expression")), opt(word("."))))),
	"expression": either(all(word("name"), word(":="), deep(see("expression"))), all(see("operand2"), sends(10))),
	"operand2":   all(see("operand1"), many(word("binary"), see("operand1"))),
	"operand1":   all(see("primary"), many(word("unary"))),
	"primary":    either(word("name"), word("number"), word("string"), word("symbol"), in("(", ")", see("expression")), in("{", "}", see("elements")), see("block")),
	"elements":   opt(see("expression"), opt(word("."), see("elements"))),
	"block":      in("[", "]", either(all(word(":"), word("name"), many(word(":"), word("name")), opt(word("|"), see("temps"), see("statements"))), all(see("temps"), see("statements")))),
}

// item is a token, and whether it is a name that := follows.
type item struct {
	api.Token
	ahead bool
}

// fits tells whether a token is what a terminal asks for.
func (i item) fits(w string) bool {
	lower := i.Text != "" && 'a' <= i.Text[0] && i.Text[0] <= 'z'
	switch w {
	case "end":
		return i.Kind == 0
	case "name":
		return i.Kind == 1
	case "lower name":
		return i.Kind == 1 && lower
	case "upper name":
		return i.Kind == 1 && !lower
	case "unary":
		return i.Kind == 1 && lower && !i.ahead
	case "keyword":
		return i.Kind == 2
	case "lower keyword":
		return i.Kind == 2 && lower
	case "upper keyword":
		return i.Kind == 2 && !lower
	case "binary":
		return i.Kind == 3
	case "number":
		return i.Kind == 4
	case "string":
		return i.Kind == 5
	case "symbol":
		return i.Kind == 6
	}
	return i.Kind == 7 && i.Text == w
}

// rest is what is still to come, and how deep it is.
type rest struct {
	first *part
	depth int
	next  *rest
}

// step is what may come behind a token, and what is wrong with it.
type step struct {
	i              item
	out            []*rest
	isDeep, isName bool
}

func (s *step) take(r *rest) {
	if r == nil {
		return
	}
	p, next := r.first, r.next
	switch p.how {
	case terminal:
		if s.i.fits(p.word) {
			s.out = append(s.out, next)
		}
	case inOrder:
		for _, q := range slices.Backward(p.of) {
			next = &rest{q, r.depth, next}
		}
		s.take(next)
	case oneOf:
		for _, q := range p.of {
			s.take(&rest{q, r.depth, next})
		}
	case maybe:
		s.take(&rest{p.of[0], r.depth, next})
		s.take(next)
	case anyTimes:
		s.take(&rest{p.of[0], r.depth, r})
		s.take(next)
	case rule:
		s.take(&rest{grammar[p.word], r.depth, next})
	case deeper:
		if r.depth == 20 {
			s.isDeep = true
			return
		}
		s.take(&rest{p.of[0], r.depth + 1, next})
	case bracket:
		if r.depth == 20 {
			s.isDeep = s.isDeep || s.i.fits(p.word)
			return
		}
		s.take(&rest{word(p.word), r.depth, &rest{p.of[0], r.depth + 1, next}})
	case badName:
		s.isName = s.isName || s.i.fits(p.word)
	}
}

func stepOf(now []*rest, i item) step {
	s := step{i: i}
	for _, r := range now {
		s.take(r)
	}
	return s
}

func start(what string) []*rest { return []*rest{{first: see(what)}} }

// verdict is the first grammar error of tokens, the end last, and the offset of the token at fault.
func verdict(what string, l []api.Token) (api.Errno, int) {
	now := start(what)
	for k, t := range l {
		ahead := t.Kind == 1 && l[k+1].Kind == 7 && l[k+1].Text == ":="
		s := stepOf(now, item{t, ahead})
		switch {
		case s.isDeep:
			return 42, t.At
		case s.isName:
			return 30, t.At
		case len(s.out) == 0:
			return 41, t.At
		}
		now = s.out
	}
	return 0, 0
}

// The tree of tokens that are right, found by splitting them from the outside.

func isMarked(t api.Token, marks string) bool {
	return t.Kind == 7 && t.Text != ":=" && strings.Contains(marks, t.Text)
}

// split are the pieces between the tokens that part them, which stand in no brackets, and those tokens.
func split(l []api.Token, parts func(t api.Token) bool) (pieces [][]api.Token, between []api.Token) {
	depth, from := 0, 0
	for k, t := range l {
		switch {
		case isMarked(t, "([{"):
			depth++
		case isMarked(t, ")]}"):
			depth--
		case depth == 0 && parts(t):
			pieces = append(pieces, l[from:k])
			between = append(between, t)
			from = k + 1
		}
	}
	return append(pieces, l[from:]), between
}

func treeOf(what string, l []api.Token) api.Method {
	l = l[:len(l)-1] // without the end
	var m api.Method
	if what == "method" && l[0].Kind == 2 {
		for len(l) > 0 && l[0].Kind == 2 {
			m.Selector += l[0].Text
			m.Params = append(m.Params, l[1].Text)
			l = l[2:]
		}
	} else if what == "method" && l[0].Kind == 3 {
		m.Selector, m.Params = l[0].Text, names(l[1].Text)
		l = l[2:]
	} else if what == "method" {
		m.Selector = l[0].Text
		l = l[1:]
	}
	m.Temps, m.Body = bodyOf(l)
	return m
}

func bodyOf(l []api.Token) (temps []string, body []api.Node) {
	if len(l) > 0 && isMarked(l[0], "|") {
		k := 1
		for ; !isMarked(l[k], "|"); k++ {
			temps = append(temps, l[k].Text)
		}
		l = l[k+1:]
	}
	for _, piece := range periods(l) {
		if isMarked(piece[0], "^") {
			body = append(body, ret(expressionOf(piece[1:])))
		} else {
			body = append(body, expressionOf(piece))
		}
	}
	return temps, body
}

func periods(l []api.Token) [][]api.Token {
	pieces, _ := split(l, func(t api.Token) bool { return isMarked(t, ".") })
	if last := len(pieces) - 1; len(pieces[last]) == 0 {
		pieces = pieces[:last]
	}
	return pieces
}

func expressionOf(l []api.Token) api.Node {
	if len(l) > 1 && l[1].Kind == 7 && l[1].Text == ":=" {
		return set(l[0].Text, expressionOf(l[2:]))
	}
	pieces, keywords := split(l, func(t api.Token) bool { return t.Kind == 2 })
	kids := []api.Node{}
	for _, piece := range pieces {
		kids = append(kids, operandOf(piece))
	}
	if len(keywords) == 0 {
		return kids[0]
	}
	selector := ""
	for _, k := range keywords {
		selector += k.Text
	}
	return sendOf(selector, kids...)
}

func operandOf(l []api.Token) api.Node {
	pieces, operators := split(l, func(t api.Token) bool { return t.Kind == 3 })
	n := unaryOf(pieces[0])
	for k, o := range operators {
		n = sendOf(o.Text, n, unaryOf(pieces[k+1]))
	}
	return n
}

func unaryOf(l []api.Token) api.Node {
	if last := l[len(l)-1]; len(l) > 1 && last.Kind == 1 {
		return sendOf(last.Text, unaryOf(l[:len(l)-1]))
	}
	inside := l[1:max(1, len(l)-1)]
	switch t := l[0]; {
	case isMarked(t, "("):
		return expressionOf(inside)
	case isMarked(t, "{"):
		a := arr()
		for _, piece := range periods(inside) {
			a.Kids = append(a.Kids, expressionOf(piece))
		}
		return a
	case isMarked(t, "["):
		b := do()
		for len(inside) > 0 && isMarked(inside[0], ":") {
			b.Params = append(b.Params, inside[1].Text)
			inside = inside[2:]
		}
		if len(b.Params) > 0 && len(inside) > 0 {
			inside = inside[1:]
		}
		b.Temps, b.Kids = bodyOf(inside)
		return b
	default:
		return map[int]api.Node{1: id(t.Text), 4: num(t.N), 5: str(t.Text), 6: sym(t.Text)}[t.Kind]
	}
}

func sendOf(selector string, kids ...api.Node) api.Node {
	if kids[0].Kind == 4 && kids[0].Text == "super" {
		return up(selector, kids[1:]...)
	}
	return call(selector, kids...)
}

// read is what the package makes of a method or of a text.
func read(what, s string) (api.Method, api.Errno, int) {
	if what == "text" {
		return Text(s)
	}
	return Method(s)
}

// checked compares what the package makes of a source with the chapter's words, and writes the tree and reads it again, if there is one.
func checked(t *testing.T, what, s string) api.Errno {
	t.Helper()
	var want api.Method
	l, e, at := scan.All(s)
	if e == 0 {
		e, at = verdict(what, l)
		if e == 0 {
			want = treeOf(what, l)
		}
	}
	m, e2, at2 := read(what, s)
	if e2 != e || at2 != at || told(m) != told(want) {
		t.Fatalf("P13.1: %s %q is %v, error %d at %d; want %v, error %d at %d", what, s, m, e2, at2, want, e, at)
	}
	if e == 0 {
		again(t, what, s, m)
	}
	return e
}

// again writes a tree and reads it again.
func again(t *testing.T, what, s string, m api.Method) {
	t.Helper()
	shown := Show(m)
	n, e, at := read(what, shown)
	if len(shown) > 4000 {
		return
	}
	if e != 0 || told(n) != told(m) || !Same(m, n) {
		t.Fatalf("P13.3: %s %q is shown as %q, which is %v, error %d at %d", what, s, shown, n, e, at)
	}
}

// beginnings are methods' patterns, what each makes of a tree.
var beginnings = map[string]api.Method{
	"foo ":                {Selector: "foo"},
	"+ y\n":               {Selector: "+", Params: names("y")},
	"at: i put: x \t\"\"": {Selector: "at:put:", Params: names("i", "x")},
}

// right wants a text to have temps and statements, also behind each kind of pattern.
func right(t *testing.T, s string, temps []string, body ...api.Node) {
	t.Helper()
	sure(t, "text", s, api.Method{Temps: temps, Body: body})
	for pattern, m := range beginnings {
		m.Temps, m.Body = temps, body
		sure(t, "method", pattern+s, m)
	}
}

// sure wants a source to be a tree's.
func sure(t *testing.T, what, s string, want api.Method) {
	t.Helper()
	m, e, at := read(what, s)
	if e != 0 || at != 0 || told(m) != told(want) {
		t.Errorf("P13.1: %s %q is %v, error %d at %d; want %v", what, s, m, e, at, want)
		return
	}
	checked(t, what, s)
}

// wrong wants an error at an offset of a text, also behind each kind of pattern.
func wrong(t *testing.T, s string, e api.Errno, at int) {
	t.Helper()
	fails(t, "text", s, e, at)
	for pattern := range beginnings {
		fails(t, "method", pattern+s, e, len(pattern)+at)
	}
}

// fails wants an error of a source.
func fails(t *testing.T, what, s string, want api.Errno, wantAt int) {
	t.Helper()
	m, e, at := read(what, s)
	if e != want || at != wantAt || told(m) != told(api.Method{}) {
		t.Errorf("P13.1: %s %q is %v, error %d at %d; want error %d at %d", what, s, m, e, at, want, wantAt)
	}
	checked(t, what, s)
}

// P13.1: the chapter's example.
func TestExample(t *testing.T) {
	sure(t, "method", "at: i ^items at: i + 1", api.Method{Selector: "at:", Params: names("i"), Body: nodes(ret(call("at:", id("items"), call("+", id("i"), num(1)))))})
}

// P13.1: a text may be empty; a method has a pattern.
func TestEmpty(t *testing.T) {
	for _, s := range []string{"", " ", "\n\t\r ", `""`, ` "a" `} {
		right(t, s, nil)
		fails(t, "method", s, 41, len(s))
	}
}

// P13.1: the three patterns. Any name is a parameter's.
func TestPatterns(t *testing.T) {
	for s, want := range map[string]api.Method{
		"x":                         {Selector: "x"},
		"self":                      {Selector: "self"},
		"super":                     {Selector: "super"},
		" a1B2 ":                    {Selector: "a1B2"},
		"+ y":                       {Selector: "+", Params: names("y")},
		"<=y":                       {Selector: "<=", Params: names("y")},
		"%Foo":                      {Selector: "%", Params: names("Foo")},
		"-self":                     {Selector: "-", Params: names("self")},
		"at: x":                     {Selector: "at:", Params: names("x")},
		"at: At":                    {Selector: "at:", Params: names("At")},
		"at: i put: x":              {Selector: "at:put:", Params: names("i", "x")},
		"a: x a: x":                 {Selector: "a:a:", Params: names("x", "x")},
		"nil: nil self: self":       {Selector: "nil:self:", Params: names("nil", "self")},
		"x y":                       {Selector: "x", Body: nodes(id("y"))},
		"x Foo":                     {Selector: "x", Body: nodes(id("Foo"))},
		"x |y|":                     {Selector: "x", Temps: names("y")},
		"+ y z":                     {Selector: "+", Params: names("y"), Body: nodes(id("z"))},
		"a: x b":                    {Selector: "a:", Params: names("x"), Body: nodes(id("b"))},
		"a: x b: y c d: z":          {Selector: "a:b:", Params: names("x", "y"), Body: nodes(call("d:", id("c"), id("z")))},
		"x y := 1":                  {Selector: "x", Body: nodes(set("y", num(1)))},
		strings.Repeat("a: x ", 10): {Selector: strings.Repeat("a:", 10), Params: slices.Repeat(names("x"), 10)},
		strings.Repeat("a", 40):     {Selector: strings.Repeat("a", 40)},
		strings.Repeat(strings.Repeat("a", 40)+": x ", 10): {Selector: strings.Repeat(strings.Repeat("a", 40)+":", 10), Params: slices.Repeat(names("x"), 10)},
	} {
		sure(t, "method", s, want)
	}
}

// P13.1: patterns that are none, each at the token at fault.
func TestNoPattern(t *testing.T) {
	for _, w := range []struct {
		s  string
		e  api.Errno
		at int
	}{
		{"Foo", 30, 0}, {" Foo", 30, 1}, {"Foo bar", 30, 0}, {"Foo := 3", 30, 0}, {"Foo ]", 30, 0},
		{"At: x", 30, 0}, {"At:", 30, 0}, {"At: 3", 30, 0}, {"at: x Put: y", 30, 6}, {"at: x Put:", 30, 6}, {"a: x b: y C: z", 30, 10},
		{strings.Repeat("a: x ", 11), 30, 50}, {strings.Repeat("a: x ", 10) + "A: x", 30, 50}, {strings.Repeat("a: x ", 10) + "a:", 30, 50},
		{strings.Repeat("a: x ", 9) + "A: x", 30, 45},
		{"3", 41, 0}, {"'a'", 41, 0}, {"''", 41, 0}, {"#a", 41, 0}, {"#+", 41, 0}, {":= 3", 41, 0},
		{"(a)", 41, 0}, {") a", 41, 0}, {"[a]", 41, 0}, {"]", 41, 0}, {"{a}", 41, 0}, {"}", 41, 0}, {". a", 41, 0}, {"^a", 41, 0}, {"|a|", 41, 0}, {": a", 41, 0},
		{"+", 41, 1}, {"+ ", 41, 2}, {"+ 3", 41, 2}, {"+ a:", 41, 2}, {"+ A: b", 41, 2}, {"+ 'a'", 41, 2}, {"+ #a", 41, 2}, {"++ + a", 41, 3}, {"+ (", 41, 2}, {"+ :=", 41, 2},
		{"at:", 41, 3}, {"at: 3", 41, 4}, {"at: b: c", 41, 4}, {"at: B: c", 41, 4}, {"at: + c", 41, 4}, {"at: x put:", 41, 10}, {"at: x put: 'y'", 41, 11}, {"at: 3 Put: x", 41, 4}, {"at: |x|", 41, 4},
		{"foo := 3", 41, 4}, {"+ y := 3", 41, 4}, {"at: x := 3", 41, 6}, {"foo bar: 3", 41, 4}, {"foo Bar: x", 41, 4}, {"foo + 3", 41, 4}, {"+ y + z", 41, 4}, {"+ y z: 3", 41, 4}, {"at: x + y", 41, 6}, {"at: x put: y + z", 41, 13},
	} {
		fails(t, "method", w.s, w.e, w.at)
	}
}

// P13.1: a text has no pattern, so no name is wrong in it, and none of its errors is ErrName.
func TestTextNames(t *testing.T) {
	sure(t, "text", "Foo", api.Method{Body: nodes(id("Foo"))})
	sure(t, "text", "foo := 3", api.Method{Body: nodes(set("foo", num(3)))})
	sure(t, "text", "Foo := 3", api.Method{Body: nodes(set("Foo", num(3)))})
	sure(t, "text", "foo bar: 3", api.Method{Body: nodes(call("bar:", id("foo"), num(3)))})
	fails(t, "text", "At: x", 41, 0)
	fails(t, "text", "at: x", 41, 0)
	fails(t, "text", "+ x", 41, 0)
	fails(t, "text", "x: y", 41, 0)
	fails(t, "text", "x: := 3", 41, 0)
}

// P13.1: temps.
func TestTemps(t *testing.T) {
	right(t, "| |", nil)
	right(t, "||", nil)
	right(t, "|| x", nil, id("x"))
	right(t, "|t|", names("t"))
	right(t, "|t|t", names("t"), id("t"))
	right(t, "| t u Foo self t |", names("t", "u", "Foo", "self", "t"))
	right(t, "| t | ^t", names("t"), ret(id("t")))
	right(t, "| t | t := 3. t", names("t"), set("t", num(3)), id("t"))
	wrong(t, "|", 41, 1)
	wrong(t, "| t", 41, 3)
	wrong(t, "| t u ", 41, 6)
	wrong(t, "| t. u |", 41, 3)
	wrong(t, "| t: |", 41, 2)
	wrong(t, "| T: |", 41, 2)
	wrong(t, "| 3 |", 41, 2)
	wrong(t, "| 'a' |", 41, 2)
	wrong(t, "| '' |", 41, 2)
	wrong(t, "| '|' |", 41, 2)
	wrong(t, "| #a |", 41, 2)
	wrong(t, "| t := 3 |", 41, 4)
	wrong(t, "| t | | u |", 41, 6)
	wrong(t, "|| ||", 41, 3)
	wrong(t, "|||", 41, 2)
	wrong(t, "x | t |", 41, 2)
	wrong(t, "x. | t |", 41, 3)
	wrong(t, "^| t | x", 41, 1)
	wrong(t, "| t | .", 41, 6)
	wrong(t, "| [ |", 41, 2)
	wrong(t, "| ^ |", 41, 2)
}

// P13.1: statements and the periods between them.
func TestStatements(t *testing.T) {
	right(t, "x", nil, id("x"))
	right(t, "x.", nil, id("x"))
	right(t, "x. y", nil, id("x"), id("y"))
	right(t, "x.y.z . ", nil, id("x"), id("y"), id("z"))
	right(t, "1.2", nil, num(1), num(2))
	right(t, "^x", nil, ret(id("x")))
	right(t, "^x.", nil, ret(id("x")))
	right(t, "x. ^y.", nil, id("x"), ret(id("y")))
	right(t, "x. ^y := 1 + 2", nil, id("x"), ret(set("y", call("+", num(1), num(2)))))
	for _, w := range []struct {
		s  string
		at int
	}{
		{".", 0}, {" .", 1}, {". x", 0}, {"..", 0}, {"x..", 2}, {"x. . y", 3}, {"x. y..", 5}, {"^x..", 3}, {"^x. .", 4},
		{"^", 1}, {"^ ", 2}, {"^.", 1}, {"^^x", 1}, {"^x ^y", 3}, {"^x. y", 4}, {"^x. ^y", 4}, {"x. ^y. z", 7}, {"x ^y", 2}, {"x. ^", 4},
		{"x y. 3 4", 7}, {"1 2", 2}, {"x 'a'", 2}, {"x #a", 2}, {"'a' 'b'", 4}, {"#a #b", 3}, {"x (y)", 2}, {"x [y]", 2}, {"x {y}", 2}, {"(x) (y)", 4},
		{")", 0}, {"]", 0}, {"}", 0}, {"x)", 1}, {"x]", 1}, {"x}", 1}, {"x. ]", 3}, {"^x]", 2}, {"|", 1}, {":", 0}, {":x", 0}, {"x :y", 2}, {"+ x", 0}, {":= x", 0},
		{"x. y: 3", 3}, {"x. + 3", 3}, {"'.' .'.'.'^' '^'", 13},
	} {
		wrong(t, w.s, 41, w.at)
	}
}

// P13.1: assignments, one within another, and to what is no name.
func TestAssignments(t *testing.T) {
	right(t, "x := 3", nil, set("x", num(3)))
	right(t, "x:=3", nil, set("x", num(3)))
	right(t, "Foo := x", nil, set("Foo", id("x")))
	right(t, "x := y := 3", nil, set("x", set("y", num(3))))
	right(t, "x := y := z := x foo", nil, set("x", set("y", set("z", call("foo", id("x"))))))
	right(t, "x := y at: 1 + 2", nil, set("x", call("at:", id("y"), call("+", num(1), num(2)))))
	right(t, "(x := 3) foo", nil, call("foo", set("x", num(3))))
	right(t, "y at: (x := 3)", nil, call("at:", id("y"), set("x", num(3))))
	right(t, "x := (y := 3) + 4", nil, set("x", call("+", set("y", num(3)), num(4))))
	right(t, "{x := 3. y := 4}", nil, arr(set("x", num(3)), set("y", num(4))))
	right(t, "[x := 3. ^y := 4]", nil, do(set("x", num(3)), ret(set("y", num(4)))))
	right(t, "self := super := nil", nil, set("self", set("super", id("nil"))))
	for _, w := range []struct {
		s  string
		at int
	}{
		{":= 3", 0}, {"3 := 4", 2}, {"'x' := 4", 4}, {"#x := 4", 3}, {"(x) := 3", 4}, {"[x] := 3", 4}, {"{x} := 3", 4}, {"x + y: := 3", 4}, {"+ := 3", 0},
		{"x :=", 4}, {"x := .", 5}, {"x := := 3", 5}, {"x := ^y", 5}, {"x := )", 5}, {"x := y. := 3", 8}, {"x : = 3", 2}, {"x := |y| y", 5},
		{"(x := )", 6}, {"[x := ]", 6}, {"{x := }", 6}, {"{x := . 3}", 6}, {"x := y: 3", 5}, {"x := + 3", 5}, {"x ':=' 3", 2},
	} {
		wrong(t, w.s, 41, w.at)
	}
}

// P13.1: a name followed by := ends an operand, and is wrong there. Where an operand begins it is one.
func TestAssignmentBehind(t *testing.T) {
	for _, w := range []struct {
		s  string
		at int
	}{
		{"x y := 3", 2}, {"x foo y := 3", 6}, {"x Foo := 3", 2}, {"3 y := 3", 2}, {"'a' y := 3", 4}, {"#a y := 3", 3}, {"(x) y := 3", 4}, {"[x] y := 3", 4}, {"{x} y := 3", 4}, {"(x y := 3)", 3}, {"{x y := 3}", 3}, {"[x y := 3]", 3},
		{"x + y z := 3", 6}, {"x + y foo z := 3", 10}, {"x at: y z := 3", 8}, {"x at: y + 1 z := 3", 12}, {"x at: 1 put: y z := 3", 15}, {"x at: (y) z := 3", 10},
		{"^x y := 3", 3}, {"z := x y := 3", 7}, {"x super := 3", 2}, {"super y := 3", 6},
		{"x + y := 3", 6}, {"x at: y := 3", 8}, {"x at: y put: z := 3", 15}, {"x at: y + z := 3", 12}, {"x y. z + z := 3", 11},
	} {
		wrong(t, w.s, 41, w.at)
	}
	right(t, "x. y := 3", nil, id("x"), set("y", num(3)))
	right(t, "x y. z := 3", nil, call("y", id("x")), set("z", num(3)))
	right(t, "x at: (y := 3)", nil, call("at:", id("x"), set("y", num(3))))
}

// P13.1: sends of each kind, within each other.
func TestSends(t *testing.T) {
	a, b, c, d := id("a"), id("b"), id("c"), id("d")
	right(t, "a b", nil, call("b", a))
	right(t, "a b c d", nil, call("d", call("c", call("b", a))))
	right(t, "a + b", nil, call("+", a, b))
	right(t, "a+b-c", nil, call("-", call("+", a, b), c))
	right(t, "a + b * c", nil, call("*", call("+", a, b), c))
	right(t, "a + (b * c)", nil, call("+", a, call("*", b, c)))
	right(t, "(a + b) * c", nil, call("*", call("+", a, b), c))
	right(t, "a b + c d", nil, call("+", call("b", a), call("d", c)))
	right(t, "(a + b) c", nil, call("c", call("+", a, b)))
	right(t, "a x: b", nil, call("x:", a, b))
	right(t, "a x: b y: c", nil, call("x:y:", a, b, c))
	right(t, "(a x: b) y: c", nil, call("y:", call("x:", a, b), c))
	right(t, "a x: (b y: c)", nil, call("x:", a, call("y:", b, c)))
	right(t, "a x: b + c y: d", nil, call("x:y:", a, call("+", b, c), d))
	right(t, "a + b x: c + d", nil, call("x:", call("+", a, b), call("+", c, d)))
	right(t, "a b x: c d", nil, call("x:", call("b", a), call("d", c)))
	right(t, "a + (b x: c)", nil, call("+", a, call("x:", b, c)))
	right(t, "(a x: b) + c", nil, call("+", call("x:", a, b), c))
	right(t, "(a x: b) c", nil, call("c", call("x:", a, b)))
	right(t, "a b: c d: d + c e", nil, call("b:d:", a, c, call("+", d, call("e", c))))
	right(t, "((a)) + ((b))", nil, call("+", a, b))
	right(t, "((a + b)) * ((c x: d))", nil, call("*", call("+", a, b), call("x:", c, d)))
	right(t, "3 self", nil, call("self", num(3)))
	right(t, "3 nil: 4", nil, call("nil:", num(3), num(4)))
	right(t, "a , b", nil, call(",", a, b))
	right(t, "a == b", nil, call("==", a, b))
	right(t, "a x: b x: c", nil, call("x:x:", a, b, c))
}

// P13.1: places where no send goes on.
func TestNoSends(t *testing.T) {
	for _, w := range []struct {
		s  string
		at int
	}{
		{"a +", 3}, {"a + ", 4}, {"a + .", 4}, {"a + + b", 4}, {"a + b:", 4}, {"a + )", 4}, {"a + ^b", 4}, {"a + |", 4}, {"a + := b", 4}, {"a + b +", 7},
		{"a b:", 4}, {"a b: .", 5}, {"a b: c:", 5}, {"a b: + c", 5}, {"a b: ^c", 5}, {"a b: c d:", 9}, {"a b: c d: )", 10}, {"a b: c + ", 9}, {"(a b: )", 6}, {"a b: ]", 5},
		{"a (b)", 2}, {"a b (c)", 4}, {"a + b (c)", 6}, {"a b: c (d)", 7}, {"a 3", 2}, {"a b: c 3", 7}, {"a | b", 2}, {"a : b", 2},
		{"(a", 2}, {"(a +", 4}, {"(a. b)", 2}, {"(a.)", 2}, {"()", 1}, {"( )", 2}, {"(^a)", 1}, {"(|a| a)", 1}, {"(:a)", 1}, {"(a]", 2}, {"(a}", 2}, {"(a))", 3}, {"((a)", 4}, {"(a b: c))", 8}, {"(.", 1}, {"(", 1},
	} {
		wrong(t, w.s, 41, w.at)
	}
}

// P13.1: names and keywords that form no selector, at the first and at a later one.
func TestNoSelectors(t *testing.T) {
	for _, w := range []struct {
		s  string
		at int
	}{
		{"a Foo", 2}, {"a b Foo", 4}, {"a Foo b", 2}, {"a + b Foo", 6}, {"a b: c Foo", 7}, {"Foo Foo", 4}, {"3 Foo. ]", 2}, {"super Foo", 6},
		{"a Foo: 3", 2}, {"a Foo:", 2}, {"a Foo: ]", 2}, {"a b: 1 Foo: 2", 7}, {"a b: 1 c: 2 Foo: 3", 12}, {"a b: 1 + c Foo: 2", 11}, {"a + b Foo: 2", 6}, {"super Foo: 2", 6}, {"(a b: 1) Foo: 2", 9},
		{"a" + strings.Repeat(" b: 1", 11), 52}, {"a" + strings.Repeat(" b: 1", 10) + " B: 1", 52}, {"a" + strings.Repeat(" b: 1", 9) + " B: 1", 47}, {"a" + strings.Repeat(" b: 1", 10) + " b:", 52},
	} {
		wrong(t, w.s, 41, w.at)
	}
	ten := strings.Repeat("b:", 10)
	kids := slices.Repeat(nodes(num(1)), 10)
	right(t, "a"+strings.Repeat(" b: 1", 10), nil, call(ten, append(nodes(id("a")), kids...)...))
	right(t, "(a"+strings.Repeat(" b: 1", 10)+") b: 1", nil, call("b:", call(ten, append(nodes(id("a")), kids...)...), num(1)))
	long := strings.Repeat("k", 40)
	right(t, "a "+long, nil, call(long, id("a")))
	right(t, "a "+long+": b", nil, call(long+":", id("a"), id("b")))
	right(t, "a "+strings.Repeat(long+": 1 ", 10), nil, call(strings.Repeat(long+":", 10), append(nodes(id("a")), kids...)...))
}

// P13.1: each kind of primary.
func TestPrimaries(t *testing.T) {
	right(t, "foo", nil, id("foo"))
	right(t, "Foo", nil, id("Foo"))
	right(t, "self. nil. true. false. super", nil, id("self"), id("nil"), id("true"), id("false"), id("super"))
	right(t, "0", nil, num(0))
	right(t, "007", nil, num(7))
	right(t, "999999999", nil, num(999999999))
	right(t, "3 foo", nil, call("foo", num(3)))
	right(t, "3foo", nil, call("foo", num(3)))
	right(t, "''", nil, str(""))
	right(t, "'it''s'", nil, str("it's"))
	right(t, "'('. '|'. '.'. '^'. ']'. ':='", nil, str("("), str("|"), str("."), str("^"), str("]"), str(":="))
	right(t, "'a' foo", nil, call("foo", str("a")))
	right(t, "#foo", nil, sym("foo"))
	right(t, "#at:put:", nil, sym("at:put:"))
	right(t, "#+ + #-", nil, call("+", sym("+"), sym("-")))
	right(t, "#foo bar: #bar:", nil, call("bar:", sym("foo"), sym("bar:")))
	right(t, "(3)", nil, num(3))
	right(t, "(((x)))", nil, id("x"))
	right(t, "(x := 3)", nil, set("x", num(3)))
}

// P13.1: braces.
func TestArrays(t *testing.T) {
	right(t, "{}", nil, arr())
	right(t, "{ }", nil, arr())
	right(t, "{1}", nil, arr(num(1)))
	right(t, "{1.}", nil, arr(num(1)))
	right(t, "{1. 2}", nil, arr(num(1), num(2)))
	right(t, "{1. #x. 'it''s'. }", nil, arr(num(1), sym("x"), str("it's")))
	right(t, "{{}. {1}. {{}}}", nil, arr(arr(), arr(num(1)), arr(arr())))
	right(t, "{a b: c. d}", nil, arr(call("b:", id("a"), id("c")), id("d")))
	right(t, "{a} foo + {b}", nil, call("+", call("foo", arr(id("a"))), arr(id("b"))))
	right(t, "{super. super foo}", nil, arr(id("super"), up("foo")))
	for _, w := range []struct {
		s  string
		at int
	}{
		{"{", 1}, {"{.}", 1}, {"{1..}", 3}, {"{1. .}", 4}, {"{1 2}", 3}, {"{1. 2", 5}, {"{1.", 3}, {"{1", 2}, {"{^1}", 1}, {"{|a|}", 1}, {"{:a}", 1}, {"{1)", 2}, {"{1]", 2}, {"{1. )", 4}, {"{1}}", 3}, {"{a. b: 3}", 4}, {"{1. ^2}", 4},
	} {
		wrong(t, w.s, 41, w.at)
	}
}

// P13.1: blocks.
func TestBlocks(t *testing.T) {
	a, x := names("a"), id("x")
	right(t, "[]", nil, do())
	right(t, "[ ]", nil, do())
	right(t, "[x]", nil, do(x))
	right(t, "[x.]", nil, do(x))
	right(t, "[x. 1]", nil, do(x, num(1)))
	right(t, "[^x]", nil, do(ret(x)))
	right(t, "[^x.]", nil, do(ret(x)))
	right(t, "[x. ^x]", nil, do(x, ret(x)))
	right(t, "[:a]", nil, block(a, nil))
	right(t, "[:a :b]", nil, block(names("a", "b"), nil))
	right(t, "[: a|]", nil, block(a, nil))
	right(t, "[:a | x]", nil, block(a, nil, x))
	right(t, "[:a :b :a | x]", nil, block(names("a", "b", "a"), nil, x))
	right(t, "[:Foo :self | x]", nil, block(names("Foo", "self"), nil, x))
	right(t, "[:a|^x]", nil, block(a, nil, ret(x)))
	right(t, "[| t |]", nil, block(nil, names("t")))
	right(t, "[||]", nil, do())
	right(t, "[|| x]", nil, do(x))
	right(t, "[| t u | x]", nil, block(nil, names("t", "u"), x))
	right(t, "[:a | | t |]", nil, block(a, names("t")))
	right(t, "[:a || t | x]", nil, block(a, names("t"), x))
	right(t, "[:a || |]", nil, block(a, nil))
	right(t, "[:a ||| x]", nil, block(a, nil, x))
	right(t, "[:h | | i | h]", nil, block(names("h"), names("i"), id("h")))
	right(t, "[[]. [:a]. [[x]]]", nil, do(do(), block(a, nil), do(do(x))))
	right(t, "[:a | [:b | a + b]]", nil, block(a, nil, block(names("b"), nil, call("+", id("a"), id("b")))))
	right(t, "[x] foo: [x] bar: []", nil, call("foo:bar:", do(x), do(x), do()))
	right(t, "[] foo + [x]", nil, call("+", call("foo", do()), do(x)))
	for _, w := range []struct {
		s  string
		at int
	}{
		{"[", 1}, {"[x", 2}, {"[.]", 1}, {"[x..]", 3}, {"[x. .]", 4}, {"[x y: ]", 6}, {"[^]", 2}, {"[^x. x]", 5}, {"[^x. ^x]", 5}, {"[^x ^x]", 4}, {"[^^x]", 2}, {"[x)", 2}, {"[x}", 2}, {"[x]]", 3},
		{"[:a x]", 4}, {"[:a b]", 4}, {"[:a", 3}, {"[:a ", 4}, {"[:]", 2}, {"[: ", 3}, {"[:a :", 5}, {"[:a :]", 5}, {"[::a]", 2}, {"[:3]", 2}, {"[:'a']", 2}, {"[:a: x]", 2}, {"[:a . x]", 4}, {"[:a ^x]", 4}, {"[:a + x]", 4}, {"[:a (x)]", 4}, {"[:a := x]", 4}, {"[:= a]", 1}, {"[:a )", 4},
		{"[:a | ", 6}, {"[:a | .]", 6}, {"[:a || ]", 7}, {"[:a || x]", 8}, {"[:a || x. ]", 8}, {"[:a | | t | | u | x]", 12}, {"[:a |||| x]", 7}, {"[:a | :b]", 6}, {"[:a | x :b]", 8},
		{"[|]", 2}, {"[| t]", 4}, {"[| t", 4}, {"[|||]", 3}, {"[| t | | u |]", 7}, {"[|t| :a]", 5}, {"[|t| :a | x]", 5}, {"[x :a]", 3}, {"[x | t |]", 3}, {"[| t := 3 |]", 5}, {"[| 3 |]", 3}, {"[| '|' ]", 3},
		{"[x. y: 3]", 4}, {"[x '|' ]", 3}, {"[:a '|' x]", 4}, {"[x ']'", 3},
	} {
		wrong(t, w.s, 41, w.at)
	}
}

// P13.1: super, alone and as a receiver.
func TestSuper(t *testing.T) {
	a, super := id("a"), id("super")
	right(t, "super", nil, super)
	right(t, "^super", nil, ret(super))
	right(t, "(super)", nil, super)
	right(t, "((super))", nil, super)
	right(t, "{super. (super)}", nil, arr(super, super))
	right(t, "[super]", nil, do(super))
	right(t, "a := super", nil, set("a", super))
	right(t, "super := a", nil, set("super", a))
	right(t, "(super := a) foo", nil, call("foo", set("super", a)))
	right(t, "super foo", nil, up("foo"))
	right(t, "(super) foo", nil, up("foo"))
	right(t, "((super)) foo", nil, up("foo"))
	right(t, "super foo bar", nil, call("bar", up("foo")))
	right(t, "(super foo) bar", nil, call("bar", up("foo")))
	right(t, "super + a", nil, up("+", a))
	right(t, "(super) + a", nil, up("+", a))
	right(t, "super + super", nil, up("+", super))
	right(t, "super + super foo", nil, up("+", up("foo")))
	right(t, "super + a + a", nil, call("+", up("+", a), a))
	right(t, "a + super", nil, call("+", a, super))
	right(t, "a + (super)", nil, call("+", a, super))
	right(t, "super x: a", nil, up("x:", a))
	right(t, "(super) x: a y: super", nil, up("x:y:", a, super))
	right(t, "super x: super", nil, up("x:", super))
	right(t, "a x: super", nil, call("x:", a, super))
	right(t, "a x: super foo", nil, call("x:", a, up("foo")))
	right(t, "super foo x: (super x: a)", nil, call("x:", up("foo"), up("x:", a)))
	right(t, "^super foo: a", nil, ret(up("foo:", a)))
	right(t, "self foo", nil, call("foo", id("self")))
	right(t, "Super foo. superb foo", nil, call("foo", id("Super")), call("foo", id("superb")))
	right(t, "'super' foo. #super foo", nil, call("foo", str("super")), call("foo", sym("super")))
	right(t, "a super", nil, call("super", a))
	right(t, "super super", nil, up("super"))
	right(t, "[super] foo. {super} foo", nil, call("foo", do(super)), call("foo", arr(super)))
}

// P13.1: nesting to the limit, by each means, and one level more.
func TestNesting(t *testing.T) {
	for _, w := range []struct {
		open, inside, close string
		at                  int // of the token at fault from where the 21st begins
	}{
		{"(", "x", ")", 0}, {"( ", "x", " )", 0}, {"{", "", "}", 0}, {"{", "x", "}", 0}, {"[", "", "]", 0}, {"[", "x", "]", 0}, {"[:a|", "x", "]", 0}, {"{x. ", "x", "}", 0}, {"[x. ", "x", "]", 0}, {"[|t|", "x", "]", 0},
		{"x := ", "x", "", 5}, {"x:=", "x", "", 3}, {"x:=", "3 + 4", "", 3}, {"(x + ", "x", ")", 0}, {"(x at: ", "x", ")", 0}, {"(x at: x put: ", "x", ")", 0}, {"x foo: {", "x", "}", 7},
	} {
		s := func(n int, inside string) string {
			return strings.Repeat(w.open, n) + inside + strings.Repeat(w.close, n)
		}
		if e := checked(t, "text", s(20, w.inside)); e != 0 {
			t.Errorf("P13.1: depth 20 by %q: error %d", w.open, e)
		}
		wrong(t, s(21, w.inside), 42, 20*len(w.open)+w.at)
		wrong(t, s(25, w.inside), 42, 20*len(w.open)+w.at)
		wrong(t, strings.Repeat(w.open, 21), 42, 20*len(w.open)+w.at)
		if w.at < len(w.open) {
			wrong(t, strings.Repeat(w.open, 21)+" ]", 42, 20*len(w.open)+w.at)
		}
	}
	right(t, strings.Repeat("(", 20)+"x"+strings.Repeat(")", 20), nil, id("x"))
	wrong(t, strings.Repeat("(", 20), 41, 20)
	wrong(t, strings.Repeat("[", 20), 41, 20)
	wrong(t, strings.Repeat("{", 20)+"x", 41, 21)
}

// P13.1: nesting by blocks that return, and by mixtures.
func TestMixedNesting(t *testing.T) {
	ten := strings.Repeat("[^", 10)
	close := strings.Repeat("]", 10)
	right(t, "x. "+strings.Repeat("(", 20)+"x"+strings.Repeat(")", 20)+". (x)", nil, id("x"), id("x"), id("x"))
	for s, want := range map[string]struct {
		e  api.Errno
		at int
	}{
		ten + "x" + close: {0, 0},
		ten + "3" + close + " foo: " + ten + "3" + close: {0, 0},
		ten + close:                   {41, 20},
		ten + "(x)" + close:           {42, 20},
		ten + "[]" + close:            {42, 20},
		ten + "{}" + close:            {42, 20},
		ten + "y := x" + close:        {42, 25},
		ten + "^x" + close:            {41, 20},
		ten + "x (" + close:           {41, 22},
		"[" + ten + "x" + close + "]": {42, 21},
		"^" + strings.Repeat("(", 19) + "x" + strings.Repeat(")", 19):         {0, 0},
		"^" + strings.Repeat("(", 20) + "x" + strings.Repeat(")", 20):         {42, 20},
		"x := " + strings.Repeat("{", 19) + strings.Repeat("}", 19):           {0, 0},
		"x := " + strings.Repeat("{", 20) + strings.Repeat("}", 20):           {42, 24},
		"^x := " + strings.Repeat("[", 18) + strings.Repeat("]", 18):          {0, 0},
		"^x := " + strings.Repeat("[", 19) + strings.Repeat("]", 19):          {42, 24},
		strings.Repeat("[x := (", 6) + "{y := x}" + strings.Repeat(")]", 6):   {0, 0},
		strings.Repeat("[x := (", 6) + "{y := {x}}" + strings.Repeat(")]", 6): {42, 48},
		strings.Repeat("[^({", 5) + "x" + strings.Repeat("})]", 5):            {0, 0},
		strings.Repeat("[^({", 5) + "x := x" + strings.Repeat("})]", 5):       {42, 25},
		strings.Repeat("[^({", 5) + "[" + strings.Repeat("})]", 5):            {42, 20},
		strings.Repeat("[^({", 5) + "x [" + strings.Repeat("})]", 5):          {41, 22},
	} {
		if want.e == 0 {
			if e := checked(t, "text", s); e != 0 {
				t.Errorf("P13.1: %q: error %d", s, e)
			}
			continue
		}
		wrong(t, s, want.e, want.at)
	}
}

// P13.1: at depth 20, ErrDeep where a bracket is allowed and behind := and ^, whatever is there; ErrParse where they are not allowed.
func TestDeepOrParse(t *testing.T) {
	inside := map[string]string{
		"(": strings.Repeat("(", 20), "[": strings.Repeat("[", 20), "{": strings.Repeat("{", 20), ":": strings.Repeat("x:=", 20), "^": strings.Repeat("[^", 9) + "([",
	}
	for kind, s := range inside {
		block := kind == "[" || kind == "^"
		for _, open := range []string{"(", "[", "{"} {
			wrong(t, s+open, 42, len(s))
			wrong(t, s+open+")", 42, len(s))
			wrong(t, s+"x + "+open, 42, len(s)+4)
			wrong(t, s+"x at: "+open, 42, len(s)+6)
			wrong(t, s+"x"+open, 41, len(s)+1)
			wrong(t, s+"x + x "+open, 41, len(s)+6)
			wrong(t, s+"3 at: 4 "+open, 41, len(s)+8)
		}
		for _, behind := range []string{"", "x", "3", "'a'", "#a", "(", ")", "[", "]", "{", "}", ".", "^", "|", ":", ":=", "+", "x:", "X:", "x := 3"} {
			wrong(t, s+"x := "+behind, 42, len(s)+5)
			wrong(t, s+"3 := "+behind, 41, len(s)+2)
			if block {
				wrong(t, s+"^ "+behind, 42, len(s)+2)
				wrong(t, s+"x. ^ "+behind, 42, len(s)+5)
			} else {
				wrong(t, s+"^ "+behind, 41, len(s))
			}
		}
		for _, no := range []string{")", "]", "}", ".", "|", ":", ":=", "+", "x:", "X:", ""} {
			if block && (no == "]" || no == "|" || no == ":") {
				continue
			}
			if no == "}" && kind == "{" {
				continue
			}
			wrong(t, s+no, 41, len(s))
		}
	}
}

// P13.1: layer 12's errors come ahead of all errors of the grammar.
func TestScanErrors(t *testing.T) {
	for _, faulty := range []string{"$", "'x", "\"x", "#", "#Foo", "1234567890", strings.Repeat("n", 41), strings.Repeat("n", 41) + ":", ";", "_", "é", "\x00", "!"} {
		for _, s := range []string{"", "foo ", "foo x ", "foo ] ", "] ", "Foo ", "foo a Foo ", "foo ^1. 2 ", "foo (x . ", "foo " + strings.Repeat("(", 21) + " ", "At: x ", "foo x := ", "foo | t ", "foo [:a "} {
			for _, what := range []string{"text", "method"} {
				fails(t, what, s+faulty, 40, len(s))
				if !strings.ContainsAny(faulty, "'\"") {
					fails(t, what, s+faulty+" ] $ #", 40, len(s))
				}
			}
		}
	}
}

// P13.1: of two errors of the grammar the first one from the left.
func TestFirstError(t *testing.T) {
	deep := strings.Repeat("(", 21)
	wrong(t, "x Foo ] "+deep, 41, 2)
	wrong(t, deep+" Foo ]", 42, 20)
	wrong(t, "x ] "+deep, 41, 2)
	wrong(t, "x. y: 3. ^1. 2", 41, 3)
	wrong(t, "a Foo: b Bar: c", 41, 2)
	fails(t, "method", "Foo ] "+deep, 30, 0)
	fails(t, "method", "at: 3 Put: x "+deep, 41, 4)
	fails(t, "method", "at: x Put: 3", 30, 6)
	fails(t, "method", "] Foo", 41, 0)
	fails(t, "method", "bad ^( ", 41, 7)
	fails(t, "method", "bad ^(", 41, 6)
}

// P13.1: texts of 4000 bytes, and of one more.
func TestSizes(t *testing.T) {
	for _, head := range []string{"foo ", "foo x + ", "foo x. "} {
		s := head + strings.Repeat(" ", 4000-len(head)-3) + "abc"
		for _, what := range []string{"text", "method"} {
			if e := checked(t, what, s); e != 0 {
				t.Errorf("P13.1: %s of 4000 bytes: error %d", what, e)
			}
			fails(t, what, s+" ", 21, 0)
			fails(t, what, "]"+s, 21, 0)
			fails(t, what, s+"$", 21, 0)
			fails(t, what, s+s, 21, 0)
		}
	}
	wrong4000 := "foo " + strings.Repeat(" ", 3995) + "]"
	fails(t, "method", wrong4000, 41, 3999)
	fails(t, "method", wrong4000+" ", 21, 0)
	fails(t, "method", "foo ("+strings.Repeat(" ", 3995), 41, 4000)
	fails(t, "method", strings.Repeat("$", 4001), 21, 0)
	fails(t, "method", strings.Repeat("$", 4000), 40, 0)
}

func must(l []api.Token, _ api.Errno, _ int) []api.Token { return l }

// P13.1: long chains of each kind, as long as a text can be.
func TestLong(t *testing.T) {
	for _, w := range []struct{ head, link string }{{"foo x", " y"}, {"foo 1", "+1"}, {"foo 1", ".1"}, {"foo x", ".x"}, {"foo {1", ".1"}, {"foo |x", " x"}, {"foo [:a", ":a "}, {"foo x", ".''"}, {"foo x", ".[]"}, {"foo x", ". x y: 1 + z z: 2"}} {
		s := w.head
		for len(s)+len(w.link) <= 4000 {
			s += w.link
		}
		checked(t, "method", s)
		checked(t, "text", s)
	}
}

// vocabulary are tokens' sources.
func vocabulary(s string) []string { return strings.Split(s, " ") }

// P13.1, P13.3: all short texts and methods of some tokens.
func TestShort(t *testing.T) {
	for _, w := range []struct {
		what, head, words string
		most              int
	}{
		{"text", "", "a B super k: K: + 3 's' #s := ( ) [ ] { } . ^ | :", 4},
		{"method", "", "a B k: K: + 3 's' #s := ( ) [ ] { } . ^ | :", 4},
		{"text", "", "a k: + := ( ) .", 6},
		{"text", "", "a := [ ] . ^ | :", 6},
		{"text", "", "a := ( ) { } .", 7},
		{"text", "a", "b B k: K: + := .", 6},
		{"text", "[", "a b := ] ^ | : .", 6},
		{"method", "k: a", "a + k: K: | := .", 6},
	} {
		words := vocabulary(w.words)
		count := 0
		var walk func(s string, left int)
		walk = func(s string, left int) {
			count++
			e := checked(t, w.what, s)
			l := must(scan.All(s))
			if _, at := verdict(w.what, l); left == 0 || e != 0 && at < len(s) {
				return
			}
			for _, word := range words {
				walk(strings.TrimPrefix(s+" "+word, " "), left-1)
			}
		}
		walk(w.head, w.most)
		t.Log(w.what, w.head, w.words, count)
	}
}

// P13.1: a source in random tokens, with gaps between them.
type source struct {
	r     *rand.Rand
	words []string
}

// gaps stand between tokens, where blanks may.
var gaps = []string{" ", " ", " ", "  ", "\n", "\t\r", ` "" `, `"a. b"`, "\n\"]\"\n"}

func (s *source) text() string {
	var b strings.Builder
	for k, w := range s.words {
		if k > 0 || s.r.Intn(4) == 0 {
			b.WriteString(gaps[s.r.Intn(len(gaps))])
		}
		b.WriteString(w)
	}
	if s.r.Intn(4) == 0 {
		b.WriteString(gaps[s.r.Intn(len(gaps))])
	}
	return b.String()
}

// common are tokens' sources, those that open and close anything more than once.
var common = vocabulary("a b foo Foo super self nil k: at: put: K: + - <= , 3 0 42 'it''s' '' '(' #s #at:put: #+ := := := ( ( ( ) ) ) ) [ [ [ ] ] ] ] { { { } } } } . . . . ^ ^ | | | : : : :")

// grow adds random words that may stand there, until the source may end.
func (s *source) grow(what string, most int) {
	now := start(what)
	for len(s.words) < 2*most {
		if ends := stepOf(now, item{}); len(ends.out) > 0 && (len(s.words) > most || s.r.Intn(most) == 0) {
			return
		}
		word := common[s.r.Intn(len(common))]
		if len(s.words) > most && s.r.Intn(3) > 0 {
			word = vocabulary(") ] } | a")[s.r.Intn(5)]
		}
		i := item{Token: must(scan.All(word))[0]}
		if next := stepOf(now, i); len(next.out) > 0 {
			s.words = append(s.words, word)
			now = next.out
		}
	}
}

// spoil changes a word.
func (s *source) spoil() {
	k := s.r.Intn(len(s.words) + 1)
	word := common[s.r.Intn(len(common))]
	switch s.r.Intn(5) {
	case 0:
		s.words = slices.Insert(s.words, k, word)
	case 1:
		s.words = slices.Delete(s.words, min(k, len(s.words)-1), min(k+1, len(s.words)))
	case 2:
		s.words[k%len(s.words)] = word
	case 3:
		j := s.r.Intn(len(s.words))
		s.words[k%len(s.words)], s.words[j] = s.words[j], s.words[k%len(s.words)]
	case 4:
		s.words = s.words[:k]
	}
}

// P13.1, P13.3: random texts and methods, and random changes to them.
func TestRandom(t *testing.T) {
	r := rand.New(rand.NewSource(13))
	count := map[api.Errno]int{}
	for range 12000 {
		what := []string{"text", "method"}[r.Intn(2)]
		s := source{r: r}
		s.grow(what, 1+r.Intn(40))
		count[checked(t, what, s.text())]++
		for range r.Intn(4) {
			if len(s.words) > 0 {
				s.spoil()
			}
		}
		count[checked(t, what, s.text())]++
	}
	for _, e := range []api.Errno{0, 30, 41} {
		if count[e] < 50 {
			t.Errorf("P13.1: of the random sources %d have error %d", count[e], e)
		}
	}
}

// P13.1, P13.3: random sources that are nested about as deep as they may be.
func TestRandomDepth(t *testing.T) {
	r := rand.New(rand.NewSource(131))
	count := map[api.Errno]int{}
	for range 4000 {
		var words, closers []string
		for depth := 15 + r.Intn(7); depth > 0; depth-- {
			switch k := r.Intn(6); {
			case k == 0:
				words = append(words, "a", ":=")
				closers = append(closers, "")
			case k == 1 && len(words) > 0 && words[len(words)-1] == "[":
				words = append(words, "^")
				closers = append(closers, "")
			case k == 2:
				words = append(words, "b", "at:")
				depth++
				closers = append(closers, "")
			default:
				words = append(words, []string{"(", "[", "{"}[k%3])
				closers = append(closers, []string{")", "]", "}"}[k%3])
			}
			if last := words[len(words)-1]; last == "at:" {
				words, closers = append(words, "("), append(closers, ")")
				depth--
			}
		}
		words = append(words, vocabulary("a 3 [] {} ( a . ^ :=")[r.Intn(9)])
		for _, c := range slices.Backward(closers) {
			if c != "" {
				words = append(words, c)
			}
		}
		s := source{r: r, words: words}
		count[checked(t, "text", s.text())]++
		s.spoil()
		count[checked(t, "text", s.text())]++
	}
	for _, e := range []api.Errno{0, 41, 42} {
		if count[e] < 50 {
			t.Errorf("P13.1: of the deep sources %d have error %d", count[e], e)
		}
	}
}

// P13.1: tokens need no blanks between them where they are the same without.
func TestNoBlanks(t *testing.T) {
	r := rand.New(rand.NewSource(132))
	for range 3000 {
		s := source{r: r}
		s.grow("text", 1+r.Intn(20))
		tight := ""
		for _, w := range s.words {
			joined, e, _ := scan.All(tight + w)
			apart, _, _ := scan.All(tight + " " + w)
			if e != 0 || len(joined) != len(apart) {
				tight += " "
			}
			tight += w
		}
		checked(t, "text", tight)
	}
}

// P13.2: the source of each kind of tree, with parentheses where they are needed.
func TestShow(t *testing.T) {
	for s, want := range map[string]string{
		"":                            "",
		"x":                           "x",
		" x . y. ":                    "x. y",
		"^x.":                         "^x",
		"^ 3":                         "^3",
		"|t|":                         "| t |",
		"||":                          "",
		"|| x":                        "x",
		"| t  u|t:=u":                 "| t u | t := u",
		"007":                         "7",
		"'it''s'. ''":                 "'it''s'. ''",
		"#+ +#at:put:":                "#+ + #at:put:",
		"#at:=3":                      "#at: = 3",
		"#at: at: 3":                  "#at: at: 3",
		"#a b":                        "#a b",
		"((x))":                       "x",
		"x:=(y:=3)":                   "x := y := 3",
		"x := (y foo: 3)":             "x := y foo: 3",
		"(x := y) foo":                "(x := y) foo",
		"(x := y) + (x := y)":         "(x := y) + (x := y)",
		"(x := y) at: (x := y)":       "(x := y) at: (x := y)",
		"(a b) c":                     "a b c",
		"(a + b) c":                   "(a + b) c",
		"(a k: b) c":                  "(a k: b) c",
		"(a b) + (c d)":               "a b + c d",
		"(a + b) * c":                 "a + b * c",
		"a + (b * c)":                 "a + (b * c)",
		"(a k: b) + (a k: b)":         "(a k: b) + (a k: b)",
		"(a b) k: (a b)":              "a b k: a b",
		"(a + b) k: (a + b)":          "a + b k: a + b",
		"(a k: b) k: (a k: b)":        "(a k: b) k: (a k: b)",
		"a k: b m: (c k: d) n: e":     "a k: b m: (c k: d) n: e",
		"super":                       "super",
		"(super) foo":                 "super foo",
		"((super)) + super":           "super + super",
		"(super foo) k: (super k: a)": "super foo k: (super k: a)",
		"(super k: a) + b":            "(super k: a) + b",
		"self foo":                    "self foo",
		"{}":                          "{}",
		"{ 1 . }":                     "{1}",
		"{(1). (x:=2). {}}":           "{1. x := 2. {}}",
		"{a. b} c":                    "{a. b} c",
		"[]":                          "[]",
		"[||]":                        "[]",
		"[x. ]":                       "[x]",
		"[^x]":                        "[^x]",
		"[:a]":                        "[:a | ]",
		"[:a|]":                       "[:a | ]",
		"[:a :b|a. ^b]":               "[:a :b | a. ^b]",
		"[|t|]":                       "[| t | ]",
		"[:a||t u|x]":                 "[:a | | t u | x]",
		"[x] foo + []":                "[x] foo + []",
		"[x := 3] k: (x := 3)":        "[x := 3] k: (x := 3)",
		"^(x k: 3)":                   "^x k: 3",
		"^(x := 3)":                   "^x := 3",
	} {
		showsAs(t, "text", s, want)
		for pattern := range beginnings {
			if want != "" {
				showsAs(t, "method", pattern+s, strings.Trim(pattern, ` "'`+"\n\t")+" "+want)
			}
		}
	}
	for s, want := range map[string]string{"foo": "foo", " + y": "+ y", "at: x  put:y": "at: x put: y", "foo||": "foo", "foo |t|": "foo | t |", "a: a b: b |t| ^3": "a: a b: b | t | ^3"} {
		showsAs(t, "method", s, want)
	}
}

// showsAs wants the tree of one source to be shown as another one.
func showsAs(t *testing.T, what, s, want string) {
	t.Helper()
	m, e, _ := read(what, s)
	if e != 0 {
		t.Errorf("P13.1: %s %q: error %d", what, s, e)
		return
	}
	if shown := Show(m); shown != want {
		t.Errorf("P13.2: %s %q is shown as %q; want %q", what, s, shown, want)
	}
	again(t, what, s, m)
}

// P13.3: no parentheses of its own make a source too deep.
func TestShowDeep(t *testing.T) {
	for _, w := range []struct{ open, inside, close string }{
		{"(x k: ", "x", ")"}, {"(x + ", "x", ")"}, {"(", "x k: 3", ") y"}, {"(", "x + 3", ") y"}, {"(", "x k: 3", ") + y"}, {"(", "x k: 3", ") k: y"}, {"x := ", "x", ""}, {"[^x k: [", "x", "]]"}, {"[x:=(", "x", ") y]"}, {"{", "x", "}"}, {"(x:=", "x", ") y"},
	} {
		best := 0
		for n := 1; n <= 21; n++ {
			s := strings.Repeat(w.open, n) + w.inside + strings.Repeat(w.close, n)
			if checked(t, "text", s) == 0 {
				best = n
			}
		}
		if best < 6 {
			t.Errorf("P13.1: %q nests no deeper than %d times", w.open, best)
		}
	}
}

// P13.2: Show of trees that no source has.
func TestShowOthers(t *testing.T) {
	x := id("x")
	for kind := -2; kind <= 12; kind++ {
		for _, text := range []string{"", "x", "+", "k:", "k:m:", "K:", "$", "'", "\x00", "super", "a b", strings.Repeat("k:", 12)} {
			for _, kids := range [][]api.Node{nil, {x}, {x, x}, {x, x, x, x}, {{}}, {ret(x), ret(x)}, {set("x", x), id("super")}, {{Kind: kind, Text: text}, {Kind: kind}}} {
				for _, isSuper := range []bool{false, true} {
					n := api.Node{Kind: kind, Text: text, N: -5, Super: isSuper, Params: names("", "p q"), Temps: names("|"), Kids: kids}
					Show(api.Method{Body: nodes(n, n)})
					Show(api.Method{Selector: text, Params: names("a", "", "b"), Temps: names(""), Body: nodes(ret(n))})
					Show(api.Method{Selector: text, Body: nodes(call("foo", n), call("+", n, n), call("k:", n), arr(n), do(n), set("y", n))})
				}
			}
		}
	}
	r := rand.New(rand.NewSource(14))
	for range 3000 {
		m := api.Method{Selector: anyText(r), Params: anyTexts(r), Temps: anyTexts(r)}
		for range r.Intn(3) {
			m.Body = append(m.Body, anyNode(r, 4))
		}
		before := told(m)
		Show(m)
		if Same(m, m) != true || told(m) != before {
			t.Fatalf("P13.2: %v", m)
		}
	}
}

func anyText(r *rand.Rand) string {
	return []string{"", "x", "Foo", "+", "<=", "k:", "k:m:", "k:m:n:", "self", "super", "#", "'", "$\xff"}[r.Intn(13)]
}

func anyTexts(r *rand.Rand) []string {
	var l []string
	for range r.Intn(4) {
		l = append(l, anyText(r))
	}
	return l
}

func anyNode(r *rand.Rand, most int) api.Node {
	n := api.Node{Kind: r.Intn(12) - 1, Text: anyText(r), N: r.Intn(5) - 2, Super: r.Intn(4) == 0, Params: anyTexts(r), Temps: anyTexts(r)}
	for range r.Intn(most + 1) {
		n.Kids = append(n.Kids, anyNode(r, most-1))
	}
	return n
}

// P13.2: Show terminates where a node has 5000 others around it.
func TestShowFar(t *testing.T) {
	long := strings.Repeat("x", 1000)
	for kind := -1; kind <= 11; kind++ {
		for _, text := range []string{"x", "+", "k:", "k:m:", "$"} {
			n := id(long)
			for range 5000 {
				n = api.Node{Kind: kind, Text: text, Kids: nodes(n)}
				if kind == 6 && text != "x" {
					n.Kids = append(n.Kids, id("y"))
				}
			}
			m := api.Method{Body: nodes(n)}
			if shown := Show(m); 4 < kind && kind < 10 && !strings.Contains(shown, long) {
				t.Errorf("P13.2: the innermost node of %d %q is not shown", kind, text)
			}
			last := n
			for range 5000 {
				last = api.Node{Kind: kind, Text: text, Kids: nodes(id("x"), last)}
			}
			Show(api.Method{Selector: "foo", Body: nodes(last)})
		}
	}
}

// copied is a tree in other memory.
func copied(m api.Method) api.Method {
	return api.Method{Selector: strings.Clone(m.Selector), Params: slices.Clone(m.Params), Temps: slices.Clone(m.Temps), Body: copiedNodes(m.Body)}
}

func copiedNodes(l []api.Node) []api.Node {
	l = slices.Clone(l)
	for i := range l {
		l[i].Params, l[i].Temps, l[i].Kids = slices.Clone(l[i].Params), slices.Clone(l[i].Temps), copiedNodes(l[i].Kids)
	}
	return l
}

// eachNode calls a function for each node of a list and of what is in it.
func eachNode(l []api.Node, do func(n *api.Node)) {
	for i := range l {
		do(&l[i])
		eachNode(l[i].Kids, do)
	}
}

const rich = "at: i put: x | t u | t := i at: #foo:bar: put: 'it''s'. [:a :b | | c d | a + b * 3. ^super foo]. {t. u. 17. super}. (x foo: t) bar. ^super at: i put: [x. u]"

// P13.2: Same of equal trees, and of trees that differ in one field.
func TestSame(t *testing.T) {
	m, e, _ := Method(rich)
	if e != 0 || !Same(m, copied(m)) || !Same(copied(m), m) || !Same(m, m) || !Same(api.Method{}, api.Method{}) {
		t.Errorf("P13.2: %d, %v", e, m)
	}
	differ := func(what string, change func(c *api.Method)) {
		c := copied(m)
		change(&c)
		if Same(m, c) || Same(c, m) || !Same(c, c) {
			t.Errorf("P13.2: %s: %v and %v", what, m, c)
		}
	}
	differ("selector", func(c *api.Method) { c.Selector = "at:pup:" })
	differ("no selector", func(c *api.Method) { c.Selector = "" })
	for name, l := range map[string]func(c *api.Method) *[]string{"params": func(c *api.Method) *[]string { return &c.Params }, "temps": func(c *api.Method) *[]string { return &c.Temps }} {
		eachChange(func(change func(l []string) []string) {
			differ(name, func(c *api.Method) { p := l(c); *p = change(*p) })
		})
	}
	differ("body shorter", func(c *api.Method) { c.Body = c.Body[1:] })
	differ("body's end", func(c *api.Method) { c.Body = c.Body[:len(c.Body)-1] })
	differ("no body", func(c *api.Method) { c.Body = nil })
	differ("body longer", func(c *api.Method) { c.Body = append(c.Body, id("x")) })
	differ("body turned", func(c *api.Method) { slices.Reverse(c.Body) })
	differ("body swapped", func(c *api.Method) { c.Body[0], c.Body[1] = c.Body[1], c.Body[0] })
	count := 0
	eachNode(m.Body, func(*api.Node) { count++ })
	for k := range count {
		for what, change := range nodeChanges() {
			differ(what, func(c *api.Method) {
				at := 0
				eachNode(c.Body, func(n *api.Node) {
					if at == k {
						change(n)
					}
					at++
				})
			})
		}
	}
}

// eachChange are changes to a list of two different texts.
func eachChange(do func(change func(l []string) []string)) {
	do(func(l []string) []string { return nil })
	do(func(l []string) []string { return l[:1] })
	do(func(l []string) []string { return l[1:] })
	do(func(l []string) []string { return append(l, l[0]) })
	do(func(l []string) []string { return append(l, "") })
	do(func(l []string) []string { slices.Reverse(l); return l })
	do(func(l []string) []string { l[0] += "x"; return l })
	do(func(l []string) []string { l[1] = ""; return l })
	do(func(l []string) []string { l[1] = l[0]; return l })
}

// nodeChanges each change any node in one field.
func nodeChanges() map[string]func(n *api.Node) {
	return map[string]func(n *api.Node){
		"kind":      func(n *api.Node) { n.Kind++ },
		"text":      func(n *api.Node) { n.Text += "x" },
		"number":    func(n *api.Node) { n.N++ },
		"super":     func(n *api.Node) { n.Super = !n.Super },
		"params":    func(n *api.Node) { n.Params = append(n.Params, "p") },
		"param":     func(n *api.Node) { n.Params = append(n.Params[:0], "p") },
		"temps":     func(n *api.Node) { n.Temps = append(n.Temps, "p") },
		"temp":      func(n *api.Node) { n.Temps = append(n.Temps[:0], "p") },
		"more kids": func(n *api.Node) { n.Kids = append(n.Kids, id("x")) },
		"kid ahead": func(n *api.Node) { n.Kids = append(nodes(id("p")), n.Kids...) },
		"fewer kids": func(n *api.Node) {
			if len(n.Kids) == 0 {
				n.Kids = nodes(id("x"))
			} else {
				n.Kids = n.Kids[1:]
			}
		},
		"turned": func(n *api.Node) {
			before := told(api.Method{Body: n.Kids})
			slices.Reverse(n.Kids)
			if told(api.Method{Body: n.Kids}) == before {
				n.N--
			}
		},
	}
}

// P13.2: nil and empty lists are equal.
func TestSameEmpty(t *testing.T) {
	none, empty := api.Method{Body: nodes(do())}, api.Method{Params: names(), Temps: names(), Body: nodes(api.Node{Kind: 7, Params: names(), Temps: names(), Kids: nodes()})}
	if !Same(none, empty) || !Same(empty, none) || !Same(api.Method{}, api.Method{Body: nodes()}) {
		t.Errorf("P13.2: %v and %v", none, empty)
	}
}

// P13.2: Same of each two of many trees.
func TestSamePairs(t *testing.T) {
	var l []api.Method
	for _, s := range vocabulary("a b foo 3 4 'a' '' #a {} {a} {a.b} [] [a] [:a] [:b] [|a|] [:a||a|] [^a] ^a ^b a:=a a:=b b:=a a+a a+b a-a |a| |a|a |a||b super a.a a.b b.a (a)") {
		if m, e, _ := Text(s); e == 0 {
			l = append(l, m)
		}
		if m, e, _ := Method(s); e == 0 {
			l = append(l, m)
		}
		if m, e, _ := Method("x " + s); e == 0 {
			l = append(l, m)
		}
	}
	for _, a := range l {
		for _, b := range l {
			if Same(a, b) != (told(a) == told(b)) {
				t.Errorf("P13.2: %v and %v: %t", a, b, Same(a, b))
			}
		}
	}
}

// P13.3: a result keeps nothing of its source's memory.
func TestSourceChanged(t *testing.T) {
	for _, what := range []string{"method", "text"} {
		s := []byte(rich)
		if what == "text" {
			s = s[len("at: i put: x "):]
		}
		m, e, _ := read(what, unsafe.String(&s[0], len(s)))
		before := told(m)
		if e != 0 {
			t.Errorf("P13.1: %s: error %d", what, e)
		}
		for i := range s {
			s[i] = '?'
		}
		if told(m) != before {
			t.Errorf("P13.3: %s: %s", what, told(m))
		}
	}
}

// P13.3: a source that is shown keeps nothing of the tree's memory.
func TestTreeChanged(t *testing.T) {
	b := []byte("abc")
	n := id(unsafe.String(&b[0], len(b)))
	l := nodes(n)
	shown := Show(api.Method{Body: l})
	b[0] = '?'
	l[0].Text = "x"
	if shown != "abc" {
		t.Errorf("P13.3: %q", shown)
	}
}

// P13.3: Show and Same change nothing, not even behind the ends of lists.
func TestArgumentsKept(t *testing.T) {
	m, _, _ := Method(rich)
	full := roomy(m)
	before := told(wide(full))
	shown := Show(full)
	if Show(full) != shown || shown != Show(m) || !Same(full, m) || !Same(m, full) {
		t.Errorf("P13.2: %q", shown)
	}
	if told(wide(full)) != before {
		t.Errorf("P13.3: %s", told(wide(full)))
	}
}

// roomy is a tree whose lists have something behind their ends.
func roomy(m api.Method) api.Method {
	return api.Method{Selector: m.Selector, Params: append(slices.Clone(m.Params), "p")[:len(m.Params)], Temps: append(slices.Clone(m.Temps), "t")[:len(m.Temps)], Body: roomyNodes(m.Body)}
}

func roomyNodes(l []api.Node) []api.Node {
	out := append(copiedNodes(l), id("behind"))[:len(l)]
	for i, n := range out {
		out[i].Params = append(slices.Clone(n.Params), "p")[:len(n.Params)]
		out[i].Temps = append(slices.Clone(n.Temps), "t")[:len(n.Temps)]
		out[i].Kids = roomyNodes(n.Kids)
	}
	return out
}

// wide is a tree with what is behind the ends of its lists.
func wide(m api.Method) api.Method {
	return api.Method{Selector: m.Selector, Params: m.Params[:cap(m.Params)], Temps: m.Temps[:cap(m.Temps)], Body: wideNodes(m.Body)}
}

func wideNodes(l []api.Node) []api.Node {
	out := slices.Clone(l[:cap(l)])
	for i, n := range out {
		out[i].Params, out[i].Temps, out[i].Kids = n.Params[:cap(n.Params)], n.Temps[:cap(n.Temps)], wideNodes(n.Kids)
	}
	return out
}

// P13.3: a change to a result is not seen elsewhere: not in later results, nor in another list of it.
func TestChangedResults(t *testing.T) {
	for _, what := range []string{"method", "text"} {
		s := rich
		if what == "text" {
			s = s[len("at: i put: x "):]
		}
		m, _, _ := read(what, s)
		want := told(m)
		for k := 0; ; k++ {
			c, _, _ := read(what, s)
			lists := 0
			spoil := func(l *[]string) {
				if lists == k {
					_ = append(*l, "spoilt", "spoilt")
				}
				lists++
			}
			spoilNodes := func(l *[]api.Node) {
				if lists == k {
					_ = append(*l, id("spoilt"), id("spoilt"))
				}
				lists++
			}
			spoil(&c.Params)
			spoil(&c.Temps)
			spoilNodes(&c.Body)
			eachNode(c.Body, func(n *api.Node) { spoil(&n.Params); spoil(&n.Temps); spoilNodes(&n.Kids) })
			if told(c) != want || told(m) != want {
				t.Errorf("P13.3: %s: list %d shares memory: %v", what, k, c)
			}
			if k >= lists {
				break
			}
		}
		c, _, _ := read(what, s)
		c.Selector = "x"
		for _, l := range [][]string{c.Params, c.Temps} {
			for i := range l {
				l[i] = "spoilt"
			}
		}
		eachNode(c.Body, func(n *api.Node) {
			for _, l := range [][]string{n.Params, n.Temps} {
				for i := range l {
					l[i] = "spoilt"
				}
			}
			n.Text, n.N, n.Super, n.Kind = "spoilt", 77, !n.Super, 9
		})
		d, e, at := read(what, s)
		if e != 0 || at != 0 || told(d) != want || told(m) != want {
			t.Errorf("P13.3: %s: %v", what, d)
		}
	}
}

// P13.1, P13.2: calls in any order, with errors between them, have no effect on each other.
func TestLaterCalls(t *testing.T) {
	sources := []string{rich, "foo", "+ y ^y", "foo ]", "Foo", "foo $", "foo " + strings.Repeat("(", 21), "foo " + strings.Repeat("(", 20) + "x" + strings.Repeat(")", 20), ""}
	type result struct {
		m  string
		e  api.Errno
		at int
	}
	first := map[string]result{}
	for range 3 {
		for _, a := range sources {
			for _, b := range sources {
				for _, s := range []string{a, b} {
					m, e, at := Method(s)
					now := result{told(m), e, at}
					if was, ok := first[s]; ok && was != now {
						t.Errorf("P13.1: %q: %v and %v", s, was, now)
					}
					first[s] = now
				}
			}
		}
	}
}

// A panic that is not for a wrong text is not taken for one.
func TestOtherPanic(t *testing.T) {
	defer func() {
		if recover() != "other" {
			t.Error("another panic was taken for an error of the text")
		}
	}()
	tree("x", func(*parser, *api.Method) { panic("other") })
}
