package octet

import (
	"bytes"
	"math"
	"math/rand"
	"slices"
	"strings"
	"testing"

	"monticule/api"
)

// written is what a new Writer holds after fill; the writing must go well.
func written(t *testing.T, fill func(w *Writer)) string {
	t.Helper()
	var w Writer
	fill(&w)
	if w.Err() != api.OK {
		t.Fatalf("Err is %v", w.Err())
	}
	return string(w.Bytes())
}

// P1.1: the zero Writer is empty.
func TestZeroWriter(t *testing.T) {
	var w Writer
	if len(w.Bytes()) != 0 || w.Err() != api.OK {
		t.Errorf("%x, %v", w.Bytes(), w.Err())
	}
}

// P1.1: the example of the chapter.
func TestExample(t *testing.T) {
	got := written(t, func(w *Writer) {
		w.Num(258)
		w.Text("ab")
	})
	if got != "\x00\x00\x01\x02\x00\x00\x00\x02ab" {
		t.Errorf("%x", got)
	}
}

// P1.1: numbers have four bytes, the most significant first.
func TestWriteNum(t *testing.T) {
	for _, x := range []struct {
		n    int
		want string
	}{
		{0, "\x00\x00\x00\x00"},
		{1, "\x00\x00\x00\x01"},
		{255, "\x00\x00\x00\xff"},
		{256, "\x00\x00\x01\x00"},
		{0x01020304, "\x01\x02\x03\x04"},
		{1<<31 - 1, "\x7f\xff\xff\xff"},
	} {
		if got := written(t, func(w *Writer) { w.Num(x.n) }); got != x.want {
			t.Errorf("%d: %x, not %x", x.n, got, x.want)
		}
	}
}

// P1.1: ints have eight bytes, their two's complement.
func TestWriteInt(t *testing.T) {
	for _, x := range []struct {
		n    int
		want string
	}{
		{0, "\x00\x00\x00\x00\x00\x00\x00\x00"},
		{1, "\x00\x00\x00\x00\x00\x00\x00\x01"},
		{-1, "\xff\xff\xff\xff\xff\xff\xff\xff"},
		{-2, "\xff\xff\xff\xff\xff\xff\xff\xfe"},
		{1 << 31, "\x00\x00\x00\x00\x80\x00\x00\x00"},
		{0x0102030405060708, "\x01\x02\x03\x04\x05\x06\x07\x08"},
		{math.MaxInt64, "\x7f\xff\xff\xff\xff\xff\xff\xff"},
		{math.MinInt64, "\x80\x00\x00\x00\x00\x00\x00\x00"},
	} {
		if got := written(t, func(w *Writer) { w.Int(x.n) }); got != x.want {
			t.Errorf("%d: %x, not %x", x.n, got, x.want)
		}
	}
}

// P1.1: texts and lists, with their numbers ahead.
func TestWriteTexts(t *testing.T) {
	for _, x := range []struct {
		what string
		fill func(w *Writer)
		want string
	}{
		{"empty text", func(w *Writer) { w.Text("") }, "\x00\x00\x00\x00"},
		{"any bytes", func(w *Writer) { w.Text("\x00\xff\xc3") }, "\x00\x00\x00\x03\x00\xff\xc3"},
		{"bytes, not runes", func(w *Writer) { w.Text("é") }, "\x00\x00\x00\x02\xc3\xa9"},
		{"nil list", func(w *Writer) { w.Texts(nil) }, "\x00\x00\x00\x00"},
		{"empty list", func(w *Writer) { w.Texts([]string{}) }, "\x00\x00\x00\x00"},
		{"one empty text", func(w *Writer) { w.Texts([]string{""}) }, "\x00\x00\x00\x01\x00\x00\x00\x00"},
		{"two texts", func(w *Writer) { w.Texts([]string{"b", "ac"}) }, "\x00\x00\x00\x02\x00\x00\x00\x01b\x00\x00\x00\x02ac"},
	} {
		if got := written(t, x.fill); got != x.want {
			t.Errorf("%s: %x, not %x", x.what, got, x.want)
		}
	}
	long := strings.Repeat("x", 70000)
	if got := written(t, func(w *Writer) { w.Text(long) }); got != "\x00\x01\x11\x70"+long {
		t.Errorf("a long text begins with %x", got[:8])
	}
}

// P1.1: a number without an encoding stops the Writer for good.
func TestWriteBadNum(t *testing.T) {
	for _, n := range []int{-1, -2, math.MinInt64, 1 << 31, 1<<31 + 1, 1 << 32, math.MaxInt64} {
		var w Writer
		w.Num(7)
		w.Num(n)
		steps := []func(){
			func() {},
			func() { w.Num(1) },
			func() { w.Int(1) },
			func() { w.Text("a") },
			func() { w.Text("") },
			func() { w.Texts([]string{"a", ""}) },
			func() { w.Texts(nil) },
			func() { w.Num(n) },
		}
		for i, step := range steps {
			step()
			if got := string(w.Bytes()); got != "\x00\x00\x00\x07" || w.Err() != api.ErrArg {
				t.Errorf("%d, step %d: %x, %v", n, i, got, w.Err())
			}
		}
	}
}

// P1.2: each reading, on one input: what it tells, what is wrong, what is left.
func TestReadErrors(t *testing.T) {
	num := func(r *Reader) bool { return r.Num() == 0 }
	word := func(r *Reader) bool { return r.Int() == 0 }
	text := func(r *Reader) bool { return r.Text() == "" }
	texts := func(r *Reader) bool { return len(r.Texts()) == 0 }
	for _, x := range []struct {
		what string
		zero func(r *Reader) bool
		b    string
		want api.Errno
	}{
		{"num of nothing", num, "", api.ErrShort},
		{"num of three", num, "\x00\x00\x01", api.ErrShort},
		{"num of three, too great so far", num, "\xff\xff\xff", api.ErrShort},
		{"num of 2^31", num, "\x80\x00\x00\x00", api.ErrForm},
		{"num of 2^31, more behind", num, "\x80\x00\x00\x00\x00", api.ErrForm},
		{"num of 2^32-1", num, "\xff\xff\xff\xff", api.ErrForm},
		{"int of nothing", word, "", api.ErrShort},
		{"int of seven", word, "\x01\x02\x03\x04\x05\x06\x07", api.ErrShort},
		{"text of nothing", text, "", api.ErrShort},
		{"text of three", text, "\x00\x00\x00", api.ErrShort},
		{"text of 2^31", text, "\x80\x00\x00\x00abc", api.ErrForm},
		{"text, one missing", text, "\x00\x00\x00\x03ab", api.ErrShort},
		{"text of one, none there", text, "\x00\x00\x00\x01", api.ErrShort},
		{"text of 2^31-1", text, "\x7f\xff\xff\xffab", api.ErrShort},
		{"list of nothing", texts, "", api.ErrShort},
		{"list of three", texts, "\x00\x00\x00", api.ErrShort},
		{"list of 2^31", texts, "\x80\x00\x00\x00", api.ErrForm},
		{"list of 2^31-1", texts, "\x7f\xff\xff\xff\x80\x00\x00\x00", api.ErrShort},
		{"list of more than bytes left", texts, "\x00\x00\x00\x05\x80\x00\x00\x00", api.ErrShort},
		{"list of as many as bytes left", texts, "\x00\x00\x00\x04\x80\x00\x00\x00", api.ErrForm},
		{"list, first text short", texts, "\x00\x00\x00\x01\x00\x00\x00\x01", api.ErrShort},
		{"list, second text short", texts, "\x00\x00\x00\x02\x00\x00\x00\x01a\x00\x00", api.ErrShort},
		{"list, second text missing", texts, "\x00\x00\x00\x02\x00\x00\x00\x01a", api.ErrShort},
		{"list, second text of 2^31", texts, "\x00\x00\x00\x02\x00\x00\x00\x01a\x80\x00\x00\x00", api.ErrForm},
		{"list, first error first", texts, "\x00\x00\x00\x02\x80\x00\x00\x00\x00", api.ErrForm},
	} {
		r := Open([]byte(x.b))
		if !x.zero(r) {
			t.Errorf("%s: not a zero value", x.what)
		}
		if r.Err() != x.want || r.End() != x.want || r.Left() != len(x.b) {
			t.Errorf("%s: %v, End %v, %d left", x.what, r.Err(), r.End(), r.Left())
		}
	}
}

// P1.2: a list of over 1000000 texts is refused even where all its texts are there.
func TestReadManyTexts(t *testing.T) {
	for _, x := range []struct {
		n    int
		want api.Errno
	}{{1000000, api.OK}, {1000001, api.ErrShort}} {
		b := []byte(written(t, func(w *Writer) { w.Texts(make([]string, x.n)) }))
		r := Open(b)
		l := r.Texts()
		if r.Err() != x.want {
			t.Errorf("%d: %v", x.n, r.Err())
		}
		if x.want == api.OK && (len(l) != x.n || r.End() != api.OK) {
			t.Errorf("%d: %d texts, %d left", x.n, len(l), r.Left())
		}
		if x.want != api.OK && (len(l) != 0 || r.Left() != len(b)) {
			t.Errorf("%d: %d texts, %d left", x.n, len(l), r.Left())
		}
	}
}

// P1.2: the first error stays, and all that follows is zero, though the bytes would do.
func TestReadErrorStays(t *testing.T) {
	full := "\x80\x00\x00\x00\x00\x00\x00\x01a\x00\x00\x00\x02\x00\x00\x00\x00"
	r := Open([]byte(full))
	r.Num()
	for range 2 {
		if n, m, s, l := r.Num(), r.Int(), r.Text(), r.Texts(); n != 0 || m != 0 || s != "" || len(l) != 0 {
			t.Errorf("%d, %d, %q, %q", n, m, s, l)
		}
		if r.Err() != api.ErrForm || r.End() != api.ErrForm || r.Left() != len(full) {
			t.Errorf("%v, End %v, %d left", r.Err(), r.End(), r.Left())
		}
	}
	r = Open([]byte("\x00\x00\x00\x05\x00\x00\x00\x01"))
	if r.Num() != 5 || r.Int() != 0 || r.Err() != api.ErrShort || r.Left() != 4 {
		t.Errorf("%v, %d left", r.Err(), r.Left())
	}
	if r.Num() != 0 || r.Err() != api.ErrShort || r.Left() != 4 {
		t.Errorf("a number behind an error: %v, %d left", r.Err(), r.Left())
	}
}

// P1.2: a value that fails in the middle is not consumed; those ahead of it are.
func TestReadNotConsumed(t *testing.T) {
	good := written(t, func(w *Writer) { w.Texts([]string{"abc", "", "de"}) })
	for cut := range len(good) {
		r := Open([]byte("\x00\x00\x00\x09" + good[:cut]))
		if r.Num() != 9 || len(r.Texts()) != 0 || r.Err() != api.ErrShort || r.Left() != cut {
			t.Errorf("cut at %d: %v, %d left", cut, r.Err(), r.Left())
		}
	}
}

// P1.2: the bytes of an empty Reader, and End beside Err.
func TestEnd(t *testing.T) {
	for _, b := range [][]byte{nil, {}} {
		r := Open(b)
		if r.Left() != 0 || r.Err() != api.OK || r.End() != api.OK {
			t.Errorf("%v, End %v, %d left", r.Err(), r.End(), r.Left())
		}
	}
	r := Open([]byte("\x00\x00\x00\x01\x00\x00\x00\x02"))
	for range 2 {
		if r.End() != api.ErrForm || r.Err() != api.OK || r.Left() != 8 {
			t.Errorf("%v, End %v, %d left", r.Err(), r.End(), r.Left())
		}
	}
	if r.Num() != 1 || r.End() != api.ErrForm || r.Err() != api.OK || r.Left() != 4 {
		t.Errorf("behind End: %v, %d left", r.Err(), r.Left())
	}
	if r.Num() != 2 || r.End() != api.OK || r.Err() != api.OK || r.Left() != 0 {
		t.Errorf("at the end: %v, %d left", r.Err(), r.Left())
	}
	if r.Num() != 0 || r.Err() != api.ErrShort || r.End() != api.ErrShort {
		t.Errorf("over the end: %v, End %v", r.Err(), r.End())
	}
}

// P1.3: values at the edges are read back in their order.
func TestReadBack(t *testing.T) {
	nums := []int{0, 1, 255, 256, 1 << 24, 1<<31 - 1}
	ints := []int{0, 1, -1, 1 << 31, -1 << 31, math.MaxInt64, math.MinInt64}
	lists := [][]string{nil, {""}, {"", "a", ""}, {"é\x00\xff", strings.Repeat("q", 300)}}
	b := []byte(written(t, func(w *Writer) {
		for _, n := range nums {
			w.Num(n)
		}
		for _, n := range ints {
			w.Int(n)
		}
		for _, l := range lists {
			w.Texts(l)
			w.Text(strings.Join(l, ","))
		}
	}))
	r := Open(b)
	for _, n := range nums {
		if got := r.Num(); got != n {
			t.Errorf("num %d: %d", n, got)
		}
	}
	for _, n := range ints {
		if got := r.Int(); got != n {
			t.Errorf("int %d: %d", n, got)
		}
	}
	for _, l := range lists {
		if got := r.Texts(); !slices.Equal(got, l) {
			t.Errorf("list %q: %q", l, got)
		}
		if got := r.Text(); got != strings.Join(l, ",") {
			t.Errorf("text %q", got)
		}
	}
	if r.End() != api.OK {
		t.Errorf("End %v", r.End())
	}
}

// P1.3 and P5: what is read of any bytes, written again, is exactly the bytes that were consumed.
func TestWriteBack(t *testing.T) {
	random := rand.New(rand.NewSource(1))
	for range 20000 {
		b := make([]byte, random.Intn(40))
		for i := range b {
			// Small bytes make small numbers, so that many readings go well.
			if random.Intn(4) == 0 {
				b[i] = byte(random.Intn(3))
			}
			if random.Intn(40) == 0 {
				b[i] = byte(random.Intn(256))
			}
		}
		r := Open(b)
		var w Writer
		for range 12 {
			copyValue(r, &w, random.Intn(4))
		}
		used := len(b) - r.Left()
		if !bytes.Equal(w.Bytes(), b[:used]) || w.Err() != api.OK {
			t.Fatalf("%x: %x is not its first %d", b, w.Bytes(), used)
		}
	}
}

// copyValue reads a value of a kind and, if that goes well, writes it.
func copyValue(r *Reader, w *Writer, kind int) {
	var again func()
	switch kind {
	case 0:
		n := r.Num()
		again = func() { w.Num(n) }
	case 1:
		n := r.Int()
		again = func() { w.Int(n) }
	case 2:
		s := r.Text()
		again = func() { w.Text(s) }
	default:
		l := r.Texts()
		again = func() { w.Texts(l) }
	}
	if r.Err() == api.OK {
		again()
	}
}

// P1.3: Bytes is new memory each time.
func TestBytesIsNew(t *testing.T) {
	var w Writer
	w.Text("abc")
	want := "\x00\x00\x00\x03abc"
	first, second := w.Bytes(), w.Bytes()
	clear(first[:cap(first)])
	if string(second) != want || string(w.Bytes()) != want {
		t.Errorf("%q, %q", second, w.Bytes())
	}
	second = append(second, "mine"...)
	w.Num(1)
	if string(second) != want+"mine" || string(w.Bytes()) != want+"\x00\x00\x00\x01" {
		t.Errorf("%q, %q", second, w.Bytes())
	}
}

// P1.3: a Reader keeps none of its argument and does not change it, spare capacity included.
func TestOpenKeepsNothing(t *testing.T) {
	whole := []byte("\x00\x00\x00\x01a\x00\x00\x00\x01bspare")
	before := string(whole)
	b := whole[:10]
	r := Open(b)
	if r.Text() != "a" || r.Left() != 5 || string(whole) != before {
		t.Errorf("%d left of %q", r.Left(), whole)
	}
	clear(whole)
	if r.Text() != "b" || r.End() != api.OK {
		t.Errorf("changed from outside: %v", r.End())
	}
}

// P1.3: lists that are read share no memory with each other; a list that is written is not kept.
func TestTextsAreNew(t *testing.T) {
	given := append(make([]string, 0, 4), "x", "y")
	b := []byte(written(t, func(w *Writer) {
		w.Texts(given)
		given[0] = "changed"
		w.Texts(given[:2])
		given[0] = "x"
	}))
	if !slices.Equal(given[:4], []string{"x", "y", "", ""}) {
		t.Errorf("given: %q", given[:4])
	}
	r := Open(b)
	one := r.Texts()
	one[1] = "mine"
	_ = append(one[:1], "mine", "mine")
	two := r.Texts()
	if !slices.Equal(two, []string{"changed", "y"}) || r.End() != api.OK {
		t.Errorf("%q", two)
	}
	again := Open(b).Texts()
	if !slices.Equal(again, []string{"x", "y"}) {
		t.Errorf("%q", again)
	}
}

// P1.2: a value may take the very last byte.
func TestReadToTheEnd(t *testing.T) {
	r := Open([]byte("\x00\x00\x00\x07"))
	if n := r.Num(); n != 7 || r.End() != api.OK {
		t.Errorf("num %d, %v", n, r.End())
	}
	r = Open([]byte("\xff\xff\xff\xff\xff\xff\xff\xf9"))
	if n := r.Int(); n != -7 || r.End() != api.OK {
		t.Errorf("int %d, %v", n, r.End())
	}
	r = Open([]byte("\x00\x00\x00\x01a"))
	if s := r.Text(); s != "a" || r.End() != api.OK {
		t.Errorf("text %q, %v", s, r.End())
	}
	r = Open([]byte("\x00\x00\x00\x01\x00\x00\x00\x01a"))
	if l := r.Texts(); !slices.Equal(l, []string{"a"}) || r.End() != api.OK {
		t.Errorf("list %q, %v", l, r.End())
	}
}
