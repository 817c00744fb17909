// Package octet is layer 1: see shared/doc/01-octet.md.
package octet

import (
	"slices"

	"monticule/api"
)

const (
	numBytes = 4
	intBytes = 8
	maxNum   = 1<<31 - 1
	maxTexts = 1000000
)

// Writer writes octets.
type Writer struct {
	out []byte
	err api.Errno
}

// Reader reads octets.
type Reader struct {
	rest []byte
	err  api.Errno
}

// Num writes a number.
func (w *Writer) Num(n int) {
	if w.err != api.OK {
		return
	}
	if n < 0 || n > maxNum {
		w.err = api.ErrArg
		return
	}
	w.out = appendBig(w.out, uint64(n), numBytes)
}

// Int writes an int.
func (w *Writer) Int(n int) {
	if w.err == api.OK {
		w.out = appendBig(w.out, uint64(n), intBytes)
	}
}

// Text writes a text.
func (w *Writer) Text(s string) {
	w.Num(len(s))
	if w.err == api.OK {
		w.out = append(w.out, s...)
	}
}

// Texts writes a list of texts.
func (w *Writer) Texts(l []string) {
	w.Num(len(l))
	for _, s := range l {
		w.Text(s)
	}
}

// Bytes is what was written.
func (w *Writer) Bytes() []byte {
	// A copy, so that neither later writes nor the caller's changes reach the other side.
	return slices.Clone(w.out)
}

// Err is what went wrong.
func (w *Writer) Err() api.Errno {
	return w.err
}

// Open is a reader of octets.
func Open(b []byte) *Reader {
	// A copy, because the caller may change b while the reader is in use.
	return &Reader{rest: slices.Clone(b)}
}

// Num reads a number.
func (r *Reader) Num() int {
	if r.err != api.OK {
		return 0
	}
	if len(r.rest) < numBytes {
		r.err = api.ErrShort
		return 0
	}
	n := big(r.rest[:numBytes])
	if n > maxNum {
		r.err = api.ErrForm
		return 0
	}
	r.rest = r.rest[numBytes:]
	return int(n)
}

// Int reads an int.
func (r *Reader) Int() int {
	if r.err != api.OK {
		return 0
	}
	if len(r.rest) < intBytes {
		r.err = api.ErrShort
		return 0
	}
	n := big(r.rest[:intBytes])
	r.rest = r.rest[intBytes:]
	return int(n)
}

// Text reads a text.
func (r *Reader) Text() string {
	start := r.rest
	n := r.Num()
	if r.err == api.OK && n > len(r.rest) {
		r.err = api.ErrShort
	}
	if r.err != api.OK {
		r.rest = start
		return ""
	}
	s := string(r.rest[:n])
	r.rest = r.rest[n:]
	return s
}

// Texts reads a list of texts.
func (r *Reader) Texts() []string {
	start := r.rest
	n := r.Num()
	if r.err == api.OK && (n > maxTexts || n > len(r.rest)) {
		r.err = api.ErrShort
	}
	// The list grows with what is really there: the number alone must not claim memory.
	var l []string
	for i := 0; i < n && r.err == api.OK; i++ {
		l = append(l, r.Text())
	}
	if r.err != api.OK {
		r.rest = start
		return nil
	}
	return l
}

// Left is how many octets are left.
func (r *Reader) Left() int {
	return len(r.rest)
}

// Err is what went wrong.
func (r *Reader) Err() api.Errno {
	return r.err
}

// End is what went wrong, or that octets are left.
func (r *Reader) End() api.Errno {
	if r.err == api.OK && len(r.rest) > 0 {
		return api.ErrForm
	}
	return r.err
}

// appendBig appends the lowest bytes of n, the most significant one first.
func appendBig(b []byte, n uint64, bytes int) []byte {
	for shift := 8 * (bytes - 1); shift >= 0; shift -= 8 {
		b = append(b, byte(n>>shift))
	}
	return b
}

// big is the number whose most significant byte comes first.
func big(b []byte) uint64 {
	var n uint64
	for _, x := range b {
		n = n<<8 | uint64(x)
	}
	return n
}
