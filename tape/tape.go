// Package tape is layer 1: numbers and texts as bytes, read strictly.
package tape

import (
	"bytes"

	"entente/api"
)

// mostDigits bytes of a number, with seven bits each: together the 63 bits that an int has beside its sign.
const mostDigits = 9

// Pen writes; its zero value has nothing.
type Pen struct {
	written []byte
}

// Number is written, unless it is below 0.
func (p *Pen) Number(n int) bool {
	if p == nil || n < 0 {
		return false
	}
	for ; n >= 128; n >>= 7 {
		p.written = append(p.written, byte(n&127)|128)
	}
	p.written = append(p.written, byte(n))
	return true
}

// Text is written, unless it is longer than MostText.
func (p *Pen) Text(b []byte) bool {
	if len(b) > api.MostText {
		return false
	}
	return p.Number(len(b)) && p.Raw(b)
}

// Raw bytes are written as they are.
func (p *Pen) Raw(b []byte) bool {
	if p == nil {
		return false
	}
	p.written = append(p.written, b...)
	return true
}

// Bytes that were written.
func (p *Pen) Bytes() []byte {
	if p == nil {
		return nil
	}
	return bytes.Clone(p.written)
}

// Reader reads, within a Read.
type Reader struct {
	open bool
	left []byte
	// The first error is kept here too: f may recover the panic that carries it, and Read answers it all the same.
	fault api.Errno
}

// stop is the panic that ends an f. It names its reader, for Reads may be nested, and only that reader's own Read may take it.
type stop struct {
	of *Reader
}

// ended is also what a nil reader and the zero value are.
func (r *Reader) ended() bool {
	return r == nil || !r.open
}

// Fail ends f with an error.
func (r *Reader) Fail(e api.Errno) {
	if r.ended() || e == api.OK {
		return
	}
	if r.fault == api.OK {
		r.fault = e
	}
	panic(stop{r})
}

// Left bytes.
func (r *Reader) Left() int {
	if r.ended() {
		return 0
	}
	return len(r.left)
}

// Number that is next, at most most.
func (r *Reader) Number(most int) int {
	if r.ended() {
		return 0
	}
	n, size, e := number(r.left)
	if e == api.OK && n > most {
		e = api.ErrLong
	}
	r.Fail(e)
	r.left = r.left[size:]
	return n
}

// Text that is next, of at most most bytes.
func (r *Reader) Text(most int) []byte {
	if r.ended() {
		return nil
	}
	n, size, e := number(r.left)
	rest := r.left[size:]
	switch {
	case e != api.OK:
	case n > most:
		e = api.ErrLong
	case n > len(rest):
		e = api.ErrEnd
	}
	r.Fail(e)
	r.left = rest[n:]
	return bytes.Clone(rest[:n])
}

// number that b begins with, and how many bytes it has.
func number(b []byte) (n, size int, e api.Errno) {
	for size < mostDigits {
		if size == len(b) {
			return 0, 0, api.ErrEnd
		}
		digit := b[size]
		n |= int(digit&127) << (7 * size)
		size++
		if digit == 0 && size > 1 {
			return 0, 0, api.ErrForm
		}
		if digit < 128 {
			return n, size, api.OK
		}
	}
	return 0, 0, api.ErrForm
}

// Read bytes by a function. ErrEnd, ErrForm, ErrLong, ErrTrail, its Fail's.
func Read(b []byte, f func(r *Reader)) (e api.Errno) {
	r := &Reader{open: true, left: b}
	defer func() {
		e = r.end()
		x := recover()
		if s, ok := x.(stop); x != nil && (!ok || s.of != r) {
			panic(x) // f's own, or that of a Read around this one
		}
	}()
	if f != nil {
		f(r)
	}
	return
}

// end answers what Read does, and lets the bytes go, for f may have kept its reader.
func (r *Reader) end() api.Errno {
	e := r.fault
	if e == api.OK && len(r.left) > 0 {
		e = api.ErrTrail
	}
	*r = Reader{}
	return e
}
