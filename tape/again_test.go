package tape_test

import (
	"bytes"
	"math"
	"testing"

	"entente/api"
	"entente/tape"
)

// part of what is written: a text, or, where it is nil, a number.
type part struct {
	n    int
	text []byte
}

// chance is a rule that makes numbers from numbers, so that each run makes the same ones.
type chance uint64

func (c *chance) next() uint64 {
	*c = *c*6364136223846793005 + 1442695040888963407
	return uint64(*c) >> 1
}

// number of any length that a number may have.
func (c *chance) number() int {
	shift := c.next() >> 20 % 63
	return int(c.next() >> shift & math.MaxInt64)
}

// parts are some numbers and texts.
func (c *chance) parts() []part {
	l := make([]part, c.next()>>20%8)
	for i := range l {
		l[i].n = c.number()
		if c.next()>>20%2 == 0 {
			l[i].text = make([]byte, c.next()>>20%300)
			for k := range l[i].text {
				l[i].text[k] = byte(c.next() >> 20)
			}
		}
	}
	return l
}

// P1.4: what is written is read again.
func TestWrittenIsRead(t *testing.T) {
	c := chance(1)
	for range 2000 {
		l := c.parts()
		var p tape.Pen
		for _, x := range l {
			if x.text == nil {
				p.Number(x.n)
			} else {
				p.Text(x.text)
			}
		}
		e := tape.Read(p.Bytes(), func(r *tape.Reader) {
			for _, x := range l {
				if x.text == nil {
					if n := r.Number(x.n); n != x.n {
						t.Fatalf("%d is read as %d", x.n, n)
					}
				} else if b := r.Text(len(x.text)); !bytes.Equal(b, x.text) {
					t.Fatalf("%x is read as %x", x.text, b)
				}
			}
		})
		if e != api.OK {
			t.Fatalf("%v of %v", e, l)
		}
	}
}

// shortBytes are all of two bytes or fewer, and those of up to five that have only bytes at which the form turns.
func shortBytes(each func(b []byte)) {
	each(nil)
	for i := range 256 {
		each([]byte{byte(i)})
		for k := range 256 {
			each([]byte{byte(i), byte(k)})
		}
	}
	const turns = "\x00\x01\x02\x7f\x80\x81\xff"
	for size := 3; size <= 5; size++ {
		b := make([]byte, size)
		var fill func(at int)
		fill = func(at int) {
			if at == size {
				each(b)
				return
			}
			for i := range len(turns) {
				b[at] = turns[i]
				fill(at + 1)
			}
		}
		fill(0)
	}
}

// P1.4: bytes that are read whole are written so again.
func TestReadIsWritten(t *testing.T) {
	whole := [2]int{}
	shortBytes(func(b []byte) {
		var numbers, texts tape.Pen
		if tape.Read(b, func(r *tape.Reader) {
			for range len(b) {
				if r.Left() == 0 {
					return
				}
				numbers.Number(r.Number(math.MaxInt64))
			}
		}) == api.OK {
			whole[0]++
			if !bytes.Equal(numbers.Bytes(), b) {
				t.Fatalf("the numbers %x are written as %x", b, numbers.Bytes())
			}
		}
		if tape.Read(b, func(r *tape.Reader) {
			for range len(b) {
				if r.Left() == 0 {
					return
				}
				texts.Text(r.Text(api.MostText))
			}
		}) == api.OK {
			whole[1]++
			if !bytes.Equal(texts.Bytes(), b) {
				t.Fatalf("the texts %x are written as %x", b, texts.Bytes())
			}
		}
	})
	if whole[0] < 16384 || whole[1] < 100 {
		t.Errorf("only %v were read whole", whole)
	}
}
