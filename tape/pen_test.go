package tape_test

import (
	"bytes"
	"math"
	"strings"
	"testing"

	"entente/api"
	"entente/tape"
)

// numbers with their bytes: the least and the greatest one of each length, and some between.
var numbers = []struct {
	n int
	s string
}{
	{0, "\x00"},
	{1, "\x01"},
	{127, "\x7f"},
	{128, "\x80\x01"},
	{255, "\xff\x01"},
	{300, "\xac\x02"},
	{1<<14 - 1, "\xff\x7f"},
	{1 << 14, "\x80\x80\x01"},
	{1<<21 - 1, "\xff\xff\x7f"},
	{1 << 21, "\x80\x80\x80\x01"},
	{1<<28 - 1, "\xff\xff\xff\x7f"},
	{1 << 28, "\x80\x80\x80\x80\x01"},
	{1<<35 - 1, "\xff\xff\xff\xff\x7f"},
	{1 << 35, "\x80\x80\x80\x80\x80\x01"},
	{1 << 40, "\x80\x80\x80\x80\x80\x20"},
	{1<<42 - 1, "\xff\xff\xff\xff\xff\x7f"},
	{1 << 42, "\x80\x80\x80\x80\x80\x80\x01"},
	{1<<49 - 1, "\xff\xff\xff\xff\xff\xff\x7f"},
	{1 << 49, "\x80\x80\x80\x80\x80\x80\x80\x01"},
	{1<<56 - 1, "\xff\xff\xff\xff\xff\xff\xff\x7f"},
	{1 << 56, "\x80\x80\x80\x80\x80\x80\x80\x80\x01"},
	{1 << 62, "\x80\x80\x80\x80\x80\x80\x80\x80\x40"},
	{math.MaxInt64 - 1, "\xfe\xff\xff\xff\xff\xff\xff\xff\x7f"},
	{math.MaxInt64, "\xff\xff\xff\xff\xff\xff\xff\xff\x7f"},
}

// wrote fails the test unless the pen has just these bytes.
func wrote(t *testing.T, p *tape.Pen, want string) {
	t.Helper()
	if got := string(p.Bytes()); got != want {
		t.Errorf("the pen has %x, not %x", got, want)
	}
}

// P1.1: a number's bytes.
func TestPenNumber(t *testing.T) {
	for _, x := range numbers {
		var p tape.Pen
		if !p.Number(x.n) {
			t.Errorf("%d isn't written", x.n)
		}
		wrote(t, &p, x.s)
	}
}

// P1.1: a number below 0 isn't written.
func TestPenNumberBelowZero(t *testing.T) {
	var p tape.Pen
	for _, n := range []int{-1, -128, -300, math.MinInt64} {
		if p.Number(n) {
			t.Errorf("%d is written", n)
		}
	}
	wrote(t, &p, "")
	p.Number(300)
	if p.Number(-1) {
		t.Error("-1 is written behind another one")
	}
	p.Number(5)
	wrote(t, &p, "\xac\x02\x05")
}

// P1.1: a text's bytes: its length, and itself.
func TestPenText(t *testing.T) {
	for _, x := range []struct{ text, want string }{
		{"", "\x00"},
		{"a", "\x01a"},
		{"\x00\xff", "\x02\x00\xff"},
		{strings.Repeat("b", 127), "\x7f" + strings.Repeat("b", 127)},
		{strings.Repeat("c", 128), "\x80\x01" + strings.Repeat("c", 128)},
		{strings.Repeat("d", api.MostText), "\x80\x10" + strings.Repeat("d", api.MostText)},
	} {
		var p tape.Pen
		if !p.Text([]byte(x.text)) {
			t.Errorf("a text of %d bytes isn't written", len(x.text))
		}
		wrote(t, &p, x.want)
	}
	var p tape.Pen
	if !p.Text(nil) {
		t.Error("a nil text isn't written")
	}
	wrote(t, &p, "\x00")
}

// P1.1: a text above MostText isn't written, and neither is its length.
func TestPenTextTooLong(t *testing.T) {
	var p tape.Pen
	for _, size := range []int{api.MostText + 1, 1 << 16} {
		if p.Text(make([]byte, size)) {
			t.Errorf("a text of %d bytes is written", size)
		}
	}
	wrote(t, &p, "")
	p.Text([]byte("a"))
	if p.Text(make([]byte, api.MostText+1)) {
		t.Error("a text that is too long is written behind another one")
	}
	wrote(t, &p, "\x01a")
}

// P1.1: raw bytes are written as they are, however many.
func TestPenRaw(t *testing.T) {
	var p tape.Pen
	long := bytes.Repeat([]byte("\x80\x00"), api.MostText)
	for _, b := range [][]byte{nil, {}, {0}, {255, 0, 128}, long} {
		if !p.Raw(b) {
			t.Errorf("%d raw bytes aren't written", len(b))
		}
	}
	wrote(t, &p, "\x00\xff\x00\x80"+string(long))
}

// P1.1: all that was written, in order; the zero value has nothing.
func TestPenBytes(t *testing.T) {
	var p tape.Pen
	wrote(t, &p, "")
	wrote(t, new(tape.Pen), "")
	p.Number(300)
	p.Text([]byte("ab"))
	p.Raw([]byte("\x07"))
	p.Number(0)
	wrote(t, &p, "\xac\x02\x02ab\x07\x00")
	wrote(t, &p, "\xac\x02\x02ab\x07\x00")
}

// Pens are apart from one another.
func TestPensApart(t *testing.T) {
	var p, q tape.Pen
	p.Number(1)
	q.Number(2)
	p.Number(3)
	wrote(t, &p, "\x01\x03")
	wrote(t, &q, "\x02")
}

// What a pen is handed is neither changed nor kept, its spare room included.
func TestPenKeepsNothing(t *testing.T) {
	for _, x := range []struct {
		put  func(p *tape.Pen, b []byte) bool
		want string
	}{{(*tape.Pen).Raw, "abc\xac\x02abc"}, {(*tape.Pen).Text, "\x03abc\xac\x02\x03abc"}} {
		room := []byte("abcdefgh")
		var p tape.Pen
		x.put(&p, room[:3])
		p.Number(300)
		x.put(&p, room[:3])
		if string(room) != "abcdefgh" {
			t.Errorf("what was handed in is now %q", room)
		}
		copy(room, "zzzzzzzz")
		wrote(t, &p, x.want)
	}
}

// What Bytes answers is new memory, its spare room too.
func TestPenBytesNew(t *testing.T) {
	var p tape.Pen
	p.Raw([]byte("abc"))
	one, two := p.Bytes(), p.Bytes()
	one[0] = 'z'
	if string(two) != "abc" {
		t.Errorf("two answers share their memory: %q", two)
	}
	one, two = append(one, 'y'), append(two, 'x')
	wrote(t, &p, "abc")
	p.Number(7)
	p.Number(8)
	if string(one) != "zbcy" || string(two) != "abcx" {
		t.Errorf("answers are written on: %q %q", one, two)
	}
	wrote(t, &p, "abc\x07\x08")
}

// A nil pen: false, nothing.
func TestNilPen(t *testing.T) {
	var p *tape.Pen
	if p.Number(1) || p.Number(-1) {
		t.Error("Number is true")
	}
	if p.Text(nil) || p.Text([]byte("a")) || p.Text(make([]byte, api.MostText+1)) {
		t.Error("Text is true")
	}
	if p.Raw(nil) || p.Raw([]byte("a")) {
		t.Error("Raw is true")
	}
	if b := p.Bytes(); len(b) != 0 {
		t.Errorf("it has %x", b)
	}
}
