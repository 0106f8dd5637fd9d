package tape_test

import (
	"bytes"
	"math"
	"strings"
	"testing"

	"entente/api"
	"entente/tape"
)

const (
	eight = "\xff\xff\xff\xff\xff\xff\xff\xff"
	nine  = eight + "\xff"
)

// P1.2: a number is read from just its bytes, up to most.
func TestReadNumber(t *testing.T) {
	for _, x := range numbers {
		for _, most := range []int{x.n, math.MaxInt64} {
			n, left := -1, -1
			e := tape.Read([]byte(x.s), func(r *tape.Reader) {
				n, left = r.Number(most), r.Left()
			})
			if n != x.n || left != 0 || e != api.OK {
				t.Errorf("%x, at most %d: %d, %d left, %v", x.s, most, n, left, e)
			}
		}
	}
}

// P1.2: numbers that are none, end too soon, or are above most.
func TestReadNumberErrors(t *testing.T) {
	for _, x := range []struct {
		s    string
		most int
		e    api.Errno
	}{
		{"", 9, api.ErrEnd},
		{"\x80", 9, api.ErrEnd},
		{"\xff\x80", 9, api.ErrEnd},
		{eight, math.MaxInt64, api.ErrEnd},
		{"\x80\x80\x80\x80\x80\x80\x80\x80", 9, api.ErrEnd},
		{nine, math.MaxInt64, api.ErrForm},
		{nine, 9, api.ErrForm},
		{nine + "\x01", math.MaxInt64, api.ErrForm},
		{nine + "\x00", math.MaxInt64, api.ErrForm},
		{"\x80\x80\x80\x80\x80\x80\x80\x80\x80", math.MaxInt64, api.ErrForm},
		{"\x80\x00", 9, api.ErrForm},
		{"\xff\x00", 9, api.ErrForm},
		{"\x81\x80\x00", 9, api.ErrForm},
		{eight + "\x00", math.MaxInt64, api.ErrForm},
		{"\x80\x00\x01", 9, api.ErrForm},
		{"\x0a", 9, api.ErrLong},
		{"\x01", 0, api.ErrLong},
		{"\xac\x02", 299, api.ErrLong},
		{eight + "\x7f", math.MaxInt64 - 1, api.ErrLong},
		{"\x0a\x01", 9, api.ErrLong},
		{"\x00", -1, api.ErrLong},
		{"\x05", math.MinInt64, api.ErrLong},
		{"\x80\x00", -1, api.ErrForm},
		{"", -1, api.ErrEnd},
		{"\x09\x01", 9, api.ErrTrail},
		{"\x00\x00", 9, api.ErrTrail},
	} {
		n, left, behind := 0, -1, false
		e := tape.Read([]byte(x.s), func(r *tape.Reader) {
			n = r.Number(x.most)
			left, behind = r.Left(), true
		})
		if e != x.e || behind != (x.e == api.ErrTrail) || behind && left != 1 || !behind && n != 0 {
			t.Errorf("%x, at most %d: %v, not %v (gone on: %v)", x.s, x.most, e, x.e, behind)
		}
	}
}

// P1.2: a text is read, up to most bytes.
func TestReadText(t *testing.T) {
	long := strings.Repeat("a", api.MostText)
	for _, x := range []struct {
		s    string
		most int
		want string
	}{
		{"\x00", 0, ""},
		{"\x00", 9, ""},
		{"\x01a", 1, "a"},
		{"\x04abcd", 4, "abcd"},
		{"\x03\x00\xff\x80", math.MaxInt64, "\x00\xff\x80"},
		{"\x80\x10" + long, api.MostText, long},
	} {
		text, left := "none", -1
		e := tape.Read([]byte(x.s), func(r *tape.Reader) {
			text, left = string(r.Text(x.most)), r.Left()
		})
		if text != x.want || left != 0 || e != api.OK {
			t.Errorf("%x, at most %d: %q, %d left, %v", x.s, x.most, text, left, e)
		}
	}
}

// P1.2: the length's error, then ErrLong, then ErrEnd.
func TestReadTextErrors(t *testing.T) {
	for _, x := range []struct {
		s    string
		most int
		e    api.Errno
	}{
		{"", 4, api.ErrEnd},
		{"\x83", 4, api.ErrEnd},
		{eight, 4, api.ErrEnd},
		{nine, 4, api.ErrForm},
		{"\x80\x00", 4, api.ErrForm},
		{"\x82\x00ab", 4, api.ErrForm},
		{"\x05abcde", 4, api.ErrLong},
		{"\x05", 4, api.ErrLong},
		{"\x05abc", 4, api.ErrLong},
		{"\x01a", 0, api.ErrLong},
		{"\x00", -1, api.ErrLong},
		{"\x01a", math.MinInt64, api.ErrLong},
		{"\x81\x10", api.MostText, api.ErrLong},
		{"\x03ab", 4, api.ErrEnd},
		{"\x01", 4, api.ErrEnd},
		{"\x04abc", 4, api.ErrEnd},
		{eight + "\x7f", math.MaxInt64, api.ErrEnd},
		{eight + "\x7fabc", math.MaxInt64, api.ErrEnd},
		{"\x02abc", 4, api.ErrTrail},
	} {
		behind := false
		e := tape.Read([]byte(x.s), func(r *tape.Reader) {
			r.Text(x.most)
			behind = true
		})
		if e != x.e || behind != (x.e == api.ErrTrail) {
			t.Errorf("%x, at most %d: %v, not %v (gone on: %v)", x.s, x.most, e, x.e, behind)
		}
	}
}

// P1.2: one part behind the other, and how many bytes are left.
func TestReadParts(t *testing.T) {
	var lefts []int
	e := tape.Read([]byte("\xac\x02\x02ab\x00\x00\x07"), func(r *tape.Reader) {
		lefts = append(lefts, r.Left(), r.Left())
		if n := r.Number(300); n != 300 {
			t.Errorf("the first number is %d", n)
		}
		lefts = append(lefts, r.Left())
		if s := string(r.Text(2)); s != "ab" {
			t.Errorf("the first text is %q", s)
		}
		lefts = append(lefts, r.Left())
		if n, s := r.Number(9), r.Text(9); n != 0 || len(s) != 0 {
			t.Errorf("then %d, %q", n, s)
		}
		lefts = append(lefts, r.Left())
		if n := r.Number(7); n != 7 {
			t.Errorf("the last number is %d", n)
		}
		lefts = append(lefts, r.Left())
	})
	want := []int{8, 8, 6, 3, 1, 0}
	for i := range want {
		if len(lefts) != len(want) || lefts[i] != want[i] {
			t.Fatalf("left are %v, not %v", lefts, want)
		}
	}
	if e != api.OK {
		t.Errorf("all were read: %v", e)
	}
}

// P1.2: f is called once; ErrTrail, if it leaves bytes; a nil one does nothing.
func TestReadCallsOnce(t *testing.T) {
	for _, x := range []struct {
		b []byte
		e api.Errno
	}{{nil, api.OK}, {[]byte{}, api.OK}, {[]byte{0}, api.ErrTrail}, {[]byte("\x80\x00"), api.ErrTrail}} {
		calls, left := 0, -1
		e := tape.Read(x.b, func(r *tape.Reader) {
			calls++
			left = r.Left()
		})
		if e != x.e || calls != 1 || left != len(x.b) {
			t.Errorf("%x: %v, %d calls, %d left", x.b, e, calls, left)
		}
		if e := tape.Read(x.b, nil); e != x.e {
			t.Errorf("%x by a nil f: %v", x.b, e)
		}
	}
}

// P1.2: Fail ends f with any error; OK is none.
func TestFail(t *testing.T) {
	for _, want := range []api.Errno{api.ErrNil, api.ErrArg, api.ErrEnd, api.ErrForm, api.ErrLong, api.ErrTrail, api.ErrName, api.ErrTime, 99, 1000, -1} {
		for _, s := range []string{"", "\x01", "\x80"} {
			behind := false
			e := tape.Read([]byte(s), func(r *tape.Reader) {
				r.Fail(want)
				behind = true
			})
			if e != want || behind {
				t.Errorf("Fail(%d) with %x: %v (gone on: %v)", want, s, e, behind)
			}
		}
	}
	n := 0
	e := tape.Read([]byte("\x05"), func(r *tape.Reader) {
		r.Fail(api.OK)
		n = r.Number(9)
		r.Fail(api.OK)
	})
	if e != api.OK || n != 5 {
		t.Errorf("Fail(OK): %v, %d", e, n)
	}
	e = tape.Read([]byte("\x05"), func(r *tape.Reader) { r.Fail(api.OK) })
	if e != api.ErrTrail {
		t.Errorf("Fail(OK) with a byte left: %v", e)
	}
}

// P1.2: an error ends f at once, wherever it is; what f deferred is done.
func TestErrorEndsAtOnce(t *testing.T) {
	for _, x := range []struct {
		fault func(r *tape.Reader)
		e     api.Errno
	}{
		{func(r *tape.Reader) { r.Number(9) }, api.ErrForm},
		{func(r *tape.Reader) { r.Text(9) }, api.ErrForm},
		{func(r *tape.Reader) { r.Fail(api.ErrName) }, api.ErrName},
	} {
		steps := ""
		inner := func(r *tape.Reader) {
			defer func() { steps += "d" }()
			for range 3 {
				steps += "b"
				x.fault(r)
				steps += "-"
			}
		}
		e := tape.Read([]byte("\x01\x80\x00"), func(r *tape.Reader) {
			defer func() { steps += "f" }()
			defer func() { steps += "e" }()
			r.Number(9)
			steps += "a"
			func() { inner(r) }()
			steps += "-"
			defer func() { steps += "-" }()
		})
		if e != x.e || steps != "abdef" {
			t.Errorf("%v, not %v; steps %q", e, x.e, steps)
		}
	}
}

// What Read is handed is not changed, its spare room included; a text is new memory, its spare room too.
func TestReadNew(t *testing.T) {
	room := []byte("\x02ab\x02cd!!")
	var one, two []byte
	e := tape.Read(room[:6], func(r *tape.Reader) {
		one = r.Text(2)
		copy(one, "zz")
		one = append(one, "yyyyyyyy"...)
		two = r.Text(2)
	})
	if e != api.OK || string(two) != "cd" || string(room) != "\x02ab\x02cd!!" {
		t.Errorf("%v: %q, %q", e, two, room)
	}
	two = append(two, "xxxxxxxx"...)
	if string(one) != "zzyyyyyyyy" || string(room) != "\x02ab\x02cd!!" {
		t.Errorf("%q, %q", one, room)
	}
	copy(room, bytes.Repeat([]byte("-"), len(room)))
	if string(one) != "zzyyyyyyyy" || string(two) != "cdxxxxxxxx" {
		t.Errorf("%q, %q", one, two)
	}
}

// Bytes that are only spare room aren't read.
func TestReadNoSpareRoom(t *testing.T) {
	room := []byte("\x82\x01ab")
	if e := tape.Read(room[:1], func(r *tape.Reader) { r.Number(999) }); e != api.ErrEnd {
		t.Errorf("number: %v", e)
	}
	room = []byte("\x02ab")
	if e := tape.Read(room[:2], func(r *tape.Reader) { r.Text(9) }); e != api.ErrEnd {
		t.Errorf("text: %v", e)
	}
}

// stays fails the test unless the reader answers 0 and nothing.
func stays(t *testing.T, what string, r *tape.Reader) {
	t.Helper()
	defer func() {
		t.Helper()
		if x := recover(); x != nil {
			t.Errorf("%s: panic %v", what, x)
		}
	}()
	if n := r.Number(math.MaxInt64); n != 0 {
		t.Errorf("%s: the number %d", what, n)
	}
	if b := r.Text(math.MaxInt64); len(b) != 0 {
		t.Errorf("%s: the text %q", what, b)
	}
	if n := r.Left(); n != 0 {
		t.Errorf("%s: %d left", what, n)
	}
	r.Number(-1)
	r.Text(-1)
	r.Fail(api.OK)
	r.Fail(api.ErrTag)
}

// A nil reader, or one whose Read has ended, in whatever way: 0, nothing, and nothing happens.
func TestReaderEnded(t *testing.T) {
	stays(t, "nil", nil)
	for _, x := range []struct {
		what string
		f    func(r *tape.Reader)
	}{
		{"ended well", func(r *tape.Reader) { r.Text(9) }},
		{"bytes left", func(r *tape.Reader) {}},
		{"ended by an error", func(r *tape.Reader) { r.Number(0) }},
		{"ended by Fail", func(r *tape.Reader) { r.Fail(api.ErrName) }},
		{"ended by a panic", func(r *tape.Reader) { panic(x42) }},
	} {
		var kept *tape.Reader
		func() {
			defer func() { recover() }()
			tape.Read([]byte("\x02ab"), func(r *tape.Reader) {
				kept = r
				x.f(r)
			})
		}()
		stays(t, x.what, kept)
	}
}

// A reader that has ended does nothing to a Read that is under way, nor does a nil one.
func TestReaderEndedWithinRead(t *testing.T) {
	var kept *tape.Reader
	tape.Read([]byte("\x01a"), func(r *tape.Reader) { kept = r })
	n := 0
	e := tape.Read([]byte("\x05"), func(r *tape.Reader) {
		stays(t, "ended ahead of this Read", kept)
		stays(t, "nil", nil)
		n = r.Number(9)
	})
	if e != api.OK || n != 5 {
		t.Errorf("%v, %d", e, n)
	}
}
