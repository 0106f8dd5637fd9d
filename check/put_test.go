package check_test

import (
	"bytes"
	"slices"
	"strconv"
	"testing"

	"entente/api"
	"entente/check"
	"entente/tape"
)

// written chains, with their bytes.
var written = []struct {
	chain []string
	b     string
}{
	{nil, "\x00"},
	{[]string{"a.r <- d: d"}, "\x01\x01\x01a\x01r\x01d\x01d"},
	{[]string{"a.r <- d: ann"}, "\x01\x01\x01a\x01r\x01d\x03ann"},
	{[]string{"a.r <- b.s: d", "ann.r <- ann.s.t: " + longest}, "\x02\x02\x01a\x01r\x01b\x01s\x01d\x03\x03ann\x01r\x03ann\x01s\x01t\x10" + longest},
	{[]string{"a.r <- b.s & c.t: d", "a.r <- b.s & c.t: d"}, "\x02\x04\x01a\x01r\x01b\x01s\x01c\x01t\x01d\x04\x01a\x01r\x01b\x01s\x01c\x01t\x01d"},
}

// put a chain behind a number: the bytes, and whether it was put.
func put(l []api.Step) (string, bool) {
	var p tape.Pen
	p.Number(300)
	ok := check.Put(&p, l)
	return string(p.Bytes()), ok
}

// got is what Get reads of b, how many bytes were left at its end, and what Read answers.
func got(b string, most int) (l []api.Step, left int, e api.Errno) {
	e = tape.Read([]byte(b), func(r *tape.Reader) {
		defer func() { left = r.Left() }()
		l = check.Get(r, most)
	})
	return l, left, e
}

// long chain of n steps, that doesn't prove anything.
func long(n int) []api.Step {
	var l []api.Step
	for i := range n {
		c := api.Cred{Kind: api.Include, Head: of("a.r"), B: of("b.r" + strconv.Itoa(i))}
		l = append(l, api.Step{Cred: c, Fact: api.Fact{Role: c.Head, Who: "d"}})
	}
	return l
}

// P9.3: how many, and of each the credential and Who, whether or not they follow.
func TestPut(t *testing.T) {
	for _, x := range written {
		if b, ok := put(steps(t, x.chain...)); !ok || b != "\xac\x02"+x.b {
			t.Errorf("%q: %q", x.chain, b)
		}
	}
}

// P9.3: as many as 256 go, not one more.
func TestPutMost(t *testing.T) {
	for _, n := range []int{127, 128, 255, 256} {
		l := long(n)
		b, ok := put(l)
		if !ok {
			t.Fatalf("%d: it isn't put", n)
		}
		if back, left, e := got(b[2:], n); !slices.Equal(back, l) || left != 0 || e != api.OK {
			t.Errorf("%d: %d, %v", n, len(back), e)
		}
		if back, _, e := got(b[2:], n-1); len(back) != 0 || e != api.ErrLong {
			t.Errorf("%d: %d, %v", n, len(back), e)
		}
	}
	for _, n := range []int{257, 300, 1000} {
		if b, ok := put(long(n)); ok || b != "\xac\x02" {
			t.Errorf("%d: %v, %d bytes", n, ok, len(b))
		}
	}
}

// P9.3: nothing is written if one step isn't right, wherever it is.
func TestPutNot(t *testing.T) {
	good := shop(t)
	var bad []api.Step
	for _, c := range wrong {
		bad = append(bad, api.Step{Cred: c, Fact: api.Fact{Role: c.Head, Who: "ann"}})
	}
	for _, who := range []string{"", "Ann", "1", longest + "a", "a.b", "ann "} {
		s := good[0]
		s.Fact.Who = who
		bad = append(bad, s)
	}
	for _, r := range []string{"", "a.b", "club.", ".member", "club.members", "Club.member"} {
		s := good[0]
		s.Fact.Role = of(r)
		bad = append(bad, s)
	}
	for _, s := range bad {
		for at := range len(good) + 1 {
			if b, ok := put(slices.Insert(slices.Clone(good), at, s)); ok || b != "\xac\x02" {
				t.Errorf("%v at %d: %q", s, at, b)
			}
		}
		if b, ok := put([]api.Step{s}); ok || b != "\xac\x02" {
			t.Errorf("%v alone: %q", s, b)
		}
	}
}

// A nil pen writes nothing.
func TestPutNil(t *testing.T) {
	if check.Put(nil, nil) || check.Put(nil, shop(t)) || check.Put(nil, long(257)) || check.Put(nil, []api.Step{{}}) {
		t.Error("it is put")
	}
}

// P9.3: what is put is got, with whatever is behind it.
func TestGet(t *testing.T) {
	for _, x := range written {
		want := steps(t, x.chain...)
		for _, most := range []int{len(want), len(want) + 1, 256, 257, 1 << 40} {
			if l, left, e := got(x.b, most); !slices.Equal(l, want) || left != 0 || e != api.OK {
				t.Errorf("%q: %q, %v", x.b, told(l), e)
			}
			if l, left, e := got(x.b+"\x07\x08", most); !slices.Equal(l, want) || left != 2 || e != api.ErrTrail {
				t.Errorf("%q and two bytes: %q, %d, %v", x.b, told(l), left, e)
			}
		}
		for at := range len(x.b) {
			if l, _, e := got(x.b[:at], 256); len(l) != 0 || e != api.ErrEnd {
				t.Errorf("%q: %q, %v", x.b[:at], told(l), e)
			}
		}
	}
}

// P9.3: more than go, whatever is behind that number.
func TestGetLong(t *testing.T) {
	for _, x := range written {
		n := len(x.chain)
		for _, most := range []int{n - 1, n - 2, 0, -1, -1 << 40} {
			if most >= n {
				continue
			}
			for _, b := range []string{x.b, x.b[:1], x.b[:1] + "\x00"} {
				if l, _, e := got(b, most); len(l) != 0 || e != api.ErrLong {
					t.Errorf("%q, %d: %q, %v", b, most, told(l), e)
				}
			}
		}
	}
	if l, left, e := got("\x00", 0); len(l) != 0 || left != 0 || e != api.OK {
		t.Errorf("%q, %d, %v", told(l), left, e)
	}
	// So many that room made ahead of them would be too much.
	if l, _, e := got("\xff\xff\xff\xff\xff\xff\xff\xff\x7f\x01", 1<<63-1); len(l) != 0 || e != api.ErrEnd {
		t.Errorf("%q, %v", told(l), e)
	}
}

// P9.3: the first fault of the bytes is told.
func TestGetFaults(t *testing.T) {
	for _, x := range []struct {
		b string
		e api.Errno
	}{
		{"\x80\x00", api.ErrForm},
		{"\x80\x80\x80\x80\x80\x80\x80\x80\x80", api.ErrForm},
		{"\x01\x00", api.ErrForm},
		{"\x01\x05\x01a\x01r\x01d\x01d", api.ErrForm},
		{"\x01\x01\x01A\x01r\x01d\x01d", api.ErrName},
		{"\x01\x01\x01a\x01r\x01D\x00", api.ErrName},
		{"\x01\x01\x01a\x01r\x01d\x00", api.ErrName},
		{"\x01\x01\x01a\x01r\x01d\x01D", api.ErrName},
		{"\x01\x01\x01a\x01r\x01d\x11" + longest + "a", api.ErrLong},
		{"\x01\x03\x01a\x01r\x01b\x01s\x01t\x00", api.ErrForm},
		{"\x01\x04\x01a\x01r\x01c\x01t\x01b\x01s\x00", api.ErrForm},
		{"\x02\x01\x01a\x01r\x01d\x01d\x00", api.ErrForm},
		{"\x02\x01\x01a\x01r\x01d\x01d\x01\x01a\x01r\x01d\x011", api.ErrName},
		{"\x02\x01\x01a\x01r\x01d\x011\x00", api.ErrName},
	} {
		for _, behind := range []string{"", "\x00", "\x01a"} {
			if l, _, e := got(x.b+behind, 3); len(l) != 0 || e != x.e {
				t.Errorf("%q: %q, %v, not %v", x.b+behind, told(l), e, x.e)
			}
		}
	}
}

// A nil reader, or one that has ended, has nothing.
func TestGetNil(t *testing.T) {
	if l := check.Get(nil, 5); len(l) != 0 {
		t.Errorf("%q", told(l))
	}
	var kept *tape.Reader
	tape.Read([]byte(written[1].b), func(r *tape.Reader) { kept = r })
	if l := check.Get(kept, 5); len(l) != 0 {
		t.Errorf("%q", told(l))
	}
}

// P9.3: two behind one another, and what is got is new.
func TestGetTwo(t *testing.T) {
	var p tape.Pen
	l := shop(t)
	check.Put(&p, l)
	check.Put(&p, l[:2])
	b := p.Bytes()
	var first, second []api.Step
	e := tape.Read(b, func(r *tape.Reader) {
		first = check.Get(r, 6)
		second = check.Get(r, 2)
	})
	clear(b)
	if e != api.OK || !slices.Equal(first, l) || !slices.Equal(second, l[:2]) {
		t.Errorf("%q, %q, %v", told(first), told(second), e)
	}
	var again tape.Pen
	if !check.Put(&again, first) || !check.Put(&again, second) || !bytes.Equal(again.Bytes(), p.Bytes()) {
		t.Errorf("%q", again.Bytes())
	}
}
