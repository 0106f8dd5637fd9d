package cred_test

import (
	"slices"
	"testing"

	"entente/api"
	"entente/cred"
	"entente/tape"
)

// got is what Get reads of b as the first, how many bytes were left at its end, and what Read answers.
func got(b string) (c api.Cred, left int, e api.Errno) {
	e = tape.Read([]byte(b), func(r *tape.Reader) {
		defer func() { left = r.Left() }()
		c = cred.Get(r)
	})
	return c, left, e
}

// P5.2, P5.4: what has bytes is got.
func TestGet(t *testing.T) {
	for _, x := range known {
		if c, left, e := got(string(cred.Bytes(x.c))); c != x.c || left != 0 || e != api.OK {
			t.Errorf("%q: %v, %v", x.text, c, e)
		}
		if c, left, e := got(x.b + "\x00"); c != x.c || left != 1 || e != api.ErrTrail {
			t.Errorf("%q with a byte behind it: %v, %d, %v", x.text, c, left, e)
		}
	}
}

// P5.2: the bytes end wherever they may.
func TestGetEnds(t *testing.T) {
	for _, x := range known {
		for at := range len(x.b) {
			if c, _, e := got(x.b[:at]); c != (api.Cred{}) || e != api.ErrEnd {
				t.Errorf("%q: %v, %v", x.b[:at], c, e)
			}
		}
	}
}

// P5.2: the Kind is asked as soon as it is read.
func TestGetKind(t *testing.T) {
	for _, kind := range []string{"\x00", "\x05", "\x7f", "\x81\x01", "\x81\x02", "\x84\x80\x80\x80\x10", "\xff\xff\xff\xff\xff\xff\xff\xff\x7f"} {
		for _, rest := range []string{"", "\x01a\x01r\x01d", "\x00", "\x01A", "\x81\x00", "\x11"} {
			if c, left, e := got(kind + rest); c != (api.Cred{}) || left != len(rest) || e != api.ErrForm {
				t.Errorf("%q and %q: %v, %d, %v", kind, rest, c, left, e)
			}
		}
	}
	for _, x := range []struct {
		b string
		e api.Errno
	}{
		{"", api.ErrEnd},
		{"\x81", api.ErrEnd},
		{"\xff\xff\xff\xff\xff\xff\xff\xff", api.ErrEnd},
		{"\x81\x00", api.ErrForm},
		{"\xff\xff\xff\xff\xff\xff\xff\xff\xff", api.ErrForm},
	} {
		if c, _, e := got(x.b); c != (api.Cred{}) || e != x.e {
			t.Errorf("%q: %v, %v, not %v", x.b, c, e, x.e)
		}
	}
}

// names that any credential's bytes have, each with its length, and how many.
var names = []struct {
	kind string
	n    int
}{{"\x01", 3}, {"\x02", 4}, {"\x03", 5}, {"\x04", 6}}

// P5.2: of the parts the first that fails is told, whatever is behind it.
func TestGetFirstFault(t *testing.T) {
	faults := []struct {
		b string
		e api.Errno
	}{
		{"\x00", api.ErrName},
		{"\x01A", api.ErrName},
		{"\x03a.b", api.ErrName},
		{"\x01\xff", api.ErrName},
		{"\x11abcdefghijklmnopq", api.ErrLong},
		{"\xff\xff\x7f", api.ErrLong},
		{"\x81\x00", api.ErrForm},
		{"\x80\x80\x80\x80\x80\x80\x80\x80\x80", api.ErrForm},
	}
	for _, x := range names {
		for at := range x.n {
			// The names ahead of it are right, though what they make together isn't.
			ahead := x.kind
			for i := range at {
				ahead += "\x01" + string(rune('z'-i))
			}
			for _, fault := range faults {
				for _, behind := range []string{"", "\x00", "\x01A\x01A\x01A\x01A\x01A\x01A", "\x01a\x01a\x01a\x01a\x01a\x01a\x01a", "\x11", "\x81\x00"} {
					if c, _, e := got(ahead + fault.b + behind); c != (api.Cred{}) || e != fault.e {
						t.Errorf("%q, %q and %q: %v, %v, not %v", ahead, fault.b, behind, c, e, fault.e)
					}
				}
			}
		}
	}
}

// P5.2: names that are right, but make none that is right: told behind all of it, and ahead of what trails.
func TestGetForm(t *testing.T) {
	for _, b := range []string{
		"\x03\x01a\x01r\x01b\x01s\x01t",
		"\x03\x01a\x01r\x02aa\x01s\x01t",
		"\x03\x02aa\x01r\x01a\x01s\x01t",
		"\x04\x01a\x01r\x01c\x01t\x01b\x01s",
		"\x04\x01a\x01r\x01b\x01s\x01b\x01s",
		"\x04\x01a\x01r\x01b\x01t\x01b\x01s",
		"\x04\x01a\x01r\x01b\x01a\x02ab\x01c",
		"\x04\x01a\x01r\x02a-\x01b\x01a\x01z",
	} {
		for _, rest := range []string{"", "\x00", "\x01a"} {
			if c, left, e := got(b + rest); c != (api.Cred{}) || left != len(rest) || e != api.ErrForm {
				t.Errorf("%q and %q: %v, %d, %v", b, rest, c, left, e)
			}
		}
		for at := range len(b) {
			if c, _, e := got(b[:at]); c != (api.Cred{}) || e != api.ErrEnd {
				t.Errorf("%q: %v, %v", b[:at], c, e)
			}
		}
	}
}

// P5.2: an error ends the reading at once.
func TestGetEndsReading(t *testing.T) {
	for _, b := range []string{"", "\x00", "\x05", "\x01\x01a\x01r\x01D\x01", "\x01\x01a", "\x03\x01a\x01r\x01b\x01s\x01t\x01", "\x04\x01a\x01r\x01b\x01s\x01b\x01s\x01"} {
		went := false
		tape.Read([]byte(b), func(r *tape.Reader) {
			cred.Get(r)
			went = true
		})
		if went {
			t.Errorf("%q: the reading goes on", b)
		}
	}
}

// P5.2: of a nil reader, of one that has ended, and of the zero value: the zero credential.
func TestGetOfNone(t *testing.T) {
	var well, failed *tape.Reader
	if e := tape.Read(nil, func(r *tape.Reader) { well = r }); e != api.OK {
		t.Fatal(e)
	}
	tape.Read([]byte(known[0].b+known[1].b), func(r *tape.Reader) {
		failed = r
		cred.Get(r)
		r.Fail(api.ErrArg)
	})
	for i, r := range []*tape.Reader{nil, well, failed, {}} {
		if c := cred.Get(r); c != (api.Cred{}) {
			t.Errorf("%d: %v", i, c)
		}
	}
}

// P5.2, P5.4: several, one behind the other.
func TestGetMany(t *testing.T) {
	var p tape.Pen
	for _, x := range known {
		p.Raw(cred.Bytes(x.c))
		p.Number(300)
	}
	var l []api.Cred
	e := tape.Read(p.Bytes(), func(r *tape.Reader) {
		for r.Left() > 0 {
			l = append(l, cred.Get(r))
			r.Number(300)
		}
	})
	if e != api.OK || !slices.Equal(l, right()) {
		t.Errorf("%v, %v", e, l)
	}
}

// P5.4: whatever is got is right, and its bytes are those: each byte in the stead of each of a credential's.
func TestGetThenBytes(t *testing.T) {
	count := 0
	for _, x := range known {
		for at := range len(x.b) {
			for b := range 256 {
				s := x.b[:at] + string([]byte{byte(b)}) + x.b[at+1:]
				c, _, e := got(s)
				if e != api.OK {
					continue
				}
				count++
				if !cred.Right(c) || string(cred.Bytes(c)) != s {
					t.Errorf("%q: %v has the bytes %q", s, c, cred.Bytes(c))
				}
			}
		}
	}
	if count < 1000 {
		t.Errorf("only %d were got whole", count)
	}
}
