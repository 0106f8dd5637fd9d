package formula_test

import (
	"bytes"
	"strings"
	"testing"

	"entente/api"
	"entente/formula"
	"entente/tape"
)

// put a formula behind a number: the bytes, and whether it was put.
func put(f api.Formula) (string, bool) {
	var p tape.Pen
	p.Number(300)
	ok := formula.Put(&p, f)
	return string(p.Bytes()), ok
}

// got is what Get reads of b, how many bytes were left at its end, and what Read answers.
func got(b string) (f api.Formula, left int, e api.Errno) {
	e = tape.Read([]byte(b), func(r *tape.Reader) {
		defer func() { left = r.Left() }()
		f = formula.Get(r)
	})
	return f, left, e
}

// none fails the test unless there is just an error.
func none(t *testing.T, b string, want api.Errno) {
	t.Helper()
	if f, _, e := got(b); !formula.Same(f, api.Formula{}) || e != want {
		t.Errorf("%q: %v, %v, not %v", b, f, e, want)
	}
}

// P11.2: the bytes: Op; an Atom's Role; K of AtK; how many Kids, and each.
func TestPut(t *testing.T) {
	for i, x := range known {
		if b, ok := put(x.f); !ok || b != "\xac\x02"+x.b {
			t.Errorf("%d: %q", i, b)
		}
	}
}

// P11.2: nothing is written of one that isn't right, wherever it is wrong.
func TestPutNot(t *testing.T) {
	for i, f := range append(wrong(), endless(), doubled(5000, all()), all(times(1<<20, all())...)) {
		for _, x := range []api.Formula{f, all(atom("a.r"), f), atK(1, f, all())} {
			if b, ok := put(x); ok || b != "\xac\x02" {
				t.Errorf("%d: %v, %.40q", i, ok, b)
			}
		}
	}
}

// A nil pen writes nothing.
func TestPutNil(t *testing.T) {
	for i, f := range append(right(), wrong()...) {
		if formula.Put(nil, f) {
			t.Errorf("%d is put", i)
		}
	}
}

// P11.2, P11.3: what is put is got, with whatever is behind it.
func TestGet(t *testing.T) {
	for i, x := range known {
		if f, left, e := got(x.b); !formula.Same(f, x.f) || left != 0 || e != api.OK {
			t.Errorf("%d: %v, %d, %v", i, f, left, e)
		}
		for _, behind := range []string{"\x00", "\x01", "\x05\x01"} {
			if f, left, e := got(x.b + behind); !formula.Same(f, x.f) || left != len(behind) || e != api.ErrTrail {
				t.Errorf("%d and %q: %v, %d, %v", i, behind, f, left, e)
			}
		}
		for at := range len(x.b) {
			none(t, x.b[:at], api.ErrEnd)
		}
	}
}

// what may stand behind a fault: it is told all the same.
var behind = []string{"", "\x00", "\x05", "\x01\x01A", "\x01\x01a\x01r", "\x04\x09", "\x80\x00"}

// ahead are bytes behind which a node comes that is neither too deep nor one too many.
var ahead = []string{"", "\x02\x01", "\x03\x02\x01\x01a\x01r", "\x04\x00\x08", "\x02\x02\x03\x00\x04\x01\x01", "\x02\x01\x02\x01\x02\x01\x02\x01\x02\x01"}

// P11.2: an Op that isn't from 1 to 4 fails as soon as it is read.
func TestGetOp(t *testing.T) {
	for _, a := range ahead {
		for _, op := range []string{"\x00", "\x05", "\x08", "\x7f", "\x81\x02", "\x84\x80\x80\x80\x10", "\xff\xff\xff\xff\xff\xff\xff\xff\x7f", "\x81\x00", "\xff\xff\xff\xff\xff\xff\xff\xff\xff"} {
			for _, b := range behind {
				none(t, a+op+b, api.ErrForm)
			}
		}
		none(t, a, api.ErrEnd)
		none(t, a+"\x81", api.ErrEnd)
		none(t, a+"\xff\xff\xff\xff\xff\xff\xff\xff", api.ErrEnd)
	}
}

// P11.2: a number of Kids, or a K, above 8 fails as soon as it is read.
func TestGetLong(t *testing.T) {
	for _, a := range ahead[:5] {
		for _, long := range []string{"\x09", "\x0a", "\x7f", "\x80\x01", "\xff\xff\xff\xff\xff\xff\xff\xff\x7f"} {
			for _, b := range behind {
				none(t, a+"\x02"+long+b, api.ErrLong)
				none(t, a+"\x03"+long+b, api.ErrLong)
				none(t, a+"\x04"+long+b, api.ErrLong)
				none(t, a+"\x04\x00"+long+b, api.ErrLong)
				none(t, a+"\x04\x08"+long+b, api.ErrLong)
			}
		}
	}
	none(t, "\x02\x80\x00", api.ErrForm)
	none(t, "\x04\x80\x00", api.ErrForm)
	none(t, "\x04\x01\x80\x00", api.ErrForm)
}

// P11.2: layer 3's errors of an Atom's names.
func TestGetName(t *testing.T) {
	for _, a := range ahead {
		for _, b := range behind {
			none(t, a+"\x01\x00"+b, api.ErrName)
			none(t, a+"\x01\x01A"+b, api.ErrName)
			none(t, a+"\x01\x01a\x00"+b, api.ErrName)
			none(t, a+"\x01\x01a\x01R"+b, api.ErrName)
			none(t, a+"\x01\x03a.r"+b, api.ErrName)
			none(t, a+"\x01\x11"+longest+"q"+b, api.ErrLong)
			none(t, a+"\x01\x01a\x11"+longest+"q"+b, api.ErrLong)
			none(t, a+"\x01\x81\x00"+b, api.ErrForm)
		}
	}
}

// P11.2: a node 7 deep fails as soon as its Op is read, right or not, and not ahead of that.
func TestGetDeep(t *testing.T) {
	for _, level := range []string{"\x02\x01", "\x03\x02\x01\x01a\x01r", "\x04\x01\x01", "\x04\x00\x02\x02\x00"} {
		five := strings.Repeat(level, 5)
		six := five + "\x03\x01"
		none(t, six, api.ErrEnd)
		none(t, six+"\x81", api.ErrEnd)
		for _, op := range []string{"\x01", "\x02", "\x03", "\x04", "\x00", "\x05", "\x81\x01"} {
			for _, b := range behind {
				none(t, six+op+b, api.ErrForm)
			}
		}
		for _, last := range []string{"\x01\x01a\x01r", "\x02\x00"} {
			if f, left, e := got(five + last); !formula.Right(f) || left != 0 || e != api.OK {
				t.Errorf("%q: %d, %v", level, left, e)
			}
		}
	}
}

// P11.2: the 65th node fails as soon as its Op is read, right or not, and not ahead of that.
func TestGetMany(t *testing.T) {
	// 62 nodes: one, 6 below it with 8 Atoms each, and the 7th, of whose 8 Kids 6 are there.
	a := "\x02\x08" + strings.Repeat("\x03\x08"+strings.Repeat("\x01\x01a\x01r", 8), 6) + "\x04\x00\x08" + strings.Repeat("\x02\x00", 6)
	for _, full := range []string{a + "\x02\x01\x03\x00", a + "\x02\x00\x02\x00"} {
		none(t, full, api.ErrEnd)
		none(t, full+"\x81", api.ErrEnd)
		for _, op := range []string{"\x01", "\x02", "\x03", "\x04", "\x00", "\x05", "\x81\x01"} {
			for _, b := range behind {
				none(t, full+op+b, api.ErrForm)
			}
		}
	}
	// With an Atom less there is room for all.
	less := strings.Replace(a, "\x03\x08\x01\x01a\x01r", "\x03\x07", 1)
	if f, left, e := got(less + "\x02\x00\x02\x00\x02\x00"); !formula.Right(f) || left != 0 || e != api.OK {
		t.Errorf("64 nodes: %d, %v", left, e)
	}
}

// P11.2: what isn't right otherwise: told behind all of it, and ahead of what trails.
func TestGetForm(t *testing.T) {
	for _, x := range []string{
		"\x04\x00\x00",
		"\x04\x01\x00",
		"\x04\x08\x00",
		"\x04\x02\x01\x01\x01a\x01r",
		"\x04\x08\x01\x02\x00",
		"\x04\x03\x02\x02\x00\x03\x00",
		"\x02\x02\x04\x01\x00\x01\x01a\x01r",
		"\x03\x01\x02\x01\x04\x02\x01\x03\x00",
		"\x04\x01\x02\x04\x02\x01\x03\x00\x02\x00",
	} {
		for _, b := range behind {
			none(t, x+b, api.ErrForm)
		}
		for at := range len(x) {
			none(t, x[:at], api.ErrEnd)
		}
	}
	none(t, "\x04\x02\x01\x01\x00", api.ErrName)
	none(t, "\x02\x02\x04\x01\x00\x01\x01A", api.ErrName)
	none(t, "\x02\x02\x04\x01\x00\x02\x09", api.ErrLong)
}

// P11.2: an error ends the reading at once.
func TestGetEndsReading(t *testing.T) {
	for _, b := range []string{"", "\x00", "\x05", "\x02\x09", "\x04\x09", "\x01\x01A\x01r", "\x01\x01a", "\x04\x00\x00\x00", "\x04\x02\x01\x02\x00\x00", strings.Repeat("\x02\x01", 7)} {
		went := false
		tape.Read([]byte(b), func(r *tape.Reader) {
			formula.Get(r)
			went = true
		})
		if went {
			t.Errorf("%q: the reading goes on", b)
		}
	}
}

// P11.2: of a nil reader, of one that has ended, and of the zero value: the zero formula.
func TestGetOfNone(t *testing.T) {
	var well, failed *tape.Reader
	if e := tape.Read(nil, func(r *tape.Reader) { well = r }); e != api.OK {
		t.Fatal(e)
	}
	tape.Read([]byte("\x02\x00\x02\x00"), func(r *tape.Reader) {
		failed = r
		formula.Get(r)
		r.Fail(api.ErrArg)
	})
	for i, r := range []*tape.Reader{nil, well, failed, {}} {
		if f := formula.Get(r); !formula.Same(f, api.Formula{}) {
			t.Errorf("%d: %v", i, f)
		}
	}
}

// P11.2, P11.3: several, one behind the other; of each all its nodes are counted anew.
func TestGetSeveral(t *testing.T) {
	var p tape.Pen
	for range 2 {
		for _, f := range right() {
			formula.Put(&p, f)
			p.Number(300)
		}
	}
	e := tape.Read(p.Bytes(), func(r *tape.Reader) {
		for range 2 {
			for i, f := range right() {
				if x := formula.Get(r); !formula.Same(x, f) || r.Number(300) != 300 {
					t.Errorf("%d: %v", i, x)
				}
			}
		}
	})
	if e != api.OK {
		t.Error(e)
	}
}

// P11.3: bytes that are got whole are those that are put: all short ones of such bytes as are of account.
func TestGetThenPut(t *testing.T) {
	whole := 0
	var try func(b []byte)
	try = func(b []byte) {
		f, _, e := got(string(b))
		if e == api.OK {
			whole++
			if out, ok := put(f); !ok || !formula.Right(f) || out != "\xac\x02"+string(b) {
				t.Errorf("%q: %v is put as %q", b, f, out)
			}
		} else if !formula.Same(f, api.Formula{}) && e != api.ErrTrail {
			t.Errorf("%q: %v beside %v", b, f, e)
		}
		if e != api.ErrEnd || len(b) == 8 {
			return // With more bytes the same is told, or there are too many of them.
		}
		for _, x := range []byte("\x00\x01\x02\x03\x04\x05\x09a\x80") {
			try(append(bytes.Clone(b), x))
		}
	}
	try(nil)
	if whole < 100 {
		t.Errorf("only %d are got", whole)
	}
}

// P11.2: the order of the bytes, by hand; ones that aren't right are as empty ones.
func TestCompare(t *testing.T) {
	rising := []api.Formula{
		{},
		atom("a.a"), atom("a.b"), atom("a.aa"), atom("b.a"), atom("a-.a"),
		all(), all(atom("b.s")), all(all()), all(some(all())), all(some(some())), all(atom("a.r"), atom("b.s")), all(atom("b.s"), atom("a.r")), all(all(), all()), all(all(), all(), all()),
		some(), some(atom("a.a")), some(all(), atom("a.a")),
		atK(0, atom("a.r")), atK(0, all()), atK(0, atom("a.r"), atom("a.r")), atK(1, atom("a.r")), atK(1, atom("a.s")), atK(1, atom("a.r"), atom("a.r")), atK(2, atom("a.r"), atom("a.r")),
	}
	for i, a := range rising {
		for k, b := range rising {
			want := 0
			if i < k {
				want = -1
			} else if i > k {
				want = 1
			}
			if n := formula.Compare(a, b); n != want {
				t.Errorf("%v and %v: %d, not %d", a, b, n, want)
			}
		}
	}
	for i, f := range wrong() {
		for _, x := range wrong() {
			if formula.Compare(f, x) != 0 {
				t.Errorf("%d has bytes", i)
			}
		}
		for _, x := range right() {
			if formula.Compare(f, x) != -1 || formula.Compare(x, f) != 1 {
				t.Errorf("%d isn't ahead of %v", i, x)
			}
		}
	}
	if formula.Compare(endless(), all()) != -1 || formula.Compare(all(), endless()) != 1 || formula.Compare(endless(), doubled(5000, all())) != 0 {
		t.Error("one without an end has bytes")
	}
}
