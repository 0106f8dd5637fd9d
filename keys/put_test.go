package keys_test

import (
	"bytes"
	"slices"
	"strings"
	"testing"

	"entente/api"
	"entente/cred"
	"entente/keys"
	"entente/tape"
)

// written signed credentials, with their bytes.
var written = []struct{ text, tag, b string }{
	{"a.r <- d", "12345678", "\x01\x01a\x01r\x01d\x0812345678"},
	{"a.r <- d", "\x00\x00\x00\x00\x00\x00\x00\x00", "\x01\x01a\x01r\x01d\x08\x00\x00\x00\x00\x00\x00\x00\x00"},
	{"ann.r <- b.s", "\xff\xfe\xfd\xfc\xfb\xfa\xf9\xf8", "\x02\x03ann\x01r\x01b\x01s\x08\xff\xfe\xfd\xfc\xfb\xfa\xf9\xf8"},
	{"a.r <- a.s.t", "\x01\x02\x03\x04\x05\x06\x07\x08", "\x03\x01a\x01r\x01a\x01s\x01t\x08\x01\x02\x03\x04\x05\x06\x07\x08"},
	{"a.r <- b.s & c.t", "\x08\x08\x08\x08\x08\x08\x08\x08", "\x04\x01a\x01r\x01b\x01s\x01c\x01t\x08\x08\x08\x08\x08\x08\x08\x08\x08"},
}

// of makes a signed credential of its text and tag.
func of(t *testing.T, text, tag string) api.Signed {
	t.Helper()
	return api.Signed{Cred: parsed(t, text)[0], Tag: []byte(tag)}
}

// got is what Get reads of b as the first, how many bytes were left at its end, and what Read answers.
func got(b string) (s api.Signed, left int, e api.Errno) {
	e = tape.Read([]byte(b), func(r *tape.Reader) {
		defer func() { left = r.Left() }()
		s = keys.Get(r)
	})
	return s, left, e
}

// P6.2: its bytes, and the tag as a text, whether it is good or not.
func TestPut(t *testing.T) {
	for _, x := range written {
		var p tape.Pen
		p.Number(300)
		if !keys.Put(&p, of(t, x.text, x.tag)) || string(p.Bytes()) != "\xac\x02"+x.b {
			t.Errorf("%q: %q", x.text, p.Bytes())
		}
	}
}

// P6.2: one that isn't right, or whose tag hasn't 8 bytes: nothing is written.
func TestPutNot(t *testing.T) {
	var l []api.Signed
	for _, c := range wrong {
		l = append(l, api.Signed{Cred: c, Tag: []byte("12345678")}, api.Signed{Cred: c, Tag: []byte("1234567")})
	}
	for _, x := range written {
		for _, n := range []int{0, 1, 2, 3, 4, 5, 6, 7, 9, 10, 16, 64, 255, 264, 2048, 2049, 65544} {
			l = append(l, of(t, x.text, strings.Repeat("t", n)))
		}
		l = append(l, api.Signed{Cred: parsed(t, x.text)[0]}, of(t, x.text, x.tag+"\x00"))
		// With a tag that would have 8 bytes by its spare room.
		s := of(t, x.text, x.tag)
		s.Tag = s.Tag[:7]
		l = append(l, s)
	}
	for _, s := range l {
		var p tape.Pen
		p.Number(300)
		if keys.Put(&p, s) || string(p.Bytes()) != "\xac\x02" {
			t.Errorf("%v: %q", s, p.Bytes())
		}
	}
}

// P6.2: a nil pen writes nothing.
func TestPutNil(t *testing.T) {
	for _, x := range written {
		if keys.Put(nil, of(t, x.text, x.tag)) || keys.Put(nil, of(t, x.text, "")) || keys.Put(nil, api.Signed{}) {
			t.Errorf("%q: written", x.text)
		}
	}
}

// P6.2, P6.3: what is put is got.
func TestGet(t *testing.T) {
	for _, x := range written {
		if s, left, e := got(x.b); !same(s, of(t, x.text, x.tag)) || left != 0 || e != api.OK {
			t.Errorf("%q: %v, %v", x.b, s, e)
		}
		if s, left, e := got(x.b + "\x08"); !same(s, of(t, x.text, x.tag)) || left != 1 || e != api.ErrTrail {
			t.Errorf("%q with a byte behind it: %v, %d, %v", x.b, s, left, e)
		}
		for at := range len(x.b) {
			if s, _, e := got(x.b[:at]); !same(s, api.Signed{}) || e != api.ErrEnd {
				t.Errorf("%q: %v, %v", x.b[:at], s, e)
			}
		}
	}
}

// P6.2: what is wrong about the tag, whatever is behind it.
func TestGetTag(t *testing.T) {
	for _, x := range []struct {
		tag string
		e   api.Errno
	}{
		{"\x00", api.ErrForm},
		{"\x01a", api.ErrForm},
		{"\x04abcd", api.ErrForm},
		{"\x07abcdefg", api.ErrForm},
		{"\x88\x00abcdefgh", api.ErrForm},
		{"\x80\x80\x80\x80\x80\x80\x80\x80\x80", api.ErrForm},
		{"\x09abcdefghi", api.ErrLong},
		{"\x10abcdefghabcdefgh", api.ErrLong},
		{"\x88\x01", api.ErrLong},
		{"\xff\xff\xff\xff\xff\xff\xff\xff\x7f", api.ErrLong},
	} {
		for _, w := range written {
			for _, behind := range []string{"", "\x00", "\x08abcdefgh"} {
				head := w.b[:len(w.b)-9]
				if s, _, e := got(head + x.tag + behind); !same(s, api.Signed{}) || e != x.e {
					t.Errorf("%q, %q and %q: %v, %v, not %v", head, x.tag, behind, s, e, x.e)
				}
			}
		}
	}
	for _, tag := range []string{"", "\x01", "\x07abcdef", "\x08abcdefg", "\x88"} {
		if s, _, e := got("\x01\x01a\x01r\x01d" + tag); !same(s, api.Signed{}) || e != api.ErrEnd {
			t.Errorf("%q: %v, %v", tag, s, e)
		}
	}
}

// P6.2: a fault of the credential is told ahead of any of the tag.
func TestGetCred(t *testing.T) {
	for _, x := range []struct {
		b string
		e api.Errno
	}{
		{"\x00", api.ErrForm},
		{"\x05\x01a\x01r\x01d", api.ErrForm},
		{"\x01\x01A\x01r\x01d", api.ErrName},
		{"\x01\x01a\x01r\x01D", api.ErrName},
		{"\x01\x01a\x01r\x00", api.ErrName},
		{"\x01\x01a\x11abcdefghijklmnopq\x01d", api.ErrLong},
		{"\x03\x01a\x01r\x01b\x01s\x01t", api.ErrForm},
		{"\x04\x01a\x01r\x01c\x01t\x01b\x01s", api.ErrForm},
	} {
		for _, tag := range []string{"", "\x0812345678", "\x00", "\x07abcdefg", "\x09abcdefghi", "\x08", "\x88\x00"} {
			if s, _, e := got(x.b + tag); !same(s, api.Signed{}) || e != x.e {
				t.Errorf("%q and %q: %v, %v, not %v", x.b, tag, s, e, x.e)
			}
		}
	}
}

// P6.2: an error ends the reading at once.
func TestGetEndsReading(t *testing.T) {
	for _, b := range []string{"", "\x05", "\x01\x01a\x01r\x01D\x0812345678\x01", "\x01\x01a\x01r\x01d", "\x01\x01a\x01r\x01d\x00\x01", "\x01\x01a\x01r\x01d\x071234567\x01", "\x01\x01a\x01r\x01d\x09123456789\x01"} {
		went := false
		tape.Read([]byte(b), func(r *tape.Reader) {
			keys.Get(r)
			went = true
		})
		if went {
			t.Errorf("%q: the reading goes on", b)
		}
	}
}

// P6.2: of a nil reader, of one that has ended, and of the zero value: the zero one.
func TestGetOfNone(t *testing.T) {
	var well, failed *tape.Reader
	if e := tape.Read(nil, func(r *tape.Reader) { well = r }); e != api.OK {
		t.Fatal(e)
	}
	tape.Read([]byte(written[0].b+written[1].b), func(r *tape.Reader) {
		failed = r
		keys.Get(r)
		r.Fail(api.ErrArg)
	})
	for i, r := range []*tape.Reader{nil, well, failed, {}} {
		if s := keys.Get(r); s.Cred != (api.Cred{}) || len(s.Tag) != 0 {
			t.Errorf("%d: %v", i, s)
		}
	}
}

// P6.3: several, one behind the other; what was signed is checked when it was got.
func TestPutThenGet(t *testing.T) {
	var p tape.Pen
	for _, s := range signed(t) {
		if !keys.Put(&p, s) {
			t.Errorf("%v isn't put", s)
		}
		p.Number(300)
	}
	g := registry(t, held()...)
	var l []api.Signed
	e := tape.Read(p.Bytes(), func(r *tape.Reader) {
		for r.Left() > 0 {
			l = append(l, keys.Get(r))
			r.Number(300)
		}
	})
	if e != api.OK || !slices.EqualFunc(l, signed(t), same) || !slices.Equal(g.Good(l...), parsed(t, texts...)) {
		t.Errorf("%v, %v", e, l)
	}
}

// P6.3: whatever is got is put so again: each byte in the stead of each of one's.
func TestGetThenPut(t *testing.T) {
	count := 0
	for _, x := range written {
		for at := range len(x.b) {
			for b := range 256 {
				in := x.b[:at] + string([]byte{byte(b)}) + x.b[at+1:]
				s, _, e := got(in)
				if e != api.OK {
					continue
				}
				count++
				var p tape.Pen
				if !cred.Right(s.Cred) || !keys.Put(&p, s) || string(p.Bytes()) != in {
					t.Errorf("%q: %v is put as %q", in, s, p.Bytes())
				}
			}
		}
	}
	// Each byte of the tags alone may be any.
	if count < len(written)*8*256 {
		t.Errorf("only %d were got whole", count)
	}
}

// What is got is new memory: it shares nothing with the bytes that are read, nor with another one.
func TestGetAnswersNew(t *testing.T) {
	in := []byte(written[0].b + written[1].b)
	want := bytes.Clone(in)
	var l []api.Signed
	tape.Read(in, func(r *tape.Reader) { l = append(l, keys.Get(r), keys.Get(r)) })
	if len(l) != 2 {
		t.Fatalf("%v", l)
	}
	spoil(l[0].Tag)
	if !bytes.Equal(in, want) || !same(l[1], of(t, written[1].text, written[1].tag)) {
		t.Errorf("the first tag is shared: %q, %v", in, l[1])
	}
	spoil(in)
	if !same(l[1], of(t, written[1].text, written[1].tag)) {
		t.Errorf("what was read is kept: %v", l[1])
	}
}

// What is put is neither kept nor changed.
func TestPutKeepsNothing(t *testing.T) {
	room := []byte("12345678spare")
	s := api.Signed{Cred: parsed(t, "a.r <- d")[0], Tag: room[:8]}
	var p tape.Pen
	if !keys.Put(&p, s) || string(room) != "12345678spare" {
		t.Errorf("now %q", room)
	}
	spoil(room)
	if string(p.Bytes()) != written[0].b {
		t.Errorf("kept: %q", p.Bytes())
	}
}
