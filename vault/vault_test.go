package vault_test

import (
	"bytes"
	"math"
	"strconv"
	"testing"

	"entente/api"
	"entente/cred"
	"entente/vault"
)

// longest name: of 16 signs.
const longest = "abcdefghijklmn-9"

// texts of right credentials by their bytes, rising: by kinds, then by the lengths of names ahead of their signs.
var texts = []string{
	"a.r <- a",
	"a.r <- d",
	"a.r <- ann",
	"a.s <- a",
	"b.r <- a",
	"aa.r <- r",
	"ann.r <- a",
	"ann.deal <- ann",
	longest + ".r <- d",
	"a.r <- a.r",
	"a.r <- a.s",
	"a.r <- b.a",
	"ann.r <- a.r",
	"a.r <- a.r.t",
	"a.r <- a.s.r",
	"b.deal <- b.partner.member",
	"a.r <- a.s & b.r",
	"b.deal <- a.r & ann.r",
	"ann.deal <- d.s & d.t",
}

// wrong credentials.
var wrong = []api.Cred{
	{},
	{Kind: api.Member},
	{Kind: api.Member, Head: api.Role{Owner: "a", Word: "r"}},
	{Kind: api.Member, Who: "a"},
	{Kind: api.Member, Head: api.Role{Owner: "a"}, Who: "a"},
	{Kind: api.Member, Head: api.Role{Word: "r"}, Who: "a"},
	{Kind: api.Member, Head: api.Role{Owner: "A", Word: "r"}, Who: "a"},
	{Kind: api.Member, Head: api.Role{Owner: "a", Word: "r"}, Who: "A"},
	{Kind: api.Member, Head: api.Role{Owner: "a", Word: "r"}, Who: longest + "a"},
	{Kind: api.Member, Head: api.Role{Owner: "a", Word: "r"}, Who: "a", Word2: "r"},
	{Kind: api.Member, Head: api.Role{Owner: "a", Word: "r"}, Who: "a", B: api.Role{Owner: "a", Word: "r"}},
	{Kind: api.Include, Head: api.Role{Owner: "a", Word: "r"}, Who: "a"},
	{Kind: api.Include, Head: api.Role{Owner: "a", Word: "r"}, B: api.Role{Owner: "a", Word: "s"}, Who: "a"},
	{Kind: api.Linked, Head: api.Role{Owner: "a", Word: "r"}, B: api.Role{Owner: "b", Word: "s"}, Word2: "t"},
	{Kind: api.Both, Head: api.Role{Owner: "a", Word: "r"}, B: api.Role{Owner: "b", Word: "r"}, C: api.Role{Owner: "a", Word: "s"}},
	{Kind: api.Both, Head: api.Role{Owner: "a", Word: "r"}, B: api.Role{Owner: "b", Word: "r"}, C: api.Role{Owner: "b", Word: "r"}},
	{Kind: 0, Head: api.Role{Owner: "a", Word: "r"}, Who: "a"},
	{Kind: 5, Head: api.Role{Owner: "a", Word: "r"}, Who: "a"},
	{Kind: -1, Head: api.Role{Owner: "a", Word: "r"}, Who: "a"},
}

// parsed credential of a text.
func parsed(t *testing.T, text string) api.Cred {
	t.Helper()
	c, ok := cred.Parse(text)
	if !ok {
		t.Fatalf("%q is no credential", text)
	}
	return c
}

// signed credential of a text, with a tag of eight bytes that begins with the number n.
func signed(t *testing.T, text string, n int) api.Signed {
	t.Helper()
	return api.Signed{Cred: parsed(t, text), Tag: []byte{byte(n), byte(n >> 8), 3, 4, 5, 6, 7, 8}}
}

// all of texts, each with a tag of its own.
func all(t *testing.T) []api.Signed {
	t.Helper()
	var l []api.Signed
	for i, text := range texts {
		l = append(l, signed(t, text, i))
	}
	return l
}

// empty vault of a room that is right.
func empty(t *testing.T, room int) *vault.Vault {
	t.Helper()
	v, e := vault.New(room)
	if v == nil || e != api.OK {
		t.Fatalf("room %d: %v", room, e)
	}
	return v
}

// filled vault, with what is handed in and room for more.
func filled(t *testing.T, more int, l ...api.Signed) *vault.Vault {
	t.Helper()
	v := empty(t, len(l)+more)
	for _, s := range l {
		if e := v.Add(s); e != api.OK {
			t.Fatalf("%v: %v", s, e)
		}
	}
	return v
}

// same tells whether two are alike.
func same(a, b api.Signed) bool {
	return a.Cred == b.Cred && bytes.Equal(a.Tag, b.Tag)
}

// none is what Get answers of a credential that isn't held.
func none(s api.Signed, ok bool) bool {
	return s.Cred == api.Cred{} && len(s.Tag) == 0 && !ok
}

// number'th of many right credentials, all unlike.
func number(n int) api.Cred {
	return api.Cred{Kind: api.Member, Head: api.Role{Owner: "a", Word: "r"}, Who: "n" + strconv.Itoa(n)}
}

// P7.1: all rooms that there are, and none beside them.
func TestNew(t *testing.T) {
	for room := range 257 {
		v := empty(t, room)
		if v.Len() != 0 || v.Room() != room || len(v.Creds()) != 0 {
			t.Errorf("room %d: %d, %d", room, v.Len(), v.Room())
		}
	}
	for _, room := range []int{-1, -2, -256, 257, 258, 512, 65536, 1 << 32, 1<<32 + 5, math.MaxInt, math.MinInt} {
		if v, e := vault.New(room); v != nil || e != api.ErrArg {
			t.Errorf("room %d: %v", room, e)
		}
	}
}

// P7.1: each room takes just as many as it says, and then no more.
func TestFull(t *testing.T) {
	for _, room := range []int{0, 1, 2, 17, 255, 256} {
		v := empty(t, room)
		for n := range room {
			if e := v.Add(api.Signed{Cred: number(n), Tag: make([]byte, 8)}); e != api.OK || v.Len() != n+1 || v.Room() != room-n-1 {
				t.Fatalf("room %d, %d: %v, %d, %d", room, n, e, v.Len(), v.Room())
			}
		}
		for n := room; n < room+3; n++ {
			if e := v.Add(api.Signed{Cred: number(n), Tag: make([]byte, 8)}); e != api.ErrFull || v.Len() != room || v.Room() != 0 {
				t.Errorf("room %d, %d: %v, %d, %d", room, n, e, v.Len(), v.Room())
			}
			if !none(v.Get(number(n))) {
				t.Errorf("room %d: %d is held", room, n)
			}
		}
		for n := range room {
			if _, ok := v.Get(number(n)); !ok {
				t.Errorf("room %d: %d isn't held", room, n)
			}
		}
	}
}

// P7.1: what was dropped leaves its room to another one.
func TestRoomAgain(t *testing.T) {
	v := filled(t, 0, signed(t, "a.r <- a", 1))
	b := signed(t, "a.r <- b", 2)
	if e := v.Add(b); e != api.ErrFull {
		t.Errorf("ahead: %v", e)
	}
	if e := v.Drop(parsed(t, "a.r <- a")); e != api.OK || v.Len() != 0 || v.Room() != 1 {
		t.Errorf("%v, %d, %d", e, v.Len(), v.Room())
	}
	if e := v.Add(b); e != api.OK || v.Len() != 1 || v.Room() != 0 {
		t.Errorf("behind: %v, %d, %d", e, v.Len(), v.Room())
	}
	if e := v.Add(signed(t, "a.r <- a", 1)); e != api.ErrFull {
		t.Errorf("the one that was dropped: %v", e)
	}
}

// P7.1: what isn't right, or whose tag hasn't 8 bytes, is told ahead of all else.
func TestAddForm(t *testing.T) {
	var l []api.Signed
	for _, c := range wrong {
		l = append(l, api.Signed{Cred: c, Tag: make([]byte, 8)}, api.Signed{Cred: c})
	}
	for _, text := range append([]string{"d.r <- d"}, texts...) {
		for _, n := range []int{0, 1, 7, 9, 16, 256, 264} {
			l = append(l, api.Signed{Cred: parsed(t, text), Tag: make([]byte, n)})
		}
		// With tags that would have 8 bytes with their spare room.
		l = append(l, api.Signed{Cred: parsed(t, text)}, api.Signed{Cred: parsed(t, text), Tag: make([]byte, 7, 8)})
	}
	for i, v := range []*vault.Vault{empty(t, 0), empty(t, 256), filled(t, 0, all(t)...), filled(t, 3, all(t)...)} {
		held, room := v.Len(), v.Room()
		for _, s := range l {
			if e := v.Add(s); e != api.ErrForm {
				t.Errorf("%d: %v: %v", i, s, e)
			}
		}
		if v.Len() != held || v.Room() != room {
			t.Errorf("%d: now %d, %d", i, v.Len(), v.Room())
		}
	}
}

// P7.1: one that is held is told ahead of the room; its tag stays as it was.
func TestAddTwice(t *testing.T) {
	for _, more := range []int{0, 1, 9} {
		v := filled(t, more, all(t)...)
		for _, s := range all(t) {
			for _, b := range [][]byte{s.Tag, make([]byte, 8), []byte("\xff\xff\xff\xff\xff\xff\xff\xff")} {
				if e := v.Add(api.Signed{Cred: s.Cred, Tag: b}); e != api.ErrTwice {
					t.Errorf("%v: %v", s, e)
				}
			}
			if got, ok := v.Get(s.Cred); !ok || !same(got, s) {
				t.Errorf("%v: %v, now %v", s, ok, got)
			}
		}
		if v.Len() != len(texts) || v.Room() != more {
			t.Errorf("%d more: now %d, %d", more, v.Len(), v.Room())
		}
	}
}

// P7.1: what is dropped isn't held any more, and all else is.
func TestDrop(t *testing.T) {
	for at, x := range all(t) {
		v := filled(t, 0, all(t)...)
		if e := v.Drop(x.Cred); e != api.OK {
			t.Errorf("%v: %v", x, e)
		}
		if e := v.Drop(x.Cred); e != api.ErrNone {
			t.Errorf("%v once more: %v", x, e)
		}
		for i, s := range all(t) {
			got, ok := v.Get(s.Cred)
			if i == at && !none(got, ok) || i != at && (!ok || !same(got, s)) {
				t.Errorf("%v is dropped: %v, %v", x, got, ok)
			}
		}
		if v.Len() != len(texts)-1 || v.Room() != 1 {
			t.Errorf("%v: now %d, %d", x, v.Len(), v.Room())
		}
		// Then it may come again, with another tag.
		again := signed(t, texts[at], 999)
		if e := v.Add(again); e != api.OK {
			t.Errorf("%v again: %v", x, e)
		}
		if got, ok := v.Get(x.Cred); !ok || !same(got, again) {
			t.Errorf("%v again: %v, %v", x, got, ok)
		}
	}
}

// P7.1: what isn't held, right or not, is neither dropped nor got.
func TestNotHeld(t *testing.T) {
	l := append([]api.Cred{parsed(t, "d.r <- d"), parsed(t, "a.r <- an"), parsed(t, "a.t <- a.r"), parsed(t, "zz.z <- zz.y & zz.z")}, wrong...)
	for i, v := range []*vault.Vault{empty(t, 0), empty(t, 256), filled(t, 0, all(t)...), filled(t, 3, all(t)...)} {
		held, room := v.Len(), v.Room()
		for _, c := range l {
			if !none(v.Get(c)) {
				t.Errorf("%d: %v is held", i, c)
			}
			if e := v.Drop(c); e != api.ErrNone {
				t.Errorf("%d: %v: %v", i, c, e)
			}
		}
		if v.Len() != held || v.Room() != room {
			t.Errorf("%d: now %d, %d", i, v.Len(), v.Room())
		}
	}
}

// P7.1: it is got as it was added, whatever its tag is, in whatever order they came.
func TestGet(t *testing.T) {
	l := all(t)
	for i := range l {
		v := filled(t, 0, append(l[i:len(l):len(l)], l[:i]...)...)
		for _, s := range l {
			if got, ok := v.Get(s.Cred); !ok || !same(got, s) {
				t.Errorf("%v: %v, %v", s, got, ok)
			}
		}
	}
}
