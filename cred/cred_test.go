package cred_test

import (
	"slices"
	"strings"
	"testing"

	"entente/api"
	"entente/cred"
)

// longest name: of 16 signs.
const longest = "abcdefghijklmn-9"

// others that are no names.
var others = []string{"", ".", "0", "1a", "-a", "A", "aB", "a b", "a.", ".a", "a.b", "a\x00", "é", "a\xff", longest + "a", strings.Repeat("a", 272)}

// of makes a role of its text.
func of(s string) api.Role {
	owner, word, _ := strings.Cut(s, ".")
	return api.Role{Owner: owner, Word: word}
}

func member(head, who string) api.Cred {
	return api.Cred{Kind: 1, Head: of(head), Who: who}
}

func include(head, b string) api.Cred {
	return api.Cred{Kind: 2, Head: of(head), B: of(b)}
}

func linked(head, b, word string) api.Cred {
	return api.Cred{Kind: 3, Head: of(head), B: of(b), Word2: word}
}

func both(head, b, c string) api.Cred {
	return api.Cred{Kind: 4, Head: of(head), B: of(b), C: of(c)}
}

// known credentials with their texts and bytes, rising: by their bytes, so that a longer name is behind a shorter one.
var known = []struct {
	c       api.Cred
	text, b string
}{
	{member("a.a", "a"), "a.a <- a", "\x01\x01a\x01a\x01a"},
	{member("a.r", "a"), "a.r <- a", "\x01\x01a\x01r\x01a"},
	{member("a.r", "d"), "a.r <- d", "\x01\x01a\x01r\x01d"},
	{member("a.r", "z"), "a.r <- z", "\x01\x01a\x01r\x01z"},
	{member("a.r", "a-"), "a.r <- a-", "\x01\x01a\x01r\x02a-"},
	{member("a.r", longest), "a.r <- " + longest, "\x01\x01a\x01r\x10" + longest},
	{member("a.z", "a"), "a.z <- a", "\x01\x01a\x01z\x01a"},
	{member("a.aa", "a"), "a.aa <- a", "\x01\x01a\x02aa\x01a"},
	{member("b.a", "a"), "b.a <- a", "\x01\x01b\x01a\x01a"},
	{member("b.r", "z"), "b.r <- z", "\x01\x01b\x01r\x01z"},
	{member("aa.a", "a"), "aa.a <- a", "\x01\x02aa\x01a\x01a"},
	{member("shop.member", "ann-2"), "shop.member <- ann-2", "\x01\x04shop\x06member\x05ann-2"},
	{include("a.r", "a.r"), "a.r <- a.r", "\x02\x01a\x01r\x01a\x01r"},
	{include("a.r", "b.s"), "a.r <- b.s", "\x02\x01a\x01r\x01b\x01s"},
	{include("a.r", "b.aa"), "a.r <- b.aa", "\x02\x01a\x01r\x01b\x02aa"},
	{include("a.r", "aa.a"), "a.r <- aa.a", "\x02\x01a\x01r\x02aa\x01a"},
	{include("b-9.z", "a.a"), "b-9.z <- a.a", "\x02\x03b-9\x01z\x01a\x01a"},
	{linked("a.r", "a.r", "r"), "a.r <- a.r.r", "\x03\x01a\x01r\x01a\x01r\x01r"},
	{linked("a.r", "a.s", "t"), "a.r <- a.s.t", "\x03\x01a\x01r\x01a\x01s\x01t"},
	{linked("a.r", "a.s", "aa"), "a.r <- a.s.aa", "\x03\x01a\x01r\x01a\x01s\x02aa"},
	{linked("a.r", "a.aa", "a"), "a.r <- a.aa.a", "\x03\x01a\x01r\x01a\x02aa\x01a"},
	{linked("shop.deal", "shop.partner", "member"), "shop.deal <- shop.partner.member", "\x03\x04shop\x04deal\x04shop\x07partner\x06member"},
	{both("a.r", "a.r", "a.s"), "a.r <- a.r & a.s", "\x04\x01a\x01r\x01a\x01r\x01a\x01s"},
	{both("a.r", "a.z", "a-.b"), "a.r <- a.z & a-.b", "\x04\x01a\x01r\x01a\x01z\x02a-\x01b"},
	{both("a.r", "b.s", "c.t"), "a.r <- b.s & c.t", "\x04\x01a\x01r\x01b\x01s\x01c\x01t"},
	{both("a.r", "b.s", "cc.a"), "a.r <- b.s & cc.a", "\x04\x01a\x01r\x01b\x01s\x02cc\x01a"},
	{both("a.r", "ab.c", "b.a"), "a.r <- ab.c & b.a", "\x04\x01a\x01r\x02ab\x01c\x01b\x01a"},
	{both("b.r", "a.aa", "a.b"), "b.r <- a.aa & a.b", "\x04\x01b\x01r\x01a\x02aa\x01a\x01b"},
}

// right credentials, rising.
func right() []api.Cred {
	var l []api.Cred
	for _, x := range known {
		l = append(l, x.c)
	}
	return l
}

// parts of a credential, one by one.
func parts(c *api.Cred) [8]*string {
	return [8]*string{&c.Head.Owner, &c.Head.Word, &c.Who, &c.B.Owner, &c.B.Word, &c.C.Owner, &c.C.Word, &c.Word2}
}

// wrong credentials: each right one with another kind, with a part that is no name, and with one that its kind hasn't.
func wrong() []api.Cred {
	l := []api.Cred{
		{},
		linked("a.r", "b.s", "t"),
		linked("a.r", "aa.s", "t"),
		linked("aa.r", "a.s", "t"),
		both("a.r", "c.t", "b.s"),
		both("a.r", "b.s", "b.s"),
		both("a.r", "b.t", "b.s"),
		both("a.r", "b.a", "ab.c"),
		both("a.r", "a-.b", "a.z"),
		both("a.r", "a.b", "a.aa"),
	}
	for _, c := range right() {
		for kind := -1; kind <= 6; kind++ {
			if kind != c.Kind {
				x := c
				x.Kind = kind
				l = append(l, x)
			}
		}
		x := c
		x.Kind += 256
		l = append(l, x)
		for i, p := range parts(&c) {
			for _, s := range append(others, "a") {
				// The parts that it has are spoilt, those that it hasn't are added.
				if s == *p || s == "a" && *p != "" {
					continue
				}
				x := c
				*parts(&x)[i] = s
				l = append(l, x)
			}
		}
		for _, r := range []api.Role{of("a.a"), of("z.z"), c.Head} {
			if c.B == (api.Role{}) {
				x := c
				x.B = r
				l = append(l, x)
			}
			if c.C == (api.Role{}) {
				x := c
				x.C = r
				l = append(l, x)
			}
		}
	}
	return l
}

// P5.1: a credential is right, if it has what its kind has.
func TestRight(t *testing.T) {
	for _, x := range known {
		if !cred.Right(x.c) {
			t.Errorf("%q isn't right", x.text)
		}
	}
}

// P5.1: and nothing else.
func TestWrong(t *testing.T) {
	for _, c := range wrong() {
		if cred.Right(c) {
			t.Errorf("%v is right", c)
		}
	}
}

// P5.1: its text.
func TestText(t *testing.T) {
	for _, x := range known {
		if got := cred.Text(x.c); got != x.text {
			t.Errorf("%q, not %q", got, x.text)
		}
	}
}

// P5.1: its bytes.
func TestBytes(t *testing.T) {
	for _, x := range known {
		if got := cred.Bytes(x.c); string(got) != x.b {
			t.Errorf("%q: %q, not %q", x.text, got, x.b)
		}
	}
}

// P5.1: its Head, and what other roles it has, in order, as often as it has them.
func TestRoles(t *testing.T) {
	for _, x := range known {
		want := []api.Role{x.c.Head, x.c.B, x.c.C}[:[]int{0, 1, 2, 2, 3}[x.c.Kind]]
		if got := cred.Roles(x.c); !slices.Equal(got, want) {
			t.Errorf("%q: %q, not %q", x.text, got, want)
		}
	}
}

// P5.1: of one that isn't right there is no text, and there are no bytes and no roles.
func TestNothingOfWrong(t *testing.T) {
	for _, c := range wrong() {
		if s, b, l := cred.Text(c), cred.Bytes(c), cred.Roles(c); s != "" || len(b) != 0 || len(l) != 0 {
			t.Errorf("%v: %q, %q, %q", c, s, b, l)
		}
	}
}

// room lays a list into one that has spare room behind it.
func room(l ...api.Cred) []api.Cred {
	return append(l, member("spare.a", "a"), member("room.a", "a"))[:len(l)]
}

// whole is a list with its spare room.
func whole(l []api.Cred) []api.Cred {
	return l[:len(l)+2]
}

// What is handed in is not changed, its spare room included.
func TestChangesNothing(t *testing.T) {
	l := room(member("b.a", "a"), api.Cred{}, member("a.b", "a"), member("b.a", "a"))
	want := slices.Clone(whole(l))
	cred.Set(l...)
	cred.Has(l, member("a.b", "a"))
	if !slices.Equal(whole(l), want) {
		t.Errorf("now %v", whole(l))
	}
}

// What is answered is new memory, its spare room too, of a list that is a set already too.
func TestSetIsNew(t *testing.T) {
	a, b, c := member("a.b", "a"), member("b.a", "a"), include("a.b", "c.a")
	for _, l := range [][]api.Cred{room(a, b, c), room(c, b, a, b), room(a, a, a)} {
		given := slices.Clone(whole(l))
		one, two := cred.Set(l...), cred.Set(l...)
		want := slices.Clone(two)
		all := one[:cap(one)]
		for i := range all {
			all[i] = member("zz.z", "z")
		}
		if !slices.Equal(whole(l), given) || !slices.Equal(two, want) {
			t.Errorf("shared: %v, %v", whole(l), two)
		}
		for i := range whole(l) {
			whole(l)[i] = member("yy.y", "y")
		}
		if !slices.Equal(two, want) {
			t.Errorf("what was handed in is kept: %v", two)
		}
	}
}

// So are bytes and roles.
func TestPartsAreNew(t *testing.T) {
	for _, x := range known {
		b, l := cred.Bytes(x.c), cred.Roles(x.c)
		clear(b[:cap(b)])
		clear(l[:cap(l)])
		if string(cred.Bytes(x.c)) != x.b || cred.Roles(x.c)[0] != x.c.Head {
			t.Errorf("%q: its bytes or roles are kept", x.text)
		}
	}
}
