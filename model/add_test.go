package model_test

import (
	"slices"
	"testing"

	"entente/api"
	"entente/model"
)

// P8.2: what came, one after the other, and the facts then.
func TestAdd(t *testing.T) {
	for _, x := range []struct {
		what, was, add string
		came           int
		facts          string
	}{
		{"nothing to nothing", "", "", 0, ""},
		{"nothing", "a.r <- d", "", 0, "a.r: d"},
		{"a Member", "", "a.r <- d", 1, "a.r: d"},
		{"the same one", "a.r <- d", "a.r <- d", 0, "a.r: d"},
		{"one twice at once", "a.r <- d", "a.r <- e\n a.r <- e", 1, "a.r: d\n a.r: e"},
		{"what follows already", "a.r <- b.s\n b.s <- d", "a.r <- d", 0, "a.r: d\n b.s: d"},
		{"a Member to an Include", "a.r <- b.s", "b.s <- d", 2, "a.r: d\n b.s: d"},
		{"an Include to a Member", "b.s <- d", "a.r <- b.s", 1, "a.r: d\n b.s: d"},
		{"an Include of none", "b.s <- d", "a.r <- b.t", 0, "b.s: d"},
		{"an Include in between", "a.r <- b.s\n c.t <- d\n c.t <- e", "b.s <- c.t", 4, "a.r: d\n a.r: e\n b.s: d\n b.s: e\n c.t: d\n c.t: e"},
		{"an Include that makes a ring", "a.r <- b.s\n b.s <- d\n a.r <- e", "b.s <- a.r", 1, "a.r: d\n a.r: e\n b.s: d\n b.s: e"},
		{"a Linked", "a.s <- b\n a.s <- c\n b.t <- d\n c.t <- d\n c.t <- e", "a.r <- a.s.t", 2, "a.r: d\n a.r: e\n a.s: b\n a.s: c\n b.t: d\n c.t: d\n c.t: e"},
		{"who is in B, to a Linked", "a.r <- a.s.t\n b.t <- d\n b.t <- e", "a.s <- b", 3, "a.r: d\n a.r: e\n a.s: b\n b.t: d\n b.t: e"},
		{"who is in Word2 of whom, to a Linked", "a.r <- a.s.t\n a.s <- b", "b.t <- d", 2, "a.r: d\n a.s: b\n b.t: d"},
		{"both to a Linked, the last one first", "a.r <- a.s.t", "b.t <- d\n a.s <- b", 3, "a.r: d\n a.s: b\n b.t: d"},
		{"a Both", "b.s <- d\n b.s <- e\n c.t <- e", "a.r <- b.s & c.t", 1, "a.r: e\n b.s: d\n b.s: e\n c.t: e"},
		{"who is in B, to a Both", "a.r <- b.s & c.t\n c.t <- d", "b.s <- d", 2, "a.r: d\n b.s: d\n c.t: d"},
		{"who is in C, to a Both", "a.r <- b.s & c.t\n b.s <- d", "c.t <- d", 2, "a.r: d\n b.s: d\n c.t: d"},
		{"who isn't, to a Both", "a.r <- b.s & c.t\n b.s <- d", "c.t <- e", 1, "b.s: d\n c.t: e"},
		{"who is in both, to a Both", "a.r <- b.s & c.t", "b.s <- d\n c.t <- d", 3, "a.r: d\n b.s: d\n c.t: d"},
		{"a fact that comes in two ways", "a.r <- b.s\n a.r <- c.t\n c.t <- b.s", "b.s <- d", 3, "a.r: d\n b.s: d\n c.t: d"},
		{"what brings much", "a.a <- b.b\n b.b <- c.c & d.d\n d.d <- d.e.f\n d.e <- g\n c.c <- h", "g.f <- h", 4, "a.a: h\n b.b: h\n c.c: h\n d.d: h\n d.e: g\n g.f: h"},
	} {
		m := model.Of(parsed(t, lines(x.was)...))
		if got := m.Add(parsed(t, lines(x.add)...)...); got != x.came {
			t.Errorf("%s: %d came, not %d", x.what, got, x.came)
		}
		if got := told(m.Facts()); !slices.Equal(got, lines(x.facts)) {
			t.Errorf("%s: %q", x.what, got)
		}
		if got := m.Add(parsed(t, lines(x.was+"\n"+x.add)...)...); got != 0 {
			t.Errorf("%s, and all again: %d came", x.what, got)
		}
	}
}

// P8.2: wrong ones bring nothing, alone and beside others.
func TestAddWrong(t *testing.T) {
	for _, c := range wrong {
		m := model.Of(parsed(t, "a.r <- ann", "a.s <- ann", "ann.r <- bob"))
		if got := m.Add(c); got != 0 {
			t.Errorf("%v: %d came", c, got)
		}
		if got := m.Add(c, parsed(t, "b.t <- a.r")[0], c); got != 1 {
			t.Errorf("beside %v: %d came", c, got)
		}
		if got := told(m.Facts()); !slices.Equal(got, []string{"a.r: ann", "a.s: ann", "ann.r: bob", "b.t: ann"}) {
			t.Errorf("%v: %q", c, got)
		}
	}
}

// P8.2: all calls tell what came, not Facts alone.
func TestAddSeen(t *testing.T) {
	m := model.Of(parsed(t, "a.r <- b.s"))
	m.Add(parsed(t, "b.s <- d")...)
	if !m.In(of("a.r"), "d") || !slices.Equal(m.Members(of("a.r")), []string{"d"}) || !slices.Equal(roles(m.Roles("d")), []string{"a.r", "b.s"}) {
		t.Errorf("%q", told(m.Facts()))
	}
	m.Add(parsed(t, "a.r <- c")...)
	if !m.In(of("a.r"), "c") || m.In(of("b.s"), "c") || !slices.Equal(m.Members(of("a.r")), []string{"c", "d"}) || !slices.Equal(roles(m.Roles("c")), []string{"a.r"}) {
		t.Errorf("%q", told(m.Facts()))
	}
}

// P8.2: a long row that closes at last, by its end or by its middle.
func TestAddLongRow(t *testing.T) {
	const n = 20000
	l := row(n)
	m := model.Of(l[:n])
	if got := m.Add(l[n]); got != n+1 {
		t.Errorf("by its end: %d came", got)
	}
	m = model.Of(slices.Concat(l[:n/2], l[n/2+1:]))
	if got := m.Add(l[n/2]); got != n/2+1 {
		t.Errorf("by its middle: %d came", got)
	}
	m = model.Of(nil)
	all := 0
	for _, c := range l {
		all += m.Add(c)
	}
	if all != n+1 {
		t.Errorf("one by one: %d came", all)
	}
}

// Two models know nothing of one another.
func TestApart(t *testing.T) {
	l := parsed(t, "a.r <- b.s", "b.s <- d")
	m, k := model.Of(l), model.Of(l)
	m.Add(api.Cred{Kind: api.Member, Head: of("b.s"), Who: "e"})
	if got := told(k.Facts()); !slices.Equal(got, []string{"a.r: d", "b.s: d"}) {
		t.Errorf("%q", got)
	}
	if got := model.Of(nil).Facts(); len(got) != 0 {
		t.Errorf("%q", told(got))
	}
}
