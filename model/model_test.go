package model_test

import (
	"slices"
	"strconv"
	"strings"
	"testing"

	"entente/api"
	"entente/cred"
	"entente/model"
	"entente/role"
)

// longest name: of 16 signs.
const longest = "abcdefghijklmn-9"

// wrong credentials, each but for one thing like one that would bring something to who is in a.r, or to ann.
var wrong = []api.Cred{
	{},
	{Kind: 0, Head: of("x.y"), Who: "ann"},
	{Kind: 5, Head: of("x.y"), Who: "ann"},
	{Kind: -1, Head: of("x.y"), Who: "ann"},
	{Kind: api.Member, Head: of("x.y")},
	{Kind: api.Member, Head: of("x.y"), Who: "Ann"},
	{Kind: api.Member, Head: of("x.y"), Who: longest + "a"},
	{Kind: api.Member, Head: of("x.Y"), Who: "ann"},
	{Kind: api.Member, Head: of(".y"), Who: "ann"},
	{Kind: api.Member, Head: of("x."), Who: "ann"},
	{Kind: api.Member, Head: of("x.y"), Who: "ann", Word2: "s"},
	{Kind: api.Member, Head: of("x.y"), Who: "ann", B: of("a.r")},
	{Kind: api.Include, Head: of("x.y")},
	{Kind: api.Include, Head: of("x.y"), B: of("a.r"), Who: "ann"},
	{Kind: api.Include, Head: of("x.y"), B: of("a.r"), C: of("a.s")},
	{Kind: api.Include, Head: of("X.y"), B: of("a.r")},
	{Kind: api.Linked, Head: of("x.y"), B: of("a.r"), Word2: "r"},
	{Kind: api.Linked, Head: of("a.y"), B: of("a.r")},
	{Kind: api.Linked, Head: of("a.y"), B: of("a.r"), Word2: "R"},
	{Kind: api.Linked, Head: of("a.y"), B: of("a.r"), Word2: "r", Who: "ann"},
	{Kind: api.Both, Head: of("x.y"), B: of("a.r"), C: of("a.r")},
	{Kind: api.Both, Head: of("x.y"), B: of("a.s"), C: of("a.r")},
	{Kind: api.Both, Head: of("x.y"), B: of("a.r")},
	{Kind: api.Both, Head: of("x.y"), B: of("a.r"), C: of("a.s"), Word2: "r"},
}

// of makes a role of its text, right or not.
func of(s string) api.Role {
	owner, word, _ := strings.Cut(s, ".")
	return api.Role{Owner: owner, Word: word}
}

// parsed credentials of their texts.
func parsed(t *testing.T, texts ...string) []api.Cred {
	t.Helper()
	var l []api.Cred
	for _, text := range texts {
		c, ok := cred.Parse(text)
		if !ok {
			t.Fatalf("%q is no credential", text)
		}
		l = append(l, c)
	}
	return l
}

// lines of a text, trimmed, without empty ones.
func lines(s string) []string {
	var l []string
	for line := range strings.Lines(s) {
		if line = strings.TrimSpace(line); line != "" {
			l = append(l, line)
		}
	}
	return l
}

// told is the texts of facts: "a.r: ann".
func told(l []api.Fact) []string {
	var s []string
	for _, f := range l {
		s = append(s, role.Text(f.Role)+": "+f.Who)
	}
	return s
}

// roles as texts.
func roles(l []api.Role) []string {
	var s []string
	for _, r := range l {
		s = append(s, role.Text(r))
	}
	return s
}

// P8.1: what follows of some credentials, by hand: all facts, in their order.
func TestOf(t *testing.T) {
	for _, x := range []struct{ what, creds, facts string }{
		{"nothing", "", ""},
		{"a Member", "a.r <- d", "a.r: d"},
		{"a Member of its own owner", "a.r <- a", "a.r: a"},
		{"Members of one role", "a.r <- d\n a.r <- c\n a.r <- a", "a.r: a\n a.r: c\n a.r: d"},
		{"a Member twice", "a.r <- d\n a.r <- d", "a.r: d"},
		{"an Include", "a.r <- b.s\n b.s <- d", "a.r: d\n b.s: d"},
		{"an Include, not the other way about", "a.r <- b.s\n a.r <- d", "a.r: d"},
		{"an Include of a role without members", "a.r <- b.s\n b.t <- d\n a.s <- d", "a.s: d\n b.t: d"},
		{"an Include of itself", "a.r <- a.r", ""},
		{"an Include of itself, and a Member", "a.r <- a.r\n a.r <- d", "a.r: d"},
		{"Includes in a ring, of none", "a.r <- b.s\n b.s <- c.t\n c.t <- a.r", ""},
		{"Includes in a ring", "a.r <- b.s\n b.s <- c.t\n c.t <- a.r\n b.s <- d", "a.r: d\n b.s: d\n c.t: d"},
		{"Includes in a row", "a.a <- b.b\n b.b <- c.c\n c.c <- d.d\n d.d <- e\n b.b <- f", "a.a: e\n a.a: f\n b.b: e\n b.b: f\n c.c: e\n d.d: e"},
		{"a Linked", "a.r <- a.s.t\n a.s <- b\n b.t <- d", "a.r: d\n a.s: b\n b.t: d"},
		{"a Linked of some", "a.r <- a.s.t\n a.s <- b\n a.s <- c\n b.t <- d\n b.t <- e\n c.t <- e\n c.t <- f", "a.r: d\n a.r: e\n a.r: f\n a.s: b\n a.s: c\n b.t: d\n b.t: e\n c.t: e\n c.t: f"},
		{"a Linked without one who is in B", "a.r <- a.s.t\n b.t <- d", "b.t: d"},
		{"a Linked of another one's role", "a.r <- a.s.t\n a.s <- b\n c.t <- d", "a.s: b\n c.t: d"},
		{"a Linked of another word", "a.r <- a.s.t\n a.s <- b\n b.s <- d", "a.s: b\n b.s: d"},
		{"a Linked, whose B itself isn't what it brings", "a.r <- a.s.t\n a.s <- b", "a.s: b"},
		{"a Linked of the owner's own roles", "a.r <- a.s.t\n a.s <- a\n a.t <- d", "a.r: d\n a.s: a\n a.t: d"},
		{"a Linked of its own Head", "a.r <- a.r.r\n a.r <- b\n b.r <- c\n c.r <- d\n d.r <- b\n e.r <- f", "a.r: b\n a.r: c\n a.r: d\n b.r: c\n c.r: d\n d.r: b\n e.r: f"},
		{"a Linked that brings who is in B", "a.s <- a.s.t\n a.s <- b\n b.t <- c\n c.t <- d", "a.s: b\n a.s: c\n a.s: d\n b.t: c\n c.t: d"},
		{"a Linked whose own Head is the role of who is in B", "a.t <- a.s.t\n a.s <- a\n a.t <- d\n a.s <- b\n b.t <- e", "a.s: a\n a.s: b\n a.t: d\n a.t: e\n b.t: e"},
		{"a Linked of B and the same word", "a.r <- a.s.s\n a.s <- a\n a.s <- b\n b.s <- c", "a.r: a\n a.r: b\n a.r: c\n a.s: a\n a.s: b\n b.s: c"},
		{"two Linked of one word", "a.r <- a.s.t\n c.r <- c.s.t\n a.s <- b\n c.s <- d\n b.t <- e\n d.t <- f", "a.r: e\n a.s: b\n b.t: e\n c.r: f\n c.s: d\n d.t: f"},
		{"a Both", "a.r <- b.s & c.t\n b.s <- d\n b.s <- e\n c.t <- e\n c.t <- f", "a.r: e\n b.s: d\n b.s: e\n c.t: e\n c.t: f"},
		{"a Both, of B alone", "a.r <- b.s & c.t\n b.s <- d", "b.s: d"},
		{"a Both, of C alone", "a.r <- b.s & c.t\n c.t <- d", "c.t: d"},
		{"a Both of its own Head", "a.r <- a.r & b.s\n b.s <- d", "b.s: d"},
		{"a Both of what follows", "a.r <- b.s & c.t\n b.s <- c.t\n c.t <- c.u.v\n c.u <- d\n d.v <- e", "a.r: e\n b.s: e\n c.t: e\n c.u: d\n d.v: e"},
		{"two Boths that wait for one another", "a.r <- a.s & b.s\n a.s <- a.r & b.s\n b.s <- d", "b.s: d"},
		{"who is in a role, as an owner of one", "a.r <- a.s.t\n a.s <- b.x\n b.x <- c\n c.t <- c.y & d.y\n c.y <- d.y\n d.y <- e", "a.r: e\n a.s: c\n b.x: c\n c.t: e\n c.y: e\n d.y: e"},
		{"the longest names", "a.r <- " + longest + "." + longest + "\n " + longest + "." + longest + " <- " + longest, "a.r: " + longest + "\n " + longest + "." + longest + ": " + longest},
		{"a name that is a word too", "r.r <- r\n s.r <- r.r", "r.r: r\n s.r: r"},
	} {
		l := parsed(t, lines(x.creds)...)
		want := lines(x.facts)
		if got := told(model.Of(l).Facts()); !slices.Equal(got, want) {
			t.Errorf("%s: %q, not %q", x.what, got, want)
		}
		slices.Reverse(l)
		if got := told(model.Of(l).Facts()); !slices.Equal(got, want) {
			t.Errorf("%s, the other way about: %q, not %q", x.what, got, want)
		}
	}
}

// P8.1: only the right ones of a list count.
func TestOfWrong(t *testing.T) {
	l := parsed(t, "a.r <- ann", "a.s <- ann", "ann.r <- bob", "b.t <- a.r & a.s")
	want := []string{"a.r: ann", "a.s: ann", "ann.r: bob", "b.t: ann"}
	for _, c := range wrong {
		if cred.Right(c) {
			t.Fatalf("%v is right", c)
		}
		if got := model.Of([]api.Cred{c}).Facts(); len(got) != 0 {
			t.Errorf("%v: %q", c, told(got))
		}
		if got := told(model.Of(slices.Concat([]api.Cred{c}, l, []api.Cred{c})).Facts()); !slices.Equal(got, want) {
			t.Errorf("beside %v: %q", c, got)
		}
	}
	if got := told(model.Of(slices.Concat(wrong, l, wrong)).Facts()); !slices.Equal(got, want) {
		t.Errorf("beside all: %q", got)
	}
}

// P8.1: who is in which role, and who isn't.
func TestIn(t *testing.T) {
	m := model.Of(parsed(t, "a.r <- b.s", "b.s <- d", "b.s <- d-1", "bb.s <- e", "a.t <- a"))
	for _, x := range []struct{ r, who string }{{"a.r", "d"}, {"a.r", "d-1"}, {"b.s", "d"}, {"b.s", "d-1"}, {"bb.s", "e"}, {"a.t", "a"}} {
		if !m.In(of(x.r), x.who) {
			t.Errorf("%s isn't in %s", x.who, x.r)
		}
	}
	for _, x := range []struct{ r, who string }{
		{"a.r", "e"}, {"a.r", "b"}, {"a.r", ""}, {"a.r", "D"}, {"a.r", "d-"}, {"a.r", "d-1-"}, {"a.r", "b.s"}, {"a.r", "d\x00"},
		{"a.s", "d"}, {"b.r", "d"}, {"r.a", "d"}, {"b.s", "e"}, {"bb.s", "d"}, {"q.r", "d"}, {"a.t", "d"}, {"t.a", "a"},
		{"a.", "d"}, {".r", "d"}, {".", ""}, {"", ""}, {"A.r", "d"}, {"a.r.", "d"}, {"a.rd", ""}, {"ar.", "d"},
	} {
		if m.In(of(x.r), x.who) {
			t.Errorf("%q is in %q", x.who, x.r)
		}
	}
	// The text of the one role is the Owner, or the Word, of the other.
	for _, r := range []api.Role{{Owner: "a.r"}, {Word: "a.r"}, {Owner: "a.r", Word: "d"}, {Owner: "a", Word: ".r"}, {Owner: "a.", Word: "r"}} {
		if m.In(r, "d") || m.In(r, "") {
			t.Errorf("d is in %q", r)
		}
	}
}

// P8.1: members are a set: rising as texts.
func TestMembers(t *testing.T) {
	m := model.Of(parsed(t, "a.r <- ann", "a.r <- b", "a.r <- ann-2", "a.r <- an", "a.r <- ab", "a.r <- a", "a.r <- z", "a.r <- ann2", "a.s <- a.r", "b.r <- c", "b.r <- c.r"))
	want := []string{"a", "ab", "an", "ann", "ann-2", "ann2", "b", "z"}
	for _, r := range []string{"a.r", "a.s"} {
		if got := m.Members(of(r)); !slices.Equal(got, want) {
			t.Errorf("%s: %q", r, got)
		}
	}
	if got := m.Members(of("b.r")); !slices.Equal(got, []string{"c"}) {
		t.Errorf("b.r: %q", got)
	}
	for _, r := range []string{"c.r", "b.s", "r.a", "a.", ".r", "", "A.r"} {
		if got := m.Members(of(r)); len(got) != 0 {
			t.Errorf("%q: %q", r, got)
		}
	}
}

// ordered credentials: of roles whose order isn't that of their texts.
func ordered(t *testing.T) []api.Cred {
	return parsed(t, "ann-1.a <- d", "b.a <- d", "a.r <- d", "ann.z <- d", "a.r-1 <- d", "a.aa <- d", "ann.a <- d", "z.a <- e", "a.aa <- b", "ann-1.a <- c")
}

// P8.1: roles are a set: rising by owners, then by words.
func TestRoles(t *testing.T) {
	m := model.Of(ordered(t))
	for _, x := range []struct {
		who  string
		want []string
	}{
		{"d", []string{"a.aa", "a.r", "a.r-1", "ann.a", "ann.z", "ann-1.a", "b.a"}},
		{"e", []string{"z.a"}},
		{"b", []string{"a.aa"}},
		{"a", nil}, {"ann", nil}, {"z", nil}, {"", nil}, {"D", nil}, {"d ", nil}, {"a.r", nil},
	} {
		if got := roles(m.Roles(x.who)); !slices.Equal(got, x.want) {
			t.Errorf("%q: %q, not %q", x.who, got, x.want)
		}
	}
}

// P8.1: facts are in the order of their roles, then of their names.
func TestFacts(t *testing.T) {
	want := []string{"a.aa: b", "a.aa: d", "a.r: d", "a.r-1: d", "ann.a: d", "ann.z: d", "ann-1.a: c", "ann-1.a: d", "b.a: d", "z.a: e"}
	l := ordered(t)
	for range 20 {
		m := model.Of(l)
		if got := told(m.Facts()); !slices.Equal(got, want) {
			t.Fatalf("%q", got)
		}
		if again := told(m.Facts()); !slices.Equal(again, want) {
			t.Fatalf("again: %q", again)
		}
	}
}

// row of Includes, of which each comes ahead of what it leans on: n0.r has whom the last one has.
func row(n int) []api.Cred {
	var l []api.Cred
	at := func(i int) api.Role { return api.Role{Owner: "n" + strconv.Itoa(i), Word: "r"} }
	for i := range n {
		l = append(l, api.Cred{Kind: api.Include, Head: at(i), B: at(i + 1)})
	}
	return append(l, api.Cred{Kind: api.Member, Head: at(n), Who: "d"})
}

// A long row ends, in whatever order it is told.
func TestLongRow(t *testing.T) {
	l := row(30000)
	first := api.Role{Owner: "n0", Word: "r"}
	m := model.Of(l)
	if !m.In(first, "d") || len(m.Roles("d")) != len(l) {
		t.Errorf("%d roles", len(m.Roles("d")))
	}
	slices.Reverse(l)
	if m = model.Of(l); !m.In(first, "d") || len(m.Facts()) != len(l) {
		t.Errorf("the other way about: %d facts", len(m.Facts()))
	}
}

// As many credentials as a party holds, with many facts, end.
func TestManyFacts(t *testing.T) {
	var l []api.Cred
	for i := range 64 {
		who := "d" + strconv.Itoa(i)
		l = append(l,
			api.Cred{Kind: api.Member, Head: of("a.s"), Who: who},
			api.Cred{Kind: api.Include, Head: api.Role{Owner: who, Word: "t"}, B: of("a.s")},
			api.Cred{Kind: api.Linked, Head: api.Role{Owner: "a", Word: who}, B: of("a.s"), Word2: "t"},
			api.Cred{Kind: api.Both, Head: api.Role{Owner: "b", Word: who}, B: of("a.s"), C: api.Role{Owner: who, Word: "t"}},
		)
	}
	if got := len(model.Of(l).Facts()); got != 64+3*64*64 {
		t.Errorf("%d facts", got)
	}
}
