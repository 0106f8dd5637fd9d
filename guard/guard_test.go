package guard_test

import (
	"slices"
	"strconv"
	"strings"
	"testing"

	"entente/api"
	"entente/cred"
	"entente/formula"
	"entente/guard"
	"entente/parse"
)

// longest name: of 16 signs.
const longest = "abcdefghijklmn-9"

// Formulas that go together with an error: five and four of these are too many Kids for one node.
const (
	five = "all(a.a, a.b, a.c, a.d, a.e)"
	four = "all(b.a, b.b, b.c, b.d)"
	nine = "all(" + five + ", " + four + ")"
)

// deep formulas: so many levels, and one more is too many.
const (
	deep5 = "some(e.r, all(d.r, some(c.r, all(a.r, b.r))))"
	deep6 = "all(f.r, " + deep5 + ")"
)

// of makes a role of its text, right or not.
func of(s string) api.Role {
	owner, word, _ := strings.Cut(s, ".")
	return api.Role{Owner: owner, Word: word}
}

// parsed formula of a text; "-" is the zero one, which isn't right.
func parsed(t *testing.T, s string) api.Formula {
	t.Helper()
	if s == "-" {
		return api.Formula{}
	}
	f, e := parse.Parse(s)
	if e != api.OK {
		t.Fatalf("%q: %v", s, e)
	}
	return f
}

// credOf a text; "-" is the zero one, which isn't right.
func credOf(t *testing.T, s string) api.Cred {
	t.Helper()
	c, ok := cred.Parse(s)
	if !ok && s != "-" {
		t.Fatalf("%q is no credential", s)
	}
	return c
}

// creds of texts, as they stand.
func creds(t *testing.T, l ...string) []api.Cred {
	t.Helper()
	var cs []api.Cred
	for _, s := range l {
		cs = append(cs, credOf(t, s))
	}
	return cs
}

// party of lines, as they stand: "CRED if FORMULA" is held, "ack ROLE if FORMULA" is an Ack, and "hides CRED" is in the Closure of the last one.
func party(t *testing.T, lines ...string) api.Party {
	t.Helper()
	p := api.Party{Name: "ann"}
	for _, line := range lines {
		if c, ok := strings.CutPrefix(line, "hides "); ok {
			last := &p.Acks[len(p.Acks)-1]
			last.Closure = append(last.Closure, credOf(t, c))
			continue
		}
		what, f, _ := strings.Cut(line, " if ")
		if r, ok := strings.CutPrefix(what, "ack "); ok {
			p.Acks = append(p.Acks, api.Ack{Role: of(r), Release: parsed(t, f)})
			continue
		}
		s := api.Signed{Cred: credOf(t, what), Tag: []byte("12345678")}
		p.Creds = append(p.Creds, api.Guarded{Signed: s, Release: parsed(t, f)})
	}
	return p
}

// agent that holds two credentials, each of them locked, and one of no Ack's.
func agent(t *testing.T) api.Party {
	t.Helper()
	return party(t,
		"gov.id <- ann if shop.ok or bank.ok",
		"gov.vet <- ann if all()",
		"gym.member <- ann if all(b.s, all(a.r, b.s))",
		"ack gov.id if gov.agent", "hides gov.id <- ann",
		"ack gov.vet if shop.ok", "hides gov.vet <- ann", "hides gov.vet <- gov.id",
		"ack gov.who if bank.ok", "hides gov.id <- ann", "hides gov.id <- bob")
}

// checkOf holds what Of answers of a credential against a guard's text, or an error.
func checkOf(t *testing.T, p api.Party, c api.Cred, want string, err api.Errno) {
	t.Helper()
	f, e := guard.Of(p, c)
	if e != err || err == api.OK && parse.Text(f) != want || err != api.OK && !formula.Same(f, api.Formula{}) {
		t.Errorf("%s: %q, %v, not %q, %v", cred.Text(c), parse.Text(f), e, want, err)
	}
}

// P15.1: the normal form of the Release, and of each Ack's by which it is locked.
func TestOf(t *testing.T) {
	p := agent(t)
	checkOf(t, p, credOf(t, "gov.id <- ann"), "all(gov.agent, bank.ok, some(bank.ok, shop.ok))", api.OK)
	checkOf(t, p, credOf(t, "gov.vet <- ann"), "shop.ok", api.OK)
	checkOf(t, p, credOf(t, "gym.member <- ann"), "all(a.r, b.s)", api.OK)
}

// P15.1: ErrNone of what it doesn't hold, be it in a Closure, or unlike in one part only.
func TestOfNone(t *testing.T) {
	p := agent(t)
	for _, s := range []string{
		"-", "gov.vet <- gov.id", "gov.id <- bob", "gov.id <- anna", "gov.idd <- ann", "go.id <- ann",
		"gov.id <- gov.ann", "gym.member <- gym.ann", "shop.ok <- ann",
	} {
		checkOf(t, p, credOf(t, s), "", api.ErrNone)
	}
	c := credOf(t, "gov.id <- ann")
	c.Word2 = "ann"
	checkOf(t, p, c, "", api.ErrNone)
	checkOf(t, api.Party{}, api.Cred{}, "", api.ErrNone)
	p.Creds = nil
	checkOf(t, p, credOf(t, "gov.id <- ann"), "", api.ErrNone)
	// One that has an error doesn't hide that another one isn't held.
	checkOf(t, party(t, "a.r <- ann if -", "ack a.r if -", "hides b.s <- ann"), credOf(t, "b.s <- ann"), "", api.ErrNone)
}

// P15.1: of several the first one, whatever those behind it are.
func TestOfFirst(t *testing.T) {
	p := party(t, "b.s <- ann if a.r", "a.r <- ann if b.s", "b.s <- ann if c.t", "a.r <- ann if -", "c.t <- ann if -", "c.t <- ann if all()")
	checkOf(t, p, credOf(t, "b.s <- ann"), "a.r", api.OK)
	checkOf(t, p, credOf(t, "a.r <- ann"), "b.s", api.OK)
	checkOf(t, p, credOf(t, "c.t <- ann"), "", api.ErrForm)
}

// P15.1: step by step, and the first step that has an error is told.
func TestOfSteps(t *testing.T) {
	for i, x := range []struct {
		release string
		acks    []string
		want    string
		e       api.Errno
	}{
		{"all()", nil, "all()", api.OK},
		{"some()", nil, "some()", api.OK},
		{"at 2(a.r, b.s, c.t)", []string{"all()"}, "at 2(a.r, b.s, c.t)", api.OK},
		{"a.r", []string{"a.r", "a.r"}, "a.r", api.OK},
		{"a.r", []string{"b.s", "c.t"}, "all(a.r, b.s, c.t)", api.OK},
		{"a.r", []string{"some()", "c.t"}, "some()", api.OK},
		{"-", nil, "", api.ErrForm},
		{"-", []string{"all()", five}, "", api.ErrForm},
		{"-", []string{"some()"}, "", api.ErrForm},
		{nine, nil, "", api.ErrLong},
		{nine, []string{"-"}, "", api.ErrLong},
		{nine, []string{"some()"}, "", api.ErrLong},
		{"all()", []string{"-"}, "", api.ErrForm},
		{"some()", []string{"-"}, "", api.ErrForm},
		{"all()", []string{nine}, "", api.ErrLong},
		{five, []string{four}, "", api.ErrLong},
		{five, []string{four, "-"}, "", api.ErrLong},
		{five, []string{"-", four}, "", api.ErrForm},
		{five, []string{four, "some()"}, "", api.ErrLong},
		{five, []string{"some()", four}, "some()", api.OK},
		{five, []string{"a.a", four}, "", api.ErrLong},
		{five, []string{"all(b.a, b.b, b.c)", "a.e"}, "all(a.a, a.b, a.c, a.d, a.e, b.a, b.b, b.c)", api.OK},
		{five, []string{"all(b.a, b.b, b.c)", "b.d", "-"}, "", api.ErrLong},
		{"all(" + five + ", some())", []string{four}, "some()", api.OK},
		{deep5, []string{"all()"}, deep5, api.OK},
		{deep6, nil, deep6, api.OK},
		{deep6, []string{"all()"}, "", api.ErrForm},
		{deep6, []string{"all()", nine}, "", api.ErrForm},
		{deep5, []string{nine, deep6}, "", api.ErrLong},
	} {
		lines := []string{"g.h <- ann if " + x.release}
		for _, f := range x.acks {
			lines = append(lines, "ack g.h if "+f, "hides g.h <- ann", "ack g.i if -", "hides g.i <- ann")
		}
		t.Run(strconv.Itoa(i), func(t *testing.T) {
			checkOf(t, party(t, lines...), credOf(t, "g.h <- ann"), x.want, x.e)
		})
	}
}

// P15.1: Acks that don't lock it are of no account, whatever their Release and Role are.
func TestOfOthersAcks(t *testing.T) {
	p := party(t, "a.r <- ann if b.s", "b.s <- ann if c.t",
		"ack a.r if -", "hides a.r <- bob", "hides a.s <- ann", "hides a.r <- a.ann",
		"ack a.s if some()",
		"ack b.s if d.u", "hides b.s <- ann")
	checkOf(t, p, credOf(t, "a.r <- ann"), "b.s", api.OK)
	checkOf(t, p, credOf(t, "b.s <- ann"), "all(c.t, d.u)", api.OK)
}

// P15.1: the Roles of the Acks that a credential is locked by, as they stand, held or not.
func TestAcks(t *testing.T) {
	p := agent(t)
	for _, x := range []struct{ c, want string }{
		{"gov.id <- ann", "gov.id gov.who"},
		{"gov.vet <- ann", "gov.vet"},
		{"gym.member <- ann", ""},
		{"gov.vet <- gov.id", "gov.vet"},
		{"gov.id <- bob", "gov.who"},
		{"gov.id <- cy", ""},
		{"gov.who <- ann", ""},
		{"-", ""},
	} {
		if got := guard.Acks(p, credOf(t, x.c)); !slices.Equal(got, roles(x.want)) {
			t.Errorf("%s: %q", x.c, got)
		}
	}
	if l := guard.Acks(api.Party{}, credOf(t, "a.r <- ann")); len(l) != 0 {
		t.Errorf("%q", l)
	}
}

// roles of texts, with blanks between.
func roles(s string) []api.Role {
	var l []api.Role
	for _, r := range strings.Fields(s) {
		l = append(l, of(r))
	}
	return l
}

// P15.1: as they stand: in whatever order, of one Role too, whatever the Releases are; an Ack counts once.
func TestAcksStand(t *testing.T) {
	p := party(t,
		"ack c.t if -", "hides x.y <- ann", "hides a.r <- ann", "hides a.r <- ann",
		"ack a.r if some()", "hides a.r <- ann",
		"ack b.s if all()", "hides x.y <- ann",
		"ack a.r if all()", "hides -", "hides a.r <- ann",
		"ack A.r if "+nine, "hides b.s <- ann", "hides a.r <- ann")
	for _, x := range []struct{ c, want string }{
		{"a.r <- ann", "c.t a.r a.r A.r"},
		{"x.y <- ann", "c.t b.s"},
		{"b.s <- ann", "A.r"},
		{"c.t <- ann", ""},
	} {
		if got := guard.Acks(p, credOf(t, x.c)); !slices.Equal(got, roles(x.want)) {
			t.Errorf("%s: %q", x.c, got)
		}
	}
}

// P15.1: of credentials of all kinds, those alone that are alike in all.
func TestKinds(t *testing.T) {
	l := []string{
		"a.r <- ann", "a.r <- " + longest, "a.r <- b.s", "a.r <- b.t", "a.r <- a.b.s", "a.r <- a.b.t", "a.r <- a.c.s",
		"a.r <- b.s & c.t", "a.r <- b.s & c.u", "a.r <- b.r & c.t", "b.r <- b.s & c.t",
	}
	for at, own := range l {
		lines := []string{"ack m.n if d.u", "hides " + own}
		for _, c := range l {
			lines = append(lines, c+" if all()")
		}
		p := party(t, lines...)
		for i, c := range l {
			want, acks := "all()", ""
			if i == at {
				want, acks = "d.u", "m.n"
			}
			checkOf(t, p, credOf(t, c), want, api.OK)
			if got := guard.Acks(p, credOf(t, c)); !slices.Equal(got, roles(acks)) {
				t.Errorf("%s by the Ack of %s: %q", c, own, got)
			}
		}
	}
}
