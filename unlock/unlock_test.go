package unlock_test

import (
	"strings"
	"testing"

	"entente/api"
	"entente/cred"
	"entente/parse"
	"entente/unlock"
)

// of makes a role of its text, right or not.
func of(s string) api.Role {
	owner, word, _ := strings.Cut(s, ".")
	return api.Role{Owner: owner, Word: word}
}

// parsed formula of a text; "-" is the zero one, which isn't right.
func parsed(t *testing.T, s string) api.Formula {
	t.Helper()
	if s == "-" {
		return api.Formula{}
	}
	f, e := parse.Parse(s)
	if e != api.OK {
		t.Fatalf("%q: %v", s, e)
	}
	return f
}

// credOf a text; "-" is the zero one, which isn't right.
func credOf(t *testing.T, s string) api.Cred {
	t.Helper()
	c, ok := cred.Parse(s)
	if !ok && s != "-" {
		t.Fatalf("%q is no credential", s)
	}
	return c
}

// party of lines, as they stand: "CRED if FORMULA" is held, "ack ROLE if FORMULA" is an Ack, and "hides CRED" is in the Closure of the last one.
func party(t *testing.T, name string, lines ...string) api.Party {
	t.Helper()
	p := api.Party{Name: name}
	for _, line := range lines {
		if c, ok := strings.CutPrefix(line, "hides "); ok {
			last := &p.Acks[len(p.Acks)-1]
			last.Closure = append(last.Closure, credOf(t, c))
			continue
		}
		what, f, _ := strings.Cut(line, " if ")
		if r, ok := strings.CutPrefix(what, "ack "); ok {
			p.Acks = append(p.Acks, api.Ack{Role: of(r), Release: parsed(t, f)})
			continue
		}
		s := api.Signed{Cred: credOf(t, what), Tag: []byte("12345678")}
		p.Creds = append(p.Creds, api.Guarded{Signed: s, Release: parsed(t, f)})
	}
	return p
}

// told texts of credentials, with semicolons between.
func told(l []api.Cred) string {
	var texts []string
	for _, c := range l {
		texts = append(texts, cred.Text(c))
	}
	return strings.Join(texts, "; ")
}

// checkOf holds what Of answers against texts, in either order of the two.
func checkOf(t *testing.T, a, b api.Party, wantA, wantB string, rounds int) {
	t.Helper()
	x, y, n := unlock.Of(a, b)
	if told(x) != wantA || told(y) != wantB || n != rounds {
		t.Errorf("%q, %q, %d, not %q, %q, %d", told(x), told(y), n, wantA, wantB, rounds)
	}
	y, x, n = unlock.Of(b, a)
	if told(x) != wantA || told(y) != wantB || n != rounds {
		t.Errorf("the other way round: %q, %q, %d", told(x), told(y), n)
	}
}

// bobs party, of lines.
func bobs(t *testing.T, lines ...string) api.Party {
	t.Helper()
	return party(t, "bob", lines...)
}

// anns party, of lines.
func anns(t *testing.T, lines ...string) api.Party {
	t.Helper()
	return party(t, "ann", lines...)
}

// P16.1: who wants to see the other one's first shows none.
func TestOfNone(t *testing.T) {
	checkOf(t, anns(t, "a.r <- ann if b.s"), bobs(t, "b.s <- bob if a.r"), "", "", 0)
	checkOf(t, anns(t), bobs(t), "", "", 0)
	checkOf(t, api.Party{}, api.Party{}, "", "", 0)
	checkOf(t, anns(t, "a.r <- ann if some()", "a.s <- ann if at 1(b.s)"), bobs(t, "b.s <- bob if some()"), "", "", 0)
	// A circle of four.
	checkOf(t, anns(t, "a.r <- ann if b.s", "c.t <- ann if d.u"), bobs(t, "b.s <- bob if c.t", "d.u <- bob if a.r"), "", "", 0)
}

// P16.1: what is free from the first on goes in the first round, on both sides at once.
func TestOfFirstRound(t *testing.T) {
	checkOf(t, anns(t, "a.r <- ann if all()"), bobs(t), "a.r <- ann", "", 1)
	checkOf(t, anns(t, "a.r <- ann if all()"), bobs(t, "b.s <- bob if all()"), "a.r <- ann", "b.s <- bob", 1)
	checkOf(t, anns(t, "a.r <- ann if all()", "a.s <- ann if at 0(b.s)", "a.t <- ann if b.s or all()"), bobs(t, "b.s <- bob if some()"), "a.r <- ann; a.s <- ann; a.t <- ann", "", 1)
}

// P16.1: by what the other one has shown in the rounds ahead, not in the same one.
func TestOfRounds(t *testing.T) {
	for _, x := range []struct {
		a, b         []string
		wantA, wantB string
		rounds       int
	}{
		{[]string{"a.r <- ann if all()"}, []string{"b.s <- bob if a.r"}, "a.r <- ann", "b.s <- bob", 2},
		{[]string{"a.r <- ann if all()", "a.s <- ann if b.s"}, []string{"b.s <- bob if a.r"}, "a.r <- ann; a.s <- ann", "b.s <- bob", 3},
		// Each has shown what the other one asks for in the round ahead.
		{[]string{"a.r <- ann if all()", "a.s <- ann if b.r"}, []string{"b.r <- bob if all()", "b.s <- bob if a.r"}, "a.r <- ann; a.s <- ann", "b.r <- bob; b.s <- bob", 2},
		// What it waits for comes in the third round, other things in the first.
		{[]string{"a.r <- ann if all()", "a.s <- ann if b.r and b.s"}, []string{"b.r <- bob if all()", "b.s <- bob if a.r"}, "a.r <- ann; a.s <- ann", "b.r <- bob; b.s <- bob", 3},
		{[]string{"a.r <- ann if all()", "a.s <- ann if b.r or b.s"}, []string{"b.r <- bob if all()", "b.s <- bob if a.r"}, "a.r <- ann; a.s <- ann", "b.r <- bob; b.s <- bob", 2},
		// One goes on, and nothing more comes of it.
		{[]string{"a.r <- ann if all()", "a.s <- ann if b.s", "a.t <- ann if b.t"}, []string{"b.s <- bob if a.r", "b.t <- bob if a.t"}, "a.r <- ann; a.s <- ann", "b.s <- bob", 3},
		// By turns, one each round, and one that waits for ever.
		{[]string{"bbb.good <- ann if all()", "gov.firm <- ann if gov.id"}, []string{"gov.id <- bob if bbb.good", "gov.spy <- bob if gov.id", "gov.vet <- bob if gov.firm"}, "bbb.good <- ann; gov.firm <- ann", "gov.id <- bob; gov.vet <- bob", 4},
	} {
		checkOf(t, anns(t, x.a...), bobs(t, x.b...), x.wantA, x.wantB, x.rounds)
	}
}

// P16.1: what the other one has shown says what it is in by the least model: of its Name alone.
func TestOfByModel(t *testing.T) {
	const asks = "x.y <- ann if a.r"
	for _, x := range []struct {
		b      []string
		ok     bool
		rounds int
	}{
		{[]string{"a.r <- bob if all()"}, true, 2},
		{[]string{"a.r <- cy if all()"}, false, 1},
		{[]string{"a.r <- ann if all()"}, false, 1},
		{[]string{"a.r <- b.s if all()"}, false, 1},
		{[]string{"b.s <- bob if all()", "a.r <- b.s if all()"}, true, 2},
		{[]string{"b.s <- cy if all()", "a.r <- b.s if all()"}, false, 1},
		{[]string{"b.s <- bob if some()", "a.r <- b.s if all()"}, false, 1},
		{[]string{"a.s <- cy if all()", "cy.t <- bob if all()", "a.r <- a.s.t if all()"}, true, 2},
		{[]string{"a.s <- cy if all()", "dan.t <- bob if all()", "a.r <- a.s.t if all()"}, false, 1},
		{[]string{"b.s <- bob if all()", "c.t <- bob if all()", "a.r <- b.s & c.t if all()"}, true, 2},
		{[]string{"b.s <- bob if all()", "c.t <- cy if all()", "a.r <- b.s & c.t if all()"}, false, 1},
	} {
		p := bobs(t, x.b...)
		var l []api.Cred
		for _, h := range p.Creds {
			if h.Release.Op == api.All {
				l = append(l, h.Cred)
			}
		}
		want := ""
		if x.ok {
			want = "x.y <- ann"
		}
		checkOf(t, anns(t, asks), p, want, told(l), x.rounds)
	}
}

// P16.1: what came in one round, and what came in another one, say something together.
func TestOfByMoreRounds(t *testing.T) {
	a := anns(t, "x.y <- ann if all()", "x.z <- ann if a.r", "x.zz <- ann if b.s")
	b := bobs(t, "b.s <- bob if x.y", "b.t <- cy if all()", "a.r <- b.s if all()")
	checkOf(t, a, b, "x.y <- ann; x.z <- ann; x.zz <- ann", "b.s <- bob; b.t <- cy; a.r <- b.s", 3)
	b = bobs(t, "a.s <- cy if x.y", "cy.t <- bob if x.z", "a.r <- a.s.t if all()", "c.t <- bob if x.y")
	a = anns(t, "x.y <- ann if all()", "x.z <- ann if c.t", "z.z <- ann if a.r")
	checkOf(t, a, b, "x.y <- ann; x.z <- ann; z.z <- ann", "a.s <- cy; c.t <- bob; cy.t <- bob; a.r <- a.s.t", 5)
}

// P16.1: what it holds or shows itself is no account of the other one's.
func TestOfOwn(t *testing.T) {
	checkOf(t, anns(t, "a.r <- bob if all()", "x.y <- ann if a.r"), bobs(t), "a.r <- bob", "", 1)
	checkOf(t, anns(t, "a.r <- bob if all()", "x.y <- ann if a.r"), bobs(t, "b.s <- bob if all()"), "a.r <- bob", "b.s <- bob", 1)
	checkOf(t, anns(t, "a.r <- bob if some()", "x.y <- ann if a.r"), bobs(t), "", "", 0)
	// The other one's may be its own word.
	checkOf(t, anns(t, "x.y <- ann if b.r"), bobs(t, "b.r <- b.s if all()", "b.s <- bob if all()"), "x.y <- ann", "b.s <- bob; b.r <- b.s", 2)
}

// P16.1: both may hold one credential, and have one Name.
func TestOfAlike(t *testing.T) {
	p := anns(t, "a.r <- ann if all()", "b.s <- ann if a.r", "c.t <- ann if d.u")
	checkOf(t, p, p, "a.r <- ann; b.s <- ann", "a.r <- ann; b.s <- ann", 2)
	checkOf(t, anns(t, "a.r <- ann if all()"), bobs(t, "a.r <- ann if all()"), "a.r <- ann", "a.r <- ann", 1)
	checkOf(t, anns(t, "a.r <- bob if b.s"), bobs(t, "a.r <- bob if all()", "b.s <- bob if a.r"), "", "a.r <- bob", 1)
}

// P16.1: an Ack guards all of its Closure, too.
func TestOfAcks(t *testing.T) {
	a := anns(t, "a.r <- ann if all()", "a.s <- ann if b.s", "a.t <- ann if all()", "ack a.q if b.t", "hides a.r <- ann", "hides a.s <- ann")
	checkOf(t, a, bobs(t), "a.t <- ann", "", 1)
	checkOf(t, a, bobs(t, "b.s <- bob if all()"), "a.t <- ann", "b.s <- bob", 1)
	checkOf(t, a, bobs(t, "b.t <- bob if all()"), "a.r <- ann; a.t <- ann", "b.t <- bob", 2)
	checkOf(t, a, bobs(t, "b.t <- bob if a.t", "b.s <- bob if a.r"), "a.r <- ann; a.s <- ann; a.t <- ann", "b.s <- bob; b.t <- bob", 5)
	checkOf(t, a, bobs(t, "b.t <- bob if a.r"), "a.t <- ann", "", 1)
	b := bobs(t, "b.t <- bob if all()", "ack b.t if a.t", "hides b.t <- bob")
	checkOf(t, a, b, "a.r <- ann; a.t <- ann", "b.t <- bob", 3)
}

// P16.1: sets: rising by layer 5's order, each once, however they are held.
func TestOfSets(t *testing.T) {
	a := anns(t, "c.t <- a.r if all()", "aa.r <- ann if b.s", "c.t <- ann if all()", "a.r <- ann if all()", "b.r <- ann if b.s", "c.t <- a.r if all()")
	checkOf(t, a, bobs(t, "b.s <- bob if all()"), "a.r <- ann; b.r <- ann; c.t <- ann; aa.r <- ann; c.t <- a.r", "b.s <- bob", 2)
	checkOf(t, a, bobs(t), "a.r <- ann; c.t <- ann; c.t <- a.r", "", 1)
}

// P16.1: of what is held twice the guard is that of the first one.
func TestOfTwice(t *testing.T) {
	a := anns(t, "a.r <- ann if all()", "a.r <- ann if some()", "a.s <- ann if some()", "a.s <- ann if all()", "a.t <- ann if b.s", "a.t <- ann if all()")
	checkOf(t, a, bobs(t), "a.r <- ann", "", 1)
	checkOf(t, a, bobs(t, "b.s <- bob if a.r"), "a.r <- ann; a.t <- ann", "b.s <- bob", 3)
}

// nine atoms in two nodes: right, but not in its normal form.
const nine = "all(all(a.a, a.b, a.c, a.d, a.e), all(b.a, b.b, b.c, b.d))"

// P16.1: what isn't right is never free, nor is what has a guard that isn't: no round shows it.
func TestOfWrong(t *testing.T) {
	checkOf(t, anns(t, "- if all()"), bobs(t, "- if all()", "- if b.s"), "", "", 0)
	checkOf(t, anns(t, "- if all()", "a.r <- ann if all()", "- if b.s"), bobs(t, "b.s <- bob if a.r"), "a.r <- ann", "b.s <- bob", 2)
	checkOf(t, anns(t, "a.r <- ann if -"), bobs(t, "b.s <- bob if all()"), "", "b.s <- bob", 1)
	checkOf(t, anns(t, "a.r <- ann if all()", "ack a.r if -", "hides a.r <- ann"), bobs(t), "", "", 0)
	var all []string
	for _, r := range strings.Fields("a.a a.b a.c a.d a.e b.a b.b b.c b.d") {
		all = append(all, r+" <- bob if all()")
	}
	b := bobs(t, all...)
	_, y, _ := unlock.Of(anns(t), b)
	checkOf(t, anns(t, "a.r <- ann if "+nine), b, "", told(y), 1)
	checkOf(t, anns(t, "a.r <- ann if all(b.a, b.b, b.c, b.d)"), b, "a.r <- ann", told(y), 2)
	wrong := bobs(t, "b.s <- bob if all()")
	wrong.Creds[0].Word2 = "s"
	checkOf(t, anns(t, "a.r <- ann if b.s"), wrong, "", "", 0)
}

// P16.1: a Name that is none is in no role; the rest goes on, and neither tags nor orders are asked for.
func TestOfWrongNames(t *testing.T) {
	for _, name := range []string{"", "Bob", "1", "abcdefghijklmn-9a"} {
		b := party(t, name, "b.s <- bob if a.r", "b.t <- bob if all()", "b.r <- bob if all()")
		b.Creds[1].Tag = nil
		a := anns(t, "a.r <- ann if all()", "a.s <- ann if b.s", "a.t <- ann if all(b.t, b.r)")
		checkOf(t, a, b, "a.r <- ann", "b.r <- bob; b.s <- bob; b.t <- bob", 2)
		if unlock.Grants(a, b, parsed(t, "b.t")) || !unlock.Grants(a, b, parsed(t, "all()")) {
			t.Errorf("%q is in a role", name)
		}
	}
}
