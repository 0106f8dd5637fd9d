package guard_test

import (
	"slices"
	"strings"
	"testing"

	"entente/api"
	"entente/cred"
	"entente/guard"
)

// told texts of credentials, with semicolons between.
func told(l []api.Cred) string {
	var texts []string
	for _, c := range l {
		texts = append(texts, cred.Text(c))
	}
	return strings.Join(texts, "; ")
}

// split texts, with semicolons between.
func split(s string) []string {
	if s == "" {
		return nil
	}
	return strings.Split(s, "; ")
}

// checkFree holds what Free answers against texts.
func checkFree(t *testing.T, p api.Party, has []api.Cred, peer, want string) {
	t.Helper()
	if got := told(guard.Free(p, has, peer)); got != want {
		t.Errorf("by %q, of %s: %q, not %q", told(has), peer, got, want)
	}
}

// P15.3: those whose guard is true: of the Release, and of each Ack by which one is locked.
func TestFree(t *testing.T) {
	p := agent(t)
	const id, vet, gym = "gov.id <- ann", "gov.vet <- ann", "gym.member <- ann"
	for _, x := range []struct{ has, want string }{
		{"", ""},
		{"shop.ok <- bob", vet},
		{"bank.ok <- bob", ""},
		{"gov.agent <- bob", ""},
		{"gov.agent <- bob; shop.ok <- bob", vet},
		{"gov.agent <- bob; bank.ok <- bob", id},
		{"gov.agent <- bob; bank.ok <- bob; shop.ok <- bob", id + "; " + vet},
		{"a.r <- bob", ""},
		{"b.s <- bob", ""},
		{"a.r <- bob; b.s <- bob", gym},
		{"a.r <- bob; b.s <- bob; shop.ok <- bob", vet + "; " + gym},
		{"a.r <- bob; b.s <- cy; shop.ok <- cy", ""},
		{"a.r <- ann; b.s <- ann; shop.ok <- ann", ""},
		{"gov.id <- bob; gov.vet <- bob; gov.who <- bob", ""},
		{"gov.id <- ann; gov.vet <- ann; gym.member <- ann", ""},
	} {
		checkFree(t, p, creds(t, split(x.has)...), "bob", x.want)
		checkFree(t, p, creds(t, split(x.has)...), "dan", "")
	}
}

// P15.3: always free: a Release of all(), without Acks, whatever else there is.
func TestFreeAlways(t *testing.T) {
	p := party(t, "a.r <- ann if all()", "b.s <- ann if some()", "c.t <- ann if at 0(a.r)", "d.u <- ann if d.u")
	for _, peer := range []string{"bob", "ann", "", "Bob", longest + "a"} {
		for _, has := range [][]api.Cred{nil, {}, {{}}, creds(t, "b.s <- bob")} {
			checkFree(t, p, has, peer, "a.r <- ann; c.t <- ann")
		}
	}
	p.Acks = []api.Ack{{Role: of("a.r"), Release: parsed(t, "all()"), Closure: creds(t, "a.r <- ann")}}
	checkFree(t, p, nil, "bob", "a.r <- ann; c.t <- ann")
	p.Acks[0].Release = parsed(t, "some()")
	checkFree(t, p, nil, "bob", "c.t <- ann")
	checkFree(t, api.Party{}, creds(t, "a.r <- bob"), "bob", "")
	checkFree(t, api.Party{Name: "ann"}, nil, "bob", "")
}

// P15.3: the peer's roles are those of the least model.
func TestFreeByModel(t *testing.T) {
	p := party(t, "x.y <- ann if a.r")
	for _, x := range []struct {
		has string
		ok  bool
	}{
		{"a.r <- bob", true},
		{"a.r <- b.s", false},
		{"b.s <- bob; a.r <- b.s", true},
		{"b.s <- cy; a.r <- b.s", false},
		{"a.r <- b.s; b.s <- c.t; c.t <- bob", true},
		{"a.r <- a.s.t; a.s <- cy; cy.t <- bob", true},
		{"a.r <- a.s.t; a.s <- cy; dan.t <- bob", false},
		{"a.r <- b.s & c.t; b.s <- bob", false},
		{"a.r <- b.s & c.t; b.s <- bob; c.t <- bob", true},
		{"a.r <- b.s & c.t; b.s <- bob; c.t <- cy", false},
		{"a.r <- b.s; b.s <- a.r", false},
		{"a.s <- bob; b.r <- bob; aa.r <- bob", false},
		{"-; a.r <- bob; -", true},
		{"a.r <- bob; a.r <- bob", true},
	} {
		want := ""
		if x.ok {
			want = "x.y <- ann"
		}
		has := creds(t, split(x.has)...)
		checkFree(t, p, has, "bob", want)
		slices.Reverse(has)
		checkFree(t, p, has, "bob", want)
	}
	// One that isn't right says nothing.
	wrong := credOf(t, "a.r <- bob")
	wrong.Word2 = "t"
	checkFree(t, p, []api.Cred{wrong}, "bob", "")
	wrong = api.Cred{Kind: api.Member, Head: of("a.r"), Who: "Bob"}
	checkFree(t, p, []api.Cred{wrong}, "Bob", "")
}

// P15.3: what it holds itself is no account of the peer's, and what an Ack's Closure has neither.
func TestFreeOwn(t *testing.T) {
	p := party(t, "a.r <- bob if all()", "b.s <- bob if a.r", "ack d.u if c.t", "hides c.t <- bob", "hides b.s <- bob")
	checkFree(t, p, nil, "bob", "a.r <- bob")
	checkFree(t, p, creds(t, "a.r <- bob"), "bob", "a.r <- bob")
	checkFree(t, p, creds(t, "a.r <- bob", "c.t <- bob"), "bob", "a.r <- bob; b.s <- bob")
}

// P15.3: those whose guard has an error aren't free, though all of it is true.
func TestFreeNotByErrors(t *testing.T) {
	var has []api.Cred
	for _, r := range roles("a.a a.b a.c a.d a.e b.a b.b b.c b.d a.r b.r c.r d.r e.r f.r") {
		has = append(has, api.Cred{Kind: api.Member, Head: r, Who: "bob"})
	}
	const other = "z.z <- ann if a.a"
	for _, lines := range [][]string{
		{"x.y <- ann if -"},
		{"x.y <- ann if " + nine},
		{"x.y <- ann if all()", "ack x.y if -", "hides x.y <- ann"},
		{"x.y <- ann if all()", "ack x.y if " + nine, "hides x.y <- ann"},
		{"x.y <- ann if " + five, "ack x.y if " + four, "hides x.y <- ann"},
		{"x.y <- ann if all(" + five + ", a.a)", "ack x.x if all()", "hides x.y <- ann", "ack x.y if " + four, "hides x.y <- ann", "ack x.z if a.r", "hides x.y <- ann"},
		{"x.y <- ann if " + deep6, "ack x.y if all()", "hides x.y <- ann"},
	} {
		checkFree(t, party(t, append(lines, other)...), has, "bob", "z.z <- ann")
	}
	for _, lines := range [][]string{
		{"x.y <- ann if " + five},
		{"x.y <- ann if " + five, "ack x.y if " + four, "hides x.y <- bob"},
		{"x.y <- ann if " + five, "ack x.y if -", "hides x.y <- bob"},
		{"x.y <- ann if " + five, "ack x.y if all(b.a, b.b, b.c)", "hides x.y <- ann"},
		{"x.y <- ann if " + deep6},
		{"x.y <- ann if " + deep5, "ack x.y if all()", "hides x.y <- ann"},
	} {
		checkFree(t, party(t, append(lines, other)...), has, "bob", "x.y <- ann; z.z <- ann")
	}
}

// P15.3: a set, however what it holds stands: rising, each once, the right ones.
func TestFreeSet(t *testing.T) {
	p := party(t, "c.t <- a.r if all()", "aa.r <- ann if all()", "- if all()", "c.t <- ann if all()", "b.s <- ann if some()", "a.r <- ann if all()", "c.t <- a.r if all()", "b.r <- ann if all()")
	checkFree(t, p, nil, "bob", "a.r <- ann; b.r <- ann; c.t <- ann; aa.r <- ann; c.t <- a.r")
	p.Name = "Ann"
	p.Creds[0].Tag = nil
	checkFree(t, p, nil, "bob", "a.r <- ann; b.r <- ann; c.t <- ann; aa.r <- ann; c.t <- a.r")
	p = api.Party{Creds: held(300)}
	checkFree(t, p, creds(t, "b.n1299 <- bob", "b.n1000 <- bob", "b.n1257 <- cy"), "bob", "a.r <- n1000; a.r <- n1299")
}

// P15.1, P15.3: the guard of what is held twice is that of the first one.
func TestFreeFirst(t *testing.T) {
	p := party(t, "a.r <- ann if all()", "a.r <- ann if some()", "b.s <- ann if some()", "b.s <- ann if all()", "c.t <- ann if -", "c.t <- ann if all()", "d.u <- ann if all()", "d.u <- ann if -")
	checkFree(t, p, nil, "bob", "a.r <- ann; d.u <- ann")
}

// P15.3: is each Ack of the Role true?
func TestTold(t *testing.T) {
	p := party(t,
		"a.r <- ann if some()",
		"ack a.r if shop.ok", "hides a.r <- ann",
		"ack b.s if some(shop.ok, bank.ok)",
		"ack c.t if some()", "hides c.t <- ann",
		"ack d.u if all()",
		"ack a.r if bank.ok",
		"ack e.v if -",
		"ack f.w if "+nine)
	for _, x := range []struct{ r, has, want string }{
		{"a.r", "", "no"},
		{"a.r", "shop.ok <- bob", "no"},
		{"a.r", "bank.ok <- bob", "no"},
		{"a.r", "bank.ok <- bob; shop.ok <- bob", "yes"},
		{"a.r", "bank.ok <- bob; shop.ok <- cy", "no"},
		{"a.r", "bank.ok <- bob; shop.ok <- bank.ok", "yes"},
		{"a.r", "a.r <- bob", "no"},
		{"b.s", "", "no"},
		{"b.s", "shop.ok <- bob", "yes"},
		{"b.s", "bank.ok <- bob", "yes"},
		{"b.s", "bank.ok <- cy", "no"},
		{"c.t", "bank.ok <- bob; shop.ok <- bob", "no"},
		{"d.u", "", "yes"},
		{"e.v", "bank.ok <- bob", "no"},
		{"f.w", "", "no"},
		{"f.w", "a.a <- bob; a.b <- bob; a.c <- bob; a.d <- bob; a.e <- bob; b.a <- bob; b.b <- bob; b.c <- bob", "no"},
		{"f.w", "a.a <- bob; a.b <- bob; a.c <- bob; a.d <- bob; a.e <- bob; b.a <- bob; b.b <- bob; b.c <- bob; b.d <- bob", "yes"},
		{"a.s", "", "yes"},
		{"b.r", "", "yes"},
		{"shop.ok", "", "yes"},
		{".", "", "yes"},
		{"A.r", "", "yes"},
	} {
		if got := guard.Told(p, of(x.r), creds(t, split(x.has)...), "bob"); got != (x.want == "yes") {
			t.Errorf("%s by %q: %v", x.r, x.has, got)
		}
	}
	for _, r := range roles("a.r b.s c.t e.v") {
		if guard.Told(p, r, creds(t, "bank.ok <- bob", "shop.ok <- bob"), "dan") {
			t.Errorf("%v: told to dan", r)
		}
	}
	if !guard.Told(api.Party{}, of("a.r"), nil, "") || !guard.Told(p, of("d.u"), nil, "") {
		t.Error("nothing bars it")
	}
}

// P15.3: in whatever order the Acks of a Role stand, each of them counts.
func TestToldEach(t *testing.T) {
	for at := range 3 {
		p := party(t, "ack a.r if all()", "ack b.s if some()", "ack a.r if all()", "ack a.r if all()")
		p.Acks[[]int{0, 2, 3}[at]].Release = parsed(t, "c.t")
		if guard.Told(p, of("a.r"), nil, "bob") || !guard.Told(p, of("a.r"), creds(t, "c.t <- bob"), "bob") {
			t.Errorf("%d", at)
		}
	}
}

// P15.4: with more credentials, one by one, no fewer are free, and none less is told.
func TestFreeMore(t *testing.T) {
	p := agent(t)
	all := creds(t, "cy.r <- cy", "shop.ok <- bob", "b.s <- bob", "a.r <- a.x.r", "a.x <- cy", "cy.r <- bob", "gov.agent <- gov.id", "gov.id <- bob", "bank.ok <- bob")
	free, toldOf := 0, 0
	for n := range len(all) + 1 {
		f := len(guard.Free(p, all[:n], "bob"))
		of := 0
		for _, a := range p.Acks {
			if guard.Told(p, a.Role, all[:n], "bob") {
				of++
			}
		}
		if f < free || of < toldOf {
			t.Errorf("behind %d: %d, %d", n, f, of)
		}
		free, toldOf = f, of
	}
	if free != 3 || toldOf != 3 {
		t.Errorf("in the end %d, %d", free, toldOf)
	}
}
