package unlock_test

import (
	"slices"
	"strings"
	"testing"

	"entente/api"
	"entente/chain"
	"entente/cred"
	"entente/role"
	"entente/unlock"
)

// toldSteps of a chain: their texts, with semicolons between.
func toldSteps(l []api.Step) string {
	var texts []string
	for _, s := range l {
		texts = append(texts, cred.Text(s.Cred)+": "+role.Text(s.Fact.Role)+" "+s.Fact.Who)
	}
	return strings.Join(texts, "; ")
}

// checkProof holds what Grants and Proof answer against texts; "-" is none.
func checkProof(t *testing.T, a, b api.Party, f api.Formula, grants bool, want string) {
	t.Helper()
	if got := unlock.Grants(a, b, f); got != grants {
		t.Errorf("%v: granted %v", f, got)
	}
	l, ok := unlock.Proof(a, b, f)
	if want == "-" {
		if ok || len(l) != 0 {
			t.Errorf("%v: %s, %v", f, toldSteps(l), ok)
		}
		return
	}
	if !ok || toldSteps(l) != want {
		t.Errorf("%v: %q, %v, not %q", f, toldSteps(l), ok, want)
	}
}

// shop and the one who asks it.
func shop(t *testing.T) (api.Party, api.Party) {
	t.Helper()
	return party(t, "shop", "bbb.good <- shop if all()", "gov.firm <- shop if gov.id"),
		anns(t, "gov.id <- ann if bbb.good", "gov.spy <- ann if gov.id", "gov.vet <- ann if gov.firm", "gov.all <- gov.vet if all()", "gov.two <- gov.id & gov.vet if all()")
}

// P16.2: true of the roles that b is in by what b shows in the end; a chain of each role, in order, laid behind one another.
func TestGrantsAndProof(t *testing.T) {
	a, b := shop(t)
	const id, vet = "gov.id <- ann: gov.id ann", "gov.vet <- ann: gov.vet ann"
	for _, x := range []struct {
		f      string
		grants bool
		want   string
	}{
		{"gov.id", true, id},
		{"gov.vet", true, vet},
		{"gov.id and gov.vet", true, id + "; " + vet},
		{"gov.vet and gov.id", true, id + "; " + vet},
		{"gov.spy", false, "-"},
		{"gov.spy and gov.id", false, "-"},
		{"gov.spy or gov.id", true, id},
		{"gov.vet or gov.id", true, id},
		{"gov.vet or all(gov.id, gov.all)", true, vet},
		{"gov.all", true, vet + "; gov.all <- gov.vet: gov.all ann"},
		{"gov.all and gov.vet", true, vet + "; gov.all <- gov.vet: gov.all ann"},
		{"gov.two", true, id + "; " + vet + "; gov.two <- gov.id & gov.vet: gov.two ann"},
		{"gov.two and gov.vet and gov.id", true, id + "; " + vet + "; gov.two <- gov.id & gov.vet: gov.two ann"},
		{"at 2(gov.spy, gov.vet, gov.id)", true, id + "; " + vet},
		{"at 2(gov.spy, gov.vet, gov.no)", false, "-"},
		{"all()", true, ""},
		{"at 0(gov.spy)", true, ""},
		{"gov.spy or all()", true, ""},
		{"some()", false, "-"},
		{"gov.id and some()", false, "-"},
		{"-", false, "-"},
		// What a shows, or is in, says nothing of b.
		{"bbb.good", false, "-"},
		{"gov.firm", false, "-"},
	} {
		checkProof(t, a, b, parsed(t, x.f), x.grants, x.want)
	}
}

// P16.2: of b, the second one: the other way round another one is asked.
func TestGrantsOfTheSecond(t *testing.T) {
	a, b := shop(t)
	for _, s := range []string{"gov.id", "gov.vet", "gov.all"} {
		checkProof(t, b, a, parsed(t, s), false, "-")
	}
	checkProof(t, b, a, parsed(t, "bbb.good"), true, "bbb.good <- shop: bbb.good shop")
	checkProof(t, b, a, parsed(t, "gov.firm and bbb.good"), true, "bbb.good <- shop: bbb.good shop; gov.firm <- shop: gov.firm shop")
}

// P16.2: what b holds and doesn't show is no account, nor what a shows; who else is in a role neither.
func TestGrantsByShown(t *testing.T) {
	f := parsed(t, "a.r")
	for _, x := range []struct {
		a, b []string
		want string
	}{
		{nil, []string{"a.r <- bob if all()"}, "a.r <- bob: a.r bob"},
		{nil, []string{"a.r <- bob if some()"}, "-"},
		{nil, []string{"a.r <- bob if a.r"}, "-"},
		{nil, []string{"a.r <- cy if all()"}, "-"},
		{nil, []string{"a.r <- ann if all()"}, "-"},
		{[]string{"a.r <- bob if all()"}, nil, "-"},
		{[]string{"b.s <- bob if all()"}, []string{"a.r <- b.s if all()"}, "-"},
		{[]string{"a.r <- b.s if all()"}, []string{"b.s <- bob if all()"}, "-"},
		{nil, []string{"a.r <- b.s if all()", "b.s <- bob if all()"}, "b.s <- bob: b.s bob; a.r <- b.s: a.r bob"},
		{nil, []string{"a.r <- b.s if all()", "b.s <- bob if c.t"}, "-"},
		{[]string{"c.t <- ann if all()"}, []string{"a.r <- b.s if all()", "b.s <- bob if c.t"}, "b.s <- bob: b.s bob; a.r <- b.s: a.r bob"},
		{nil, []string{"a.r <- bob if all()", "ack a.r if c.t", "hides a.r <- bob"}, "-"},
		{[]string{"c.t <- ann if all()"}, []string{"a.r <- bob if all()", "ack a.r if c.t", "hides a.r <- bob"}, "a.r <- bob: a.r bob"},
		{nil, []string{"a.r <- bob if -"}, "-"},
	} {
		checkProof(t, anns(t, x.a...), bobs(t, x.b...), f, x.want != "-", x.want)
	}
}

// P16.2: a formula that isn't right is granted to none.
func TestGrantsWrong(t *testing.T) {
	b := bobs(t, "a.r <- bob if all()")
	kid := parsed(t, "a.r")
	for _, f := range []api.Formula{
		{Op: 5, Kids: []api.Formula{kid}},
		{Op: api.Atom},
		{Op: api.Atom, Role: of("a.r"), K: 1},
		{Op: api.Atom, Role: of("A.r")},
		{Op: api.All, K: 1},
		{Op: api.AtK},
		{Op: api.AtK, K: 2, Kids: []api.Formula{kid}},
		{Op: api.Some, Kids: slices.Repeat([]api.Formula{kid}, 9)},
		{Op: api.Some, Kids: []api.Formula{kid, {}}},
	} {
		checkProof(t, anns(t), b, f, false, "-")
	}
}

// atoms a.n1, a.n2 and so on.
func atoms(n int) []string {
	var l []string
	for i := range n {
		l = append(l, "a.n"+string(rune('a'+i)))
	}
	return l
}

// P16.2: where layer 14 has an error there is no proof, though it is granted: of more than 12 Atoms, of more than 128 least sets.
func TestProofNone(t *testing.T) {
	var lines []string
	for _, r := range atoms(13) {
		lines = append(lines, r+" <- bob if all()")
	}
	b := bobs(t, lines...)
	join := func(l []string) string { return "some(" + strings.Join(l, ", ") + ")" }
	l := atoms(13)
	checkProof(t, anns(t), b, parsed(t, "all("+join(l[:6])+", "+join(l[6:12])+")"), true, "a.na <- bob: a.na bob; a.ng <- bob: a.ng bob")
	checkProof(t, anns(t), b, parsed(t, "all("+join(l[:6])+", "+join(l[6:13])+")"), true, "-")
	four := join(l[:4]) + ", " + join(l[4:8])
	checkProof(t, anns(t), b, parsed(t, "all("+four+", "+join(l[8:12])+")"), true, "a.na <- bob: a.na bob; a.ne <- bob: a.ne bob; a.ni <- bob: a.ni bob")
	// Two to the seventh are 128 and go, three times as many don't.
	pairs := "all(some(a.na, a.nb), some(a.nc, a.nd), some(a.ne, a.nf), some(a.ng, a.nh), some(a.ni, a.nj), "
	checkProof(t, anns(t), b, parsed(t, pairs+"some(a.nk, a.nl))"), true, "a.na <- bob: a.na bob; a.nc <- bob: a.nc bob; a.ne <- bob: a.ne bob; a.ng <- bob: a.ng bob; a.ni <- bob: a.ni bob; a.nk <- bob: a.nk bob")
	triples := "all(some(a.na, a.nb, a.nc), some(a.nd, a.ne, a.nf), some(a.ng, a.nh, a.ni), "
	checkProof(t, anns(t), b, parsed(t, triples+"some(a.nj, a.nk, a.nl), at 0(a.na))"), true, "a.na <- bob: a.na bob; a.nd <- bob: a.nd bob; a.ng <- bob: a.ng bob; a.nj <- bob: a.nj bob")
	checkProof(t, anns(t), b, parsed(t, "at 5("+strings.Join(l[:8], ", ")+")"), true, "a.na <- bob: a.na bob; a.nb <- bob: a.nb bob; a.nc <- bob: a.nc bob; a.nd <- bob: a.nd bob; a.ne <- bob: a.ne bob")
	many := "all(at 2(a.na, a.nb, a.nc, a.nd), at 2(a.ne, a.nf, a.ng, a.nh), at 2(a.ni, a.nj, a.nk, a.nl))"
	checkProof(t, anns(t), b, parsed(t, many), true, "-")
}

// P16.2: of several least sets the first one whose roles b is all in.
func TestProofFirst(t *testing.T) {
	b := bobs(t, "c.t <- bob if all()", "d.u <- bob if all()", "e.v <- bob if all()", "a.r <- bob if some()")
	checkProof(t, anns(t), b, parsed(t, "at 2(a.r, c.t, d.u, e.v)"), true, "c.t <- bob: c.t bob; d.u <- bob: d.u bob")
	checkProof(t, anns(t), b, parsed(t, "a.r or (c.t and d.u) or (a.r and e.v)"), true, "c.t <- bob: c.t bob; d.u <- bob: d.u bob")
	checkProof(t, anns(t), b, parsed(t, "e.v or (c.t and d.u)"), true, "e.v <- bob: e.v bob")
	checkProof(t, anns(t), b, parsed(t, "all(a.r, some(c.t, d.u))"), false, "-")
}

// P16.2: what two roles lean on stands once in the proof, at its first place.
func TestProofMerged(t *testing.T) {
	b := bobs(t, "a.r <- x.y if all()", "b.s <- x.y if all()", "x.y <- bob if all()", "c.t <- a.r & b.s if all()")
	const x, r, s = "x.y <- bob: x.y bob", "a.r <- x.y: a.r bob", "b.s <- x.y: b.s bob"
	checkProof(t, anns(t), b, parsed(t, "a.r and b.s"), true, x+"; "+r+"; "+s)
	checkProof(t, anns(t), b, parsed(t, "b.s and x.y"), true, x+"; "+s)
	l, ok := unlock.Proof(anns(t), b, parsed(t, "c.t and a.r and b.s"))
	if !ok || len(l) != 4 || len(chain.Used(l)) != 4 || l[3].Fact.Role != of("c.t") {
		t.Errorf("%s, %v", toldSteps(l), ok)
	}
}
