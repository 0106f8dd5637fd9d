package check_test

import (
	"slices"
	"testing"

	"entente/api"
	"entente/check"
)

// P9.2: by hand.
func TestTight(t *testing.T) {
	for _, x := range []struct {
		what, chain string
		want        bool
	}{
		{"nothing", "", true},
		{"a Member", "a.r <- d: d", true},
		{"an Include alone", "a.r <- b.s: d", false},
		{"a row", "b.s <- d: d\n a.r <- b.s: d", true},
		{"a row the other way round", "a.r <- b.s: d\n b.s <- d: d", false},
		{"two that don't lean on one another", "b.s <- d: d\n a.r <- d: d", false},
		{"an Include of one of two", "b.s <- d: d\n c.t <- d: d\n a.r <- b.s: d", false},
		{"an Include of the same role, of one of two", "b.s <- d: d\n b.s <- e: e\n a.r <- b.s: d", false},
		{"a Both", "b.s <- d: d\n c.t <- d: d\n a.r <- b.s & c.t: d", true},
		{"a Both that leans on one in two ways", "b.s <- d: d\n c.t <- b.s: d\n a.r <- b.s & c.t: d", true},
		{"a Both without its half", "b.s <- d: d\n a.r <- b.s & c.t: d", false},
		{"a Linked", "a.s <- b: b\n b.t <- d: d\n a.r <- a.s.t: d", true},
		{"a Linked by either of two: none is needed", "a.s <- b: b\n b.t <- d: d\n a.s <- c: c\n c.t <- d: d\n a.r <- a.s.t: d", false},
		{"a Linked with a middle too many", "a.s <- b: b\n a.s <- c: c\n b.t <- d: d\n a.r <- a.s.t: d", false},
		{"a Linked with an end too many", "a.s <- b: b\n b.t <- d: d\n c.t <- d: d\n a.r <- a.s.t: d", false},
		{"a Linked by two, each of which another one needs", "a.s <- b: b\n a.s <- c: c\n b.t <- d: d\n c.t <- d: d\n e.e <- b.t & c.t: d\n a.r <- a.s.t: d", false},
		{"a Linked by its middle alone", "a.s <- a: a\n a.r <- a.s.s: a", true},
		{"a Linked by two ways through one, of which it is needed, the other one not", "a.s <- b: b\n a.s <- a: a\n b.s <- b: b\n a.r <- a.s.s: b", false},
		{"a Linked by either of two, of which all but the first middle is needed by another one", `
			a.s <- b: b
			b.t <- d: d
			a.s <- c: c
			c.t <- d: d
			a.r <- a.s.t: d
			f.w <- a.s: c
			c.k <- b.t & c.t: d
			f.v <- f.w.k: d
			f.f <- a.r & f.v: d`, false},
		{"a Linked by either of two, of which all but the last middle is needed by another one", `
			a.s <- c: c
			c.t <- d: d
			a.s <- b: b
			b.t <- d: d
			a.r <- a.s.t: d
			f.w <- a.s: c
			c.k <- b.t & c.t: d
			f.v <- f.w.k: d
			f.f <- a.r & f.v: d`, false},
		{"a Linked by two ways through one: it is needed, and others need the rest", `
			a.s <- b: b
			a.s <- a: a
			b.s <- b: b
			a.r <- a.s.s: b
			f.w <- a.s: a
			a.k <- a.r & b.s: b
			f.f <- f.w.k: b`, true},
		{"the last one leans on the first one alone", "a.r <- d: d\n b.s <- a.r: d\n c.t <- a.r: d", false},
		{"one that two lean on", "a.r <- d: d\n b.s <- a.r: d\n c.t <- a.r: d\n e.u <- b.s & c.t: d", true},
		{"the same step twice", "a.r <- d: d\n a.r <- d: d", false},
		{"the same step twice, ahead of one that leans on it", "b.s <- d: d\n b.s <- d: d\n a.r <- b.s: d", false},
		{"the same fact by two credentials", "a.r <- d: d\n b.s <- a.r: d\n a.r <- b.s: d", false},
		{"a step in between that leads to nothing", "b.s <- d: d\n x.y <- b.s: d\n a.r <- b.s: d", false},
		{"a step ahead of all that leads to nothing", "x.y <- d: d\n b.s <- d: d\n a.r <- b.s: d", false},
		{"the last step leads to nothing, and the one ahead of it", "b.s <- d: d\n a.r <- b.s: d\n c.t <- e: e", false},
		{"one of another's name", "b.s <- d: d\n a.r <- b.s: e", false},
	} {
		if got := check.Tight(steps(t, lines(x.chain)...)); got != x.want {
			t.Errorf("%s: %v", x.what, got)
		}
	}
}

// P9.2: shop's chain, and what is left of it.
func TestTightShop(t *testing.T) {
	l := shop(t)
	if !check.Tight(l) || !check.Tight(l[:3]) || !check.Tight(l[3:5]) {
		t.Error("it isn't tight")
	}
	for i := range l[:5] {
		if check.Tight(slices.Delete(slices.Clone(l), i, i+1)) {
			t.Errorf("without %d it is tight", i)
		}
	}
	for i := range len(l) + 1 {
		for _, more := range []string{"x.y <- ann: ann", "club.member <- bob: bob", "club.member <- ann: ann", "bank.old <- club: club"} {
			if check.Tight(slices.Insert(slices.Clone(l), i, steps(t, more)...)) {
				t.Errorf("with %q at %d it is tight", more, i)
			}
		}
	}
	// What else needs the last step makes the chain longer, and it is tight again.
	if !check.Tight(append(l, steps(t, "x.y <- shop.best: ann")...)) {
		t.Error("a step longer it isn't tight")
	}
}

// P9.2: with a wrong credential no chain is tight.
func TestTightWrong(t *testing.T) {
	for _, c := range wrong {
		for _, who := range []string{"ann", "a", "", c.Who} {
			s := api.Step{Cred: c, Fact: api.Fact{Role: c.Head, Who: who}}
			if check.Tight([]api.Step{s}) || check.Tight(append(steps(t, "a.r <- ann: ann", "a.s <- ann: ann"), s)) {
				t.Errorf("%v is tight", s)
			}
		}
	}
	s := steps(t, "a.r <- d: d")
	s[0].Fact.Role = of("a.s")
	if check.Tight(s) {
		t.Error("a fact of another role is tight")
	}
}
