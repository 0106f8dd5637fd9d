package check_test

import (
	"slices"
	"strconv"
	"strings"
	"testing"

	"entente/api"
	"entente/check"
	"entente/cred"
	"entente/role"
)

// longest name: of 16 signs.
const longest = "abcdefghijklmn-9"

// of makes a role of its text, right or not.
func of(s string) api.Role {
	owner, word, _ := strings.Cut(s, ".")
	return api.Role{Owner: owner, Word: word}
}

// facts of their texts, right or not: "a.r: ann".
func facts(texts ...string) []api.Fact {
	var l []api.Fact
	for _, text := range texts {
		r, who, _ := strings.Cut(text, ": ")
		l = append(l, api.Fact{Role: of(r), Who: who})
	}
	return l
}

// steps of their texts: "a.r <- b.s: ann". The fact is of the credential's head.
func steps(t *testing.T, texts ...string) []api.Step {
	t.Helper()
	var l []api.Step
	for _, text := range texts {
		said, who, _ := strings.Cut(text, ":")
		c, ok := cred.Parse(said)
		if !ok {
			t.Fatalf("%q is no credential", said)
		}
		l = append(l, api.Step{Cred: c, Fact: api.Fact{Role: c.Head, Who: strings.TrimSpace(who)}})
	}
	return l
}

// creds of a chain.
func creds(l []api.Step) []api.Cred {
	var c []api.Cred
	for _, s := range l {
		c = append(c, s.Cred)
	}
	return c
}

// lines of a text, trimmed, without empty ones.
func lines(s string) []string {
	var l []string
	for line := range strings.Lines(s) {
		if line = strings.TrimSpace(line); line != "" {
			l = append(l, line)
		}
	}
	return l
}

// told is the texts of a chain's steps.
func told(l []api.Step) []string {
	var s []string
	for _, x := range l {
		s = append(s, cred.Text(x.Cred)+": "+role.Text(x.Fact.Role)+" has "+x.Fact.Who)
	}
	return s
}

// shop's chain: each kind of credential, and each step needed by one behind it.
func shop(t *testing.T) []api.Step {
	t.Helper()
	return steps(t, "club.member <- ann: ann", "shop.partner <- club: club", "shop.deal <- shop.partner.member: ann", "bank.old <- ann: ann", "bank.ok <- bank.old: ann", "shop.best <- bank.ok & shop.deal: ann")
}

// a.r <- b.s (d in a.r) alone: place 0, ErrChain.
func TestAlone(t *testing.T) {
	l := steps(t, "a.r <- b.s: d")
	if n, e := check.Check(l, creds(l), l[0].Fact); n != 0 || e != api.ErrChain {
		t.Errorf("%d, %v", n, e)
	}
}

// P9.1: a chain that proves it, of whatever is wanted of it, and with whatever other credentials there are, in any order.
func TestCheck(t *testing.T) {
	l := shop(t)
	may := append(creds(l), creds(steps(t, "x.y <- z: z", "shop.best <- ann: ann"))...)
	for range 2 {
		for _, want := range l {
			if n, e := check.Check(l, may, want.Fact); n != 6 || e != api.OK {
				t.Errorf("%v: %d, %v", want.Fact, n, e)
			}
		}
		may = append(may, api.Cred{}, may[0])
		slices.Reverse(may)
	}
}

// P9.1: the fact that is wanted isn't there: whoever else or whatever else is.
func TestCheckNone(t *testing.T) {
	l := shop(t)
	for _, want := range append(facts("shop.best: bob", "shop.best: ", "shop.better: ann", "bank.best: ann", "ann.shop: best", ".: ann"), api.Fact{}) {
		for n := range l {
			if got, e := check.Check(l[:n], creds(l), want); got != n || e != api.ErrNone {
				t.Errorf("%d, %v: %d, %v", n, want, got, e)
			}
		}
	}
	// A chain without the step that brings it.
	for n := range l {
		if got, e := check.Check(l[:n], creds(l), l[n].Fact); got != n || e != api.ErrNone {
			t.Errorf("%d: %d, %v", n, got, e)
		}
	}
	// What a credential that may be used would bring isn't there without its step.
	if got, e := check.Check(nil, creds(steps(t, "a.r <- d: d")), facts("a.r: d")[0]); got != 0 || e != api.ErrNone {
		t.Errorf("%d, %v", got, e)
	}
	if got, e := check.Check(nil, nil, api.Fact{}); got != 0 || e != api.ErrNone {
		t.Errorf("%d, %v", got, e)
	}
}

// P9.1: the first step that doesn't follow, whatever is behind it, and whether or not the fact that is wanted is there.
func TestCheckChain(t *testing.T) {
	for _, x := range []struct {
		what, chain string
		at          int
	}{
		{"without what it leans on", "a.r <- b.s: d", 0},
		{"what it leans on is behind it", "a.r <- b.s: d\n b.s <- d: d", 0},
		{"it leans on itself", "a.r <- a.r: d", 0},
		{"two lean on each other", "a.r <- b.s: d\n b.s <- a.r: d", 0},
		{"another one's Member", "a.r <- d: e", 0},
		{"another one's Include", "b.s <- d: d\n a.r <- b.s: e", 1},
		{"of another role", "b.t <- d: d\n a.r <- b.s: d", 1},
		{"the second of three", "b.s <- d: d\n a.r <- c.t: d\n a.r <- b.s: d", 1},
		{"the last of three", "b.s <- d: d\n a.r <- b.s: d\n a.r <- c.t: d", 2},
		{"two of three: the first one is told", "b.s <- d: d\n a.r <- c.t: d\n a.r <- d.u: d", 1},
		{"a Both of one", "b.s <- d: d\n a.r <- b.s & c.t: d", 1},
		{"a Both of two, of unlike ones", "b.s <- d: d\n c.t <- e: e\n a.r <- b.s & c.t: d", 2},
		{"a Linked without its middle", "b.t <- d: d\n a.r <- a.s.t: d", 1},
		{"a Linked without its end", "a.s <- b: b\n a.r <- a.s.t: d", 1},
		{"a Linked of another middle", "a.s <- c: c\n b.t <- d: d\n a.r <- a.s.t: d", 2},
		{"nobody", "a.r <- d: d\n b.s <- a.r: ", 1},
	} {
		l := steps(t, lines(x.chain)...)
		for _, want := range append(facts("zz.zz: zz"), l[0].Fact, l[len(l)-1].Fact) {
			if n, e := check.Check(l, creds(l), want); n != x.at || e != api.ErrChain {
				t.Errorf("%s: %d, %v", x.what, n, e)
			}
		}
	}
}

// P9.1: a step of shop's chain left out, or swapped with the next one.
func TestCheckShop(t *testing.T) {
	l := shop(t)
	for i, at := range []int{1, 1, 4, 3, 4} {
		less := slices.Delete(slices.Clone(l), i, i+1)
		if n, e := check.Check(less, creds(l), l[5].Fact); n != at || e != api.ErrChain {
			t.Errorf("without %d: %d, %v, not %d", i, n, e, at)
		}
	}
	for i, at := range []int{-1, 1, -1, 3, 4} {
		swapped := slices.Clone(l)
		swapped[i], swapped[i+1] = swapped[i+1], swapped[i]
		n, e := check.Check(swapped, creds(l), l[5].Fact)
		if at < 0 && (n != 6 || e != api.OK) || at >= 0 && (n != at || e != api.ErrChain) {
			t.Errorf("%d later: %d, %v, not %d", i, n, e, at)
		}
	}
}

// P9.1: a step whose credential isn't among those that may be used.
func TestCheckAmong(t *testing.T) {
	l := shop(t)
	for i := range l {
		less := slices.Delete(creds(l), i, i+1)
		for _, want := range []api.Fact{l[5].Fact, l[0].Fact, {}} {
			if n, e := check.Check(l, less, want); n != i || e != api.ErrChain {
				t.Errorf("without %d: %d, %v", i, n, e)
			}
		}
		// One that is like it but for one thing is another one.
		for _, s := range []string{"club.member <- bob", "shop.partner <- shop", "shop.deal <- shop.partner.mate", "bank.ok <- bank.new", "shop.best <- bank.ok & shop.dealt"} {
			c, _ := cred.Parse(s)
			if n, e := check.Check(l, append(less, c), l[5].Fact); n != i || e != api.ErrChain {
				t.Errorf("%q for %d: %d, %v", s, i, n, e)
			}
		}
	}
	if n, e := check.Check(l, nil, l[5].Fact); n != 0 || e != api.ErrChain {
		t.Errorf("%d, %v", n, e)
	}
	// Of two wrong steps the first one is told, whatever each lacks.
	two := append(l[:2:2], steps(t, "a.r <- b.s: d", "c.t <- d: d")...)
	for _, may := range [][]api.Cred{creds(two), creds(two)[:2], creds(two)[:3]} {
		if n, e := check.Check(two, may, l[0].Fact); n != 2 || e != api.ErrChain {
			t.Errorf("%v: %d, %v", may, n, e)
		}
	}
}

// P9.1: a chain in which facts, or steps, are there twice.
func TestCheckTwice(t *testing.T) {
	l := steps(t, "a.r <- d: d", "a.r <- d: d", "b.s <- d: d", "a.r <- b.s: d", "c.t <- a.r: d", "c.t <- a.r: d")
	for _, s := range l {
		if n, e := check.Check(l, creds(l), s.Fact); n != 6 || e != api.OK {
			t.Errorf("%v: %d, %v", s.Fact, n, e)
		}
	}
}

// P9.1: a wrong credential doesn't follow, though it is among those that may be used.
func TestCheckWrong(t *testing.T) {
	l := steps(t, "a.r <- ann: ann", "a.s <- ann: ann", "ann.r <- ann: ann", "a.a <- a: a")
	for _, c := range wrong {
		for _, who := range []string{"ann", "a", "", c.Who} {
			bad := append(slices.Clone(l), api.Step{Cred: c, Fact: api.Fact{Role: c.Head, Who: who}})
			if n, e := check.Check(bad, creds(bad), l[0].Fact); n != 4 || e != api.ErrChain {
				t.Errorf("%v: %d, %v", bad[4], n, e)
			}
		}
	}
}

// A long chain, each step of which leans on the one ahead.
func TestCheckLong(t *testing.T) {
	const n = 20000
	l := steps(t, "a.r0 <- d: d")
	for i := range n {
		r := api.Role{Owner: "a", Word: "r" + strconv.Itoa(i+1)}
		l = append(l, api.Step{Cred: api.Cred{Kind: api.Include, Head: r, B: l[i].Fact.Role}, Fact: api.Fact{Role: r, Who: "d"}})
	}
	if got, e := check.Check(l, creds(l), l[n].Fact); got != n+1 || e != api.OK {
		t.Errorf("%d, %v", got, e)
	}
	if !check.Tight(l) || !check.Follows(l[n], []api.Fact{l[n-1].Fact}) {
		t.Error("it isn't tight")
	}
	less := slices.Delete(slices.Clone(l), n/2, n/2+1)
	if got, e := check.Check(less, creds(l), l[n].Fact); got != n/2 || e != api.ErrChain {
		t.Errorf("%d, %v", got, e)
	}
	if check.Tight(less) {
		t.Error("it is tight")
	}
}
