package chain_test

import (
	"math/rand"
	"slices"
	"testing"

	"entente/api"
	"entente/chain"
	"entente/check"
	"entente/cred"
	"entente/model"
	"entente/role"
)

// The owners, words and names of random credentials: few, so that much follows, in many ways.
var (
	owners = []string{"a", "b", "c", "d-1"}
	words  = []string{"r", "s", "t"}
	names  = []string{"a", "b", "c", "d-1", "e"}
)

func one(r *rand.Rand, l []string) string { return l[r.Intn(len(l))] }

// randomRole of few.
func randomRole(r *rand.Rand) api.Role {
	return api.Role{Owner: one(r, owners), Word: one(r, words)}
}

// random credential, now and then a wrong one.
func random(r *rand.Rand) api.Cred {
	c := api.Cred{Kind: 1 + r.Intn(4), Head: randomRole(r)}
	switch c.Kind {
	case api.Member:
		c.Who = one(r, names)
	case api.Include:
		c.B = randomRole(r)
	case api.Linked:
		c.B = api.Role{Owner: c.Head.Owner, Word: one(r, words)}
		c.Word2 = one(r, words)
	case api.Both:
		c.B, c.C = randomRole(r), randomRole(r)
		if role.Compare(c.B, c.C) > 0 {
			c.B, c.C = c.C, c.B
		}
	}
	if r.Intn(20) == 0 {
		c.Word2 += "-"
	}
	return c
}

// list of random credentials.
func list(r *rand.Rand, n int) []api.Cred {
	var l []api.Cred
	for range n {
		l = append(l, random(r))
	}
	return l
}

// all facts that random credentials may have.
func all() []api.Fact {
	var l []api.Fact
	for _, owner := range owners {
		for _, word := range words {
			for _, who := range names {
				l = append(l, api.Fact{Role: api.Role{Owner: owner, Word: word}, Who: who})
			}
		}
	}
	return l
}

// had tells whether a step of a chain has a fact.
func had(l []api.Step, r api.Role, who string) bool {
	return slices.ContainsFunc(l, func(s api.Step) bool { return s.Fact == api.Fact{Role: r, Who: who} })
}

// follows those ahead, by the document's words, one by one.
func follows(s api.Step, ahead []api.Step) bool {
	c, who := s.Cred, s.Fact.Who
	if !cred.Right(c) || s.Fact.Role != c.Head {
		return false
	}
	switch c.Kind {
	case api.Member:
		return c.Who == who
	case api.Include:
		return had(ahead, c.B, who)
	case api.Linked:
		return slices.ContainsFunc(names, func(b string) bool {
			return had(ahead, c.B, b) && had(ahead, api.Role{Owner: b, Word: c.Word2}, who)
		})
	}
	return had(ahead, c.B, who) && had(ahead, c.C, who)
}

// allFollow tells whether each step follows those ahead.
func allFollow(l []api.Step) bool {
	for i, s := range l {
		if !follows(s, l[:i]) {
			return false
		}
	}
	return true
}

// proves tells whether a chain of credentials does what P10.1 asks of it, by the document's words.
func proves(l []api.Step, may []api.Cred, want api.Fact) bool {
	if len(l) == 0 || l[len(l)-1].Fact != want || !allFollow(l) {
		return false
	}
	for i, s := range l {
		if !slices.Contains(may, s.Cred) || had(l[:i], s.Fact.Role, s.Fact.Who) {
			return false
		}
	}
	for i := range len(l) - 1 {
		if allFollow(slices.Delete(slices.Clone(l), i, i+1)) {
			return false
		}
	}
	return true
}

// P10.1, P10.3: what is in the least model has a chain that proves it, tight; what isn't has none.
func TestFindRandom(t *testing.T) {
	r := rand.New(rand.NewSource(10))
	long, several := 0, 0
	for n := range 250 {
		may := list(r, n%50)
		m := model.Of(may)
		for _, want := range all() {
			l, ok := chain.Find(may, want)
			if ok != m.In(want.Role, want.Who) {
				t.Fatalf("%v: %v: %v", may, want, ok)
			}
			if !ok {
				if len(l) > 0 {
					t.Fatalf("%v: %v: %q beside false", may, want, told(l))
				}
				continue
			}
			if !proves(l, may, want) {
				t.Fatalf("%v: %v: %q", may, want, told(l))
			}
			stands(t, l, may, want)
			if len(l) > 6 {
				long++
			}
			if len(chain.Used(l)) < len(l) {
				several++
			}
		}
	}
	if min(long, several) < 200 {
		t.Errorf("%d are long, %d take a credential more than once", long, several)
	}
}

// P10.1: Linked ones, so that a step follows by many names.
func TestFindLinkedRandom(t *testing.T) {
	r := rand.New(rand.NewSource(20))
	for range 300 {
		var may []api.Cred
		for len(may) < 30 {
			if c := random(r); c.Kind != api.Include && (c.Kind != api.Both || r.Intn(3) == 0) {
				may = append(may, c)
			}
		}
		for _, f := range model.Of(may).Facts() {
			if l, ok := chain.Find(may, f); !ok || !proves(l, may, f) {
				t.Fatalf("%v: %v: %q, %v", may, f, told(l), ok)
			}
		}
	}
}

// P10.1: the same each time, whatever the order of the credentials, and however often one is told.
func TestFindSame(t *testing.T) {
	r := rand.New(rand.NewSource(30))
	for n := range 50 {
		may := list(r, 10+n%40)
		facts := model.Of(may).Facts()
		first := map[api.Fact][]api.Step{}
		for _, f := range facts {
			first[f], _ = chain.Find(may, f)
		}
		for range 6 {
			for _, f := range facts {
				if l, ok := chain.Find(may, f); !ok || !slices.Equal(l, first[f]) {
					t.Fatalf("%v: %v: %q, not %q", may, f, told(l), told(first[f]))
				}
			}
			may = append(may, may[:1+r.Intn(len(may))]...)
			r.Shuffle(len(may), func(i, k int) { may[i], may[k] = may[k], may[i] })
			if len(may) > 400 {
				may = cred.Set(may...)
			}
		}
	}
}

// P10.1: what is found of a chain's own credentials is as good, and of fewer of them nothing else than the model says.
func TestFindOfUsed(t *testing.T) {
	r := rand.New(rand.NewSource(40))
	for n := range 100 {
		may := list(r, 20+n%30)
		for _, f := range model.Of(may).Facts() {
			l, _ := chain.Find(may, f)
			used := chain.Used(l)
			if again, ok := chain.Find(used, f); !ok || !proves(again, used, f) {
				t.Fatalf("%v: %v: %q, %v", used, f, told(again), ok)
			}
			for i := range used {
				less := slices.Delete(slices.Clone(used), i, i+1)
				if _, ok := chain.Find(less, f); ok != model.Of(less).In(f.Role, f.Who) {
					t.Fatalf("%v: %v: %v", less, f, ok)
				}
			}
		}
	}
}

// P10.2: Used is the set of the steps' credentials.
func TestUsedRandom(t *testing.T) {
	r := rand.New(rand.NewSource(50))
	for n := range 300 {
		var l []api.Step
		creds := list(r, n%20)
		for range 2 * len(creds) {
			l = append(l, api.Step{Cred: creds[r.Intn(len(creds))], Fact: all()[r.Intn(20)]})
		}
		used := chain.Used(l)
		if !slices.Equal(used, cred.Set(used...)) {
			t.Fatalf("%v is no set", used)
		}
		for _, s := range l {
			if slices.Contains(used, s.Cred) != cred.Right(s.Cred) {
				t.Fatalf("%v: %v", used, s.Cred)
			}
		}
		for _, c := range used {
			if !slices.ContainsFunc(l, func(s api.Step) bool { return s.Cred == c }) {
				t.Fatalf("%v isn't there", c)
			}
		}
	}
}

// P10.2: Merge by the document's words, of any steps.
func TestMergeRandom(t *testing.T) {
	r := rand.New(rand.NewSource(60))
	for n := range 500 {
		var ls [][]api.Step
		var want []api.Step
		for range n % 6 {
			var l []api.Step
			for range r.Intn(8) {
				s := api.Step{Cred: random(r), Fact: all()[r.Intn(12)]}
				l = append(l, s)
				if !had(want, s.Fact.Role, s.Fact.Who) {
					want = append(want, s)
				}
			}
			ls = append(ls, l)
		}
		if got := chain.Merge(ls...); !slices.Equal(got, want) {
			t.Fatalf("%v: %q, not %q", ls, told(got), told(want))
		}
	}
}

// P10.3: what is merged of chains that stand stands, by the credentials of all, and proves whatever one of them proves.
func TestMergeStandsRandom(t *testing.T) {
	r := rand.New(rand.NewSource(70))
	for n := range 300 {
		var ls [][]api.Step
		var may []api.Cred
		for range 1 + n%5 {
			creds := list(r, 10+r.Intn(20))
			for _, f := range model.Of(creds).Facts() {
				if l, ok := chain.Find(creds, f); ok && r.Intn(4) == 0 {
					ls = append(ls, l)
					may = append(may, chain.Used(l)...)
				}
			}
		}
		m := chain.Merge(ls...)
		if !allFollow(m) {
			t.Fatalf("%q", told(m))
		}
		for _, l := range ls {
			for _, s := range l {
				if at, e := check.Check(m, may, s.Fact); at != len(m) || e != api.OK {
					t.Fatalf("%q: %v: %d, %v", told(m), s.Fact, at, e)
				}
			}
		}
	}
}
