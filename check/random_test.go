package check_test

import (
	"math/rand"
	"slices"
	"testing"

	"entente/api"
	"entente/check"
	"entente/cred"
	"entente/model"
	"entente/name"
	"entente/role"
)

// The owners, words and names of random steps: few, so that much follows.
var (
	owners = []string{"a", "b", "c"}
	words  = []string{"r", "s"}
)

func one(r *rand.Rand, l []string) string { return l[r.Intn(len(l))] }

// randomRole of few.
func randomRole(r *rand.Rand) api.Role {
	return api.Role{Owner: one(r, owners), Word: one(r, words)}
}

// random step, now and then a wrong one.
func random(r *rand.Rand) api.Step {
	c := api.Cred{Kind: 1 + r.Intn(4), Head: randomRole(r)}
	f := api.Fact{Role: c.Head, Who: one(r, owners)}
	switch c.Kind {
	case api.Member:
		c.Who = f.Who
	case api.Include:
		c.B = randomRole(r)
	case api.Linked:
		c.B = api.Role{Owner: c.Head.Owner, Word: one(r, words)}
		c.Word2 = one(r, words)
	case api.Both:
		c.B, c.C = randomRole(r), randomRole(r)
		if role.Compare(c.B, c.C) > 0 {
			c.B, c.C = c.C, c.B
		}
	}
	switch r.Intn(40) {
	case 0:
		c.Word2 += "-"
	case 1:
		f.Role = randomRole(r)
	case 2:
		f.Who = one(r, owners)
	}
	return api.Step{Cred: c, Fact: f}
}

// has tells whether a fact is among facts.
func has(l []api.Fact, r api.Role, who string) bool {
	return slices.Contains(l, api.Fact{Role: r, Who: who})
}

// follows by the document's words, one by one.
func follows(s api.Step, had []api.Fact) bool {
	c, who := s.Cred, s.Fact.Who
	if !cred.Right(c) || s.Fact.Role != c.Head {
		return false
	}
	switch c.Kind {
	case api.Member:
		return c.Who == who
	case api.Include:
		return has(had, c.B, who)
	case api.Linked:
		return slices.ContainsFunc(owners, func(b string) bool {
			return has(had, c.B, b) && has(had, api.Role{Owner: b, Word: c.Word2}, who)
		})
	}
	return has(had, c.B, who) && has(had, c.C, who)
}

// factsOf steps.
func factsOf(l []api.Step) []api.Fact {
	var f []api.Fact
	for _, s := range l {
		f = append(f, s.Fact)
	}
	return f
}

// firstWrong place of a chain, -1 if there is none.
func firstWrong(l []api.Step) int {
	for i, s := range l {
		if !follows(s, factsOf(l[:i])) {
			return i
		}
	}
	return -1
}

// tight by the document's words: each follows, unlike facts, and without each but the last one of the others follows no more.
func tight(l []api.Step) bool {
	if firstWrong(l) >= 0 {
		return false
	}
	for i, s := range l {
		if slices.Contains(factsOf(l[:i]), s.Fact) {
			return false
		}
	}
	for i := range len(l) - 1 {
		if firstWrong(slices.Delete(slices.Clone(l), i, i+1)) < 0 {
			return false
		}
	}
	return true
}

// chain of random steps, most of which follow.
func chain(r *rand.Rand, n int) []api.Step {
	var l []api.Step
	for range n {
		s := random(r)
		for tries := 0; tries < 30 && r.Intn(200) > 0 && (!follows(s, factsOf(l)) || has(factsOf(l), s.Fact.Role, s.Fact.Who)); tries++ {
			s = random(r)
		}
		l = append(l, s)
	}
	return l
}

// trim a chain: steps that no other one needs are left out, the last one not.
func trim(l []api.Step) []api.Step {
	for i := len(l) - 2; i >= 0; i-- {
		less := slices.Delete(slices.Clone(l), i, i+1)
		if firstWrong(l) < 0 && firstWrong(less) < 0 {
			l = less
			i = len(l) - 1
		}
	}
	return l
}

// P9.1: Follows as the document says it.
func TestFollowsRandom(t *testing.T) {
	r := rand.New(rand.NewSource(19))
	yes := 0
	for range 20000 {
		var had []api.Fact
		for range r.Intn(8) {
			had = append(had, api.Fact{Role: randomRole(r), Who: one(r, owners)})
		}
		s := random(r)
		if follows(s, had) {
			yes++
		}
		if check.Follows(s, had) != follows(s, had) {
			t.Fatalf("%v by %v: %v", s, had, check.Follows(s, had))
		}
	}
	if yes < 2000 || yes > 18000 {
		t.Errorf("%d follow", yes)
	}
}

// P9.1, P9.4: Check as the document says it; what it finds right is in the least model of the credentials.
func TestCheckRandom(t *testing.T) {
	r := rand.New(rand.NewSource(29))
	var seen [3]int
	for n := range 4000 {
		l := chain(r, n%9)
		may := creds(l)
		if len(may) > 0 && n%7 == 0 {
			may = slices.Delete(may, r.Intn(len(may)), len(may))
		}
		want := api.Fact{Role: randomRole(r), Who: one(r, owners)}
		at, e := firstWrong(l), api.ErrChain
		for i, s := range l {
			if !slices.Contains(may, s.Cred) && (at < 0 || i < at) {
				at = i
			}
		}
		switch {
		case at >= 0:
			seen[0]++
		case slices.Contains(factsOf(l), want):
			at, e = len(l), api.OK
			seen[1]++
		default:
			at, e = len(l), api.ErrNone
			seen[2]++
		}
		if got, ge := check.Check(l, may, want); got != at || ge != e {
			t.Fatalf("%q: %d, %v, not %d, %v", told(l), got, ge, at, e)
		}
		inModel(t, l, may)
	}
	if min(seen[0], seen[1], seen[2]) < 200 {
		t.Errorf("seen %v", seen)
	}
}

// inModel: whatever is checked is in the least model.
func inModel(t *testing.T, l []api.Step, may []api.Cred) {
	t.Helper()
	m := model.Of(may)
	for _, owner := range owners {
		for _, word := range words {
			for _, who := range owners {
				want := api.Fact{Role: api.Role{Owner: owner, Word: word}, Who: who}
				if _, e := check.Check(l, may, want); e == api.OK && !m.In(want.Role, who) {
					t.Fatalf("%q: %v isn't in the model", told(l), want)
				}
			}
		}
	}
}

// P9.4: and the other way round: what is in the model is proved by a chain that takes each credential as often as it brings a fact.
func TestModelIsProved(t *testing.T) {
	r := rand.New(rand.NewSource(39))
	for range 300 {
		may := creds(chain(r, 8))
		facts := model.Of(may).Facts()
		var l []api.Step
		for more := true; more; {
			more = false
			for _, c := range cred.Set(may...) {
				for _, who := range name.Set(owners...) {
					s := api.Step{Cred: c, Fact: api.Fact{Role: c.Head, Who: who}}
					if !slices.Contains(factsOf(l), s.Fact) && check.Follows(s, factsOf(l)) {
						l, more = append(l, s), true
					}
				}
			}
		}
		for _, f := range facts {
			if n, e := check.Check(l, may, f); n != len(l) || e != api.OK {
				t.Fatalf("%q: %v: %d, %v", told(l), f, n, e)
			}
		}
		if len(l) != len(facts) {
			t.Fatalf("%q, but %v", told(l), facts)
		}
	}
}

// P9.2: Tight as the document says it, of chains as they come and of ones that were trimmed.
func TestTightRandom(t *testing.T) {
	r := rand.New(rand.NewSource(49))
	yes := 0
	for n := range 12000 {
		l := chain(r, n%9)
		if n%2 == 0 {
			l = trim(l)
		}
		want := tight(l)
		if want && len(l) > 2 {
			yes++
		}
		if check.Tight(l) != want {
			t.Fatalf("%q: %v", told(l), !want)
		}
	}
	if yes < 200 {
		t.Errorf("%d are tight", yes)
	}
}

// P9.3: what is put is got, and is the same chain; what isn't put has a step that can't be.
func TestPutRandom(t *testing.T) {
	r := rand.New(rand.NewSource(59))
	for n := range 2000 {
		l := chain(r, n%9)
		can := true
		for _, s := range l {
			can = can && cred.Right(s.Cred) && s.Fact.Role == s.Cred.Head && name.Right(s.Fact.Who)
		}
		b, ok := put(l)
		if ok != can {
			t.Fatalf("%v: %v", l, ok)
		}
		if !can {
			continue
		}
		back, left, e := got(b[2:], len(l))
		if !slices.Equal(back, l) || left != 0 || e != api.OK {
			t.Fatalf("%q: %q, %v", told(l), told(back), e)
		}
	}
}
