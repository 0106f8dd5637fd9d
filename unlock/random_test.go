package unlock_test

import (
	"math/rand"
	"slices"
	"strconv"
	"testing"

	"entente/api"
	"entente/chain"
	"entente/check"
	"entente/cred"
	"entente/formula"
	"entente/guard"
	"entente/model"
	"entente/sets"
	"entente/unlock"
)

// few names and words, so that much follows, and much is opened.
var (
	few   = []string{"ann", "bob", "cy"}
	words = []string{"r", "s"}
)

// pick one of a list.
func pick[T any](r *rand.Rand, l []T) T {
	return l[r.Intn(len(l))]
}

// randomRole of few names.
func randomRole(r *rand.Rand) api.Role {
	return api.Role{Owner: pick(r, few), Word: pick(r, words)}
}

// randomCred of few names, mostly that one is in a role, mostly right.
func randomCred(r *rand.Rand, one string) api.Cred {
	c := api.Cred{Kind: api.Member, Head: randomRole(r)}
	if r.Intn(3) > 0 {
		c.Who = one
		return c
	}
	c.Kind = r.Intn(4) + 1
	switch c.Kind {
	case api.Member:
		c.Who = pick(r, few)
	case api.Include:
		c.B = randomRole(r)
	case api.Linked:
		c.B, c.Word2 = api.Role{Owner: c.Head.Owner, Word: pick(r, words)}, pick(r, words)
	case api.Both:
		c.B, c.C = randomRole(r), randomRole(r) // not right, where C isn't behind B
	}
	return c
}

// randomFormula of at most so many levels, mostly right.
func randomFormula(r *rand.Rand, levels int) api.Formula {
	if levels < 2 || r.Intn(3) > 0 {
		return api.Formula{Op: api.Atom, Role: randomRole(r)}
	}
	f := api.Formula{Op: r.Intn(3) + api.All}
	for range r.Intn(4) {
		f.Kids = append(f.Kids, randomFormula(r, levels-1))
	}
	if f.Op == api.AtK {
		f.K = r.Intn(len(f.Kids) + 1) // not right, where there are no Kids
	}
	return f
}

// randomParty of a name, with any kinds of holdings and Acks, some of them held twice.
func randomParty(r *rand.Rand, name string) api.Party {
	p := api.Party{Name: name}
	for range r.Intn(20) {
		s := api.Signed{Cred: randomCred(r, name), Tag: []byte("12345678")}
		if len(p.Creds) > 0 && r.Intn(8) == 0 {
			s = pick(r, p.Creds).Signed
		}
		f := randomFormula(r, 3)
		if r.Intn(6) == 0 {
			f = api.Formula{Op: api.All}
		}
		p.Creds = append(p.Creds, api.Guarded{Signed: s, Release: f})
	}
	for range r.Intn(3) {
		a := api.Ack{Role: randomRole(r), Release: randomFormula(r, 3)}
		for _, h := range p.Creds {
			if r.Intn(6) == 0 {
				a.Closure = append(a.Closure, h.Cred)
			}
		}
		p.Acks = append(p.Acks, a)
	}
	return p
}

// randomPair of parties, now and then of one Name.
func randomPair(r *rand.Rand) (api.Party, api.Party) {
	a := randomParty(r, "ann")
	b := randomParty(r, "bob")
	if r.Intn(10) == 0 {
		b.Name = a.Name
	}
	return a, b
}

// byWords is the unlock fixpoint by the document's words: of each round what either has shown by its end.
func byWords(a, b api.Party) [][2][]api.Cred {
	var rounds [][2][]api.Cred
	var shown [2][]api.Cred
	for {
		freeA, freeB := guard.Free(a, shown[1], b.Name), guard.Free(b, shown[0], a.Name)
		next := [2][]api.Cred{cred.Set(append(shown[0], freeA...)...), cred.Set(append(shown[1], freeB...)...)}
		if slices.Equal(next[0], shown[0]) && slices.Equal(next[1], shown[1]) {
			return rounds
		}
		shown = next
		rounds = append(rounds, shown)
	}
}

// lastOf rounds: what was shown by the end.
func lastOf(rounds [][2][]api.Cred) [2][]api.Cred {
	if len(rounds) == 0 {
		return [2][]api.Cred{}
	}
	return rounds[len(rounds)-1]
}

// P16.1, P16.3: Of random parties, held against the document's words round by round; the order of the two says nothing, what is shown is free, and nothing else is.
func TestOfRandom(t *testing.T) {
	r := rand.New(rand.NewSource(1))
	count := map[int]int{}
	some, kept := 0, 0
	for range 6000 {
		a, b := randomPair(r)
		x, y, n := unlock.Of(a, b)
		rounds := byWords(a, b)
		want := lastOf(rounds)
		if n != len(rounds) || !slices.Equal(x, want[0]) || !slices.Equal(y, want[1]) {
			t.Fatalf("%v, %v: %q, %q, %d, not %q, %q, %d", a, b, told(x), told(y), n, told(want[0]), told(want[1]), len(rounds))
		}
		y2, x2, n2 := unlock.Of(b, a)
		if n2 != n || !slices.Equal(x2, x) || !slices.Equal(y2, y) {
			t.Fatalf("%v, %v: the other way round %q, %q, %d, not %q, %q, %d", a, b, told(x2), told(y2), n2, told(x), told(y), n)
		}
		if !slices.Equal(guard.Free(a, y, b.Name), x) || !slices.Equal(guard.Free(b, x, a.Name), y) {
			t.Fatalf("%v, %v: %q, %q isn't what is free", a, b, told(x), told(y))
		}
		count[n]++
		some, kept = some+len(x)+len(y), kept+len(a.Creds)+len(b.Creds)-len(x)-len(y)
	}
	if count[0] < 300 || count[2] < 300 || count[3] < 200 || count[4] < 50 || count[5] < 20 || some < 5000 || kept < 5000 {
		t.Errorf("%v, %d, %d", count, some, kept)
	}
}

// rolesIn of a name by credentials, asked fact by fact.
func rolesIn(l []api.Cred, who string) func(r api.Role) bool {
	facts := model.Of(l).Facts()
	return func(r api.Role) bool { return slices.Contains(facts, api.Fact{Role: r, Who: who}) }
}

// proofByWords: layer 10's Merge of its Find of each role's fact.
func proofByWords(t *testing.T, shown []api.Cred, roles []api.Role, who string) []api.Step {
	t.Helper()
	var l [][]api.Step
	for _, x := range roles {
		c, ok := chain.Find(shown, api.Fact{Role: x, Who: who})
		if !ok {
			t.Fatalf("%s isn't in %v by %q", who, x, told(shown))
		}
		l = append(l, c)
	}
	return chain.Merge(l...)
}

// checkGrants holds what Grants and Proof answer against the document's words, and answers the proof, if there is one: it is checked, and makes the formula true.
func checkGrants(t *testing.T, a, b api.Party, f api.Formula) ([]api.Step, bool) {
	t.Helper()
	shown := lastOf(byWords(a, b))[1]
	is := rolesIn(shown, b.Name)
	want := formula.True(f, is)
	l, ok := unlock.Proof(a, b, f)
	if got := unlock.Grants(a, b, f); got != want || ok != want {
		t.Fatalf("%v, %v, %v: %v, %v, not %v", a, b, f, got, ok, want)
	}
	roles, _ := sets.First(f, is)
	if !slices.Equal(l, proofByWords(t, shown, roles, b.Name)) {
		t.Fatalf("%v, %v, %v: %s", a, b, f, toldSteps(l))
	}
	for _, x := range roles {
		if n, e := check.Check(l, shown, api.Fact{Role: x, Who: b.Name}); n != len(l) || e != api.OK {
			t.Fatalf("%v, %v, %v: %s is wrong at %d: %v", a, b, f, toldSteps(l), n, e)
		}
	}
	has := func(x api.Role) bool {
		return slices.ContainsFunc(l, func(s api.Step) bool { return s.Fact == api.Fact{Role: x, Who: b.Name} })
	}
	if formula.True(f, has) != ok {
		t.Fatalf("%v, %v, %v: %s doesn't prove it", a, b, f, toldSteps(l))
	}
	return l, ok
}

// P16.2: Grants and Proof of random parties and formulas.
func TestGrantsRandom(t *testing.T) {
	r := rand.New(rand.NewSource(2))
	granted, refused, steps := 0, 0, 0
	for range 4000 {
		a, b := randomPair(r)
		for op := api.All; op <= api.AtK; op++ {
			f := api.Formula{Op: op}
			for range r.Intn(3) + 1 {
				f.Kids = append(f.Kids, randomFormula(r, 3))
			}
			if op == api.AtK {
				f.K = r.Intn(len(f.Kids)) + 1
			}
			l, ok := checkGrants(t, a, b, f)
			if ok {
				granted++
			} else {
				refused++
			}
			steps += len(l)
		}
	}
	if granted < 1500 || refused < 1500 || steps < 1500 {
		t.Errorf("%d, %d, %d", granted, refused, steps)
	}
}

// turned party: what it holds in another order, and of what it holds twice the first one alone.
func turned(r *rand.Rand, p api.Party) api.Party {
	q := api.Party{Name: p.Name, Acks: p.Acks}
	for _, h := range p.Creds {
		if !slices.ContainsFunc(q.Creds, func(o api.Guarded) bool { return o.Cred == h.Cred }) {
			q.Creds = append(q.Creds, h)
		}
	}
	r.Shuffle(len(q.Creds), func(i, k int) { q.Creds[i], q.Creds[k] = q.Creds[k], q.Creds[i] })
	return q
}

// P16.1, P16.2: in which order a party holds its own says nothing.
func TestOrderRandom(t *testing.T) {
	r := rand.New(rand.NewSource(3))
	for range 2000 {
		a, b := randomPair(r)
		c, d := turned(r, a), turned(r, b)
		x, y, n := unlock.Of(a, b)
		x2, y2, n2 := unlock.Of(c, d)
		if n != n2 || !slices.Equal(x, x2) || !slices.Equal(y, y2) {
			t.Fatalf("%v, %v: %q, %q, %d, not %q, %q, %d", c, d, told(x2), told(y2), n2, told(x), told(y), n)
		}
		f := randomFormula(r, 4)
		l, _ := unlock.Proof(a, b, f)
		if l2, _ := unlock.Proof(c, d, f); !slices.Equal(l, l2) {
			t.Fatalf("%v, %v: %s, not %s", c, d, toldSteps(l2), toldSteps(l))
		}
	}
}

// long parties of so many credentials each: by turns, one credential a round.
func long(n int) (api.Party, api.Party) {
	a, b := api.Party{Name: "ann"}, api.Party{Name: "bob"}
	atom := func(owner string, i int) api.Formula {
		return api.Formula{Op: api.Atom, Role: api.Role{Owner: owner, Word: "n" + strconv.Itoa(1000+i)}}
	}
	hold := func(p *api.Party, owner string, i int, f api.Formula) {
		c := api.Cred{Kind: api.Member, Head: atom(owner, i).Role, Who: p.Name}
		p.Creds = append(p.Creds, api.Guarded{Signed: api.Signed{Cred: c, Tag: []byte("12345678")}, Release: f})
	}
	for i := range n {
		f := atom("b", i+1)
		if i == n-1 {
			f = api.Formula{Op: api.All}
		}
		hold(&a, "a", i, f)
		hold(&b, "b", i, atom("a", i))
	}
	return a, b
}

// P16.1: as many as may be held, and as many rounds; without what goes first none goes.
func TestOfMost(t *testing.T) {
	for _, n := range []int{1, 2, api.MostCreds} {
		a, b := long(n)
		if guard.Right(a) != api.OK || guard.Right(b) != api.OK {
			t.Fatal("they aren't right")
		}
		x, y, rounds := unlock.Of(a, b)
		if len(x) != n || len(y) != n || rounds != 2*n {
			t.Errorf("%d: %d, %d, %d", n, len(x), len(y), rounds)
		}
		last := api.Formula{Op: api.Atom, Role: b.Creds[0].Head}
		if l, ok := unlock.Proof(a, b, last); !ok || len(l) != 1 || !unlock.Grants(a, b, last) {
			t.Errorf("%d: %s, %v", n, toldSteps(l), ok)
		}
		a.Creds = a.Creds[:n-1]
		if x, y, rounds := unlock.Of(a, b); len(x)+len(y)+rounds != 0 || unlock.Grants(a, b, last) {
			t.Errorf("%d: %d, %d, %d", n, len(x), len(y), rounds)
		}
	}
}

// P16.1: what breaks off on the way goes no further.
func TestOfBrokenOff(t *testing.T) {
	const n = 20
	for at := range n {
		a, b := long(n)
		b.Creds = slices.Delete(b.Creds, at, at+1)
		// The last ones go first: of ann's those behind it and the one beside it, of bob's those behind it.
		x, y, rounds := unlock.Of(a, b)
		if len(x) != n-at || len(y) != n-at-1 || rounds != 2*(n-at)-1 {
			t.Errorf("%d: %d, %d, %d", at, len(x), len(y), rounds)
		}
	}
}
