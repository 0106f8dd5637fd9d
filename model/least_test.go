package model_test

import (
	"math/rand"
	"slices"
	"strings"
	"testing"

	"entente/api"
	"entente/cred"
	"entente/model"
	"entente/role"
)

// The owners, words and names of random credentials: few, so that much follows, with a hyphen, so that orders are unlike.
var (
	owners = []string{"a", "a-b", "b", "c", "dd"}
	words  = []string{"r", "r-1", "s"}
	names  = []string{"a", "a-b", "b", "c", "dd", "e"}
)

func one(r *rand.Rand, l []string) string { return l[r.Intn(len(l))] }

// randomRole of few.
func randomRole(r *rand.Rand) api.Role {
	return api.Role{Owner: one(r, owners), Word: one(r, words)}
}

// random credential, now and then a wrong one.
func random(r *rand.Rand) api.Cred {
	c := api.Cred{Kind: 1 + r.Intn(4), Head: randomRole(r)}
	switch c.Kind {
	case api.Member:
		c.Who = one(r, names)
	case api.Include:
		c.B = randomRole(r)
	case api.Linked:
		c.B = api.Role{Owner: c.Head.Owner, Word: one(r, words)}
		c.Word2 = one(r, words)
	case api.Both:
		c.B, c.C = randomRole(r), randomRole(r)
		if role.Compare(c.B, c.C) > 0 {
			c.B, c.C = c.C, c.B
		}
	}
	if r.Intn(12) == 0 {
		c.Word2 += "-"
	}
	return c
}

// list of random credentials.
func list(r *rand.Rand, n int) []api.Cred {
	var l []api.Cred
	for range n {
		l = append(l, random(r))
	}
	return l
}

// known facts.
type known map[api.Fact]bool

func (k known) in(r api.Role, who string) bool { return k[api.Fact{Role: r, Who: who}] }

// follows tells whether a credential brings a fact, by what is known: the document's words, one by one.
func (k known) follows(c api.Cred, who string) bool {
	switch c.Kind {
	case api.Member:
		return c.Who == who
	case api.Include:
		return k.in(c.B, who)
	case api.Linked:
		return slices.ContainsFunc(names, func(b string) bool {
			return k.in(c.B, b) && k.in(api.Role{Owner: b, Word: c.Word2}, who)
		})
	}
	return k.in(c.B, who) && k.in(c.C, who)
}

// plain least model: from nothing on, till no credential brings more.
func plain(l []api.Cred) known {
	k := known{}
	for more := true; more; {
		more = false
		for _, c := range l {
			for _, who := range names {
				f := api.Fact{Role: c.Head, Who: who}
				if cred.Right(c) && !k[f] && k.follows(c, who) {
					k[f], more = true, true
				}
			}
		}
	}
	return k
}

// agrees tells of each call on a model whether it has just what is known.
func agrees(t *testing.T, m *model.Model, k known) {
	t.Helper()
	var facts []api.Fact
	for f := range k {
		facts = append(facts, f)
	}
	slices.SortFunc(facts, func(a, b api.Fact) int {
		if n := role.Compare(a.Role, b.Role); n != 0 {
			return n
		}
		return strings.Compare(a.Who, b.Who)
	})
	if got := m.Facts(); !slices.Equal(got, facts) {
		t.Errorf("facts: %q, not %q", told(got), told(facts))
	}
	members, of := map[api.Role][]string{}, map[string][]api.Role{}
	for _, f := range facts {
		members[f.Role] = append(members[f.Role], f.Who)
		of[f.Who] = append(of[f.Who], f.Role)
	}
	for _, who := range append(names, "zz", "") {
		if got := m.Roles(who); !slices.Equal(got, of[who]) {
			t.Errorf("roles of %q: %q, not %q", who, roles(got), roles(of[who]))
		}
		for _, owner := range append(owners, "zz", "") {
			for _, word := range append(words, "zz", "") {
				r := api.Role{Owner: owner, Word: word}
				if m.In(r, who) != k.in(r, who) {
					t.Errorf("%q in %q: %v", who, role.Text(r), m.In(r, who))
				}
				if got := m.Members(r); !slices.Equal(got, members[r]) {
					t.Errorf("members of %q: %q, not %q", role.Text(r), got, members[r])
				}
			}
		}
	}
}

// P8.1, P8.4: the least model of whatever credentials is what follows from nothing on.
func TestLeast(t *testing.T) {
	r := rand.New(rand.NewSource(8))
	for n := range 400 {
		l := list(r, n%40)
		agrees(t, model.Of(l), plain(l))
		if t.Failed() {
			t.Fatalf("of %v", l)
		}
	}
}

// P8.2: whatever is added, and however it is cut, it is the model of all of it, and as many came as there are more.
func TestLeastAdded(t *testing.T) {
	r := rand.New(rand.NewSource(28))
	for n := range 300 {
		l := list(r, n%40)
		m, at := model.Of(nil), 0
		if n%2 == 0 {
			at = r.Intn(len(l) + 1)
			m = model.Of(l[:at])
		}
		for at < len(l) {
			to := at + 1 + r.Intn(min(5, len(l)-at))
			ahead := len(plain(l[:at]))
			want := plain(l[:to])
			if got := m.Add(l[at:to]...); got != len(want)-ahead {
				t.Errorf("%d came, not %d", got, len(want)-ahead)
			}
			agrees(t, m, want)
			at = to
		}
		if got := m.Add(l...); got != 0 {
			t.Errorf("all again: %d came", got)
		}
		if t.Failed() {
			t.Fatalf("of %v", l)
		}
	}
}

// P8.3: one step, by whatever a function says.
func TestHoldsAny(t *testing.T) {
	r := rand.New(rand.NewSource(38))
	for range 2000 {
		k := known{}
		for range r.Intn(30) {
			k[api.Fact{Role: randomRole(r), Who: one(r, names)}] = true
		}
		c := random(r)
		var want []api.Fact
		for _, who := range names {
			if cred.Right(c) && k.follows(c, who) {
				want = append(want, api.Fact{Role: c.Head, Who: who})
			}
		}
		mixed := append(slices.Clone(names), names[:3]...)
		r.Shuffle(len(mixed), func(i, j int) { mixed[i], mixed[j] = mixed[j], mixed[i] })
		if got := model.Holds(c, k.in, mixed); !slices.Equal(got, want) {
			t.Fatalf("%v by %v: %q, not %q", c, k, told(got), told(want))
		}
	}
}

// closed tells whether facts are a model of credentials: each step of each brings what is among them.
func closed(l []api.Cred, k known) bool {
	for _, c := range l {
		for _, f := range model.Holds(c, k.in, names) {
			if !k[f] {
				return false
			}
		}
	}
	return true
}

// P8.4: it is a model; with a fact less it is none.
func TestClosed(t *testing.T) {
	r := rand.New(rand.NewSource(48))
	for n := range 200 {
		l := list(r, n%30)
		k := known{}
		for _, f := range model.Of(l).Facts() {
			k[f] = true
		}
		if !closed(l, k) {
			t.Fatalf("%v: no model: %v", l, k)
		}
		for _, f := range model.Of(l).Facts() {
			delete(k, f)
			if closed(l, k) {
				t.Fatalf("%v: a model without %v, too", l, f)
			}
			k[f] = true
		}
	}
}

// P8.4: more credentials have no fewer facts.
func TestNoFewer(t *testing.T) {
	r := rand.New(rand.NewSource(58))
	for n := range 200 {
		l, more := list(r, n%30), list(r, 1+n%5)
		m := model.Of(slices.Concat(l, more))
		for _, f := range model.Of(l).Facts() {
			if !m.In(f.Role, f.Who) {
				t.Fatalf("%v and %v: %v isn't there any more", l, more, f)
			}
		}
	}
}

// P8.4: the order of the list says nothing, nor how often one is told.
func TestOrderSaysNothing(t *testing.T) {
	r := rand.New(rand.NewSource(68))
	for n := range 100 {
		l := list(r, n%40)
		want := model.Of(l).Facts()
		for range 5 {
			l = append(l, l[:min(2, len(l))]...)
			r.Shuffle(len(l), func(i, k int) { l[i], l[k] = l[k], l[i] })
			if got := model.Of(l).Facts(); !slices.Equal(got, want) {
				t.Fatalf("%v: %q, not %q", l, told(got), told(want))
			}
		}
	}
}
