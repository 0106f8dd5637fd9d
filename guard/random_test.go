package guard_test

import (
	"math/rand"
	"slices"
	"testing"

	"entente/api"
	"entente/cred"
	"entente/formula"
	"entente/guard"
	"entente/model"
	"entente/normal"
	"entente/parse"
)

// few names, words and roles (these rising), so that much follows, and much is locked.
var (
	few      = []string{"a", "b", "aa"}
	words    = []string{"r", "s"}
	fewRoles = roles("a.r a.s aa.r aa.s b.r b.s")
)

// pick one of a list.
func pick[T any](r *rand.Rand, l []T) T {
	return l[r.Intn(len(l))]
}

// randomCred of few names, mostly right.
func randomCred(r *rand.Rand) api.Cred {
	c := api.Cred{Kind: r.Intn(4) + 1, Head: pick(r, fewRoles)}
	switch c.Kind {
	case api.Member:
		c.Who = pick(r, few)
	case api.Include:
		c.B = pick(r, fewRoles)
	case api.Linked:
		c.B, c.Word2 = api.Role{Owner: c.Head.Owner, Word: pick(r, words)}, pick(r, words)
	case api.Both:
		c.B, c.C = pick(r, fewRoles), pick(r, fewRoles) // not right, where C isn't behind B
	}
	return c
}

// randomCreds, at most so many.
func randomCreds(r *rand.Rand, most int) []api.Cred {
	var l []api.Cred
	for range r.Intn(most + 1) {
		l = append(l, randomCred(r))
	}
	return l
}

// randomFormula of at most so many levels, mostly right.
func randomFormula(r *rand.Rand, levels int) api.Formula {
	if levels < 2 || r.Intn(3) == 0 {
		return api.Formula{Op: api.Atom, Role: pick(r, fewRoles)}
	}
	f := api.Formula{Op: r.Intn(3) + api.All}
	for range r.Intn(5) {
		f.Kids = append(f.Kids, randomFormula(r, levels-1))
	}
	if f.Op == api.AtK {
		f.K = r.Intn(len(f.Kids) + 1) // not right, where there are no Kids
	}
	return f
}

// randomParty of any kind.
func randomParty(r *rand.Rand) api.Party {
	p := api.Party{Name: pick(r, few)}
	for _, c := range randomCreds(r, 8) {
		p.Creds = append(p.Creds, api.Guarded{Signed: api.Signed{Cred: c, Tag: []byte("12345678")}, Release: randomFormula(r, 5)})
	}
	for range r.Intn(5) {
		a := api.Ack{Role: pick(r, fewRoles), Release: randomFormula(r, 4), Closure: randomCreds(r, 6)}
		for _, h := range p.Creds {
			if r.Intn(3) == 0 {
				a.Closure = append(a.Closure, h.Cred)
			}
		}
		p.Acks = append(p.Acks, a)
	}
	return p
}

// ordered party: it is right, but for its guards and Releases.
func ordered(p api.Party) api.Party {
	slices.SortFunc(p.Creds, func(a, b api.Guarded) int { return cred.Compare(a.Cred, b.Cred) })
	p.Creds = slices.CompactFunc(p.Creds, func(a, b api.Guarded) bool { return a.Cred == b.Cred })
	p.Creds = slices.DeleteFunc(p.Creds, func(h api.Guarded) bool { return !cred.Right(h.Cred) })
	slices.SortFunc(p.Acks, func(a, b api.Ack) int {
		return slices.Index(fewRoles, a.Role) - slices.Index(fewRoles, b.Role)
	})
	p.Acks = slices.CompactFunc(p.Acks, func(a, b api.Ack) bool { return a.Role == b.Role })
	for i := range p.Acks {
		p.Acks[i].Closure = cred.Set(p.Acks[i].Closure...)
	}
	return p
}

// lockedBy: the Acks whose Closure has a credential.
func lockedBy(p api.Party, c api.Cred) []api.Ack {
	return slices.DeleteFunc(slices.Clone(p.Acks), func(a api.Ack) bool { return !slices.Contains(a.Closure, c) })
}

// byWords is the guard of what is held by the document's words, step by step.
func byWords(p api.Party, h api.Guarded) (api.Formula, api.Errno) {
	f, e := normal.Of(h.Release)
	for _, a := range lockedBy(p, h.Cred) {
		if e != api.OK {
			return api.Formula{}, e
		}
		f, e = normal.Both(f, a.Release)
	}
	return f, e
}

// parts that must be true of what is held: its Release, and those of its Acks.
func parts(p api.Party, h api.Guarded) []api.Formula {
	l := []api.Formula{h.Release}
	for _, a := range lockedBy(p, h.Cred) {
		l = append(l, a.Release)
	}
	return l
}

// allTrue of roles?
func allTrue(l []api.Formula, has []api.Role) bool {
	return !slices.ContainsFunc(l, func(f api.Formula) bool {
		return !formula.True(f, func(r api.Role) bool { return slices.Contains(has, r) })
	})
}

// first place of each credential that is held.
func firsts(p api.Party) []api.Guarded {
	var l []api.Guarded
	for i, h := range p.Creds {
		if slices.IndexFunc(p.Creds, func(o api.Guarded) bool { return o.Cred == h.Cred }) == i {
			l = append(l, h)
		}
	}
	return l
}

// P15.1: Of and Acks of random parties, right and not.
func TestOfRandom(t *testing.T) {
	r := rand.New(rand.NewSource(1))
	count := map[api.Errno]int{}
	for range 4000 {
		p := randomParty(r)
		for _, h := range firsts(p) {
			f, e := guard.Of(p, h.Cred)
			want, err := byWords(p, h)
			if e != err || !formula.Same(f, want) {
				t.Fatalf("%v of %v: %v, %v, not %v, %v", h, p, f, e, want, err)
			}
			count[e]++
			if has := somebodysRoles(r); e == api.OK && (!normal.Is(f) || allTrue([]api.Formula{f}, has) != allTrue(parts(p, h), has)) {
				t.Fatalf("%v of %v: %s", h, p, parse.Text(f))
			}
			var acks []api.Role
			for _, a := range lockedBy(p, h.Cred) {
				acks = append(acks, a.Role)
			}
			if got := guard.Acks(p, h.Cred); !slices.Equal(got, acks) {
				t.Fatalf("%v of %v: %v", h, p, got)
			}
		}
		if c := randomCred(r); !slices.ContainsFunc(p.Creds, func(h api.Guarded) bool { return h.Cred == c }) {
			if f, e := guard.Of(p, c); e != api.ErrNone || !formula.Same(f, api.Formula{}) {
				t.Fatalf("%v of %v: %v, %v", c, p, f, e)
			}
		}
	}
	if count[api.OK] < 500 || count[api.ErrForm] < 500 || len(count) < 3 {
		t.Errorf("%v", count)
	}
}

// somebodysRoles: some of the few.
func somebodysRoles(r *rand.Rand) []api.Role {
	return slices.DeleteFunc(slices.Clone(fewRoles), func(api.Role) bool { return r.Intn(3) == 0 })
}

// P15.2: of a party that is right otherwise the guards decide.
func TestRightRandom(t *testing.T) {
	r := rand.New(rand.NewSource(2))
	right, wrong := 0, 0
	for range 4000 {
		p := ordered(randomParty(r))
		want := api.OK
		for _, h := range p.Creds {
			if _, e := byWords(p, h); e != api.OK {
				want = api.ErrForm
			}
		}
		if slices.ContainsFunc(p.Acks, func(a api.Ack) bool { return !formula.Right(a.Release) }) {
			want = api.ErrForm
		}
		if e := guard.Right(p); e != want {
			t.Fatalf("%v: %v, not %v", p, e, want)
		}
		if want == api.OK {
			right++
		} else {
			wrong++
		}
	}
	if right < 500 || wrong < 500 {
		t.Errorf("%d, %d", right, wrong)
	}
}

// P15.3, P15.4: Free and Told of random parties, held against the truth of each part; with more credentials there is no less of either.
func TestFreeRandom(t *testing.T) {
	r := rand.New(rand.NewSource(3))
	some, none := 0, 0
	for range 4000 {
		p, has, peer := randomParty(r), randomCreds(r, 8), pick(r, few)
		in := model.Of(has).Roles(peer)
		var want []api.Cred
		for _, h := range firsts(p) {
			if _, e := byWords(p, h); e == api.OK && allTrue(parts(p, h), in) {
				want = append(want, h.Cred)
			}
		}
		free := guard.Free(p, has, peer)
		if !slices.Equal(free, cred.Set(want...)) {
			t.Fatalf("%v by %s of %s: %s, not %s", p, told(has), peer, told(free), told(want))
		}
		some, none = some+len(free), none+len(p.Creds)-len(free)
		more := slices.Concat(has, randomCreds(r, 4))
		r.Shuffle(len(more), func(i, k int) { more[i], more[k] = more[k], more[i] })
		for _, c := range free {
			if !slices.Contains(guard.Free(p, more, peer), c) {
				t.Fatalf("%v by %s of %s: %s isn't free by %s", p, told(has), peer, cred.Text(c), told(more))
			}
		}
		for _, x := range fewRoles {
			var l []api.Formula
			for _, a := range p.Acks {
				if a.Role == x {
					l = append(l, a.Release)
				}
			}
			ok := guard.Told(p, x, has, peer)
			if ok != allTrue(l, in) || ok && !guard.Told(p, x, more, peer) {
				t.Fatalf("%v by %s of %s: %v", p, told(has), peer, x)
			}
		}
	}
	if some < 1000 || none < 1000 {
		t.Errorf("%d, %d", some, none)
	}
}
