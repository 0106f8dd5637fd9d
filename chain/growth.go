package chain

import (
	"entente/api"
	"entente/cred"
)

// growth of facts by credentials: steps, each of which follows those ahead, and brings a fact of its own.
type growth struct {
	steps []api.Step
	// In which place each fact stands, and which places those of a role have.
	at map[api.Fact]int
	of map[api.Role][]int
	// The credentials by the roles that they have as B or C.
	leaning map[api.Role][]api.Cred
	// The Linked ones by Word2, for they lean on that role of whoever is in B, too.
	linked map[string][]api.Cred
}

// grow from a set of credentials, until a fact comes, or no more do.
func grow(set []api.Cred, want api.Fact) *growth {
	g := &growth{
		at:      map[api.Fact]int{},
		of:      map[api.Role][]int{},
		leaning: map[api.Role][]api.Cred{},
		linked:  map[string][]api.Cred{},
	}
	for _, c := range set {
		g.take(c)
	}
	// What follows goes behind the others, so that what few steps lead to comes ahead of what many do.
	for i := 0; i < len(g.steps) && !g.has(want); i++ {
		g.follow(g.steps[i].Fact)
	}
	return g
}

// take a right credential, ahead of all following.
func (g *growth) take(c api.Cred) {
	for _, r := range cred.Roles(c)[1:] {
		g.leaning[r] = append(g.leaning[r], c)
	}
	switch c.Kind {
	case api.Member:
		g.bring(c, c.Who)
	case api.Linked:
		g.linked[c.Word2] = append(g.linked[c.Word2], c)
	}
}

// follow a fact: whatever it brings goes in.
func (g *growth) follow(f api.Fact) {
	for _, c := range g.leaning[f.Role] {
		g.lean(c, f.Who)
	}
	for _, c := range g.linked[f.Role.Word] {
		if g.has(api.Fact{Role: c.B, Who: f.Role.Owner}) {
			g.bring(c, f.Who)
		}
	}
}

// lean a credential on somebody's being in its B or C.
func (g *growth) lean(c api.Cred, who string) {
	switch c.Kind {
	case api.Include:
		g.bring(c, who)
	case api.Linked:
		for _, at := range g.of[api.Role{Owner: who, Word: c.Word2}] {
			g.bring(c, g.steps[at].Fact.Who)
		}
	case api.Both:
		if g.has(api.Fact{Role: c.B, Who: who}) && g.has(api.Fact{Role: c.C, Who: who}) {
			g.bring(c, who)
		}
	}
}

// bring somebody into a credential's Head, who may be there already.
func (g *growth) bring(c api.Cred, who string) {
	f := api.Fact{Role: c.Head, Who: who}
	if g.has(f) {
		return
	}
	at := len(g.steps)
	g.steps = append(g.steps, api.Step{Cred: c, Fact: f})
	g.at[f] = at
	g.of[f.Role] = append(g.of[f.Role], at)
}

func (g *growth) has(f api.Fact) bool {
	_, ok := g.at[f]
	return ok
}
