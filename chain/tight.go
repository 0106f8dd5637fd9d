package chain

import (
	"slices"

	"entente/api"
)

// tight chain of what a growth has up to a place, which it ends with.
//
// From the end on each place is asked once: whatever may take it stands behind it, and those were asked. What is dropped later leaves others fewer ways, so what is needed stays needed.
func (g *growth) tight(last int) []api.Step {
	k := &kept{ways: make([][]way, last+1), takers: make([][]int, last+1)}
	var l []api.Step
	for at := last; at >= 0; at-- {
		if at < last && !k.needs(at) {
			k.drop(at)
			continue
		}
		k.keep(at, g.ways(at))
		l = append(l, g.steps[at])
	}
	slices.Reverse(l)
	return l
}

// way to a step: the places of both facts that it takes (twice the same one, where it takes but one).
type way [2]int

func (w way) takes(at int) bool {
	return w[0] == at || w[1] == at
}

// ways to the step at a place, by those ahead of it: all that there are. A Member's step has none and asks for none.
func (g *growth) ways(at int) []way {
	c, who := g.steps[at].Cred, g.steps[at].Fact.Who
	switch c.Kind {
	case api.Include:
		b := g.at[api.Fact{Role: c.B, Who: who}]
		return []way{{b, b}}
	case api.Linked:
		return g.linkedWays(at, c, who)
	case api.Both:
		return []way{{g.at[api.Fact{Role: c.B, Who: who}], g.at[api.Fact{Role: c.C, Who: who}]}}
	}
	return nil
}

// linkedWays: by each name that is in B, and has the other one in its role, ahead of a place.
func (g *growth) linkedWays(at int, c api.Cred, who string) []way {
	var l []way
	for _, b := range g.of[c.B] {
		r := api.Role{Owner: g.steps[b].Fact.Who, Word: c.Word2}
		if other, ok := g.at[api.Fact{Role: r, Who: who}]; ok && max(b, other) < at {
			l = append(l, way{b, other})
		}
	}
	return l
}

// kept steps, by their places: the ways to each that are left, and to which steps a way may take each place.
type kept struct {
	ways   [][]way
	takers [][]int
}

// keep a step, and the ways to it.
func (k *kept) keep(at int, ways []way) {
	k.ways[at] = ways
	for _, w := range ways {
		k.takers[w[0]] = append(k.takers[w[0]], at)
		k.takers[w[1]] = append(k.takers[w[1]], at)
	}
}

// needs: is there a step all of whose ways take a place?
func (k *kept) needs(at int) bool {
	for _, by := range k.takers[at] {
		if !slices.ContainsFunc(k.ways[by], func(w way) bool { return !w.takes(at) }) {
			return true
		}
	}
	return false
}

// drop a place that isn't needed: the ways that take it are none any more.
func (k *kept) drop(at int) {
	for _, by := range k.takers[at] {
		k.ways[by] = slices.DeleteFunc(k.ways[by], func(w way) bool { return w.takes(at) })
	}
}
