package check

import (
	"iter"
	"slices"

	"entente/api"
	"entente/cred"
)

// known facts, each once: in which place each stands, and which places those of a role have.
type known struct {
	facts []api.Fact
	at    map[api.Fact]int
	of    map[api.Role][]int
}

func newKnown() *known {
	return &known{at: map[api.Fact]int{}, of: map[api.Role][]int{}}
}

// add a fact, if it isn't known yet.
func (k *known) add(f api.Fact) {
	if k.has(f) {
		return
	}
	at := len(k.facts)
	k.facts = append(k.facts, f)
	k.at[f] = at
	k.of[f.Role] = append(k.of[f.Role], at)
}

func (k *known) has(f api.Fact) bool {
	_, ok := k.at[f]
	return ok
}

// follows tells whether there is a way to a step.
func (k *known) follows(s api.Step) bool {
	for range k.ways(s) {
		return true
	}
	return false
}

// common to all ways to a step, of which there is one at least: the places without any of which it follows no more.
func (k *known) common(s api.Step) []int {
	var l []int
	first := true
	for way := range k.ways(s) {
		if first {
			l, first = way, false
			continue
		}
		l = slices.DeleteFunc(l, func(at int) bool { return !slices.Contains(way, at) })
	}
	return l
}

// ways to a step: of each the places of the facts that it takes.
func (k *known) ways(s api.Step) iter.Seq[[]int] {
	return func(yield func([]int) bool) {
		c, who := s.Cred, s.Fact.Who
		if !cred.Right(c) || s.Fact.Role != c.Head {
			return
		}
		switch c.Kind {
		case api.Member:
			if c.Who == who {
				yield(nil)
			}
		case api.Include:
			k.way(yield, api.Fact{Role: c.B, Who: who})
		case api.Linked:
			for _, at := range k.of[c.B] {
				b := k.facts[at]
				if !k.way(yield, b, api.Fact{Role: api.Role{Owner: b.Who, Word: c.Word2}, Who: who}) {
					return
				}
			}
		case api.Both:
			k.way(yield, api.Fact{Role: c.B, Who: who}, api.Fact{Role: c.C, Who: who})
		}
	}
}

// way that takes these facts: told if all of them are known. It answers whether more ways are asked for.
func (k *known) way(yield func([]int) bool, facts ...api.Fact) bool {
	var l []int
	for _, f := range facts {
		at, ok := k.at[f]
		if !ok {
			return true
		}
		l = append(l, at)
	}
	return yield(l)
}
