package sets

import (
	"slices"

	"entente/api"
)

// A set of Atoms is a number here: its bit i tells whether it has the i-th of them.

// rolesOf a set of Atoms, in their order.
func rolesOf(set int, atoms []api.Role) []api.Role {
	var l []api.Role
	for i, r := range atoms {
		if set>>i&1 == 1 {
			l = append(l, r)
		}
	}
	return l
}

// wordBits of a word of a truth.
const wordBits = 64

// truth of a formula: bit by bit, whether it is true of each set of Atoms. So each node is asked but once, of a word of sets at a time.
type truth []uint64

// newTruth that is false of as many sets as so many Atoms have.
func newTruth(atoms int) truth {
	return make(truth, (1<<atoms+wordBits-1)/wordBits)
}

// of a set: is it true?
func (t truth) of(set int) bool {
	return t[set/wordBits]>>(set%wordBits)&1 == 1
}

// truthOf a right formula by its Atoms.
func truthOf(f api.Formula, atoms []api.Role) truth {
	if f.Op == api.Atom {
		return truthOfAtom(slices.Index(atoms, f.Role), len(atoms))
	}
	need := needed(f)
	// atLeast[n]: are n Kids true, or more, of those gone through?
	atLeast := make([]truth, need+1)
	for n := range atLeast {
		atLeast[n] = newTruth(len(atoms))
	}
	for w := range atLeast[0] {
		atLeast[0][w] = ^uint64(0)
	}
	for _, kid := range f.Kids {
		t := truthOf(kid, atoms)
		// The greatest first, for one Kid counts but once.
		for n := need; n > 0; n-- {
			for w := range t {
				atLeast[n][w] |= atLeast[n-1][w] & t[w]
			}
		}
	}
	return atLeast[need]
}

// truthOfAtom that is the i-th of so many.
func truthOfAtom(i, atoms int) truth {
	t := newTruth(atoms)
	for set := range 1 << atoms {
		t[set/wordBits] |= uint64(set>>i&1) << (set % wordBits)
	}
	return t
}

// needed number of a node's Kids that must be true.
func needed(f api.Formula) int {
	switch f.Op {
	case api.All:
		return len(f.Kids)
	case api.Some:
		return 1
	}
	return f.K
}

// least of so many sets: those of which it is true, and of which it isn't with a role less.
func (t truth) least(count int) []int {
	var l []int
	for set := range count {
		if t.of(set) && !t.ofLess(set) {
			l = append(l, set)
		}
	}
	return l
}

// ofLess: is it true of a set with one role less? Nobody need ask of more of them less, for a formula is monotone.
func (t truth) ofLess(set int) bool {
	for rest := set; rest != 0; rest &= rest - 1 {
		lowest := rest & -rest
		if t.of(set &^ lowest) {
			return true
		}
	}
	return false
}
