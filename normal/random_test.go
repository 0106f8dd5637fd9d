package normal_test

import (
	"bytes"
	"math/rand"
	"slices"
	"testing"

	"entente/api"
	"entente/formula"
	"entente/normal"
	"entente/parse"
	"entente/tape"
)

// few roles, so that formulas have some of them more than once.
var few = []string{"a.r", "a.s", "b.r", "bb.s", "c-1.t", "d.u"}

// random right formula of at most so many levels, and, with luck, few enough nodes.
func random(r *rand.Rand, levels int) api.Formula {
	if levels < 2 || r.Intn(3) == 0 {
		return atom(few[r.Intn(len(few))])
	}
	var l []api.Formula
	for range r.Intn(5) {
		l = append(l, random(r, levels-1))
	}
	switch {
	case len(l) > 0 && r.Intn(3) == 0:
		return atK(r.Intn(len(l)+1), l...)
	case r.Intn(2) == 0:
		return all(l...)
	}
	return some(l...)
}

// randomRight is a random formula of few enough nodes.
func randomRight(r *rand.Rand) api.Formula {
	for {
		if f := random(r, 6); formula.Right(f) {
			return f
		}
	}
}

// written bytes of a right formula.
func written(f api.Formula) []byte {
	var p tape.Pen
	formula.Put(&p, f)
	return p.Bytes()
}

// byOrder: the Kids of a list by their bytes.
func byOrder(l []api.Formula) []api.Formula {
	l = slices.Clone(l)
	slices.SortFunc(l, func(a, b api.Formula) int { return bytes.Compare(written(a), written(b)) })
	return l
}

// isNone: is a formula the Op of none?
func isNone(f api.Formula, op int) bool { return f.Op == op && len(f.Kids) == 0 }

// step of the document's words at a formula, its Kids aside: the first that does anything; ok tells whether one does.
func step(f api.Formula) (g api.Formula, ok bool) {
	switch f.Op {
	case api.All:
		return joinedStep(f, api.Some)
	case api.Some:
		return joinedStep(f, api.All)
	case api.AtK:
		return atKStep(f)
	}
	return f, false
}

// joinedStep at All or Some, by one Kid at a time.
func joinedStep(f api.Formula, other int) (api.Formula, bool) {
	for i, kid := range f.Kids {
		rest := slices.Concat(f.Kids[:i], f.Kids[i+1:])
		if kid.Op == f.Op {
			return api.Formula{Op: f.Op, Kids: slices.Concat(rest, kid.Kids)}, true
		}
		if isNone(kid, other) {
			return kid, true
		}
		if slices.ContainsFunc(rest, func(x api.Formula) bool { return formula.Same(x, kid) }) {
			return api.Formula{Op: f.Op, Kids: rest}, true
		}
	}
	if len(f.Kids) == 1 {
		return f.Kids[0], true
	}
	l := byOrder(f.Kids)
	return api.Formula{Op: f.Op, Kids: l}, !formula.Same(all(l...), all(f.Kids...))
}

// atKStep at AtK, by one Kid at a time.
func atKStep(f api.Formula) (api.Formula, bool) {
	switch {
	case f.K > len(f.Kids):
		return some(), true
	case f.K == 0:
		return all(), true
	case f.K == len(f.Kids):
		return all(f.Kids...), true
	case f.K == 1:
		return some(f.Kids...), true
	}
	for i, kid := range f.Kids {
		rest := slices.Concat(f.Kids[:i], f.Kids[i+1:])
		if isNone(kid, api.All) {
			return atK(f.K-1, rest...), true
		}
		if isNone(kid, api.Some) {
			return atK(f.K, rest...), true
		}
	}
	l := byOrder(f.Kids)
	return atK(f.K, l...), !formula.Same(all(l...), all(f.Kids...))
}

// byWords is the form by the document's words, step by step: of the Kids first.
func byWords(f api.Formula) api.Formula {
	kids := slices.Clone(f.Kids)
	for i := range kids {
		kids[i] = byWords(kids[i])
	}
	f.Kids = kids
	for {
		g, ok := step(f)
		if !ok {
			return f
		}
		f = g
	}
}

// shaped tells of a right formula whether no step of the document's words does anything anywhere in it.
func shaped(f api.Formula) bool {
	_, ok := step(f)
	return !ok && !slices.ContainsFunc(f.Kids, func(kid api.Formula) bool { return !shaped(kid) })
}

// alike fails the test unless two formulas are true of the same roles.
func alike(t *testing.T, f, n api.Formula) {
	t.Helper()
	atoms := formula.Atoms(f)
	for bits := range 1 << len(atoms) {
		is := func(r api.Role) bool { return bits>>slices.Index(atoms, r)&1 == 1 }
		own := func(r api.Role) bool { return slices.Contains(atoms, r) && is(r) }
		if formula.True(f, is) != formula.True(n, own) {
			t.Fatalf("%s isn't true where %s is: %b", parse.Text(n), parse.Text(f), bits)
		}
	}
}

// check what Of and Is say of a right formula, and whether there was a form.
func check(t *testing.T, f api.Formula) bool {
	t.Helper()
	want := byWords(f)
	n, e := normal.Of(f)
	if normal.Is(f) != (formula.Right(f) && shaped(f)) {
		t.Fatalf("%s: is %v", parse.Text(f), normal.Is(f))
	}
	if !formula.Right(want) {
		if e != api.ErrLong || !formula.Same(n, api.Formula{}) {
			t.Fatalf("%s: %s, %v", parse.Text(f), parse.Text(n), e)
		}
		return false
	}
	if e != api.OK || !formula.Same(n, want) || !shaped(n) || !normal.Is(n) {
		t.Fatalf("%s: %s, %v, not %s", parse.Text(f), parse.Text(n), e, parse.Text(want))
	}
	again, e := normal.Of(n)
	if e != api.OK || !formula.Same(again, n) {
		t.Fatalf("%s: %s, %v, of itself", parse.Text(n), parse.Text(again), e)
	}
	return true
}

// joins of Kids: All and Some of them, and AtK with each K.
func joins(l ...api.Formula) []api.Formula {
	fs := []api.Formula{all(l...), some(l...)}
	for k := range len(l) + 1 {
		if len(l) > 0 {
			fs = append(fs, atK(k, l...))
		}
	}
	return fs
}

// P13.1, P13.2: all small formulas of two roles.
func TestAllSmall(t *testing.T) {
	leaves := []api.Formula{atom("a.r"), atom("b.s"), all(), some()}
	low := slices.Clone(leaves)
	for _, x := range leaves {
		low = append(low, joins(x)...)
		for _, y := range leaves {
			low = append(low, joins(x, y)...)
			for _, z := range leaves {
				for _, f := range joins(x, y, z) {
					check(t, f)
					alike(t, f, byWords(f))
				}
			}
		}
	}
	for _, x := range low {
		for _, y := range low {
			for _, f := range joins(x, y) {
				check(t, f)
			}
		}
	}
}

// P13.1, P13.2: random formulas have the form of the document's words, which is true just where they are.
func TestOfRandom(t *testing.T) {
	r := rand.New(rand.NewSource(1))
	for range 3000 {
		f := randomRight(r)
		if !check(t, f) {
			continue
		}
		n, _ := normal.Of(f)
		alike(t, f, n)
	}
}

// shuffled formula: the same Kids, another order.
func shuffled(r *rand.Rand, f api.Formula) api.Formula {
	l := slices.Clone(f.Kids)
	r.Shuffle(len(l), func(i, k int) { l[i], l[k] = l[k], l[i] })
	for i := range l {
		l[i] = shuffled(r, l[i])
	}
	f.Kids = l
	return f
}

// P13.1: in which order Kids come is of no account.
func TestOfShuffled(t *testing.T) {
	r := rand.New(rand.NewSource(2))
	for range 1000 {
		f := randomRight(r)
		n, e := normal.Of(f)
		if m, e2 := normal.Of(shuffled(r, f)); e2 != e || !formula.Same(m, n) {
			t.Fatalf("%s: %s, %v, not %s, %v", parse.Text(f), parse.Text(m), e2, parse.Text(n), e)
		}
	}
}

// P13.1: of many roles forms may be too great, at any place of a formula.
func TestOfWideRandom(t *testing.T) {
	r := rand.New(rand.NewSource(3))
	long, whole := 0, 0
	for range 6000 {
		f := wideRandom(r, 4)
		if !formula.Right(f) {
			continue
		}
		if check(t, f) {
			whole++
		} else {
			long++
		}
	}
	if long < 200 || whole < 200 {
		t.Errorf("%d are too great, %d aren't", long, whole)
	}
}

// wideRandom formula: of many roles, with many Kids, at times none.
func wideRandom(r *rand.Rand, levels int) api.Formula {
	var l []api.Formula
	for range max(r.Intn(9), r.Intn(9)) {
		if levels > 1 && r.Intn(3) == 0 {
			l = append(l, wideRandom(r, levels-1))
		} else {
			l = append(l, atom(string(rune('a'+r.Intn(5)))+"."+string(rune('a'+r.Intn(5)))))
		}
	}
	fs := joins(l...)
	return fs[r.Intn(min(3, len(fs)))]
}

// P13.1, P13.2: Both is Of All of both, and true just where both are.
func TestBothRandom(t *testing.T) {
	r := rand.New(rand.NewSource(4))
	done := 0
	for range 2000 {
		a, b := random(r, 4), random(r, 4)
		f := all(a, b)
		n, e := normal.Both(a, b)
		want, e2 := normal.Of(f)
		if e != e2 || !formula.Same(n, want) {
			t.Fatalf("%s and %s: %s, %v", parse.Text(a), parse.Text(b), parse.Text(n), e)
		}
		if e != api.OK {
			continue
		}
		done++
		for bits := range 1 << len(few) {
			is := func(x api.Role) bool { return bits>>slices.Index(few, x.Owner+"."+x.Word)&1 == 1 }
			if formula.True(n, is) != (formula.True(a, is) && formula.True(b, is)) {
				t.Fatalf("%s and %s: %s of %b", parse.Text(a), parse.Text(b), parse.Text(n), bits)
			}
		}
	}
	if done < 1000 {
		t.Errorf("only %d have a form", done)
	}
}
