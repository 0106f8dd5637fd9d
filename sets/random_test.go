package sets_test

import (
	"math/rand"
	"slices"
	"strings"
	"testing"

	"entente/api"
	"entente/formula"
	"entente/parse"
	"entente/role"
	"entente/sets"
)

// Names with which the order of roles isn't that of their texts, nor of their bytes.
var few = []string{"a.r", "a.s", "a-b.r", "aa.z", "b.r", "b.rr", "c-1.t", "d.u"}

// many roles, more than there may be.
var many = strings.Fields("a.r b.r c.r d.r e.r f.r g.r h.r i.r j.r k.r l.r m.r")

// random formula of at most so many levels over these roles, right but for its size.
func random(r *rand.Rand, levels, kids int, roles []string) api.Formula {
	if levels < 2 || r.Intn(4) == 0 {
		return atom(roles[r.Intn(len(roles))])
	}
	var l []api.Formula
	for range r.Intn(kids + 1) {
		l = append(l, random(r, levels-1, kids, roles))
	}
	switch {
	case len(l) > 0 && r.Intn(3) == 0:
		return atK(r.Intn(len(l)+1), l...)
	case r.Intn(2) == 0:
		return all(l...)
	}
	return some(l...)
}

// randomRight is a random formula of few enough nodes.
func randomRight(r *rand.Rand, levels, kids int, roles []string) api.Formula {
	for {
		if f := random(r, levels, kids, roles); formula.Right(f) {
			return f
		}
	}
}

// subsets of a set of roles.
func subsets(l []api.Role) [][]api.Role {
	subs := [][]api.Role{nil}
	for _, r := range l {
		for _, s := range slices.Clone(subs) {
			subs = append(subs, append(slices.Clone(s), r))
		}
	}
	return subs
}

// without the i-th role: the rest of a set.
func without(l []api.Role, i int) []api.Role {
	return slices.Concat(l[:i], l[i+1:])
}

// isTrue of a list: layer 11's words.
func isTrue(f api.Formula, l []api.Role) bool {
	return formula.True(f, func(r api.Role) bool { return slices.Contains(l, r) })
}

// byWords are the least sets by the document's words, in any order.
func byWords(f api.Formula) [][]api.Role {
	var least [][]api.Role
	for _, s := range subsets(formula.Atoms(f)) {
		ok := isTrue(f, s)
		for i := range s {
			ok = ok && !isTrue(f, without(s, i))
		}
		if ok {
			least = append(least, s)
		}
	}
	return least
}

// ordered: does one set go ahead of another one?
func ordered(a, b []api.Role) bool {
	if len(a) != len(b) {
		return len(a) < len(b)
	}
	for i := range a {
		if a[i].Owner != b[i].Owner {
			return a[i].Owner < b[i].Owner
		}
		if a[i].Word != b[i].Word {
			return a[i].Word < b[i].Word
		}
	}
	return false
}

// check what Least says of a right formula, and answer whether it had no error.
func check(t *testing.T, f api.Formula) bool {
	t.Helper()
	l, e := sets.Least(f)
	long := len(formula.Atoms(f)) > 12
	var want [][]api.Role
	if !long {
		want = byWords(f)
		long = len(want) > 128
	}
	if long {
		if e != api.ErrLong || len(l) != 0 {
			t.Fatalf("%s: %s, %v", parse.Text(f), told(l), e)
		}
		return false
	}
	if e != api.OK || len(l) != len(want) {
		t.Fatalf("%s: %s, %v, not %s", parse.Text(f), told(l), e, told(want))
	}
	for i, s := range l {
		if !slices.Equal(s, role.Set(s...)) || i > 0 && !ordered(l[i-1], s) {
			t.Fatalf("%s: %s isn't in order", parse.Text(f), told(l))
		}
		if !slices.ContainsFunc(want, func(w []api.Role) bool { return slices.Equal(w, s) }) {
			t.Fatalf("%s: %s, not %s", parse.Text(f), told(l), told(want))
		}
	}
	return true
}

// checkLeast holds what Least answers of a formula against P14.3, by this layer's own calls.
func checkLeast(t *testing.T, f api.Formula) {
	t.Helper()
	l, e := sets.Least(f)
	if e != api.OK {
		return
	}
	for i, s := range l {
		if !sets.Suffices(f, s) {
			t.Fatalf("%s: %q doesn't suffice", parse.Text(f), s)
		}
		for at := range s {
			if sets.Suffices(f, without(s, at)) {
				t.Fatalf("%s: %q suffices with a role less", parse.Text(f), s)
			}
		}
		for k, other := range l {
			if sets.Within(s, other) != (k == i) {
				t.Fatalf("%s: %q, %q", parse.Text(f), s, other)
			}
		}
	}
	for _, s := range subsets(formula.Atoms(f)) {
		has := slices.ContainsFunc(l, func(least []api.Role) bool { return sets.Within(least, s) })
		if sets.Suffices(f, s) != has || has != isTrue(f, s) {
			t.Fatalf("%s: %q", parse.Text(f), s)
		}
		first, ok := sets.First(f, func(r api.Role) bool { return slices.Contains(s, r) })
		want := slices.IndexFunc(l, func(least []api.Role) bool { return sets.Within(least, s) })
		if ok != has || ok && !slices.Equal(first, l[want]) || !ok && len(first) != 0 {
			t.Fatalf("%s: the first within %q: %q, %v", parse.Text(f), s, first, ok)
		}
	}
}

// joins of Kids: All and Some of them, and AtK with each K.
func joins(l ...api.Formula) []api.Formula {
	fs := []api.Formula{all(l...), some(l...)}
	for k := range len(l) + 1 {
		if len(l) > 0 {
			fs = append(fs, atK(k, l...))
		}
	}
	return fs
}

// P14.1, P14.2, P14.3: all small formulas of three roles.
func TestAllSmall(t *testing.T) {
	leaves := []api.Formula{atom("a.r"), atom("b.s"), atom("c.t"), all(), some()}
	low := slices.Clone(leaves)
	for _, x := range leaves {
		low = append(low, joins(x)...)
		for _, y := range leaves {
			low = append(low, joins(x, y)...)
			for _, z := range leaves {
				for _, f := range joins(x, y, z) {
					check(t, f)
					checkLeast(t, f)
				}
			}
		}
	}
	for _, x := range low {
		for _, y := range low {
			for _, f := range joins(x, y) {
				check(t, f)
			}
		}
	}
}

// P14.1, P14.2, P14.3: random formulas.
func TestRandom(t *testing.T) {
	r := rand.New(rand.NewSource(1))
	for range 1500 {
		f := randomRight(r, 6, 4, few)
		check(t, f)
		checkLeast(t, f)
	}
}

// P14.1: of many Atoms, and of many least sets: both that are too many, and that aren't.
func TestManyRandom(t *testing.T) {
	r := rand.New(rand.NewSource(2))
	long, whole, full := 0, 0, 0
	for range 400 {
		f := randomRight(r, 4, 8, many)
		switch {
		case !check(t, f):
			long++
		case len(formula.Atoms(f)) == 12:
			full++
		default:
			whole++
		}
	}
	if long < 20 || whole < 20 || full < 20 {
		t.Errorf("%d are too great, %d aren't, and %d just go", long, whole, full)
	}
}

// shuffled formula: the same Kids, another order.
func shuffled(r *rand.Rand, f api.Formula) api.Formula {
	l := slices.Clone(f.Kids)
	r.Shuffle(len(l), func(i, k int) { l[i], l[k] = l[k], l[i] })
	for i := range l {
		l[i] = shuffled(r, l[i])
	}
	f.Kids = l
	return f
}

// P14.1: in which order Kids come is of no account.
func TestShuffled(t *testing.T) {
	r := rand.New(rand.NewSource(3))
	for range 1000 {
		f := randomRight(r, 5, 5, few)
		l, e := sets.Least(f)
		m, e2 := sets.Least(shuffled(r, f))
		if e != e2 || told(l) != told(m) {
			t.Fatalf("%s: %s, %v, and %s, %v", parse.Text(f), told(l), e, told(m), e2)
		}
	}
}

// randomList of roles, some of them more than once, and some not right.
func randomList(r *rand.Rand) []api.Role {
	var l []api.Role
	for range r.Intn(7) {
		l = append(l, of([]string{"a.r", "a.s", "b.r", "A.r", ".", "a."}[r.Intn(6)]))
	}
	return l
}

// P14.1: Within of random lists, asked role by role.
func TestWithinRandom(t *testing.T) {
	r := rand.New(rand.NewSource(4))
	for range 5000 {
		a, b := randomList(r), randomList(r)
		want := true
		for _, x := range a {
			want = want && slices.Contains(b, x)
		}
		if got := sets.Within(a, b); got != want {
			t.Fatalf("%q within %q: %v", a, b, got)
		}
	}
}
