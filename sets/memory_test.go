package sets_test

import (
	"slices"
	"testing"

	"entente/api"
	"entente/formula"
	"entente/sets"
)

// roomy formula: as f, with spare room behind all Kids, which has one more in it.
func roomy(f api.Formula) api.Formula {
	var kids []api.Formula
	for _, kid := range f.Kids {
		kids = append(kids, roomy(kid))
	}
	f.Kids = append(slices.Grow(kids, 3), atom("spare.room"))[:len(kids)]
	return f
}

// roomyList of roles: with spare room, which has one more in it.
func roomyList(s string) []api.Role {
	l := rolesOf(s)
	return append(slices.Grow(l, 3), of("spare.room"))[:len(l)]
}

// checkRoom: is the spare room as roomy made it?
func checkRoom(t *testing.T, f api.Formula) {
	t.Helper()
	for _, kid := range f.Kids {
		checkRoom(t, kid)
	}
	for i, x := range f.Kids[len(f.Kids):cap(f.Kids)] {
		if i == 0 && !formula.Same(x, atom("spare.room")) || i > 0 && !formula.Same(x, api.Formula{}) {
			t.Errorf("now in spare room: %v", x)
		}
	}
}

// checkList: is a roomy list as it was made?
func checkList(t *testing.T, l []api.Role, s string) {
	t.Helper()
	want := append(rolesOf(s), of("spare.room"))
	if !slices.Equal(l, want[:len(want)-1]) {
		t.Errorf("now %q, not %s", l, s)
	}
	for i, r := range l[len(l):cap(l)] {
		if i == 0 && r != of("spare.room") || i > 0 && r != (api.Role{}) {
			t.Errorf("now in spare room: %q", r)
		}
	}
}

// No call changes what is handed in, its spare room included.
func TestChangesNothing(t *testing.T) {
	const a, b = "b.s a.r b.s A.r", "c.t b.s a.r A.r a.r"
	for _, x := range forms {
		was := parsed(t, x[0])
		f, l, m := roomy(was), roomyList(a), roomyList(b)
		sets.Least(f)
		sets.First(f, every)
		sets.Suffices(f, l)
		sets.Within(l, m)
		sets.Within(m, l)
		if !formula.Same(f, was) {
			t.Errorf("now %v, not %v", f, was)
		}
		checkRoom(t, f)
		checkList(t, l, a)
		checkList(t, m, b)
	}
}

// spoil all of a list, the spare room too.
func spoil(l []api.Role) {
	l = l[:cap(l)]
	for i := range l {
		l[i] = of("x.y")
	}
}

// What is answered is new: spoilt, list by list, it spoils no other list, and no later answer.
func TestAnswersNew(t *testing.T) {
	for _, x := range forms {
		f := parsed(t, x[0])
		l, _ := sets.Least(f)
		first, ok := sets.First(f, every)
		for i := range l {
			spoil(l[i])
			rest, _ := sets.Least(f)
			if told(l[i+1:]) != told(rest[i+1:]) {
				t.Errorf("%s: the %d-th is in others' memory: %s", x[0], i, told(l))
			}
		}
		spoil(first)
		if m, _ := sets.Least(f); told(m) != x[1] {
			t.Errorf("%s: %s", x[0], told(m))
		}
		if again, _ := sets.First(f, every); ok && told([][]api.Role{again}) != x[1][:len(told([][]api.Role{again}))] {
			t.Errorf("%s: %q", x[0], again)
		}
		if !formula.Same(f, parsed(t, x[0])) {
			t.Errorf("%s: now %v", x[0], f)
		}
	}
}

// No two lists of an answer share memory, their spare room included.
func TestListsApart(t *testing.T) {
	for _, x := range forms {
		l, _ := sets.Least(parsed(t, x[0]))
		var met []*api.Role
		for _, s := range l {
			s = s[:cap(s)]
			for i := range s {
				if slices.Contains(met, &s[i]) {
					t.Errorf("%s: two lists share memory", x[0])
				}
				met = append(met, &s[i])
			}
		}
	}
}
