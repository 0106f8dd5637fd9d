package normal_test

import (
	"slices"
	"testing"

	"entente/api"
	"entente/formula"
	"entente/normal"
	"entente/parse"
)

// roomy formula: as f, with spare room behind all Kids, which has one more in it.
func roomy(f api.Formula) api.Formula {
	var kids []api.Formula
	for _, kid := range f.Kids {
		kids = append(kids, roomy(kid))
	}
	f.Kids = append(slices.Grow(kids, 3), atom("spare.room"))[:len(kids)]
	return f
}

// checkRoom: is the spare room as roomy made it?
func checkRoom(t *testing.T, f api.Formula) {
	t.Helper()
	for _, kid := range f.Kids {
		checkRoom(t, kid)
	}
	for i, x := range f.Kids[len(f.Kids):cap(f.Kids)] {
		if i == 0 && !formula.Same(x, atom("spare.room")) || i > 0 && !formula.Same(x, api.Formula{}) {
			t.Errorf("now in spare room: %v", x)
		}
	}
}

// unspoilt fails the test unless a roomy formula is as it was.
func unspoilt(t *testing.T, f, was api.Formula) {
	t.Helper()
	if !formula.Same(f, was) {
		t.Errorf("now %v, not %v", f, was)
	}
	checkRoom(t, f)
}

// spoil all of a formula, the spare room too.
func spoil(f *api.Formula) {
	l := f.Kids[:cap(f.Kids)]
	for i := range l {
		spoil(&l[i])
		l[i] = atom("x.y")
	}
}

// lists of Kids of a formula, those with spare room alone too: where each begins in memory.
func lists(f api.Formula) []*api.Formula {
	var l []*api.Formula
	if room := f.Kids[:cap(f.Kids)]; len(room) > 0 {
		l = append(l, &room[0])
		for _, kid := range room {
			l = append(l, lists(kid)...)
		}
	}
	return l
}

// No call changes what is handed in, its spare room included.
func TestChangesNothing(t *testing.T) {
	b := all(atom("b.s"), all(atom("a.r"), atom("b.s")))
	for _, x := range forms {
		was := parsed(t, x[0])
		f, other := roomy(was), roomy(b)
		normal.Of(f)
		normal.Is(f)
		normal.Both(f, other)
		normal.Both(other, f)
		unspoilt(t, f, was)
		unspoilt(t, other, b)
	}
	for _, was := range wrong() {
		if nodes, _ := formula.Size(was); nodes == 0 {
			continue // it has no end
		}
		f := roomy(was)
		normal.Of(f)
		normal.Is(f)
		normal.Both(f, roomy(b))
		unspoilt(t, f, was)
	}
}

// What is answered is new: spoilt, it spoils neither what was handed in nor a later answer.
func TestAnswersNew(t *testing.T) {
	for _, x := range forms {
		was, want := parsed(t, x[0]), parsed(t, x[1])
		f := roomy(was)
		n, _ := normal.Of(f)
		both, _ := normal.Both(f, f)
		spoil(&n)
		unspoilt(t, f, was)
		if m, _ := normal.Of(f); !formula.Same(both, want) || !formula.Same(m, want) {
			t.Errorf("%s: %s, %s", x[0], parse.Text(both), parse.Text(m))
		}
		spoil(&both)
		unspoilt(t, f, was)
		n, _ = normal.Of(f)
		spoil(&f)
		if !formula.Same(n, want) {
			t.Errorf("%s: %s", x[0], parse.Text(n))
		}
	}
}

// No two lists of an answer share memory, though those of what was handed in do.
func TestListsApart(t *testing.T) {
	kids := times(2, atom("a.r"))
	kids[1] = atom("b.s")
	one := all(kids...)
	either := some(one, atom("c.t"))
	for i, f := range []api.Formula{
		atK(2, one, one, atom("c.t")),
		atK(2, one, some(kids...), atK(1, kids...), atK(2, kids...)),
		some(atK(2, one, either, either), all(either, atom("d.u"))),
		all(atK(2, either, either, one), either, atom("d.u")),
	} {
		n, e := normal.Of(f)
		l := lists(n)
		if e != api.OK || len(l) < 3 {
			t.Fatalf("%d: %s, %v", i, parse.Text(n), e)
		}
		for at, p := range l {
			if slices.Contains(l[:at], p) {
				t.Errorf("%d: two lists are one", i)
			}
		}
	}
}

// Always and Never are new each time.
func TestConstantsNew(t *testing.T) {
	a, n := normal.Always(), normal.Never()
	a.Kids, n.Kids = append(a.Kids, atom("a.r")), append(n.Kids, atom("a.r"))
	a.Op, n.Op = api.AtK, api.AtK
	if !formula.Same(normal.Always(), all()) || !formula.Same(normal.Never(), some()) {
		t.Errorf("%v, %v", normal.Always(), normal.Never())
	}
}
