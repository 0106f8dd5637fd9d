package formula_test

import (
	"slices"
	"testing"

	"entente/api"
	"entente/formula"
	"entente/tape"
)

// roomy formula: as f, with spare room behind all Kids, which has one more in it.
func roomy(f api.Formula) api.Formula {
	var kids []api.Formula
	for _, kid := range f.Kids {
		kids = append(kids, roomy(kid))
	}
	f.Kids = append(slices.Grow(kids, 3), atom("spare.room"))[:len(kids)]
	return f
}

// unspoilt fails the test unless a roomy formula is as it was.
func unspoilt(t *testing.T, f, was api.Formula) {
	t.Helper()
	if !formula.Same(f, was) {
		t.Errorf("now %v, not %v", f, was)
	}
	checkRoom(t, f)
}

// checkRoom: is the spare room as roomy made it?
func checkRoom(t *testing.T, f api.Formula) {
	t.Helper()
	for _, kid := range f.Kids {
		checkRoom(t, kid)
	}
	for i, x := range f.Kids[len(f.Kids):cap(f.Kids)] {
		if i == 0 && !formula.Same(x, atom("spare.room")) || i > 0 && !formula.Same(x, api.Formula{}) {
			t.Errorf("now in spare room: %v", x)
		}
	}
}

// No call changes what is handed in, its spare room included.
func TestChangesNothing(t *testing.T) {
	for _, was := range slices.Concat(right(), wrong()) {
		f := roomy(was)
		other := roomy(all(atom("b.s"), atom("a.r")))
		var p tape.Pen
		formula.Right(f)
		formula.Size(f)
		formula.Atoms(f)
		formula.Same(f, other)
		formula.Same(other, f)
		formula.True(f, func(api.Role) bool { return true })
		formula.Put(&p, f)
		formula.Compare(f, other)
		formula.Compare(other, f)
		unspoilt(t, f, was)
		unspoilt(t, other, all(atom("b.s"), atom("a.r")))
	}
}

// spoil all of a formula, the spare room too.
func spoil(f *api.Formula) {
	l := f.Kids[:cap(f.Kids)]
	for i := range l {
		spoil(&l[i])
		l[i] = atom("x.y")
	}
}

// What is answered is new each time, the spare room too.
func TestAnswersNew(t *testing.T) {
	f := all(atom("b.s"), some(atom("a.r"), atom("c.t")), atK(1, atom("b.s"), all()))
	was := copied(f)
	atoms := formula.Atoms(f)
	again := formula.Atoms(f)
	for i := range again[:cap(again)] {
		again[:cap(again)][i] = of("x.y")
	}
	if !slices.Equal(atoms, []api.Role{of("a.r"), of("b.s"), of("c.t")}) || !slices.Equal(formula.Atoms(f), atoms) {
		t.Errorf("%v", atoms)
	}
	var p tape.Pen
	formula.Put(&p, f)
	b := p.Bytes()
	var one, two api.Formula
	tape.Read(slices.Concat(b, b), func(r *tape.Reader) {
		one, two = formula.Get(r), formula.Get(r)
	})
	spoil(&one)
	if !formula.Same(two, was) || !formula.Same(f, was) {
		t.Errorf("%v, %v", two, f)
	}
	// No two lists of one answer share their memory.
	two.Kids[1].Kids = append(two.Kids[1].Kids, atom("x.y"))
	two.Kids[1].Kids[0] = atom("x.y")
	if !formula.Same(two.Kids[2], was.Kids[2]) || !formula.Same(two.Kids[0], was.Kids[0]) {
		t.Errorf("%v", two)
	}
}

// What is read of bytes keeps nothing of them.
func TestGetKeepsNothing(t *testing.T) {
	for i, x := range known {
		b := []byte(x.b)
		var f api.Formula
		tape.Read(b, func(r *tape.Reader) { f = formula.Get(r) })
		for at := range b {
			b[at] = 0xff
		}
		if !formula.Same(f, x.f) {
			t.Errorf("%d: now %v", i, f)
		}
	}
}
