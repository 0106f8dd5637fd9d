package parse_test

import (
	"slices"
	"testing"

	"entente/api"
	"entente/formula"
	"entente/parse"
)

// roomy formula: as f, with spare room behind all Kids, which has one more in it.
func roomy(f api.Formula) api.Formula {
	var kids []api.Formula
	for _, kid := range f.Kids {
		kids = append(kids, roomy(kid))
	}
	f.Kids = append(slices.Grow(kids, 3), atom("spare.room"))[:len(kids)]
	return f
}

// checkRoom: is the spare room as roomy made it?
func checkRoom(t *testing.T, f api.Formula) {
	t.Helper()
	for _, kid := range f.Kids {
		checkRoom(t, kid)
	}
	for i, x := range f.Kids[len(f.Kids):cap(f.Kids)] {
		if i == 0 && !formula.Same(x, atom("spare.room")) || i > 0 && !formula.Same(x, api.Formula{}) {
			t.Errorf("now in spare room: %v", x)
		}
	}
}

// Text changes nothing of what is handed in, its spare room included.
func TestTextChangesNothing(t *testing.T) {
	for _, x := range told {
		f := roomy(x.f)
		if parse.Text(f) != x.s || !formula.Same(f, x.f) {
			t.Errorf("%q: now %v", x.s, f)
		}
		checkRoom(t, f)
	}
	for _, was := range wrong {
		f := roomy(was)
		if parse.Text(f) != "" || !formula.Same(f, was) {
			t.Errorf("now %v, not %v", f, was)
		}
		checkRoom(t, f)
	}
}

// spoil all of a formula, the spare room too.
func spoil(f *api.Formula) {
	l := f.Kids[:cap(f.Kids)]
	for i := range l {
		spoil(&l[i])
		l[i] = atom("x.y")
	}
}

// What Parse answers is new each time, and no two lists of it share their memory.
func TestParseAnswersNew(t *testing.T) {
	const s = "a.r and b.s or some(a.r, b.s, c.t and a.r) or at 1(b.s) or (a.r and b.s)"
	want := some(all(a, b), some(a, b, all(c, a)), atK(1, b), all(a, b))
	one, two := parsed(t, s), parsed(t, s)
	spoil(&one)
	if !formula.Same(two, want) || !formula.Same(parsed(t, s), want) {
		t.Errorf("%v", two)
	}
	for i := range two.Kids {
		spoil(&two.Kids[i])
		for k, kid := range two.Kids[i+1:] {
			if !formula.Same(kid, want.Kids[i+1+k]) {
				t.Errorf("%d is spoilt with %d: %v", i+1+k, i, kid)
			}
		}
	}
	// What is laid behind a list doesn't go into another one.
	three := parsed(t, s)
	for i := range three.Kids {
		_ = append(three.Kids[i].Kids, times(9, atom("x.y"))...)
		_ = append(three.Kids[i].Kids, atom("x.y"))
	}
	_ = append(three.Kids, atom("x.y"))
	if !formula.Same(three, want) {
		t.Errorf("%v", three)
	}
}

// What is answered depends on the argument alone: an error, or another text, ahead of it is of no account.
func TestParseKeepsNothing(t *testing.T) {
	for _, s := range []string{"((a.r", "at 9(a.r)", "all(a.r, b.s)", "", "a.r or"} {
		f, e := parse.Parse(s)
		parse.Parse("some(c.t, (b.s")
		parse.Parse("c.t or b.s")
		parse.Text(all(c))
		if again, e2 := parse.Parse(s); e2 != e || !formula.Same(again, f) {
			t.Errorf("%q: %v, %v, then %v, %v", s, f, e, again, e2)
		}
	}
}
