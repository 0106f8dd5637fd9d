package normal_test

import (
	"strings"
	"testing"

	"entente/api"
	"entente/formula"
	"entente/normal"
	"entente/parse"
)

const longest = "abcdefghijklmnop"

// of makes a role of its text, right or not.
func of(s string) api.Role {
	owner, word, _ := strings.Cut(s, ".")
	return api.Role{Owner: owner, Word: word}
}

// atom of a role's text.
func atom(s string) api.Formula { return api.Formula{Op: api.Atom, Role: of(s)} }

func all(l ...api.Formula) api.Formula  { return api.Formula{Op: api.All, Kids: l} }
func some(l ...api.Formula) api.Formula { return api.Formula{Op: api.Some, Kids: l} }
func atK(k int, l ...api.Formula) api.Formula {
	return api.Formula{Op: api.AtK, K: k, Kids: l}
}

// times makes n Kids of one.
func times(n int, f api.Formula) []api.Formula {
	var l []api.Formula
	for range n {
		l = append(l, f)
	}
	return l
}

// atoms makes n Kids, each of another role: owner.a and on.
func atoms(owner string, n int) []api.Formula {
	var l []api.Formula
	for i := range n {
		l = append(l, atom(owner+"."+string(rune('a'+i))))
	}
	return l
}

// deep formula, its own normal form: so many deep, All and Some by turns.
func deep(n int) api.Formula {
	f := atom("a.r")
	for i := 1; i < n; i++ {
		f = []api.Formula{all(atom("a.a"), f), some(atom("a.a"), f)}[i%2]
	}
	return f
}

// endless formula: it is within itself.
func endless() api.Formula {
	f := all(all(), atom("a.r"))
	f.Kids[0] = f
	return f
}

// parsed is what a text says, which must be right.
func parsed(t *testing.T, s string) api.Formula {
	t.Helper()
	f, e := parse.Parse(s)
	if e != api.OK {
		t.Fatalf("%q: %v", s, e)
	}
	return f
}

// none fails the test unless an answer is the zero one, with this error.
func none(t *testing.T, at int, f api.Formula, e, want api.Errno) {
	t.Helper()
	if e != want || !formula.Same(f, api.Formula{}) {
		t.Errorf("%d: %v, %v, not %v", at, f, e, want)
	}
}

// P13.1: Always is All of none, Never is Some of none; both are their own normal forms.
func TestAlwaysNever(t *testing.T) {
	if !formula.Same(normal.Always(), all()) || !formula.Same(normal.Never(), some()) {
		t.Errorf("%v, %v", normal.Always(), normal.Never())
	}
	if !normal.Is(normal.Always()) || !normal.Is(normal.Never()) {
		t.Error("one isn't its own normal form")
	}
}

// forms of formulas, by the document's words, one after the other.
var forms = [][2]string{
	// What is in its form already.
	{"a.r", "a.r"},
	{"gov-1.id", "gov-1.id"},
	{"all()", "all()"},
	{"some()", "some()"},
	{"all(a.r, b.s)", "all(a.r, b.s)"},
	{"some(a.r, b.s)", "some(a.r, b.s)"},
	{"at 2(a.r, b.s, c.t)", "at 2(a.r, b.s, c.t)"},
	{"all(a.r, some(b.s, c.t))", "all(a.r, some(b.s, c.t))"},
	// Kids that are All, of All, give way to their Kids; of Some likewise.
	{"all(b.s, all(a.r, b.s))", "all(a.r, b.s)"},
	{"all(a.r, all(b.s, c.t))", "all(a.r, b.s, c.t)"},
	{"all(all(c.t, d.u), all(a.r, b.s))", "all(a.r, b.s, c.t, d.u)"},
	{"all(all(all(all(b.s), c.t), a.r))", "all(a.r, b.s, c.t)"},
	{"some(a.r, some(b.s, c.t))", "some(a.r, b.s, c.t)"},
	{"some(some(some(some(b.s), c.t), a.r))", "some(a.r, b.s, c.t)"},
	{"all(some(all(a.r, b.s)), c.t)", "all(a.r, b.s, c.t)"},
	{"some(all(some(a.r, b.s)), c.t)", "some(a.r, b.s, c.t)"},
	{"all(a.r, some(b.s, all(c.t, d.u)))", "all(a.r, some(b.s, all(c.t, d.u)))"},
	// Of AtK: K of 0, as many as there are Kids, 1.
	{"at 0(a.r)", "all()"},
	{"at 0(a.r, b.s)", "all()"},
	{"at 0(some(), some())", "all()"},
	{"at 1(a.r)", "a.r"},
	{"at 2(b.s, a.r)", "all(a.r, b.s)"},
	{"at 3(c.t, b.s, a.r)", "all(a.r, b.s, c.t)"},
	{"at 1(b.s, a.r)", "some(a.r, b.s)"},
	{"at 1(c.t, b.s, a.r)", "some(a.r, b.s, c.t)"},
	// What has become All or Some by its K is brought so, too.
	{"at 2(b.s, b.s)", "b.s"},
	{"at 1(b.s, b.s)", "b.s"},
	{"at 2(all(b.s, c.t), a.r)", "all(a.r, b.s, c.t)"},
	{"at 1(some(b.s, c.t), a.r)", "some(a.r, b.s, c.t)"},
	{"at 2(some(b.s, c.t), a.r)", "all(a.r, some(b.s, c.t))"},
	{"at 1(all(b.s, c.t), a.r)", "some(a.r, all(b.s, c.t))"},
	{"all(at 2(b.s, c.t), a.r)", "all(a.r, b.s, c.t)"},
	{"some(at 1(b.s, c.t), a.r)", "some(a.r, b.s, c.t)"},
	{"at 2(some(), a.r)", "some()"},
	{"at 1(all(), a.r)", "all()"},
	// A Kid that decides alone, and Kids that go.
	{"all(a.r, some(), b.s)", "some()"},
	{"all(some())", "some()"},
	{"all(all(a.r, some()), b.s)", "some()"},
	{"all(all(), a.r, b.s)", "all(a.r, b.s)"},
	{"all(all(), a.r)", "a.r"},
	{"all(all(), all())", "all()"},
	{"all(all(), some())", "some()"},
	{"some(a.r, all(), b.s)", "all()"},
	{"some(all())", "all()"},
	{"some(some(a.r, all()), b.s)", "all()"},
	{"some(some(), a.r, b.s)", "some(a.r, b.s)"},
	{"some(some(), a.r)", "a.r"},
	{"some(some(), some())", "some()"},
	{"some(some(), all())", "all()"},
	// By layer 11's order: Ops, then lengths of names ahead of their letters; how many Kids ahead of what they are.
	{"all(some(a.r, b.s), c.t, at 2(a.r, b.s, c.t))", "all(c.t, some(a.r, b.s), at 2(a.r, b.s, c.t))"},
	{"some(at 2(a.r, b.s, c.t), all(a.r, b.s), c.t)", "some(c.t, all(a.r, b.s), at 2(a.r, b.s, c.t))"},
	{"all(aa.r, z.r, b.rr, b.z)", "all(b.z, b.rr, z.r, aa.r)"},
	{"some(all(a.r, b.s, c.t), all(y.y, z.z))", "some(all(y.y, z.z), all(a.r, b.s, c.t))"},
	{"all(at 3(a.r, b.s, c.t, d.u), at 2(a.r, b.s, c.t, d.u), at 2(x.x, y.y, z.z))", "all(at 2(x.x, y.y, z.z), at 2(a.r, b.s, c.t, d.u), at 3(a.r, b.s, c.t, d.u))"},
	// Each once in All and Some; as often as they come in AtK.
	{"all(b.s, a.r, b.s, b.s)", "all(a.r, b.s)"},
	{"some(b.s, a.r, b.s, b.s)", "some(a.r, b.s)"},
	{"all(some(a.r, b.s), some(b.s, a.r, b.s))", "some(a.r, b.s)"},
	{"all(a.r, some(a.r, b.s))", "all(a.r, some(a.r, b.s))"},
	{"at 2(b.s, a.r, b.s)", "at 2(a.r, b.s, b.s)"},
	{"at 2(a.r, a.r, a.r)", "at 2(a.r, a.r, a.r)"},
	{"at 2(some(b.s, a.r), c.t, some(a.r, b.s))", "at 2(c.t, some(a.r, b.s), some(a.r, b.s))"},
	// All or Some of one Kid.
	{"all(a.r)", "a.r"},
	{"some(a.r)", "a.r"},
	{"all(at 2(c.t, b.s, a.r))", "at 2(a.r, b.s, c.t)"},
	{"some(all(some(all(a.r))))", "a.r"},
	// AtK with Kids that are All of none.
	{"at 3(all(), a.r, b.s, c.t)", "at 2(a.r, b.s, c.t)"},
	{"at 2(all(), a.r, b.s)", "some(a.r, b.s)"},
	{"at 2(a.r, all(), b.s, all())", "all()"},
	{"at 2(all(), all(), all(), a.r)", "all()"},
	{"at 2(all(), all())", "all()"},
	{"at 2(some(all()), a.r, b.s)", "some(a.r, b.s)"},
	// AtK with Kids that are Some of none.
	{"at 2(some(), a.r, b.s, c.t)", "at 2(a.r, b.s, c.t)"},
	{"at 2(some(), a.r, b.s)", "all(a.r, b.s)"},
	{"at 2(some(), some(), a.r)", "some()"},
	{"at 2(some(), some(), some())", "some()"},
	{"at 1(some(), a.r)", "a.r"},
	{"at 1(some(), some())", "some()"},
	{"at 2(all(some()), b.s, a.r)", "all(a.r, b.s)"},
	// AtK with both.
	{"at 3(all(), some(), c.t, b.s, a.r)", "at 2(a.r, b.s, c.t)"},
	{"at 2(all(), some(), a.r)", "a.r"},
	{"at 3(all(), some(), b.s, a.r)", "all(a.r, b.s)"},
	{"at 3(all(), some(), a.r)", "some()"},
	{"at 2(all(), some(), some(b.s, c.t), a.r)", "some(a.r, b.s, c.t)"},
	{"at 3(all(), some(), all(b.s, c.t), a.r)", "all(a.r, b.s, c.t)"},
	// Kids first.
	{"at 2(at 0(a.r), at 2(b.s, some()), c.t)", "c.t"},
	{"at 2(at 1(b.s, a.r), at 2(d.u, c.t), e.v)", "at 2(e.v, all(c.t, d.u), some(a.r, b.s))"},
}

// P13.1: normal forms, by the document's words.
func TestOf(t *testing.T) {
	for i, x := range forms {
		f := parsed(t, x[0])
		n, e := normal.Of(f)
		if e != api.OK || !formula.Same(n, parsed(t, x[1])) {
			t.Errorf("%d: %s: %q, %v, not %s", i, x[0], parse.Text(n), e, x[1])
		}
		if normal.Is(f) != (x[0] == x[1]) || !normal.Is(n) {
			t.Errorf("%d: %s: is %v, and its form %v", i, x[0], normal.Is(f), normal.Is(n))
		}
	}
}

// wrong formulas: none is right by layer 11.
func wrong() []api.Formula {
	a := atom("a.r")
	l := []api.Formula{
		{}, {Op: 5}, {Op: -1}, {Op: 1 << 40}, {Op: 0, Kids: times(1, a)},
		{Op: api.Atom}, atom("a."), atom(".r"), atom("A.r"), atom(longest + "q.r"),
		{Op: api.Atom, Role: of("a.r"), K: 1}, {Op: api.Atom, Role: of("a.r"), Kids: times(1, a)},
		{Op: api.All, K: 1, Kids: times(1, a)}, {Op: api.Some, K: -1}, {Op: api.All, Role: of("a.r")}, {Op: api.Some, Role: of("a.r"), Kids: times(2, a)},
		atK(0), atK(1), atK(-1, a), atK(2, a), atK(9, times(8, a)...), atK(1, times(9, a)...), {Op: api.AtK, K: 1, Role: of("a.r"), Kids: times(1, a)},
		all(times(9, a)...), some(times(9, a)...), all(times(100, a)...), deep(7), deep(1000),
		all(times(8, all(times(7, a)...))...), // 65 nodes
		endless(),
	}
	for _, f := range l {
		l = append(l, all(f), some(a, f), atK(1, f, a), all(some(), f), some(all(), f))
	}
	return l
}

// P13.1: of what isn't right there is no form: ErrForm, though a part of it could be left out, or would give way.
func TestOfWrong(t *testing.T) {
	for i, f := range wrong() {
		n, e := normal.Of(f)
		none(t, i, n, e, api.ErrForm)
		if normal.Is(f) {
			t.Errorf("%d: it is its own normal form", i)
		}
	}
}

// P13.1: ErrLong of forms that aren't right, wherever the node is that has too many Kids.
func TestOfLong(t *testing.T) {
	a, b := atoms("a", 5), atoms("b", 4)
	ninth := all(all(a...), all(b...))
	eighths := func(op func(l ...api.Formula) api.Formula) api.Formula {
		f := op()
		for i := range 8 {
			f.Kids = append(f.Kids, op(atoms(string(rune('a'+i)), 6+min(i, 1))...))
		}
		return f
	}
	for i, f := range []api.Formula{
		ninth,
		some(some(a...), some(b...)),
		all(atom("c.t"), all(atoms("a", 8)...)),
		all(all(a...), all(some(all(b...)))),
		atK(2, all(a...), all(b...)),
		atK(1, some(a...), some(b...)),
		atK(3, all(), some(a...), some(), all(b...), ninth),
		some(atom("c.t"), ninth),
		all(atom("c.t"), ninth),
		atK(2, atom("c.t"), atom("d.u"), ninth),
		some(ninth, ninth),
		some(ninth, all(all(a...), all(atoms("c", 4)...))),
		eighths(all), // 64 nodes: 55 Kids
		eighths(some),
	} {
		if !formula.Right(f) {
			t.Fatalf("%d isn't right itself", i)
		}
		n, e := normal.Of(f)
		none(t, i, n, e, api.ErrLong)
		if normal.Is(f) {
			t.Errorf("%d: it is its own normal form", i)
		}
	}
}

// P13.1: on the way nodes may have more Kids than are right, if the form has them no more.
func TestOfOnTheWay(t *testing.T) {
	a, b := atoms("a", 5), atoms("b", 4)
	ninth, either := all(all(a...), all(b...)), some(some(a...), some(b...))
	eight := append(atoms("a", 5), atoms("b", 3)...)
	same := all(times(8, all(times(6, a[0])...))...)
	same.Kids[0].Kids = append(same.Kids[0].Kids, times(2, a[0])...)
	same.Kids[1] = all(append(times(5, a[0]), a[1])...)
	for i, x := range [][2]api.Formula{
		{all(all(a...), all(b[:3]...)), all(eight...)},
		{all(all(a...), all(a[4], b[0], b[1], b[2])), all(eight...)},
		{some(some(a...), some(a[4], b[0], b[1], b[2])), some(eight...)},
		{all(all(a...), all(a...), all(), all(a...)), all(a...)},
		{same, all(a[:2]...)},
		{all(ninth, some()), some()},
		{some(ninth, all()), all()},
		{some(all(either, some()), a[0]), a[0]},
		{all(some(ninth, all()), a[0]), a[0]},
		{atK(0, ninth), all()},
		{atK(1, ninth, either, all()), all()},
		{atK(2, ninth, some(), some()), some()},
		{all(some(), either, ninth), some()},
	} {
		n, e := normal.Of(x[0])
		if e != api.OK || !formula.Same(n, x[1]) {
			t.Errorf("%d: %q, %v, not %q", i, parse.Text(n), e, parse.Text(x[1]))
		}
	}
}

// P13.1: Is asks for a right one that is its own form: nothing else of it may be unlike.
func TestIs(t *testing.T) {
	for _, s := range []string{"a.r", "all()", "some()", "all(a.r, some(b.s, all(c.t, d.u)))", "at 2(a.r, a.r, b.s)", "all(a.r, b.r, c.r, d.r, e.r, f.r, g.r, h.r)"} {
		if !normal.Is(parsed(t, s)) {
			t.Errorf("%s isn't", s)
		}
	}
	if f := deep(6); !normal.Is(f) {
		t.Errorf("%s isn't", parse.Text(f))
	}
	for _, s := range []string{"all(b.s, a.r)", "all(a.r, a.r)", "some(a.r)", "at 0(a.r)", "at 1(a.r, b.s)", "at 2(a.r, b.s)", "at 2(b.s, a.r, a.r)", "at 2(a.r, b.s, all())", "some(a.r, some(b.s, c.t))", "all(a.r, some(c.t, b.s))", "all(a.r, some())"} {
		if normal.Is(parsed(t, s)) {
			t.Errorf("%s is", s)
		}
	}
	f := all(atom("a.r"), atom("b.s"))
	f.Kids[0].Kids = []api.Formula{}
	if !normal.Is(f) {
		t.Error("no Kids and nil aren't alike")
	}
}

// P13.1: Both is Of All of both.
func TestBoth(t *testing.T) {
	for i, x := range [][3]string{
		{"a.r", "b.s", "all(a.r, b.s)"},
		{"b.s", "a.r", "all(a.r, b.s)"},
		{"a.r", "a.r", "a.r"},
		{"a.r", "all()", "a.r"},
		{"all()", "a.r", "a.r"},
		{"a.r", "some()", "some()"},
		{"some()", "a.r", "some()"},
		{"all()", "all()", "all()"},
		{"some()", "some()", "some()"},
		{"all()", "some()", "some()"},
		{"all(a.r, c.t)", "all(b.s, c.t)", "all(a.r, b.s, c.t)"},
		{"a.r or b.s", "b.s", "all(b.s, some(a.r, b.s))"},
		{"a.r or b.s", "b.s or a.r", "some(a.r, b.s)"},
		{"at 2(c.t, b.s, a.r)", "at 3(all(), a.r, b.s, c.t)", "at 2(a.r, b.s, c.t)"},
	} {
		n, e := normal.Both(parsed(t, x[0]), parsed(t, x[1]))
		if e != api.OK || !formula.Same(n, parsed(t, x[2])) || !normal.Is(n) {
			t.Errorf("%d: %q, %v, not %s", i, parse.Text(n), e, x[2])
		}
	}
}

// P13.1: Both has the errors of Of: ErrForm also where each is right, but not All of them.
func TestBothErrors(t *testing.T) {
	a := atom("a.r")
	for i, f := range wrong() {
		for _, other := range []api.Formula{a, some(), f} {
			n, e := normal.Both(f, other)
			none(t, i, n, e, api.ErrForm)
			n, e = normal.Both(other, f)
			none(t, i, n, e, api.ErrForm)
		}
	}
	half := all(times(5, all(times(5, a)...))...) // 31 nodes
	more := all(append(half.Kids, all())...)      // 32 nodes
	long := all(atoms("b", 5)...)                 // with four others it has too many Kids
	for i, x := range []struct {
		a, b api.Formula
		e    api.Errno
	}{
		{deep(5), a, api.OK},
		{deep(6), a, api.ErrForm},
		{some(), deep(6), api.ErrForm},
		{half, half, api.OK},
		{half, more, api.OK},
		{more, half, api.OK},
		{more, more, api.ErrForm},
		{long, all(atoms("c", 3)...), api.OK},
		{long, all(atoms("c", 4)...), api.ErrLong},
		{all(atoms("c", 4)...), long, api.ErrLong},
		{all(long, all(atoms("c", 4)...)), some(), api.OK},
	} {
		n, e := normal.Both(x.a, x.b)
		if x.e != api.OK {
			none(t, i, n, e, x.e)
		} else if e != api.OK || !normal.Is(n) {
			t.Errorf("%d: %q, %v", i, parse.Text(n), e)
		}
	}
}
