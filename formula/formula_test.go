package formula_test

import (
	"slices"
	"strings"
	"testing"

	"entente/api"
	"entente/formula"
	"entente/role"
)

const longest = "abcdefghijklmnop"

// of makes a role of its text, right or not.
func of(s string) api.Role {
	owner, word, _ := strings.Cut(s, ".")
	return api.Role{Owner: owner, Word: word}
}

// atom of a role's text.
func atom(s string) api.Formula { return api.Formula{Op: api.Atom, Role: of(s)} }

func all(l ...api.Formula) api.Formula  { return api.Formula{Op: api.All, Kids: l} }
func some(l ...api.Formula) api.Formula { return api.Formula{Op: api.Some, Kids: l} }
func atK(k int, l ...api.Formula) api.Formula {
	return api.Formula{Op: api.AtK, K: k, Kids: l}
}

// times makes n Kids of one.
func times(n int, f api.Formula) []api.Formula {
	var l []api.Formula
	for range n {
		l = append(l, f)
	}
	return l
}

// deep formula: so many deep, with one Kid in each node but the last one.
func deep(n int) api.Formula {
	f := atom("a.r")
	for i := 1; i < n; i++ {
		f = []api.Formula{all(f), some(f), atK(1, f)}[i%3]
	}
	return f
}

// wide formula: of so many nodes, from 10 to 73, and 3 deep.
func wide(nodes int) api.Formula {
	left := nodes - 9
	f := all(times(8, some())...)
	for i := range f.Kids {
		f.Kids[i] = some(times(min(8, left), atom("a.r"))...)
		left -= min(8, left)
	}
	return f
}

// known right formulas, with their bytes, how many nodes they have, and how deep they are.
var known = []struct {
	f           api.Formula
	b           string
	nodes, deep int
}{
	{atom("a.r"), "\x01\x01a\x01r", 1, 1},
	{atom("gov-1.id"), "\x01\x05gov-1\x02id", 1, 1},
	{atom(longest + "." + longest), "\x01\x10" + longest + "\x10" + longest, 1, 1},
	{all(), "\x02\x00", 1, 1},
	{some(), "\x03\x00", 1, 1},
	{api.Formula{Op: api.All, Kids: []api.Formula{}}, "\x02\x00", 1, 1},
	{all(atom("a.r")), "\x02\x01\x01\x01a\x01r", 2, 2},
	{some(atom("a.r"), atom("a.r")), "\x03\x02\x01\x01a\x01r\x01\x01a\x01r", 3, 2},
	{atK(0, atom("a.r")), "\x04\x00\x01\x01\x01a\x01r", 2, 2},
	{atK(1, all()), "\x04\x01\x01\x02\x00", 2, 2},
	{atK(2, some(), atom("b.s"), all()), "\x04\x02\x03\x03\x00\x01\x01b\x01s\x02\x00", 4, 2},
	{atK(8, times(8, some())...), "\x04\x08\x08" + strings.Repeat("\x03\x00", 8), 9, 2},
	{all(times(8, some())...), "\x02\x08" + strings.Repeat("\x03\x00", 8), 9, 2},
	{all(atom("b.s"), some(atom("a.r"), atK(1, all(), atom("c.t")))), "\x02\x02\x01\x01b\x01s\x03\x02\x01\x01a\x01r\x04\x01\x02\x02\x00\x01\x01c\x01t", 7, 4},
	{deep(6), "\x04\x01\x01\x03\x01\x02\x01\x04\x01\x01\x03\x01\x01\x01a\x01r", 6, 6},
	{wide(64), wideBytes(64), 64, 3},
}

// wideBytes are those of wide.
func wideBytes(nodes int) string {
	b := "\x02\x08"
	left := nodes - 9
	for range 8 {
		n := min(8, left)
		b += "\x03" + string(rune(n)) + strings.Repeat("\x01\x01a\x01r", n)
		left -= n
	}
	return b
}

// right formulas.
func right() []api.Formula {
	var l []api.Formula
	for _, x := range known {
		l = append(l, x.f)
	}
	return l
}

// wrong formulas: each is wrong by one thing alone.
func wrong() []api.Formula {
	a := atom("a.r")
	l := []api.Formula{
		{},
		{Op: 5}, {Op: -1}, {Op: 1 << 40}, {Op: 0, Kids: times(1, a)}, {Op: 5, Role: of("a.r")}, {Op: 6, K: 1, Kids: times(1, a)},
		{Op: 0, Role: of("a.r")},
		{Op: api.Atom},
		atom("a."), atom(".r"), atom("A.r"), atom("a.R"), atom("a.r.s"), atom("1.r"), atom(longest + "q.r"), atom("a." + longest + "q"),
		{Op: api.Atom, Role: of("a.r"), K: 1}, {Op: api.Atom, Role: of("a.r"), K: -1},
		{Op: api.Atom, Role: of("a.r"), Kids: times(1, a)}, {Op: api.Atom, Role: of("a.r"), Kids: times(8, all())},
		atK(0), atK(1), atK(-1), atK(2, a), atK(-1, a), atK(9, times(8, a)...), atK(1<<40, a), atK(9, times(9, a)...), atK(1, times(9, a)...),
		deep(7), all(times(9, a)...), some(times(9, a)...), all(times(100, a)...), wide(65),
	}
	for _, op := range []int{api.All, api.Some, api.AtK} {
		k := 0
		if op == api.AtK {
			k = 1
		}
		l = append(l,
			api.Formula{Op: op, K: k, Kids: times(1, a), Role: of("a.r")},
			api.Formula{Op: op, K: k, Kids: times(1, a), Role: of("a.")},
			api.Formula{Op: op, K: k, Kids: times(1, a), Role: of(".r")})
	}
	for _, op := range []int{api.All, api.Some} {
		for _, k := range []int{1, -1, 8} {
			l = append(l, api.Formula{Op: op, K: k}, api.Formula{Op: op, K: k, Kids: times(1, a)})
		}
	}
	return l
}

// endless formula: it is its own Kid.
func endless() api.Formula {
	f := all(atom("b.s"), all(), atom("a.r"))
	f.Kids[1] = f
	return f
}

// doubled formula: far more nodes than there is memory for, for both Kids are one, so many times.
func doubled(n int, f api.Formula) api.Formula {
	for range n {
		f = all(times(2, f)...)
	}
	return f
}

// P11.1: what is right, by itself and as one of several Kids.
func TestRight(t *testing.T) {
	for i, f := range right() {
		if !formula.Right(f) {
			t.Errorf("%d isn't right: %v", i, f)
		}
	}
	for i, f := range []api.Formula{atom("a.r"), all(), some(), atK(0, all()), deep(5), wide(62)} {
		if !formula.Right(all(all(), f)) {
			t.Errorf("%d isn't right as a Kid", i)
		}
	}
}

// P11.1: what isn't right, by itself, and wherever it is.
func TestRightNot(t *testing.T) {
	for i, f := range append(wrong(), endless(), doubled(5000, all()), doubled(6, all())) {
		for _, x := range []api.Formula{f, all(f), some(all(), f), atK(1, f, all()), all(all(), some(some(), atK(0, atom("a.r"), f)))} {
			if formula.Right(x) {
				t.Errorf("%d is right", i)
			}
		}
	}
}

// P11.1: the limits: each is right with as much, not with more.
func TestRightLimits(t *testing.T) {
	for n := range 12 {
		for _, f := range []api.Formula{all(times(n, all())...), some(times(n, all())...)} {
			if formula.Right(f) != (n <= 8) {
				t.Errorf("%d Kids", n)
			}
		}
		for k := -2; k < 14; k++ {
			if formula.Right(atK(k, times(n, some())...)) != (n >= 1 && n <= 8 && k >= 0 && k <= n) {
				t.Errorf("%d of %d", k, n)
			}
		}
		if n > 0 && formula.Right(deep(n)) != (n <= 6) {
			t.Errorf("%d deep", n)
		}
		if formula.Right(wide(59+n)) != (n <= 5) {
			t.Errorf("%d nodes", 59+n)
		}
	}
}

// P11.1: how many nodes, and how deep, of right ones and of any.
func TestSize(t *testing.T) {
	for i, x := range known {
		if n, d := formula.Size(x.f); n != x.nodes || d != x.deep {
			t.Errorf("%d: %d, %d", i, n, d)
		}
	}
	for i, x := range []struct {
		f           api.Formula
		nodes, deep int
	}{
		{api.Formula{}, 1, 1},
		{api.Formula{Op: 77, K: -1}, 1, 1},
		{atom("A"), 1, 1},
		{atK(9), 1, 1},
		{api.Formula{Kids: times(3, api.Formula{})}, 4, 2},
		{api.Formula{Op: api.Atom, Kids: times(3, all(some()))}, 7, 3},
		{all(some(all()), atom("a.r"), some()), 5, 3},
		{all(atom("a.r"), some(all())), 4, 3},
		{wide(65), 65, 3},
		{deep(7), 7, 7},
		{deep(1000), 1000, 1000},
		{doubled(11, all()), 4095, 12},
	} {
		if n, d := formula.Size(x.f); n != x.nodes || d != x.deep {
			t.Errorf("%d: %d, %d, not %d, %d", i, n, d, x.nodes, x.deep)
		}
	}
}

// P11.1: of 4096 nodes the size is told, of more it isn't, wherever they are.
func TestSizeMost(t *testing.T) {
	for i, x := range []struct {
		nodes int
		f     func(n int) api.Formula
	}{
		{4096, func(n int) api.Formula { return deep(n) }},
		{4096, func(n int) api.Formula { return all(times(n-1, all())...) }},
		{4096, func(n int) api.Formula { return api.Formula{Kids: make([]api.Formula, n-1)} }},
		{4096, func(n int) api.Formula { return all(append(times(n-2, all()), all())...) }},
		{4096, func(n int) api.Formula { return some(all(times(n-1000, all())...), all(times(997, all())...)) }},
		{4096, func(n int) api.Formula { return some(all(times(997, all())...), all(times(n-1000, all())...)) }},
	} {
		if n, d := formula.Size(x.f(x.nodes)); n != x.nodes || d < 2 {
			t.Errorf("%d: %d, %d", i, n, d)
		}
		for _, more := range []int{1, 2, 100, 10000} {
			if n, d := formula.Size(x.f(x.nodes + more)); n != 0 || d != 0 {
				t.Errorf("%d and %d more: %d, %d", i, more, n, d)
			}
		}
	}
	for i, f := range []api.Formula{endless(), all(all(), endless()), doubled(12, all()), doubled(60, atom("a.r")), doubled(5000, all())} {
		if n, d := formula.Size(f); n != 0 || d != 0 {
			t.Errorf("%d: %d, %d", i, n, d)
		}
	}
}

// P11.1: the roles of the Atoms, a set.
func TestAtoms(t *testing.T) {
	for i, x := range []struct {
		f    api.Formula
		want string
	}{
		{atom("a.r"), "a.r"},
		{all(), ""},
		{some(), ""},
		{api.Formula{}, ""},
		{all(atom("b.s"), atom("a.r")), "a.r b.s"},
		{some(atom("b.s"), atom("a.t"), atom("b.s"), atom("a.r"), atom("a.t")), "a.r a.t b.s"},
		{atK(0, atom("a.r"), atom("b.s")), "a.r b.s"},
		{all(some(atK(1, atom("d.u"), some(atom("a.r"))), all(atom("c.t"))), atom("b.s")), "a.r b.s c.t d.u"},
		{all(atom("a-.a"), atom("a.z"), atom("a.a")), "a.a a.z a-.a"},
		{atom("a."), ""},
		{all(atom("A.r"), atom("a.r"), atom(""), atom(longest+"q.r"), atom("b.1")), "a.r"},
		{api.Formula{Op: api.Atom, Role: of("b.s"), K: 3, Kids: []api.Formula{atom("a.r"), all(atom("c.t"))}}, "b.s"},
		{all(api.Formula{Op: api.Atom, Role: of("b."), Kids: []api.Formula{atom("a.r")}}, atom("c.t")), "c.t"},
		{api.Formula{Op: api.All, Role: of("a.r"), Kids: times(1, atom("b.s"))}, "b.s"},
		{api.Formula{Op: 9, Role: of("a.r"), Kids: []api.Formula{atom("b.s"), {Op: -1, Kids: times(1, atom("c.t"))}}}, "b.s c.t"},
		{api.Formula{Kids: times(1, atom("b.s"))}, "b.s"},
		{atK(99, times(9, atom("b.s"))...), "b.s"},
		{deep(1000), "a.r"},
		{wide(65), "a.r"},
		{endless(), "a.r b.s"},
		{all(atom("c.t"), endless()), "a.r b.s c.t"},
		{doubled(5000, some(atom("b.s"), atom("a.r"))), "a.r b.s"},
	} {
		var got []string
		for _, r := range formula.Atoms(x.f) {
			got = append(got, role.Text(r))
		}
		if strings.Join(got, " ") != x.want {
			t.Errorf("%d: %q, not %q", i, got, x.want)
		}
	}
}

// among tells of roles whether they are among those of a text.
func among(s string) func(r api.Role) bool {
	l := strings.Fields(s)
	return func(r api.Role) bool { return slices.Contains(l, role.Text(r)) }
}

// P11.1: when a formula is true.
func TestTrue(t *testing.T) {
	a, b, c := atom("a.r"), atom("b.s"), atom("c.t")
	for i, x := range []struct {
		f          api.Formula
		truly, not string
	}{
		{a, "a.r|a.r b.s", "|b.s|a.s b.r"},
		{all(), "|a.r", ""},
		{some(), "", "|a.r|a.r b.s"},
		{all(a), "a.r", "|b.s"},
		{some(a), "a.r", "|b.s"},
		{all(a, b), "a.r b.s|b.s c.t a.r", "|a.r|b.s|c.t b.s"},
		{some(a, b), "a.r|b.s|a.r b.s", "|c.t"},
		{atK(0, a), "|a.r", ""},
		{atK(0, some()), "|a.r", ""},
		{atK(1, a), "a.r", "|b.s"},
		{atK(1, a, b, c), "a.r|b.s|c.t|a.r c.t", "|d.u"},
		{atK(2, a, b, c), "a.r b.s|b.s c.t|a.r c.t|a.r b.s c.t", "|a.r|b.s|c.t|c.t d.u"},
		{atK(3, a, b, c), "a.r b.s c.t", "|a.r b.s|b.s c.t|a.r c.t"},
		{atK(2, a, a, b), "a.r|a.r b.s", "|b.s"},
		{atK(2, all(), some(), b), "b.s", "|a.r"},
		{all(a, all(a, a)), "a.r", "|b.s"},
		{all(a, some()), "", "|a.r|b.s"},
		{all(a, all()), "a.r", "|b.s"},
		{some(a, some()), "a.r", "|b.s"},
		{some(a, all()), "a.r||b.s", ""},
		{all(a, some(b, c)), "a.r b.s|a.r c.t|a.r b.s c.t", "|a.r|b.s c.t"},
		{some(all(a, b), atK(2, b, c, some(a, c))), "a.r b.s|b.s c.t|c.t", "|a.r|b.s"},
		{deep(6), "a.r", "|b.s"},
	} {
		if x.truly != "" {
			for _, s := range strings.Split(x.truly, "|") {
				if !formula.True(x.f, among(s)) {
					t.Errorf("%d isn't true of %q", i, s)
				}
			}
		}
		if x.not != "" {
			for _, s := range strings.Split(x.not, "|") {
				if formula.True(x.f, among(s)) {
					t.Errorf("%d is true of %q", i, s)
				}
			}
		}
	}
}

// All of none: true, whatever is; even where nothing is.
func TestTrueOfNone(t *testing.T) {
	for _, yes := range []bool{true, false} {
		is := func(api.Role) bool { return yes }
		if !formula.True(all(), is) || formula.True(some(), is) || !formula.True(atK(0, atom("a.r")), is) {
			t.Errorf("where each is %v", yes)
		}
	}
}

// P11.1: false of one that isn't right, and of a nil is.
func TestTrueNot(t *testing.T) {
	asked := false
	yes := func(api.Role) bool {
		asked = true
		return true
	}
	for i, f := range append(wrong(), endless(), doubled(5000, all())) {
		for _, x := range []api.Formula{f, some(all(), f), some(f, all()), atK(0, f)} {
			if formula.True(x, yes) || formula.True(x, nil) {
				t.Errorf("%d is true", i)
			}
		}
	}
	if asked {
		t.Error("a role was asked for")
	}
	for i, f := range right() {
		if formula.True(f, nil) {
			t.Errorf("%d is true without an is", i)
		}
	}
}

// P11.1: is is asked for the Atoms' roles alone.
func TestTrueAsks(t *testing.T) {
	for i, f := range right() {
		atoms := formula.Atoms(f)
		formula.True(f, func(r api.Role) bool {
			if !role.Has(atoms, r) {
				t.Errorf("%d: %q", i, r)
			}
			return false
		})
	}
}

// True doesn't panic where is does: nothing is true then.
func TestTruePanic(t *testing.T) {
	for _, what := range []any{"no", 7, api.ErrName, []int{1}, nil} {
		is := func(r api.Role) bool {
			if r.Owner == "b" {
				panic(what)
			}
			return true
		}
		for i, f := range []api.Formula{atom("b.s"), all(atom("a.r"), atom("b.s")), all(all(), some(atom("b.s"), atom("b.s"))), atK(1, atom("b.s"))} {
			if formula.True(f, is) {
				t.Errorf("%d, %v: it is true", i, what)
			}
		}
		if !formula.True(atom("a.r"), is) {
			t.Errorf("%v: behind it nothing is true", what)
		}
	}
}

// changed formulas: each unlike f in one part alone, wherever that is.
func changed(f api.Formula) []api.Formula {
	var l []api.Formula
	with := func(change func(g *api.Formula)) {
		g := f
		g.Kids = slices.Clone(f.Kids)
		change(&g)
		l = append(l, g)
	}
	with(func(g *api.Formula) { g.Op++ })
	with(func(g *api.Formula) { g.K-- })
	with(func(g *api.Formula) { g.Role.Owner += "a" })
	with(func(g *api.Formula) { g.Role.Word += "a" })
	with(func(g *api.Formula) { g.Kids = append(g.Kids, api.Formula{}) })
	if len(f.Kids) > 0 {
		with(func(g *api.Formula) { g.Kids = g.Kids[1:] })
		with(func(g *api.Formula) { g.Kids = nil })
	}
	for i, kid := range f.Kids {
		for _, x := range changed(kid) {
			with(func(g *api.Formula) { g.Kids[i] = x })
		}
	}
	return l
}

// copied formula: of memory of its own.
func copied(f api.Formula) api.Formula {
	var kids []api.Formula
	for _, kid := range f.Kids {
		kids = append(kids, copied(kid))
	}
	f.Kids = kids
	return f
}

// P11.1: all parts are alike, or one isn't, of right ones and of others.
func TestSame(t *testing.T) {
	l := slices.Concat(right(), wrong())
	l = append(l, api.Formula{Op: api.Atom, Role: of("b.s"), Kids: []api.Formula{all(atom("a.r")), {K: 4}}})
	for i, f := range l {
		if !formula.Same(f, f) || !formula.Same(f, copied(f)) || !formula.Same(copied(f), f) {
			t.Errorf("%d isn't as itself", i)
		}
		for k, x := range changed(f) {
			if formula.Same(f, x) || formula.Same(x, f) {
				t.Errorf("%d is as its change %d: %v, %v", i, k, f, x)
			}
		}
	}
	a, b := atom("a.r"), atom("b.s")
	for i, x := range [][2]api.Formula{
		{all(a, b), all(b, a)},
		{all(a, a), all(a)},
		{all(a), a},
		{some(), atK(1)},
		{all(all(a), all()), all(all(), all(a))},
		{all(all(a), all()), all(all(a, all()))},
	} {
		if formula.Same(x[0], x[1]) || formula.Same(x[1], x[0]) {
			t.Errorf("%d are the same", i)
		}
	}
	if !formula.Same(all(), api.Formula{Op: api.All, Kids: []api.Formula{}}) || !formula.Same(all(some()), all(api.Formula{Op: api.Some, Kids: make([]api.Formula, 0, 3)})) {
		t.Error("nil and empty Kids aren't one")
	}
}

// P11.1: Same ends where Kids share their memory, and where there is no end of them.
func TestSameEnds(t *testing.T) {
	if !formula.Same(doubled(3000, all()), doubled(3000, all())) {
		t.Error("two doubled ones aren't the same")
	}
	if formula.Same(doubled(3000, all()), doubled(3000, some())) || formula.Same(doubled(3000, all()), doubled(3001, all())) {
		t.Error("two doubled ones are the same")
	}
	if !formula.Same(endless(), endless()) || formula.Same(endless(), all(atom("b.s"), all(), atom("a.r"))) {
		t.Error("endless ones")
	}
	other := endless()
	other.Kids[2] = atom("a.s")
	if formula.Same(endless(), other) || formula.Same(other, endless()) {
		t.Error("two endless ones are the same")
	}
}
