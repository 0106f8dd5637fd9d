package sets_test

import (
	"slices"
	"strings"
	"testing"

	"entente/api"
	"entente/formula"
	"entente/parse"
	"entente/role"
	"entente/sets"
)

const longest = "abcdefghijklmnop"

// of makes a role of its text, right or not.
func of(s string) api.Role {
	owner, word, _ := strings.Cut(s, ".")
	return api.Role{Owner: owner, Word: word}
}

// atom of a role's text.
func atom(s string) api.Formula { return api.Formula{Op: api.Atom, Role: of(s)} }

func all(l ...api.Formula) api.Formula  { return api.Formula{Op: api.All, Kids: l} }
func some(l ...api.Formula) api.Formula { return api.Formula{Op: api.Some, Kids: l} }
func atK(k int, l ...api.Formula) api.Formula {
	return api.Formula{Op: api.AtK, K: k, Kids: l}
}

// times makes n Kids of one.
func times(n int, f api.Formula) []api.Formula {
	var l []api.Formula
	for range n {
		l = append(l, f)
	}
	return l
}

// atoms of roles of these owners, a letter each.
func atoms(owners string) []api.Formula {
	var l []api.Formula
	for _, c := range owners {
		l = append(l, atom(string(c)+".r"))
	}
	return l
}

// rolesOf makes roles of their texts, with blanks between.
func rolesOf(s string) []api.Role {
	var l []api.Role
	for _, w := range strings.Fields(s) {
		l = append(l, of(w))
	}
	return l
}

// told sets: each has its roles in brackets, with blanks between.
func told(l [][]api.Role) string {
	var b strings.Builder
	for _, set := range l {
		var words []string
		for _, r := range set {
			words = append(words, role.Text(r))
		}
		b.WriteString("[" + strings.Join(words, " ") + "]")
	}
	return b.String()
}

// owners of sets' roles, each a letter, with blanks between the sets.
func owners(l [][]api.Role) string {
	var words []string
	for _, set := range l {
		var w string
		for _, r := range set {
			w += r.Owner
		}
		words = append(words, w)
	}
	return strings.Join(words, " ")
}

// parsed is what a text says, which must be right.
func parsed(t *testing.T, s string) api.Formula {
	t.Helper()
	f, e := parse.Parse(s)
	if e != api.OK {
		t.Fatalf("%q: %v", s, e)
	}
	return f
}

// every role is so.
func every(api.Role) bool { return true }

// forms and their least sets.
var forms = [][2]string{
	{"a.r", "[a.r]"},
	{"all()", "[]"},
	{"some()", ""},
	{"all(a.r)", "[a.r]"},
	{"some(a.r)", "[a.r]"},
	{"all(a.r, b.s, c.t)", "[a.r b.s c.t]"},
	{"some(a.r, b.s, c.t)", "[a.r][b.s][c.t]"},
	{"at 2(a.r, b.s, c.t)", "[a.r b.s][a.r c.t][b.s c.t]"},
	{"all(a.r, some(b.s, c.t))", "[a.r b.s][a.r c.t]"},
	{"some(a.r, all(b.s, c.t))", "[a.r][b.s c.t]"},
	// K at its edges.
	{"at 0(a.r, b.s)", "[]"},
	{"at 1(a.r, b.s)", "[a.r][b.s]"},
	{"at 2(a.r, b.s)", "[a.r b.s]"},
	{"at 7(a.r, b.r, c.r, d.r, e.r, f.r, g.r, h.r)", "[a.r b.r c.r d.r e.r f.r g.r][a.r b.r c.r d.r e.r f.r h.r][a.r b.r c.r d.r e.r g.r h.r][a.r b.r c.r d.r f.r g.r h.r][a.r b.r c.r e.r f.r g.r h.r][a.r b.r d.r e.r f.r g.r h.r][a.r c.r d.r e.r f.r g.r h.r][b.r c.r d.r e.r f.r g.r h.r]"},
	{"at 8(a.r, b.r, c.r, d.r, e.r, f.r, g.r, h.r)", "[a.r b.r c.r d.r e.r f.r g.r h.r]"},
	// All of none and Some of none within others.
	{"all(a.r, all())", "[a.r]"},
	{"all(a.r, some())", ""},
	{"some(a.r, all())", "[]"},
	{"some(a.r, some())", "[a.r]"},
	{"at 2(all(), a.r, b.s)", "[a.r][b.s]"},
	{"at 2(some(), a.r, b.s)", "[a.r b.s]"},
	{"at 2(some(), some(), a.r)", ""},
	{"at 2(all(), all(), a.r)", "[]"},
	// A role that is there more than once, and sets with others within them.
	{"all(a.r, a.r)", "[a.r]"},
	{"some(a.r, a.r)", "[a.r]"},
	{"at 2(a.r, a.r)", "[a.r]"},
	{"at 2(a.r, a.r, b.s)", "[a.r]"},
	{"at 3(a.r, a.r, b.s, b.s)", "[a.r b.s]"},
	{"at 3(a.r, a.r, b.s, c.t)", "[a.r b.s][a.r c.t]"},
	{"some(a.r, all(a.r, b.s))", "[a.r]"},
	{"some(all(a.r, b.s), b.s)", "[b.s]"},
	{"some(all(a.r, b.s, c.t), all(a.r, c.t))", "[a.r c.t]"},
	{"all(a.r, some(a.r, b.s))", "[a.r]"},
	{"all(some(a.r, b.s), some(a.r, c.t))", "[a.r][b.s c.t]"},
	{"all(some(a.r, b.s), some(c.t, d.u))", "[a.r c.t][a.r d.u][b.s c.t][b.s d.u]"},
	// Of fewer roles first, though later ones by their order.
	{"some(all(a.r, b.s), c.t)", "[c.t][a.r b.s]"},
	{"some(all(a.r, b.s, c.t), all(y.y, z.z), x.x)", "[x.x][y.y z.z][a.r b.s c.t]"},
	// Of as many by the first role unlike one, not by how they come.
	{"some(all(b.s, c.t), all(a.r, d.u))", "[a.r d.u][b.s c.t]"},
	{"some(all(a.r, d.u), all(b.s, c.t))", "[a.r d.u][b.s c.t]"},
	{"some(all(a.r, b.s, e.v), all(a.r, c.t, d.u))", "[a.r b.s e.v][a.r c.t d.u]"},
	{"some(all(z.z, y.y), all(z.z, x.x), all(y.y, x.x))", "[x.x y.y][x.x z.z][y.y z.z]"},
	// By layer 4's order: owners, then words, as texts; neither as one text each, nor by their lengths.
	{"some(z.r, aa.r)", "[aa.r][z.r]"},
	{"some(a.zz, a.b)", "[a.b][a.zz]"},
	{"some(a-b.r, a.z)", "[a.z][a-b.r]"},
	{"some(b.a, a.b)", "[a.b][b.a]"},
	{"all(a-b.r, z.r, a.z, aa.r)", "[a.z a-b.r aa.r z.r]"},
	{"some(all(a-b.r, b.s), all(a.z, b.t))", "[a.z b.t][a-b.r b.s]"},
	{"some(a.r, a1.r, a-.r, " + longest + "." + longest + ")", "[a.r][a-.r][a1.r][" + longest + "." + longest + "]"},
}

// P14.1: the least sets, in their order.
func TestLeast(t *testing.T) {
	for i, x := range forms {
		l, e := sets.Least(parsed(t, x[0]))
		if e != api.OK || told(l) != x[1] {
			t.Errorf("%d: %s: %s, %v, not %s", i, x[0], told(l), e, x[1])
		}
	}
}

// P14.1: All of none has one least set, the empty one; Some of none has none.
func TestLeastEmpty(t *testing.T) {
	if l, e := sets.Least(all()); e != api.OK || len(l) != 1 || len(l[0]) != 0 {
		t.Errorf("%q, %v", l, e)
	}
	if l, e := sets.Least(some()); e != api.OK || len(l) != 0 {
		t.Errorf("%q, %v", l, e)
	}
}

// P14.1: twelve Atoms go, wherever they are, and however often each is there.
func TestLeastTwelve(t *testing.T) {
	twelve := all(all(atoms("abcdef")...), all(atoms("ghijkl")...))
	full := some() // 64 nodes
	for _, owners := range []string{"lkjihgfe", "abcdefgh", "bcdefghi", "cdefghij", "ghijklab", "defghijk", "fghijkla"} {
		full.Kids = append(full.Kids, all(atoms(owners)...))
	}
	if nodes, _ := formula.Size(full); nodes != api.MostNodes {
		t.Fatalf("%d nodes", nodes)
	}
	for i, x := range []struct {
		f    api.Formula
		want string
	}{
		{twelve, "abcdefghijkl"},
		{all(twelve, twelve, atom("l.r")), "abcdefghijkl"},
		{some(some(atoms("lkjihg")...), some(atoms("fedcba")...)), "a b c d e f g h i j k l"},
		{some(all(atoms("ghijkl")...), all(atoms("abcdef")...)), "abcdef ghijkl"},
		{some(all(atoms("abcdefgh")...), all(atoms("efghijkl")...), atom("l.r")), "l abcdefgh"},
		{full, "abcdefgh abghijkl afghijkl bcdefghi cdefghij defghijk efghijkl"},
	} {
		l, e := sets.Least(x.f)
		if e != api.OK || owners(l) != x.want {
			t.Errorf("%d: %s, %v, not %s", i, owners(l), e, x.want)
		}
	}
}

// tooMany formulas, by their Atoms or by their least sets; all are right.
func tooMany() []api.Formula {
	thirteen := all(all(atoms("abcdefg")...), all(atoms("hijklm")...))
	return []api.Formula{
		thirteen,
		some(some(atoms("abcdefg")...), some(atoms("hijklm")...)),
		some(all(atoms("abcdefg")...), all(atoms("ghijklm")...)),
		// Though the thirteenth is of no account, or all are.
		all(all(atoms("abcdef")...), all(atoms("ghijkl")...), some(atom("a.r"), atom("m.r"))),
		all(thirteen, some()),
		some(thirteen, all()),
		atK(0, thirteen),
		pairs(),
		some(pairs(), all(atoms("abcdefg")...)),
		all(atK(4, atoms("abcdefgh")...), some(atoms("ijkl")...)), // 280
		manySets("abc"),
	}
}

// pairs formula: of 216 least sets.
func pairs() api.Formula {
	return all(atK(2, atoms("abcd")...), atK(2, atoms("efgh")...), atK(2, atoms("ijkl")...))
}

// manySets formula: of 126 least sets, and one more for each of these owners.
func manySets(more string) api.Formula {
	eight := atoms("abcdefgh")
	return some(
		atK(4, eight...), // 70
		all(some(atoms("ij")...), atK(2, eight...)), // 56
		all(atom("k.r"), some(atoms(more)...)),
	)
}

// P14.1: ErrLong of more than 12 Atoms, and of more than 128 least sets.
func TestLeastLong(t *testing.T) {
	for i, f := range tooMany() {
		if !formula.Right(f) {
			t.Fatalf("%d isn't right itself", i)
		}
		if l, e := sets.Least(f); e != api.ErrLong || len(l) != 0 {
			t.Errorf("%d: %s, %v", i, told(l), e)
		}
	}
}

// P14.1: 128 least sets go; also where Kids have more of them, in which others are.
func TestLeastMost(t *testing.T) {
	for i, x := range []struct {
		f    api.Formula
		want int
	}{
		{manySets("a"), 127},
		{manySets("hb"), 128},
		{some(pairs(), atom("a.r")), 109},
		{some(pairs(), all()), 1},
		{all(pairs(), all(atoms("abefij")...)), 1},
		{all(pairs(), some()), 0},
	} {
		l, e := sets.Least(x.f)
		if e != api.OK || len(l) != x.want {
			t.Errorf("%d: %d, %v, not %d", i, len(l), e, x.want)
		}
	}
}

// wrong formulas: none is right by layer 11.
func wrong() []api.Formula {
	a := atom("a.r")
	endless := all(all(), a)
	endless.Kids[0] = endless
	deep := a
	for range api.MostDeep {
		deep = all(deep)
	}
	l := []api.Formula{
		{}, {Op: 5, Kids: times(1, a)}, {Op: -1}, {Op: 0, Kids: times(1, a)},
		{Op: api.Atom}, atom("a."), atom(".r"), atom("A.r"), atom(longest + "q.r"),
		{Op: api.Atom, Role: of("a.r"), K: 1}, {Op: api.Atom, Role: of("a.r"), Kids: times(1, a)},
		{Op: api.All, K: 1, Kids: times(1, a)}, {Op: api.Some, Role: of("a.r"), Kids: times(1, a)},
		atK(0), atK(-1, a), atK(2, a), atK(1, times(9, a)...),
		all(times(9, a)...), all(times(8, all(times(7, a)...))...), // 65 nodes
		deep, endless,
		all(atoms("abcdefghijklm")...), // also of too many Atoms
	}
	for _, f := range l {
		l = append(l, all(f), some(a, f), atK(1, f, a), all(some(), f), some(all(), f), atK(0, f))
	}
	return l
}

// P14.1, P14.2: of what isn't right nothing suffices: ErrForm, though it be of too many Atoms.
func TestWrong(t *testing.T) {
	for i, f := range wrong() {
		if l, e := sets.Least(f); e != api.ErrForm || len(l) != 0 {
			t.Errorf("%d: %s, %v", i, told(l), e)
		}
		if sets.Suffices(f, rolesOf("a.r b.s")) || sets.Suffices(f, nil) {
			t.Errorf("%d: something suffices", i)
		}
		if l, ok := sets.First(f, every); ok || len(l) != 0 {
			t.Errorf("%d: %q, %v", i, l, ok)
		}
	}
}

// P14.1: Suffices asks whether a formula is true of a list, in whatever order it is.
func TestSuffices(t *testing.T) {
	for i, x := range []struct {
		f, l string
		want bool
	}{
		{"all()", "", true},
		{"all()", "a.r", true},
		{"some()", "", false},
		{"some()", "a.r", false},
		{"a.r", "a.r", true},
		{"a.r", "", false},
		{"a.r", "a.s", false},
		{"a.r", "b.r", false},
		{"a.r", "r.a", false},
		{"a.r", "b.s a.r", true},
		{"all(a.r, b.s)", "a.r b.s", true},
		{"all(a.r, b.s)", "b.s a.r", true},
		{"all(a.r, b.s)", "b.s c.t b.s a.r a.r", true},
		{"all(a.r, b.s)", "a.r", false},
		{"all(a.r, b.s)", "a.r a.r", false},
		{"some(a.r, b.s)", "b.s", true},
		{"some(a.r, b.s)", "c.t", false},
		{"at 2(a.r, b.s, c.t)", "c.t a.r", true},
		{"at 2(a.r, b.s, c.t)", "c.t c.t", false},
		{"at 2(a.r, a.r, c.t)", "a.r", true},
		{"all(a.r, some(b.s, c.t))", "a.r c.t", true},
		{"all(a.r, some(b.s, c.t))", "b.s c.t", false},
		// Roles that aren't right stand for nothing, and keep nothing from it.
		{"a.r", "A.r . a. .r a.r.", false},
		{"a.r", "A.r . a. .r a.r", true},
		{"a.r", longest + "q.r a.r", true},
	} {
		if got := sets.Suffices(parsed(t, x.f), rolesOf(x.l)); got != x.want {
			t.Errorf("%d: %s of %s: %v", i, x.f, x.l, got)
		}
	}
}

// P14.1: Suffices is asked of any right formula, though Least has an error of it.
func TestSufficesLong(t *testing.T) {
	l := rolesOf("m.r l.r k.r j.r i.r h.r g.r f.r e.r d.r c.r b.r a.r")
	for i, f := range tooMany() {
		if got := sets.Suffices(f, l); got != formula.True(f, every) {
			t.Errorf("%d: %v", i, got)
		}
	}
	if f := all(all(atoms("abcdefg")...), all(atoms("hijklm")...)); !sets.Suffices(f, l) || sets.Suffices(f, l[1:]) {
		t.Error("of thirteen all suffice, and no fewer")
	}
}

// P14.1: Within asks whether the second list has all roles of the first one, right or not, in whatever order.
func TestWithin(t *testing.T) {
	for i, x := range []struct {
		a, b string
		want bool
	}{
		{"", "", true},
		{"", "a.r", true},
		{"a.r", "", false},
		{"a.r", "a.r", true},
		{"a.r", "a.s", false},
		{"a.r", "b.r", false},
		{"a.r", "r.a", false},
		{"a.r", "a.r b.s", true},
		{"b.s", "a.r b.s", true},
		{"a.r b.s", "a.r", false},
		{"a.r b.s", "b.s", false},
		{"a.r b.s", "b.s a.r", true},
		{"b.s a.r", "a.r b.s", true},
		{"a.r c.t", "a.r b.s c.t", true},
		{"a.r d.u", "a.r b.s c.t", false},
		{"c.t a.r", "b.s a.r c.t", true},
		{"a.r a.r", "a.r", true},
		{"a.r", "a.r a.r", true},
		{"a.r a.r b.s", "a.r a.r a.r", false},
		{"A.r", "", false},
		{"A.r", "a.r", false},
		{"A.r", "a.r A.r", true},
		{".", "", false},
		{"a.", "a.r", false},
		{"a.", "a.r a.", true},
		{".r a.r", "a.r .r", true},
		{longest + "q.r", longest + ".r", false},
	} {
		if got := sets.Within(rolesOf(x.a), rolesOf(x.b)); got != x.want {
			t.Errorf("%d: %s within %s: %v", i, x.a, x.b, got)
		}
	}
	if !sets.Within(nil, nil) || !sets.Within([]api.Role{}, nil) || !sets.Within(nil, []api.Role{}) {
		t.Error("none isn't within none")
	}
	if sets.Within([]api.Role{{}}, nil) || !sets.Within([]api.Role{{}}, []api.Role{{}}) {
		t.Error("of the zero role")
	}
}

// P14.2: the first of the least sets whose roles are all so.
func TestFirst(t *testing.T) {
	for i, x := range []struct {
		f, so, want string
		ok          bool
	}{
		{"a.r", "a.r", "a.r", true},
		{"a.r", "b.s", "", false},
		{"a.r", "", "", false},
		{"all()", "", "", true},
		{"all()", "a.r", "", true},
		{"some()", "a.r", "", false},
		{"at 0(a.r)", "a.r", "", true},
		{"some(a.r, b.s)", "a.r b.s", "a.r", true},
		{"some(b.s, a.r)", "a.r b.s", "a.r", true},
		{"some(a.r, b.s)", "b.s", "b.s", true},
		{"some(all(a.r, b.s), c.t)", "a.r b.s c.t", "c.t", true},
		{"some(all(a.r, b.s), c.t)", "a.r b.s", "a.r b.s", true},
		{"some(all(a.r, b.s), c.t)", "a.r", "", false},
		{"at 2(a.r, b.s, c.t)", "c.t b.s a.r", "a.r b.s", true},
		{"at 2(a.r, b.s, c.t)", "c.t a.r", "a.r c.t", true},
		{"at 2(a.r, b.s, c.t)", "c.t b.s", "b.s c.t", true},
		{"at 2(a.r, b.s, c.t)", "c.t", "", false},
		{"all(a.r, some(a.r, b.s))", "a.r b.s", "a.r", true},
		{"some(all(b.s, d.u), all(a.r, e.v))", "a.r b.s d.u", "b.s d.u", true},
		{"some(a-b.r, a.z)", "a.z a-b.r", "a.z", true},
	} {
		so := rolesOf(x.so)
		l, ok := sets.First(parsed(t, x.f), func(r api.Role) bool { return slices.Contains(so, r) })
		if ok != x.ok || !slices.Equal(l, rolesOf(x.want)) {
			t.Errorf("%d: %s by %s: %q, %v", i, x.f, x.so, l, ok)
		}
	}
}

// P14.2: none, where Least has an error, or by a nil.
func TestFirstNone(t *testing.T) {
	for i, f := range tooMany() {
		if l, ok := sets.First(f, every); ok || len(l) != 0 {
			t.Errorf("%d: %q, %v", i, l, ok)
		}
	}
	for i, f := range []api.Formula{all(), some(), atom("a.r"), {}, tooMany()[0]} {
		if l, ok := sets.First(f, nil); ok || len(l) != 0 {
			t.Errorf("%d, by a nil: %q, %v", i, l, ok)
		}
	}
}

// P14.2: by a function that panics there is none; where it isn't called there may be one.
func TestFirstPanics(t *testing.T) {
	burst := func(r api.Role) bool {
		if r.Owner == "b" {
			panic(r)
		}
		return r.Owner == "a"
	}
	var none map[string]int
	for i, is := range []func(api.Role) bool{
		burst,
		func(api.Role) bool { panic(nil) },
		func(api.Role) bool { panic(api.ErrArg) },
		func(r api.Role) bool { none["a"] = 1; return true },
	} {
		if l, ok := sets.First(parsed(t, "some(b.s, c.t, all(a.r, d.u))"), is); ok || len(l) != 0 {
			t.Errorf("%d: %q, %v", i, l, ok)
		}
		if l, ok := sets.First(parsed(t, "all(a.r, b.s)"), is); ok || len(l) != 0 {
			t.Errorf("%d: %q, %v", i, l, ok)
		}
		if l, ok := sets.First(all(), is); !ok || len(l) != 0 {
			t.Errorf("%d, of all: %q, %v", i, l, ok)
		}
	}
}

// P14.2: a function that asks First itself, and one that spoils the formula meanwhile.
func TestFirstWithin(t *testing.T) {
	f := parsed(t, "at 2(a.r, b.s, c.t)")
	is := func(r api.Role) bool {
		l, ok := sets.First(f, func(other api.Role) bool { return other != of("a.r") })
		return ok && slices.Contains(l, r)
	}
	if l, ok := sets.First(f, is); !ok || !slices.Equal(l, rolesOf("b.s c.t")) {
		t.Errorf("%q, %v", l, ok)
	}
	spoils := func(r api.Role) bool {
		f.Kids[0], f.Kids[1], f.Kids[2] = all(), atom("x.y"), api.Formula{}
		return r != of("b.s")
	}
	if l, ok := sets.First(f, spoils); !ok || !slices.Equal(l, rolesOf("a.r c.t")) {
		t.Errorf("%q, %v", l, ok)
	}
}
