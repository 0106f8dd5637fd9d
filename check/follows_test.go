package check_test

import (
	"slices"
	"testing"

	"entente/api"
	"entente/check"
)

// wrong credentials, each but for one thing like one that would follow those facts.
var wrong = []api.Cred{
	{},
	{Kind: 0, Head: of("x.y"), Who: "ann"},
	{Kind: 5, Head: of("x.y"), Who: "ann"},
	{Kind: -1, Head: of("x.y"), Who: "ann"},
	{Kind: api.Member, Head: of("x.y")},
	{Kind: api.Member, Head: of("x.y"), Who: "Ann"},
	{Kind: api.Member, Head: of("x.y"), Who: longest + "a"},
	{Kind: api.Member, Head: of("x.Y"), Who: "ann"},
	{Kind: api.Member, Head: of(".y"), Who: "ann"},
	{Kind: api.Member, Head: of("x."), Who: "ann"},
	{Kind: api.Member, Head: of("x.y"), Who: "ann", Word2: "s"},
	{Kind: api.Member, Head: of("x.y"), Who: "ann", B: of("a.r")},
	{Kind: api.Include, Head: of("x.y")},
	{Kind: api.Include, Head: of("x.y"), B: of("a.r"), Who: "ann"},
	{Kind: api.Include, Head: of("x.y"), B: of("a.r"), C: of("a.s")},
	{Kind: api.Include, Head: of("X.y"), B: of("a.r")},
	{Kind: api.Linked, Head: of("x.y"), B: of("a.a"), Word2: "r"},
	{Kind: api.Linked, Head: of("a.y"), B: of("a.a")},
	{Kind: api.Linked, Head: of("a.y"), B: of("a.a"), Word2: "R"},
	{Kind: api.Linked, Head: of("a.y"), B: of("a.a"), Word2: "r", Who: "ann"},
	{Kind: api.Both, Head: of("x.y"), B: of("a.r"), C: of("a.r")},
	{Kind: api.Both, Head: of("x.y"), B: of("a.s"), C: of("a.r")},
	{Kind: api.Both, Head: of("x.y"), B: of("a.r")},
	{Kind: api.Both, Head: of("x.y"), B: of("a.r"), C: of("a.s"), Word2: "r"},
}

// P9.1: by hand, of each kind.
func TestFollows(t *testing.T) {
	for _, x := range []struct {
		what, step, had string
		want            bool
	}{
		{"a Member", "a.r <- d: d", "", true},
		{"a Member beside facts", "a.r <- d: d", "b.s: d\n a.r: e", true},
		{"a Member that is known", "a.r <- d: d", "a.r: d", true},
		{"a Member, of another one", "a.r <- d: e", "", false},
		{"a Member, of another one who is in it", "a.r <- d: e", "a.r: e\n a.r: d", false},
		{"a Member, of nobody", "a.r <- d: ", "", false},
		{"an Include", "a.r <- b.s: d", "b.s: d", true},
		{"an Include, among more", "a.r <- b.s: d", "a.r: e\n b.s: e\n b.t: d\n b.s: d\n c.s: d", true},
		{"an Include of nothing", "a.r <- b.s: d", "", false},
		{"an Include of one who is in it already", "a.r <- b.s: d", "a.r: d", false},
		{"an Include of another one", "a.r <- b.s: d", "b.s: e", false},
		{"an Include of another word", "a.r <- b.s: d", "b.t: d", false},
		{"an Include of another owner", "a.r <- b.s: d", "c.s: d", false},
		{"an Include of itself", "a.r <- a.r: d", "a.r: d", true},
		{"an Include of itself, of nothing", "a.r <- a.r: d", "", false},
		{"two steps", "a.r <- b.s: d", "c.t: d", false},
		{"a Linked", "a.r <- a.s.t: d", "a.s: b\n b.t: d", true},
		{"a Linked, the other way round", "a.r <- a.s.t: d", "b.t: d\n a.s: b", true},
		{"a Linked by the last of its middles", "a.r <- a.s.t: d", "a.s: b\n a.s: c\n a.s: e\n e.t: d", true},
		{"a Linked by the first of its middles", "a.r <- a.s.t: d", "a.s: b\n a.s: c\n a.s: e\n b.t: d", true},
		{"a Linked by each of its middles", "a.r <- a.s.t: d", "a.s: b\n a.s: c\n b.t: d\n c.t: d", true},
		{"a Linked without a middle", "a.r <- a.s.t: d", "b.t: d", false},
		{"a Linked without an end", "a.r <- a.s.t: d", "a.s: b", false},
		{"a Linked of nothing", "a.r <- a.s.t: d", "", false},
		{"a Linked of another word", "a.r <- a.s.t: d", "a.s: b\n b.s: d", false},
		{"a Linked of another one's word", "a.r <- a.s.t: d", "a.s: b\n c.t: d", false},
		{"a Linked of another middle's role", "a.r <- a.s.t: d", "b.s: b\n b.t: d", false},
		{"a Linked of another one", "a.r <- a.s.t: d", "a.s: b\n b.t: e", false},
		{"a Linked, of the middle", "a.r <- a.s.t: b", "a.s: b\n b.t: d", false},
		{"a Linked, of who is in B himself", "a.r <- a.s.s: a", "a.s: a", true},
		{"a Linked by its owner", "a.r <- a.s.t: d", "a.s: a\n a.t: d", true},
		{"a Linked by its owner, who isn't in B", "a.r <- a.s.t: d", "a.t: d\n a.s: d", false},
		{"a Both", "a.r <- b.s & c.t: d", "b.s: d\n c.t: d", true},
		{"a Both, the other way round", "a.r <- b.s & c.t: d", "c.t: d\n b.s: d", true},
		{"a Both, of B alone", "a.r <- b.s & c.t: d", "b.s: d", false},
		{"a Both, of C alone", "a.r <- b.s & c.t: d", "c.t: d", false},
		{"a Both, of unlike ones", "a.r <- b.s & c.t: d", "b.s: d\n c.t: e", false},
		{"a Both, of another one", "a.r <- b.s & c.t: d", "b.s: e\n c.t: e", false},
		{"a Both, of its own Head", "a.r <- a.r & c.t: d", "a.r: d\n c.t: d", true},
		{"facts that are there twice", "a.r <- a.s.t: d", "a.s: c\n a.s: b\n b.t: d\n a.s: b\n b.t: d", true},
	} {
		s := steps(t, x.step)[0]
		if got := check.Follows(s, facts(lines(x.had)...)); got != x.want {
			t.Errorf("%s: %v", x.what, got)
		}
	}
}

// P9.1: it isn't its fact if the role is another one than its head.
func TestFollowsRole(t *testing.T) {
	had := facts("b.s: d", "c.t: d", "a.s: b", "b.t: d", "x.y: d", ".: d", "a.: d")
	for _, s := range steps(t, "a.r <- d: d", "a.r <- b.s: d", "a.r <- a.s.t: d", "a.r <- b.s & c.t: d") {
		if !check.Follows(s, had) {
			t.Errorf("%v doesn't follow", s)
		}
		for _, r := range []string{"x.y", "b.s", "c.t", "a.s", "r.a", "", "a.", ".r", "A.r"} {
			s.Fact.Role = of(r)
			if check.Follows(s, had) {
				t.Errorf("%v follows", s)
			}
		}
	}
}

// P9.1: facts are taken as they stand, whoever is in whatever.
func TestFollowsFacts(t *testing.T) {
	for _, who := range []string{"Ann", "", "1", longest + "a", "a.b", "\xff"} {
		had := []api.Fact{{Role: of("b.s"), Who: who}, {Role: of("c.t"), Who: who}, {Role: of("a.s"), Who: "b"}, {Role: of("b.t"), Who: who}}
		for _, s := range steps(t, "a.r <- b.s: d", "a.r <- a.s.t: d", "a.r <- b.s & c.t: d") {
			s.Fact.Who = who
			if !check.Follows(s, had) {
				t.Errorf("%v doesn't follow", s)
			}
		}
		// A Member's name is one.
		s := steps(t, "a.r <- ann: ann")[0]
		s.Fact.Who = who
		if check.Follows(s, append(had, s.Fact)) {
			t.Errorf("%v follows", s)
		}
	}
}

// P9.1: a wrong credential brings nothing, whatever is known.
func TestFollowsWrong(t *testing.T) {
	had := facts("a.r: ann", "a.s: ann", "a.a: a", "a.R: ann", "a.: ann", ".: ann")
	for _, c := range wrong {
		for _, who := range []string{"ann", "a", "", c.Who} {
			s := api.Step{Cred: c, Fact: api.Fact{Role: c.Head, Who: who}}
			if check.Follows(s, had) || check.Follows(s, append(slices.Clone(had), s.Fact)) || check.Follows(s, nil) {
				t.Errorf("%v follows", s)
			}
		}
	}
}

// Nothing is changed or kept, spare room included.
func TestKeepsNothing(t *testing.T) {
	l := append(make([]api.Step, 0, 16), shop(t)...)
	may := append(make([]api.Cred, 0, 16), creds(l)...)
	had := append(make([]api.Fact, 0, 16), facts("b.s: d", "a.r: d", "b.s: d")...)
	wasL, wasMay, wasHad := slices.Clone(l[:16]), slices.Clone(may[:16]), slices.Clone(had[:16])
	for range 2 {
		if n, e := check.Check(l, may, l[5].Fact); n != 6 || e != api.OK || !check.Tight(l) {
			t.Errorf("%d, %v", n, e)
		}
		if !check.Follows(steps(t, "c.t <- a.r & b.s: d")[0], had) || check.Follows(l[5], had) {
			t.Error("it doesn't follow")
		}
		put(l)
	}
	if !slices.Equal(l[:16], wasL) || !slices.Equal(may[:16], wasMay) || !slices.Equal(had[:16], wasHad) {
		t.Errorf("now %v, %v, %v", l[:16], may[:16], had[:16])
	}
}
