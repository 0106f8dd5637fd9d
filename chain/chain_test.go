package chain_test

import (
	"slices"
	"strings"
	"testing"

	"entente/api"
	"entente/chain"
	"entente/check"
	"entente/cred"
	"entente/role"
)

// of makes a role of its text, right or not.
func of(s string) api.Role {
	owner, word, _ := strings.Cut(s, ".")
	return api.Role{Owner: owner, Word: word}
}

// fact of its text, right or not: "a.r: ann".
func fact(text string) api.Fact {
	r, who, _ := strings.Cut(text, ": ")
	return api.Fact{Role: of(r), Who: who}
}

// lines of a text, trimmed, without empty ones.
func lines(s string) []string {
	var l []string
	for line := range strings.Lines(s) {
		if line = strings.TrimSpace(line); line != "" {
			l = append(l, line)
		}
	}
	return l
}

// parsed credentials, a line each.
func parsed(t *testing.T, text string) []api.Cred {
	t.Helper()
	var l []api.Cred
	for _, line := range lines(text) {
		c, ok := cred.Parse(line)
		if !ok {
			t.Fatalf("%q is no credential", line)
		}
		l = append(l, c)
	}
	return l
}

// steps of their texts, a line each: "a.r <- b.s: ann". The fact is of the credential's head.
func steps(t *testing.T, text string) []api.Step {
	t.Helper()
	var l []api.Step
	for _, line := range lines(text) {
		said, who, _ := strings.Cut(line, ": ")
		c := parsed(t, said)[0]
		l = append(l, api.Step{Cred: c, Fact: api.Fact{Role: c.Head, Who: who}})
	}
	return l
}

// told is the texts of a chain's steps.
func told(l []api.Step) []string {
	var s []string
	for _, x := range l {
		s = append(s, cred.Text(x.Cred)+": "+x.Fact.Who)
	}
	return s
}

// wrong credentials, of each kind.
var wrong = []api.Cred{
	{},
	{Kind: api.Member, Head: of("a.r")},
	{Kind: api.Member, Head: of("a.r"), Who: "Ann"},
	{Kind: api.Member, Head: of("a.r"), Who: "ann", Word2: "s"},
	{Kind: api.Member, Head: of("a."), Who: "ann"},
	{Kind: api.Include, Head: of("a.r"), B: of("b.")},
	{Kind: api.Include, Head: of("a.r"), B: of("b.s"), Who: "ann"},
	{Kind: api.Linked, Head: of("a.r"), B: of("b.s"), Word2: "t"},
	{Kind: api.Linked, Head: of("a.r"), B: of("a.s")},
	{Kind: api.Both, Head: of("a.r"), B: of("b.s"), C: of("b.s")},
	{Kind: api.Both, Head: of("a.r"), B: of("c.t"), C: of("b.s")},
	{Kind: 5, Head: of("a.r"), Who: "ann"},
	{Kind: 0, Head: of("a.r"), Who: "ann"},
	{Kind: -1, Head: of("a.r"), Who: "ann"},
}

// stands tells whether a chain of these credentials proves a fact, is tight, and ends with the fact.
func stands(t *testing.T, l []api.Step, may []api.Cred, want api.Fact) {
	t.Helper()
	if n, e := check.Check(l, may, want); n != len(l) || e != api.OK {
		t.Errorf("%q: %d, %v", told(l), n, e)
	}
	if !check.Tight(l) {
		t.Errorf("%q isn't tight", told(l))
	}
	if len(l) == 0 || l[len(l)-1].Fact != want {
		t.Errorf("%q doesn't end with %v", told(l), want)
	}
}

// Of a Member: one step.
func TestMember(t *testing.T) {
	may := parsed(t, "a.r <- d")
	l, ok := chain.Find(may, fact("a.r: d"))
	if want := steps(t, "a.r <- d: d"); !ok || !slices.Equal(l, want) {
		t.Errorf("%q, %v", told(l), ok)
	}
}

// the shop: each kind of credential, circles, and one that nobody needs.
const shop = `
	shop.best <- bank.ok & shop.deal
	shop.deal <- shop.partner.member
	shop.deal <- shop.best
	shop.partner <- club
	club.member <- club.old
	club.member <- club.new
	club.old <- ann
	club.old <- bob
	bank.ok <- ann
	bank.ok <- cy
	x.y <- ann
	x.z <- x.z`

// P10.1: by hand, where there is one tight chain alone, but for its order.
func TestFind(t *testing.T) {
	for _, x := range []struct{ want, chain string }{
		{"x.y: ann", "x.y <- ann: ann"},
		{"club.old: bob", "club.old <- bob: bob"},
		{"club.member: bob", "club.old <- bob: bob\n club.member <- club.old: bob"},
		{"shop.partner: club", "shop.partner <- club: club"},
		{"shop.deal: bob", `
			club.old <- bob: bob
			club.member <- club.old: bob
			shop.partner <- club: club
			shop.deal <- shop.partner.member: bob`},
		{"shop.best: ann", `
			bank.ok <- ann: ann
			club.old <- ann: ann
			club.member <- club.old: ann
			shop.partner <- club: club
			shop.deal <- shop.partner.member: ann
			shop.best <- bank.ok & shop.deal: ann`},
	} {
		may, want := parsed(t, shop), fact(x.want)
		l, ok := chain.Find(may, want)
		if !ok {
			t.Errorf("%s: none", x.want)
			continue
		}
		stands(t, l, may, want)
		got, others := told(l), told(steps(t, x.chain))
		slices.Sort(got)
		slices.Sort(others)
		if !slices.Equal(got, others) {
			t.Errorf("%s: %q", x.want, got)
		}
	}
}

// none is found of a fact.
func none(t *testing.T, may []api.Cred, want api.Fact) {
	t.Helper()
	if l, ok := chain.Find(may, want); ok || len(l) > 0 {
		t.Errorf("%v: %q, %v", want, told(l), ok)
	}
}

// P10.1: none and false of what isn't in the least model, right or not.
func TestFindNone(t *testing.T) {
	for _, want := range []string{"shop.best: bob", "shop.best: cy", "shop.deal: cy", "bank.ok: bob", "club.new: ann", "club.old: club",
		"x.z: ann", "x.y: bob", "x.y: ", "x.y: Ann", "x.y: ann ", ".y: ann", "x.: ann", ".: ann", ".: ", "y.x: ann", "ann.y: x"} {
		none(t, parsed(t, shop), fact(want))
		none(t, nil, fact(want))
	}
	none(t, []api.Cred{}, api.Fact{})
	none(t, parsed(t, shop), api.Fact{})
}

// P10.1: half of what a step takes is none.
func TestFindHalf(t *testing.T) {
	for _, x := range []struct{ what, creds string }{
		{"an Include of nothing", "a.r <- b.s"},
		{"an Include of another one", "a.r <- b.s\n b.s <- e"},
		{"an Include of itself", "a.r <- a.r"},
		{"two Includes of one another", "a.r <- b.s\n b.s <- a.r"},
		{"a Both without its first one", "a.r <- b.s & c.t\n c.t <- d"},
		{"a Both without its second one", "a.r <- b.s & c.t\n b.s <- d"},
		{"a Both of two", "a.r <- b.s & c.t\n b.s <- d\n c.t <- e"},
		{"a Both that takes itself", "a.r <- a.r & b.s\n b.s <- d"},
		{"a Linked without a middle", "a.r <- a.s.t\n b.t <- d"},
		{"a Linked without an end", "a.r <- a.s.t\n a.s <- b"},
		{"a Linked whose middle is another one", "a.r <- a.s.t\n a.s <- c\n b.t <- d"},
		{"a Linked with another word", "a.r <- a.s.t\n a.s <- b\n b.s <- d"},
		{"a Linked whose middle it is", "a.r <- a.s.t\n a.s <- d\n d.t <- b"},
		{"a Linked of itself", "a.r <- a.r.r\n b.r <- d"},
	} {
		t.Run(x.what, func(t *testing.T) { none(t, parsed(t, x.creds), fact("a.r: d")) })
	}
}

// P10.1: credentials that aren't right bring nothing, and hinder nothing.
func TestFindWrong(t *testing.T) {
	for _, c := range wrong {
		for _, who := range []string{"ann", "Ann", "", c.Who} {
			none(t, []api.Cred{c, c}, api.Fact{Role: c.Head, Who: who})
			none(t, append(parsed(t, "b.s <- ann\n c.t <- ann\n b.t <- ann"), c), api.Fact{Role: of("a.r"), Who: who})
		}
	}
	may := parsed(t, shop)
	want, _ := chain.Find(may, fact("shop.best: ann"))
	for at := range len(may) + 1 {
		mixed := slices.Insert(slices.Clone(may), at, wrong...)
		if l, ok := chain.Find(mixed, fact("shop.best: ann")); !ok || !slices.Equal(l, want) {
			t.Errorf("%d: %q, %v", at, told(l), ok)
		}
	}
}

// P10.1: of several chains one that is tight, though a Linked step may follow by more than one name.
func TestFindTight(t *testing.T) {
	for _, x := range []struct{ what, creds, want string }{
		{"a Member, and an Include that says it too", "a.r <- d\n a.r <- b.s\n b.s <- d", "a.r: d"},
		{"two Includes", "a.r <- b.s\n a.r <- c.t\n b.s <- d\n c.t <- d", "a.r: d"},
		{"an Include and a Both of it", "a.r <- b.s\n a.r <- b.s & c.t\n b.s <- d\n c.t <- d", "a.r: d"},
		{"a Linked by either of two", "a.r <- a.s.t\n a.s <- b\n a.s <- c\n b.t <- d\n c.t <- d", "a.r: d"},
		{"a Linked by either of two, both of which another one takes", `
			a.r <- a.s.t
			a.s <- b
			a.s <- c
			b.t <- d
			c.t <- d
			e.e <- b.t & c.t
			f.f <- a.r & e.e`, "f.f: d"},
		{"a Linked by its own Head's owner", "a.r <- a.s.s\n a.s <- a\n a.s <- d", "a.r: d"},
		{"a Linked by two ways through one", "a.r <- a.s.s\n a.s <- b\n a.s <- a\n b.s <- b", "a.r: b"},
		{"a Linked by its middle alone", "a.r <- a.s.s\n a.s <- a", "a.r: a"},
		{"a Linked by two, of which a late one is taken by another one", `
			a.r <- a.s.t
			a.s <- b
			a.s <- x.s
			x.s <- y.s
			y.s <- c
			b.t <- d
			c.t <- d
			f.w <- a.s
			c.k <- c.t
			f.v <- f.w.k
			f.f <- a.r & f.v`, "f.f: d"},
		{"a circle", "a.r <- b.s\n b.s <- a.r\n b.s <- c.t\n c.t <- d", "a.r: d"},
		{"one that two lean on", "b.s <- a.r\n c.t <- a.r\n e.u <- b.s & c.t\n a.r <- d", "e.u: d"},
		{"another one's chain on the way", "a.r <- a.s.t\n a.s <- b.u\n b.u <- e\n e.t <- b.u\n b.u <- d", "a.r: d"},
	} {
		t.Run(x.what, func(t *testing.T) {
			may := parsed(t, x.creds)
			want := fact(x.want)
			l, ok := chain.Find(may, want)
			if !ok {
				t.Fatal("none")
			}
			stands(t, l, may, want)
		})
	}
}

// P10.1: one credential may have several steps of a chain.
func TestFindOneCredOften(t *testing.T) {
	may := parsed(t, "a.r <- a.r.w\n a.r <- b\n b.w <- c\n c.w <- d\n d.w <- e")
	want := fact("a.r: e")
	l, ok := chain.Find(may, want)
	if !ok || len(l) != 7 || len(chain.Used(l)) != 5 {
		t.Errorf("%q, %v", told(l), ok)
	}
	stands(t, l, may, want)
}

// P10.2: the credentials of all steps, a set, whether or not they stand.
func TestUsed(t *testing.T) {
	l := steps(t, "shop.best <- bank.ok & shop.deal: z\n bank.ok <- ann: ann\n shop.deal <- shop.partner.member: ann\n bank.ok <- ann: cy\n bank.ok <- ann: ann\n club.member <- club.old: ann")
	want := parsed(t, "bank.ok <- ann\n club.member <- club.old\n shop.deal <- shop.partner.member\n shop.best <- bank.ok & shop.deal")
	for range 2 {
		if got := chain.Used(l); !slices.Equal(got, want) {
			t.Errorf("%v", got)
		}
		slices.Reverse(l)
		for _, c := range wrong {
			l = append(l, api.Step{Cred: c, Fact: fact("a.r: ann")})
		}
		l = append(l, l...)
	}
	if len(chain.Used(nil)) != 0 || len(chain.Used([]api.Step{})) != 0 || len(chain.Used([]api.Step{{}})) != 0 {
		t.Error("there is something")
	}
}

// P10.2: one list behind the other, without those whose fact a step ahead has, by whatever credential.
func TestMerge(t *testing.T) {
	for _, x := range []struct {
		what  string
		lists []string
		want  string
	}{
		{"nothing", nil, ""},
		{"empty ones", []string{"", ""}, ""},
		{"one", []string{"b.s <- d: d\n a.r <- b.s: d"}, "b.s <- d: d\n a.r <- b.s: d"},
		{"one and nothing", []string{"", "b.s <- d: d\n a.r <- b.s: d", ""}, "b.s <- d: d\n a.r <- b.s: d"},
		{"the same twice", []string{"b.s <- d: d\n a.r <- b.s: d", "b.s <- d: d\n a.r <- b.s: d"}, "b.s <- d: d\n a.r <- b.s: d"},
		{"in the order of the lists", []string{"b.s <- d: d", "a.r <- d: d", "c.t <- d: d"}, "b.s <- d: d\n a.r <- d: d\n c.t <- d: d"},
		{"a part that both have", []string{"b.s <- d: d\n a.r <- b.s: d", "b.s <- d: d\n c.t <- b.s: d"}, "b.s <- d: d\n a.r <- b.s: d\n c.t <- b.s: d"},
		{"another name's fact", []string{"b.s <- d: d\n a.r <- b.s: d", "b.s <- e: e\n a.r <- b.s: e"}, "b.s <- d: d\n a.r <- b.s: d\n b.s <- e: e\n a.r <- b.s: e"},
		{"the same fact by another credential: the first one", []string{"a.r <- d: d", "b.s <- d: d\n a.r <- b.s: d\n c.t <- a.r: d"}, "a.r <- d: d\n b.s <- d: d\n c.t <- a.r: d"},
		{"the same fact twice in one", []string{"a.r <- d: d\n b.s <- a.r: d\n a.r <- b.s: d\n a.r <- d: d"}, "a.r <- d: d\n b.s <- a.r: d"},
		{"three, the third one of what the first one has", []string{"a.r <- d: d", "b.s <- d: d", "a.r <- b.s: d\n b.s <- a.r: d\n c.t <- d: d"}, "a.r <- d: d\n b.s <- d: d\n c.t <- d: d"},
		{"ones that don't stand", []string{"a.r <- b.s: d", "c.t <- e: d\n a.r <- b.s: d"}, "a.r <- b.s: d\n c.t <- e: d"},
	} {
		var ls [][]api.Step
		for _, l := range x.lists {
			ls = append(ls, steps(t, l))
		}
		if got := chain.Merge(ls...); !slices.Equal(got, steps(t, x.want)) {
			t.Errorf("%s: %q", x.what, told(got))
		}
	}
}

// P10.2: wrong steps are merged as others are, by their facts alone.
func TestMergeWrong(t *testing.T) {
	var l []api.Step
	for i, c := range wrong {
		l = append(l, api.Step{Cred: c, Fact: api.Fact{Role: c.Head, Who: strings.Repeat("-", i)}})
	}
	if got := chain.Merge(l[:4], l, l[2:]); !slices.Equal(got, l) {
		t.Errorf("%v", got)
	}
	// Its fact, not its credential's Head, is what counts.
	two := steps(t, "a.r <- d: d\n b.s <- d: d")
	two[1].Fact = two[0].Fact
	if got := chain.Merge(two); !slices.Equal(got, two[:1]) {
		t.Errorf("%q", told(got))
	}
	two[1].Fact = api.Fact{}
	if got := chain.Merge(two, two[1:]); !slices.Equal(got, two) {
		t.Errorf("%q", told(got))
	}
}

// P10.3: by hand: chains of the shop, merged, stand.
func TestMergeStands(t *testing.T) {
	may := parsed(t, shop)
	best, _ := chain.Find(may, fact("shop.best: ann"))
	deal, _ := chain.Find(may, fact("shop.deal: bob"))
	y, _ := chain.Find(may, fact("x.y: ann"))
	m := chain.Merge(deal, best, y)
	if len(m) != 10 { // 4, 6 and 1, of which shop.partner is in two.
		t.Errorf("%q", told(m))
	}
	for _, s := range m {
		if n, e := check.Check(m, may, s.Fact); n != 10 || e != api.OK {
			t.Errorf("%s %s: %d, %v", role.Text(s.Fact.Role), s.Fact.Who, n, e)
		}
	}
}
