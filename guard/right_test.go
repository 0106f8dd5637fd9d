package guard_test

import (
	"slices"
	"strconv"
	"strings"
	"testing"

	"entente/api"
	"entente/cred"
	"entente/guard"
	"entente/keys"
)

// many credentials, rising.
func many(n int) []api.Cred {
	var l []api.Cred
	for i := range n {
		l = append(l, api.Cred{Kind: api.Member, Head: of("a.r"), Who: "n" + strconv.Itoa(1000+i)})
	}
	return l
}

// held so many credentials, rising, each with a Release of its own.
func held(n int) []api.Guarded {
	var l []api.Guarded
	for _, c := range many(n) {
		r := api.Formula{Op: api.Atom, Role: of("b." + c.Who)}
		l = append(l, api.Guarded{Signed: api.Signed{Cred: c, Tag: []byte("12345678")}, Release: r})
	}
	return l
}

// acks so many, rising, each with a Closure of so many.
func acks(n, closure int) []api.Ack {
	var l []api.Ack
	for i := range n {
		r := api.Formula{Op: api.Atom, Role: of("c.n" + strconv.Itoa(i))}
		l = append(l, api.Ack{Role: of("d.n" + strconv.Itoa(i)), Release: r, Closure: many(closure)})
	}
	return l
}

// checkRight holds what Right answers against an error, and Check of a registry of no keys too.
func checkRight(t *testing.T, what string, p api.Party, want api.Errno) {
	t.Helper()
	if e := guard.Right(p); e != want {
		t.Errorf("%s: %v, not %v", what, e, want)
	}
	if g, _ := keys.New(); want != api.OK && guard.Check(p, g) != want {
		t.Errorf("%s, checked: %v, not %v", what, guard.Check(p, g), want)
	}
}

// P15.2: right parties: without anything, with all that may be, and with credentials of all kinds.
func TestRight(t *testing.T) {
	checkRight(t, "agent", agent(t), api.OK)
	for _, s := range []string{"a", "ann", "a-9", longest} {
		checkRight(t, s, api.Party{Name: s}, api.OK)
		checkRight(t, s, api.Party{Name: s, Creds: []api.Guarded{}, Acks: []api.Ack{}}, api.OK)
	}
	checkRight(t, "all that may be", api.Party{Name: "ann", Creds: held(256), Acks: acks(7, 32)}, api.OK)
	checkRight(t, "all Acks", api.Party{Name: "ann", Creds: held(256), Acks: append(acks(7, 32), api.Ack{Role: of("d.z"), Release: parsed(t, "all()"), Closure: many(32)})}, api.OK)
	checkRight(t, "unlike ones in Closures", api.Party{Name: "ann", Creds: held(256)[32:], Acks: acks(8, 32)}, api.OK)
	checkRight(t, "kinds", party(t,
		"a.r <- z if a.r", "a.r <- ann if all()", "b.a <- a if some()", "aa.a <- a if at 0(a.r)",
		"a.r <- a.r if all()", "a.r <- a.s.t if "+deep6, "a.r <- b.s & c.t if "+five,
		"ack a.r if "+deep6, "ack a.z if "+nine, "hides a.r <- b", "hides a.r <- b.s", "hides a.r <- b.s & c.u",
		"ack a-.a if all()", "ack aa.a if some()", "hides aa.a <- a"), api.OK)
}

// P15.2: no name, whatever else is wrong.
func TestRightName(t *testing.T) {
	for _, s := range []string{"", ".", "0", "1a", "-a", "A", "aB", "a b", "a.b", "a\x00", "é", longest + "a", strings.Repeat("a", 272)} {
		p := agent(t)
		p.Name = s
		checkRight(t, s, p, api.ErrName)
		checkRight(t, s, api.Party{Name: s}, api.ErrName)
	}
}

// fault of a party: what spoils a right one, and what is told then.
type fault struct {
	what  string
	spoil func(p *api.Party)
	e     api.Errno
}

// faults of an agent, each by itself.
func faults() []fault {
	l := []fault{
		{"a name", func(p *api.Party) { p.Name = "Ann" }, api.ErrName},
		{"257 credentials", func(p *api.Party) { p.Creds = held(257) }, api.ErrLong},
		{"one credential 300 times", func(p *api.Party) { p.Creds = slices.Repeat(p.Creds[:1], 300) }, api.ErrLong},
		{"9 Acks", func(p *api.Party) { p.Acks = append(p.Acks, acks(6, 1)...) }, api.ErrLong},
		{"the same Acks three times", func(p *api.Party) { p.Acks = slices.Repeat(p.Acks, 3) }, api.ErrLong},
	}
	for at := range 3 {
		name := strconv.Itoa(at)
		l = append(l, fault{"33 in the Closure of " + name, func(p *api.Party) { p.Acks[at].Closure = many(33) }, api.ErrLong})
		l = append(l, heldFaults(name, at)...)
		l = append(l, ackFaults(name, at)...)
	}
	for _, two := range [][2]int{{0, 1}, {1, 2}, {0, 2}} {
		name := strconv.Itoa(two[0]) + " and " + strconv.Itoa(two[1])
		l = append(l, fault{"the order of credentials " + name, func(p *api.Party) {
			p.Creds[two[0]], p.Creds[two[1]] = p.Creds[two[1]], p.Creds[two[0]]
		}, api.ErrForm}, fault{"twice the credential " + name, func(p *api.Party) {
			p.Creds[1].Cred = p.Creds[two[0]].Cred
			p.Creds[two[1]].Cred = p.Creds[two[0]].Cred
		}, api.ErrForm}, fault{"the order of Acks " + name, func(p *api.Party) {
			a, b := &p.Acks[two[0]], &p.Acks[two[1]]
			a.Role, b.Role = b.Role, a.Role
		}, api.ErrForm}, fault{"twice the Role " + name, func(p *api.Party) {
			p.Acks[1].Role = p.Acks[two[0]].Role
			p.Acks[two[1]].Role = p.Acks[two[0]].Role
		}, api.ErrForm})
	}
	return l
}

// heldFaults of the credential at a place.
func heldFaults(name string, at int) []fault {
	var l []fault
	add := func(what string, spoil func(h *api.Guarded)) {
		l = append(l, fault{what + " of " + name, func(p *api.Party) { spoil(&p.Creds[at]) }, api.ErrForm})
	}
	add("no credential", func(h *api.Guarded) { h.Cred = api.Cred{} })
	add("a Who", func(h *api.Guarded) { h.Who = "Ann" })
	add("a Kind", func(h *api.Guarded) { h.Kind = 5 })
	add("a Head", func(h *api.Guarded) { h.Head.Owner = "" })
	add("a part too many", func(h *api.Guarded) { h.Word2 = "a" })
	for _, n := range []int{0, 1, 7, 9, 16, 264} {
		add("a tag of "+strconv.Itoa(n), func(h *api.Guarded) { h.Tag = make([]byte, n) })
	}
	add("a nil tag", func(h *api.Guarded) { h.Tag = nil })
	add("a Release", func(h *api.Guarded) { h.Release = api.Formula{} })
	add("a Release's K", func(h *api.Guarded) { h.Release.K = 1 })
	add("a Release's Op", func(h *api.Guarded) { h.Release.Op = 5 })
	add("a Release's Kids", func(h *api.Guarded) {
		h.Release = api.Formula{Op: api.Some, Kids: slices.Repeat([]api.Formula{{Op: api.All}}, 9)}
	})
	return l
}

// ackFaults of the Ack at a place.
func ackFaults(name string, at int) []fault {
	var l []fault
	add := func(what string, spoil func(a *api.Ack)) {
		l = append(l, fault{what + " of Ack " + name, func(p *api.Party) { spoil(&p.Acks[at]) }, api.ErrForm})
	}
	add("a Release", func(a *api.Ack) { a.Release = api.Formula{} })
	add("a Release's Role", func(a *api.Ack) { a.Release.Role = of("Gov.agent") })
	least := api.Cred{Kind: api.Member, Head: of("a.a"), Who: "a"}
	greatest := api.Cred{Kind: api.Both, Head: of("z.z"), B: of("z.y"), C: of("z.z")}
	add("one that isn't right", func(a *api.Ack) { a.Closure = append(a.Closure, api.Cred{}) })
	add("one that isn't right first", func(a *api.Ack) { a.Closure = append([]api.Cred{{}}, a.Closure...) })
	add("one that isn't right any more", func(a *api.Ack) { a.Closure[0].Who += "." })
	add("a falling one", func(a *api.Ack) { a.Closure = append(a.Closure, least) })
	add("a falling one first", func(a *api.Ack) { a.Closure = append([]api.Cred{greatest}, a.Closure...) })
	add("the last twice", func(a *api.Ack) { a.Closure = append(a.Closure, a.Closure[len(a.Closure)-1]) })
	add("the first twice", func(a *api.Ack) { a.Closure = append(a.Closure[:1:1], a.Closure...) })
	return l
}

// P15.2: each fault by itself.
func TestRightFaults(t *testing.T) {
	for _, x := range faults() {
		p := agent(t)
		x.spoil(&p)
		checkRight(t, x.what, p, x.e)
	}
}

// P15.2: of two faults that which is named first: a name, what is too many, what isn't of the form; wherever they are.
func TestRightTwoFaults(t *testing.T) {
	order := []api.Errno{api.ErrName, api.ErrLong, api.ErrForm}
	for _, one := range faults() {
		for _, two := range faults() {
			// A fault within a list goes behind one of its length, which would undo it.
			if one.e == api.ErrForm {
				continue
			}
			p := agent(t)
			one.spoil(&p)
			two.spoil(&p)
			want := order[min(slices.Index(order, one.e), slices.Index(order, two.e))]
			if guard.Right(p) != want {
				t.Errorf("%s and %s: %v, not %v", one.what, two.what, guard.Right(p), want)
			}
		}
	}
}

// P15.2: by layer 5's order, by which a longer name is behind a shorter one, and by layer 4's, by which it isn't.
func TestRightOrders(t *testing.T) {
	checkRight(t, "held by bytes", party(t, "b.r <- ann if all()", "aa.r <- ann if all()"), api.OK)
	checkRight(t, "held by texts", party(t, "aa.r <- ann if all()", "b.r <- ann if all()"), api.ErrForm)
	checkRight(t, "a Closure by bytes", party(t, "ack a.r if all()", "hides a.r <- b", "hides a.r <- aa"), api.OK)
	checkRight(t, "a Closure by texts", party(t, "ack a.r if all()", "hides a.r <- aa", "hides a.r <- b"), api.ErrForm)
	checkRight(t, "Acks by owners", party(t, "ack a.r if all()", "ack a-b.a if all()", "ack aa.r if all()", "ack b.a if all()"), api.OK)
	checkRight(t, "Acks by texts", party(t, "ack a-b.a if all()", "ack a.r if all()"), api.ErrForm)
	checkRight(t, "Acks by bytes", party(t, "ack b.r if all()", "ack aa.r if all()"), api.ErrForm)
	checkRight(t, "Acks by words", party(t, "ack a.r if all()", "ack a.s if all()", "ack b.a if all()"), api.OK)
	checkRight(t, "Acks by words, falling", party(t, "ack a.s if all()", "ack a.r if all()"), api.ErrForm)
}

// P15.2: two that are alike aren't rising, though their Releases and tags are unlike.
func TestRightTwice(t *testing.T) {
	p := party(t, "a.r <- ann if all()", "a.r <- ann if b.s")
	checkRight(t, "unlike Releases", p, api.ErrForm)
	p = party(t, "a.r <- ann if all()", "a.r <- ann if all()")
	p.Creds[1].Tag = []byte("87654321")
	checkRight(t, "unlike tags", p, api.ErrForm)
	checkRight(t, "Acks", party(t, "ack a.r if all()", "ack a.r if b.s"), api.ErrForm)
}

// P15.2: each guard of what it holds is right, be it wrong as layer 13's ErrLong or its ErrForm; of what isn't held nothing is asked.
func TestRightGuards(t *testing.T) {
	for i, x := range []struct {
		lines []string
		e     api.Errno
	}{
		{[]string{"a.r <- ann if " + nine}, api.ErrForm},
		{[]string{"a.r <- ann if all()", "a.r <- bob if all()", "a.r <- dan if " + nine}, api.ErrForm},
		{[]string{"a.r <- ann if " + five, "ack a.r if " + four, "hides a.r <- ann"}, api.ErrForm},
		{[]string{"a.r <- ann if " + five, "ack a.r if " + four, "hides a.r <- bob"}, api.OK},
		{[]string{"a.r <- ann if " + five, "ack a.r if all(b.a, b.b, b.c)", "hides a.r <- ann"}, api.OK},
		{[]string{"a.r <- ann if all()", "a.r <- bob if " + five, "ack a.q if some()", "ack a.r if " + four, "hides a.r <- bob"}, api.ErrForm},
		{[]string{"a.r <- ann if all()", "a.r <- bob if " + five, "ack a.q if all()", "hides a.r <- ann", "ack a.r if " + four, "hides a.r <- ann"}, api.OK},
		{[]string{"a.r <- ann if " + five, "ack a.r if " + four, "hides a.r <- ann", "ack a.s if some()", "hides a.r <- ann"}, api.ErrForm},
		{[]string{"a.r <- ann if " + five, "ack a.q if some()", "hides a.r <- ann", "ack a.r if " + four, "hides a.r <- ann"}, api.OK},
		{[]string{"a.r <- ann if " + deep6, "ack a.r if all()", "hides a.r <- ann"}, api.ErrForm},
		{[]string{"a.r <- ann if " + deep6, "ack a.r if all()", "hides a.r <- bob"}, api.OK},
		{[]string{"a.r <- ann if " + deep5, "ack a.r if all()", "hides a.r <- ann"}, api.OK},
		{[]string{"a.r <- ann if all()", "ack a.r if " + nine, "hides a.r <- ann"}, api.ErrForm},
		{[]string{"a.r <- ann if all()", "ack a.r if " + nine}, api.OK},
	} {
		checkRight(t, strconv.Itoa(i), party(t, x.lines...), x.e)
	}
}

// registry of some keys.
func registry(t *testing.T) *keys.Registry {
	t.Helper()
	g, e := keys.New(api.Key{Who: "gov", Key: []byte("g")}, api.Key{Who: "gym", Key: []byte("m")}, api.Key{Who: "ann", Key: []byte("a")})
	if e != api.OK {
		t.Fatal(e)
	}
	return g
}

// signed party: with the tags of a registry.
func signed(t *testing.T, g *keys.Registry, p api.Party) api.Party {
	t.Helper()
	p.Creds = slices.Clone(p.Creds)
	for i := range p.Creds {
		s, e := g.Sign(p.Creds[i].Cred)
		if e != api.OK {
			t.Fatalf("%s: %v", cred.Text(p.Creds[i].Cred), e)
		}
		p.Creds[i].Signed = s
	}
	return p
}

// P15.2: what is right, and signed, is checked; Acks need no keys.
func TestCheck(t *testing.T) {
	g := registry(t)
	p := signed(t, g, agent(t))
	p.Acks = append(p.Acks, api.Ack{Role: of("zed.r"), Release: parsed(t, "zed.s"), Closure: creds(t, "zed.r <- ann")})
	if e := guard.Check(p, g); e != api.OK {
		t.Errorf("%v", e)
	}
	for _, s := range []string{"gov", "zed"} {
		if e := guard.Check(api.Party{Name: s}, g); e != api.OK {
			t.Errorf("%s without anything: %v", s, e)
		}
	}
}

// P15.2: of each place: a tag that isn't good, an issuer without a key.
func TestCheckNot(t *testing.T) {
	g := registry(t)
	for at := range 3 {
		for bit := range 64 {
			p := signed(t, g, agent(t))
			p.Creds[at].Tag[bit/8] ^= 1 << (bit % 8)
			if e := guard.Check(p, g); e != api.ErrTag {
				t.Errorf("%d: %v", at, e)
			}
		}
		p := signed(t, g, agent(t))
		p.Creds[at].Tag = p.Creds[(at+1)%3].Tag
		if e := guard.Check(p, g); e != api.ErrTag {
			t.Errorf("another one's tag at %d: %v", at, e)
		}
	}
	p := signed(t, g, agent(t))
	less, _ := keys.New(api.Key{Who: "gov", Key: []byte("g")})
	if e := guard.Check(p, less); e != api.ErrKey {
		t.Errorf("%v", e)
	}
	other, _ := keys.New(api.Key{Who: "gov", Key: []byte("h")}, api.Key{Who: "gym", Key: []byte("m")})
	if e := guard.Check(p, other); e != api.ErrTag {
		t.Errorf("%v", e)
	}
}

// P15.2: what Right tells goes ahead of what the registry tells, and of that the first credential's.
func TestCheckFirst(t *testing.T) {
	g := registry(t)
	for _, x := range faults() {
		p := signed(t, g, agent(t))
		p.Creds[0].Tag = make([]byte, 8)
		x.spoil(&p)
		for _, r := range []*keys.Registry{g, nil} {
			if e := guard.Check(p, r); e != x.e {
				t.Errorf("%s: %v, not %v", x.what, e, x.e)
			}
		}
	}
	foreign := "zed.r <- ann if all()"
	p := party(t, "gov.id <- ann if all()", foreign)
	if e := guard.Check(p, g); e != api.ErrTag {
		t.Errorf("a tag ahead of a key: %v", e)
	}
	p = party(t, foreign, "gov.a <- gov.b if all()")
	if e := guard.Check(p, g); e != api.ErrKey {
		t.Errorf("a key ahead of a tag: %v", e)
	}
}

// P15.2: of a nil registry layer 6's ErrNil, if there is anything that it is asked of.
func TestCheckNil(t *testing.T) {
	if e := guard.Check(agent(t), nil); e != api.ErrNil {
		t.Errorf("%v", e)
	}
	if e := guard.Check(party(t, "zed.r <- ann if all()"), nil); e != api.ErrNil {
		t.Errorf("%v", e)
	}
	if e := guard.Check(api.Party{Name: "ann"}, nil); e != api.OK {
		t.Errorf("without anything: %v", e)
	}
}
