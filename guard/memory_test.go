package guard_test

import (
	"reflect"
	"slices"
	"testing"

	"entente/api"
	"entente/formula"
	"entente/guard"
	"entente/parse"
)

// roomy list: with spare room behind it, which has something in it.
func roomy[T any](l []T, spare T) []T {
	return append(slices.Grow(slices.Clone(l), 3), spare)[:len(l)]
}

// roomyFormula with spare room behind all Kids.
func roomyFormula(f api.Formula) api.Formula {
	var kids []api.Formula
	for _, kid := range f.Kids {
		kids = append(kids, roomyFormula(kid))
	}
	f.Kids = roomy(kids, api.Formula{Op: api.Atom, Role: of("spare.room")})
	return f
}

// roomyParty with spare room behind all lists.
func roomyParty(p api.Party) api.Party {
	spare := api.Cred{Kind: api.Member, Head: of("spare.room"), Who: "spare"}
	p.Creds = roomy(p.Creds, api.Guarded{Signed: api.Signed{Cred: spare, Tag: []byte("spare")}})
	for i, h := range p.Creds {
		p.Creds[i].Tag, p.Creds[i].Release = roomy(h.Tag, 's'), roomyFormula(h.Release)
	}
	p.Acks = roomy(p.Acks, api.Ack{Role: of("spare.room")})
	for i, a := range p.Acks {
		p.Acks[i].Release, p.Acks[i].Closure = roomyFormula(a.Release), roomy(a.Closure, spare)
	}
	return p
}

// whole formula: its Kids with their spare room.
func whole(f api.Formula) api.Formula {
	var kids []api.Formula
	for _, kid := range f.Kids[:cap(f.Kids)] {
		kids = append(kids, whole(kid))
	}
	f.Kids = kids
	return f
}

// wholeParty: all lists with their spare room.
func wholeParty(p api.Party) api.Party {
	p.Creds = slices.Clone(p.Creds[:cap(p.Creds)])
	for i, h := range p.Creds {
		p.Creds[i].Tag, p.Creds[i].Release = h.Tag[:cap(h.Tag)], whole(h.Release)
	}
	p.Acks = slices.Clone(p.Acks[:cap(p.Acks)])
	for i, a := range p.Acks {
		p.Acks[i].Release, p.Acks[i].Closure = whole(a.Release), a.Closure[:cap(a.Closure)]
	}
	return p
}

// parties with much in them: right ones, and ones that aren't.
func parties(t *testing.T) []api.Party {
	t.Helper()
	l := []api.Party{
		agent(t),
		party(t, "z.z <- ann if at 2(c.t, b.s, a.r)", "b.s <- ann if -", "a.r <- ann if all(b.s, a.r, b.s)", "a.r <- ann if all()", "ack z.z if some(b.s, a.r)", "hides z.z <- ann", "hides a.r <- ann", "ack a.r if -", "hides b.s <- ann"),
	}
	return append(l, signed(t, registry(t), agent(t)))
}

// No call changes what is handed in, its spare room included.
func TestChangesNothing(t *testing.T) {
	g := registry(t)
	for at := range parties(t) {
		p, was := roomyParty(parties(t)[at]), roomyParty(parties(t)[at])
		has := roomy(creds(t, "shop.ok <- bob", "b.s <- bob", "a.r <- b.s", "b.s <- bob", "-"), credOf(t, "spare.room <- bob"))
		hadAll := slices.Clone(has[:cap(has)])
		for _, h := range p.Creds {
			guard.Of(p, h.Cred)
			guard.Acks(p, h.Cred)
		}
		for _, a := range p.Acks {
			guard.Told(p, a.Role, has, "bob")
		}
		guard.Right(p)
		guard.Check(p, g)
		guard.Check(p, nil)
		guard.Free(p, has, "bob")
		if !reflect.DeepEqual(wholeParty(p), wholeParty(was)) {
			t.Errorf("now %v, not %v", wholeParty(p), wholeParty(was))
		}
		if !slices.Equal(has[:cap(has)], hadAll) {
			t.Errorf("now %v", has[:cap(has)])
		}
	}
}

// spoil all of a formula, the spare room too.
func spoil(f *api.Formula) {
	l := f.Kids[:cap(f.Kids)]
	for i := range l {
		spoil(&l[i])
		l[i] = api.Formula{Op: api.Atom, Role: of("x.y")}
	}
}

// What is answered is new: spoilt, it spoils neither what was handed in nor a later answer.
func TestAnswersNew(t *testing.T) {
	has := creds(t, "shop.ok <- bob", "bank.ok <- bob", "gov.agent <- bob", "b.s <- bob", "a.r <- b.s")
	for at := range parties(t) {
		p, was := roomyParty(parties(t)[at]), roomyParty(parties(t)[at])
		for _, h := range p.Creds {
			f, e := guard.Of(p, h.Cred)
			text := parse.Text(f)
			spoil(&f)
			if again, err := guard.Of(p, h.Cred); e != err || parse.Text(again) != text {
				t.Errorf("%v: %s, not %s", h, parse.Text(again), text)
			}
			acks := guard.Acks(p, h.Cred)
			want := slices.Clone(acks)
			clear(acks[:cap(acks)])
			if again := guard.Acks(p, h.Cred); !slices.Equal(again, want) {
				t.Errorf("%v: %v, not %v", h, again, want)
			}
		}
		free := guard.Free(p, has, "bob")
		text := told(free)
		clear(free[:cap(free)])
		if again := told(guard.Free(p, has, "bob")); again != text || text == "" {
			t.Errorf("%s, not %s", again, text)
		}
		if !reflect.DeepEqual(wholeParty(p), wholeParty(was)) {
			t.Errorf("now %v, not %v", wholeParty(p), wholeParty(was))
		}
	}
}

// What was answered stays, whatever is done to what was handed in.
func TestKeepsNothing(t *testing.T) {
	p := agent(t)
	p.Creds[2].Release = parsed(t, "all(b.s, some(a.r, at 2(c.t, d.u, e.v)))")
	has := creds(t, "shop.ok <- bob", "bank.ok <- bob", "gov.agent <- bob")
	var guards, want []api.Formula
	for _, h := range p.Creds {
		f, _ := guard.Of(p, h.Cred)
		guards, want = append(guards, f), append(want, parsed(t, parse.Text(f)))
	}
	acks, free := guard.Acks(p, p.Creds[0].Cred), guard.Free(p, has, "bob")
	for i := range p.Creds {
		spoil(&p.Creds[i].Release)
		p.Creds[i] = api.Guarded{}
	}
	for i := range p.Acks {
		clear(p.Acks[i].Closure)
		p.Acks[i] = api.Ack{}
	}
	clear(has)
	for i := range guards {
		if !formula.Same(guards[i], want[i]) {
			t.Errorf("%d: %s, not %s", i, parse.Text(guards[i]), parse.Text(want[i]))
		}
	}
	if !slices.Equal(acks, roles("gov.id gov.who")) || told(free) != "gov.id <- ann; gov.vet <- ann" {
		t.Errorf("%v, %s", acks, told(free))
	}
}

// endless formula: it is its own Kid.
func endless() api.Formula {
	f := api.Formula{Op: api.Some, Kids: make([]api.Formula, 2)}
	f.Kids[0], f.Kids[1] = f, f
	return f
}

// Every call ends, of formulas without an end too.
func TestEndless(t *testing.T) {
	one, two := agent(t), agent(t)
	one.Creds[1].Release = endless()
	two.Acks[1].Release = endless()
	shop := creds(t, "shop.ok <- bob", "a.r <- bob", "b.s <- bob")
	for _, p := range []api.Party{one, two} {
		checkRight(t, "endless", p, api.ErrForm)
		checkOf(t, p, p.Creds[1].Cred, "", api.ErrForm)
		checkFree(t, p, shop, "bob", "gym.member <- ann")
	}
	if guard.Told(two, of("gov.vet"), shop, "bob") || !guard.Told(one, of("gov.vet"), shop, "bob") {
		t.Error("told")
	}
}
