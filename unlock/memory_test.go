package unlock_test

import (
	"reflect"
	"slices"
	"testing"

	"entente/api"
	"entente/formula"
	"entente/unlock"
)

// roomy list: with spare room behind it, which has something in it.
func roomy[T any](l []T, spare T) []T {
	return append(slices.Grow(slices.Clone(l), 3), spare)[:len(l)]
}

// roomyFormula with spare room behind all Kids.
func roomyFormula(f api.Formula) api.Formula {
	var kids []api.Formula
	for _, kid := range f.Kids {
		kids = append(kids, roomyFormula(kid))
	}
	f.Kids = roomy(kids, api.Formula{Op: api.Atom, Role: of("spare.room")})
	return f
}

// roomyParty with spare room behind all lists.
func roomyParty(p api.Party) api.Party {
	spare := api.Cred{Kind: api.Member, Head: of("spare.room"), Who: "spare"}
	p.Creds = roomy(p.Creds, api.Guarded{Signed: api.Signed{Cred: spare, Tag: []byte("spare")}})
	for i, h := range p.Creds {
		p.Creds[i].Tag, p.Creds[i].Release = roomy(h.Tag, 's'), roomyFormula(h.Release)
	}
	p.Acks = roomy(p.Acks, api.Ack{Role: of("spare.room")})
	for i, a := range p.Acks {
		p.Acks[i].Release, p.Acks[i].Closure = roomyFormula(a.Release), roomy(a.Closure, spare)
	}
	return p
}

// whole formula: its Kids with their spare room.
func whole(f api.Formula) api.Formula {
	var kids []api.Formula
	for _, kid := range f.Kids[:cap(f.Kids)] {
		kids = append(kids, whole(kid))
	}
	f.Kids = kids
	return f
}

// wholeParty: all lists with their spare room.
func wholeParty(p api.Party) api.Party {
	p.Creds = slices.Clone(p.Creds[:cap(p.Creds)])
	for i, h := range p.Creds {
		p.Creds[i].Tag, p.Creds[i].Release = h.Tag[:cap(h.Tag)], whole(h.Release)
	}
	p.Acks = slices.Clone(p.Acks[:cap(p.Acks)])
	for i, a := range p.Acks {
		p.Acks[i].Release, p.Acks[i].Closure = whole(a.Release), a.Closure[:cap(a.Closure)]
	}
	return p
}

// pair of parties with much in them, some of it not right, and some held twice.
func pair(t *testing.T) (api.Party, api.Party) {
	t.Helper()
	a := anns(t, "z.z <- ann if all(b.s, b.r, b.s)", "a.r <- ann if all()", "- if all()", "a.s <- ann if at 2(b.r, c.t, b.s)", "a.r <- ann if some()",
		"ack z.z if some(c.t, b.s)", "hides z.z <- ann", "hides a.s <- ann", "ack a.q if -", "hides a.q <- ann")
	b := bobs(t, "c.t <- b.s if all()", "b.s <- bob if a.r", "b.r <- bob if at 1(all(), a.r)", "d.u <- bob if -", "x.y <- bob if a.s and z.z",
		"ack b.s if some(a.r, a.s)", "hides b.s <- bob")
	return a, b
}

// wanted of what b shows.
const wanted = "all(x.y, some(d.u, c.t), b.s)"

// The pair says something.
func TestPair(t *testing.T) {
	a, b := pair(t)
	checkOf(t, a, b, "a.r <- ann; a.s <- ann; z.z <- ann", "b.r <- bob; b.s <- bob; x.y <- bob; c.t <- b.s", 4)
	checkProof(t, a, b, parsed(t, wanted), true, "b.s <- bob: b.s bob; c.t <- b.s: c.t bob; x.y <- bob: x.y bob")
}

// No call changes what is handed in, its spare room included.
func TestChangesNothing(t *testing.T) {
	a, b := pair(t)
	p, q, f := roomyParty(a), roomyParty(b), roomyFormula(parsed(t, wanted))
	wasP, wasQ, wasF := wholeParty(roomyParty(a)), wholeParty(roomyParty(b)), whole(roomyFormula(parsed(t, wanted)))
	unlock.Of(p, q)
	unlock.Grants(p, q, f)
	unlock.Proof(p, q, f)
	if !reflect.DeepEqual(wholeParty(p), wasP) || !reflect.DeepEqual(wholeParty(q), wasQ) || !reflect.DeepEqual(whole(f), wasF) {
		t.Errorf("now %v, %v, %v", wholeParty(p), wholeParty(q), whole(f))
	}
}

// What is answered is new: spoilt, it spoils neither what was handed in, nor the other list, nor a later answer.
func TestAnswersNew(t *testing.T) {
	a, b := pair(t)
	p, q := roomyParty(a), roomyParty(b)
	for range 2 {
		x, y, n := unlock.Of(p, q)
		wantX, wantY := told(x), told(y)
		clear(x[:cap(x)])
		if told(y) != wantY {
			t.Errorf("%s, not %s", told(y), wantY)
		}
		clear(y[:cap(y)])
		l, _ := unlock.Proof(p, q, parsed(t, wanted))
		wantL := toldSteps(l)
		clear(l[:cap(l)])
		x, y, again := unlock.Of(p, q)
		l, _ = unlock.Proof(p, q, parsed(t, wanted))
		if told(x) != wantX || told(y) != wantY || again != n || toldSteps(l) != wantL || wantL == "" {
			t.Errorf("%s, %s, %d, %s", told(x), told(y), again, toldSteps(l))
		}
	}
	if !reflect.DeepEqual(wholeParty(p), wholeParty(roomyParty(a))) || !reflect.DeepEqual(wholeParty(q), wholeParty(roomyParty(b))) {
		t.Errorf("now %v, %v", wholeParty(p), wholeParty(q))
	}
}

// What was answered stays, whatever is done to what was handed in.
func TestKeepsNothing(t *testing.T) {
	a, b := pair(t)
	x, y, _ := unlock.Of(a, b)
	l, _ := unlock.Proof(a, b, parsed(t, wanted))
	wantX, wantY, wantL := told(x), told(y), toldSteps(l)
	for _, p := range []api.Party{a, b} {
		for i := range p.Acks {
			clear(p.Acks[i].Closure)
		}
		clear(p.Creds)
		clear(p.Acks)
	}
	if told(x) != wantX || told(y) != wantY || toldSteps(l) != wantL {
		t.Errorf("%s, %s, %s", told(x), told(y), toldSteps(l))
	}
}

// endless formula: it is its own Kid.
func endless() api.Formula {
	f := api.Formula{Op: api.Some, Kids: make([]api.Formula, 2)}
	f.Kids[0], f.Kids[1] = f, f
	return f
}

// Every call ends, of formulas without an end too.
func TestEndless(t *testing.T) {
	a := anns(t, "a.r <- ann if all()", "a.s <- ann if all()", "a.t <- ann if all()", "ack a.s if all()", "hides a.s <- ann")
	a.Creds[2].Release, a.Acks[0].Release = endless(), endless()
	checkOf(t, a, bobs(t, "b.s <- bob if a.r"), "a.r <- ann", "b.s <- bob", 2)
	for _, f := range []api.Formula{endless(), {Op: api.All, Kids: []api.Formula{endless()}}} {
		if formula.Right(f) {
			t.Error("it is right")
		}
		checkProof(t, a, bobs(t, "b.s <- bob if all()"), f, false, "-")
	}
}
