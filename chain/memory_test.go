package chain_test

import (
	"slices"
	"strconv"
	"testing"

	"entente/api"
	"entente/chain"
	"entente/check"
	"entente/model"
)

// spoil all of a list, the spare room too.
func spoil[T any](l []T, with T) {
	l = l[:cap(l)]
	for i := range l {
		l[i] = with
	}
}

// No list that is handed in is changed, its spare room included.
func TestChangesNoList(t *testing.T) {
	may := parsed(t, shop)
	slices.Reverse(may)
	may = append(may, wrong...)
	may = append(may, may[:5]...)
	room := append(make([]api.Cred, 0, 99), may...)
	l, _ := chain.Find(room, fact("shop.best: ann"))
	if !slices.Equal(room, may) || slices.ContainsFunc(room[len(room):99], func(c api.Cred) bool { return c != api.Cred{} }) {
		t.Errorf("now %v", room[:99])
	}
	twice := append(slices.Clone(l), l...)
	for _, call := range []func(l []api.Step){
		func(l []api.Step) { chain.Used(l) },
		func(l []api.Step) { chain.Merge(l) },
		func(l []api.Step) { chain.Merge(l, l[2:4], l[:3]) },
	} {
		room := append(make([]api.Step, 0, 99), twice...)
		call(room)
		if !slices.Equal(room, twice) || slices.ContainsFunc(room[len(room):99], func(s api.Step) bool { return s != api.Step{} }) {
			t.Errorf("now %v", room[:99])
		}
	}
}

// What is answered is new each time, the spare room too, and keeps nothing of what was handed in.
func TestAnswersNew(t *testing.T) {
	may := parsed(t, shop)
	want := fact("shop.best: ann")
	l, _ := chain.Find(may, want)
	was := slices.Clone(l)
	used, merged := chain.Used(l), chain.Merge(l)
	usedWas := slices.Clone(used)
	for range 2 {
		again, _ := chain.Find(may, want)
		spoil(chain.Used(again), api.Cred{})
		spoil(chain.Merge(again), api.Step{})
		spoil(chain.Merge(again, again), api.Step{})
		if !slices.Equal(again, was) {
			t.Errorf("%q", told(again))
		}
		spoil(again, api.Step{})
	}
	if !slices.Equal(l, was) {
		t.Errorf("%q", told(l))
	}
	spoil(l, api.Step{})
	spoil(may, api.Cred{})
	if !slices.Equal(merged, was) || !slices.Equal(used, usedWas) {
		t.Errorf("%q, %v", told(merged), used)
	}
}

// named is the n-th of many names.
func named(n int) string { return "n" + strconv.Itoa(n) }

// member credential.
func member(r, who string) api.Cred {
	return api.Cred{Kind: api.Member, Head: of(r), Who: who}
}

// P10.1: a row of Includes, however long.
func TestFindLong(t *testing.T) {
	may := []api.Cred{member("n0.r", "d")}
	for n := range 4000 {
		may = append(may, api.Cred{Kind: api.Include, Head: of(named(n+1) + ".r"), B: of(named(n) + ".r")})
	}
	want := fact("n4000.r: d")
	l, ok := chain.Find(may, want)
	if !ok || len(l) != 4001 {
		t.Fatalf("%d, %v", len(l), ok)
	}
	stands(t, l, may, want)
	none(t, may[1:], want)
}

// P10.1: one Linked credential brings each of a row of names by the one ahead.
func TestFindLongLinked(t *testing.T) {
	may := parsed(t, "a.r <- a.r.w\n a.r <- n0")
	for n := range 600 {
		may = append(may, member(named(n)+".w", named(n+1)))
	}
	want := fact("a.r: n600")
	l, ok := chain.Find(may, want)
	if !ok || len(l) != 1201 {
		t.Fatalf("%d, %v", len(l), ok)
	}
	stands(t, l, may, want)
}

// P10.1: a Linked step that would follow by each of many names takes one.
func TestFindWide(t *testing.T) {
	may := parsed(t, "a.r <- a.s.t")
	for n := range 1000 {
		may = append(may, member("a.s", named(n)), member(named(n)+".t", "d"))
	}
	want := fact("a.r: d")
	l, ok := chain.Find(may, want)
	if !ok || len(l) != 3 {
		t.Fatalf("%d, %v", len(l), ok)
	}
	stands(t, l, may, want)
}

// P10.1: as many credentials as a party holds, half of them Members, half of them Includes in a circle: each of the facts.
func TestFindMany(t *testing.T) {
	var may []api.Cred
	for n := range api.MostCreds / 2 {
		may = append(may, member("n0.r", named(n)))
		may = append(may, api.Cred{Kind: api.Include, Head: of(named((n+1)%128) + ".r"), B: of(named(n) + ".r")})
	}
	facts := model.Of(may).Facts()
	if len(facts) != 128*128 {
		t.Fatalf("%d facts", len(facts))
	}
	for n := 0; n < len(facts); n += 999 {
		l, ok := chain.Find(may, facts[n])
		if e := provedBy(l, may, facts[n]); !ok || e != api.OK {
			t.Errorf("%v: %q, %v, %v", facts[n], told(l), ok, e)
		}
	}
}

// provedBy is the error of a chain that is to prove a fact.
func provedBy(l []api.Step, may []api.Cred, want api.Fact) api.Errno {
	_, e := check.Check(l, may, want)
	return e
}
