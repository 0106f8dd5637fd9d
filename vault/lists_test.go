package vault_test

import (
	"maps"
	"math/rand"
	"slices"
	"testing"

	"entente/api"
	"entente/cred"
	"entente/vault"
)

// names that are asked for: of all that texts have, of others, and of none.
var names = []string{"a", "b", "d", "r", "s", "t", "aa", "ann", "deal", "partner", "member", longest, "z", "an", "", "A", "a.r", longest + "a", "a\x00"}

// said is the texts of credentials.
func said(l []api.Cred) []string {
	var s []string
	for _, c := range l {
		s = append(s, cred.Text(c))
	}
	return s
}

// through an iterator: what it brings, till it has brought most.
func through(v *vault.Vault, most int) []api.Signed {
	var l []api.Signed
	for s := range v.All() {
		if len(l) == most {
			break
		}
		l = append(l, s)
	}
	return l
}

// those of a list that a function takes.
func those(l []api.Cred, take func(c api.Cred) bool) []api.Cred {
	return slices.DeleteFunc(slices.Clone(l), func(c api.Cred) bool { return !take(c) })
}

// agrees tells of each call on a vault whether it has just what is held, which is handed in rising.
func agrees(t *testing.T, v *vault.Vault, room int, held []api.Signed) {
	t.Helper()
	if v.Len() != len(held) || v.Room() != room-len(held) {
		t.Errorf("%d, %d of room %d with %d", v.Len(), v.Room(), room, len(held))
	}
	if got := through(v, 1000); !slices.EqualFunc(got, held, same) {
		t.Errorf("all: %v, not %v", got, held)
	}
	var creds []api.Cred
	for _, s := range held {
		creds = append(creds, s.Cred)
	}
	alike := func(what string, got, want []api.Cred) {
		t.Helper()
		if !slices.Equal(got, want) {
			t.Errorf("%s: %q, not %q", what, said(got), said(want))
		}
	}
	alike("creds", v.Creds(), creds)
	for _, n := range names {
		alike("issuer "+n, v.Issuer(n), those(creds, func(c api.Cred) bool { return c.Head.Owner == n }))
		alike("subject "+n, v.Subject(n), those(creds, func(c api.Cred) bool { return c.Kind == api.Member && c.Who == n }))
		alike("word "+n, v.Word(n), those(creds, func(c api.Cred) bool { return c.Head.Word == n }))
		for _, w := range names {
			r := api.Role{Owner: n, Word: w}
			alike("head "+n+"."+w, v.Head(r), those(creds, func(c api.Cred) bool { return c.Head == r }))
		}
	}
}

// P7.2: all, in the order of their bytes, in whatever order they came.
func TestAll(t *testing.T) {
	r := rand.New(rand.NewSource(2))
	l := all(t)
	for range 50 {
		v := filled(t, 3, l...)
		if got := through(v, 1000); !slices.EqualFunc(got, all(t), same) {
			t.Fatalf("%v", got)
		}
		if got := said(v.Creds()); !slices.Equal(got, texts) {
			t.Fatalf("%q", got)
		}
		r.Shuffle(len(l), func(i, k int) { l[i], l[k] = l[k], l[i] })
	}
}

// P7.2: an iterator may be left at any place, and gone through again.
func TestAllLeft(t *testing.T) {
	v := filled(t, 0, all(t)...)
	it := v.All()
	for most := range len(texts) + 2 {
		if got := through(v, most); !slices.EqualFunc(got, all(t)[:min(most, len(texts))], same) {
			t.Errorf("%d: %v", most, got)
		}
		n := 0
		for range it {
			if n++; n == most {
				break
			}
		}
		if got := slices.Collect(it); !slices.EqualFunc(got, all(t), same) {
			t.Errorf("left at %d, and again: %v", most, got)
		}
	}
	// One within the other.
	n := 0
	for a := range it {
		for b := range it {
			if a.Cred == b.Cred {
				n++
			}
		}
	}
	if n != len(texts) {
		t.Errorf("%d of %d", n, len(texts))
	}
}

// P7.2: what All answers is what was held when it was called.
func TestAllThen(t *testing.T) {
	v := filled(t, 3, all(t)...)
	it := v.All()
	v.Drop(parsed(t, texts[3]))
	v.Add(signed(t, "b.r <- d", 7))
	if got := slices.Collect(it); !slices.EqualFunc(got, all(t), same) {
		t.Errorf("%v", got)
	}
}

// P7.2: the lists, told by hand.
func TestLists(t *testing.T) {
	l := all(t)
	slices.Reverse(l)
	v := filled(t, 0, l...)
	for _, x := range []struct {
		what string
		got  []api.Cred
		want []string
	}{
		{"head", v.Head(api.Role{Owner: "b", Word: "deal"}), []string{"b.deal <- b.partner.member", "b.deal <- a.r & ann.r"}},
		{"head of one", v.Head(api.Role{Owner: "a", Word: "s"}), []string{"a.s <- a"}},
		{"head that is another one's B", v.Head(api.Role{Owner: "d", Word: "s"}), nil},
		{"head without a word", v.Head(api.Role{Owner: "a"}), nil},
		{"head without an owner", v.Head(api.Role{Word: "r"}), nil},
		{"no head", v.Head(api.Role{}), nil},
		{"issuer", v.Issuer("b"), []string{"b.r <- a", "b.deal <- b.partner.member", "b.deal <- a.r & ann.r"}},
		{"issuer with a long name", v.Issuer(longest), []string{longest + ".r <- d"}},
		{"issuer that is only spoken of", v.Issuer("d"), nil},
		{"issuer that is a word", v.Issuer("deal"), nil},
		{"no issuer", v.Issuer(""), nil},
		{"subject", v.Subject("a"), []string{"a.r <- a", "a.s <- a", "b.r <- a", "ann.r <- a"}},
		{"subject that issues too", v.Subject("ann"), []string{"a.r <- ann", "ann.deal <- ann"}},
		{"subject that only issues", v.Subject("b"), nil},
		{"no subject", v.Subject(""), nil},
		{"word", v.Word("deal"), []string{"ann.deal <- ann", "b.deal <- b.partner.member", "b.deal <- a.r & ann.r", "ann.deal <- d.s & d.t"}},
		{"word that is a name too", v.Word("s"), []string{"a.s <- a"}},
		{"word that is only a B's", v.Word("partner"), nil},
		{"word that is only a Word2", v.Word("member"), nil},
		{"no word", v.Word(""), nil},
	} {
		if got := said(x.got); !slices.Equal(got, x.want) {
			t.Errorf("%s: %q, not %q", x.what, got, x.want)
		}
	}
}

// P7.2: of an empty vault there is nothing.
func TestListsEmpty(t *testing.T) {
	for _, room := range []int{0, 1, 256} {
		agrees(t, empty(t, room), room, nil)
	}
	v := filled(t, 0, all(t)...)
	for _, s := range all(t) {
		v.Drop(s.Cred)
	}
	agrees(t, v, len(texts), nil)
}

// P7.2: a clone is alike, its room too, and what is done to one isn't seen in the other.
func TestClone(t *testing.T) {
	for _, more := range []int{0, 1, 9} {
		room := len(texts) + more
		v := filled(t, more, all(t)...)
		c := v.Clone()
		if c == v {
			t.Fatal("the same")
		}
		agrees(t, c, room, all(t))
		other := signed(t, "zzzz.z <- zz.y & zz.z", 7)
		c.Drop(parsed(t, texts[5]))
		c.Add(other)
		agrees(t, v, room, all(t))
		agrees(t, c, room, append(slices.Delete(all(t), 5, 6), other))
		v.Drop(parsed(t, texts[0]))
		v.Drop(parsed(t, texts[1]))
		agrees(t, v, room, all(t)[2:])
		agrees(t, c, room, append(slices.Delete(all(t), 5, 6), other))
		d := c.Clone()
		for _, s := range all(t) {
			c.Drop(s.Cred)
		}
		agrees(t, c, room, []api.Signed{other})
		agrees(t, d, room, append(slices.Delete(all(t), 5, 6), other))
	}
	e := empty(t, 1).Clone()
	if err := e.Add(all(t)[0]); err != api.OK {
		t.Errorf("into the clone of an empty one: %v", err)
	}
	agrees(t, e, 1, all(t)[:1])
}

// step of a history: on a vault, and on what it should hold.
func step(t *testing.T, r *rand.Rand, v *vault.Vault, room int, held map[api.Cred]api.Signed) {
	t.Helper()
	s := signed(t, texts[r.Intn(len(texts))], r.Intn(1<<16))
	_, was := held[s.Cred]
	want := api.OK
	if r.Intn(2) == 0 {
		if !was {
			want = api.ErrNone
		}
		delete(held, s.Cred)
		if e := v.Drop(s.Cred); e != want {
			t.Errorf("drop %v: %v, not %v", s, e, want)
		}
		return
	}
	switch {
	case r.Intn(4) == 0:
		want = api.ErrForm
		s.Tag = s.Tag[:7]
	case was:
		want = api.ErrTwice
	case len(held) == room:
		want = api.ErrFull
	default:
		held[s.Cred] = s
	}
	if e := v.Add(s); e != want {
		t.Errorf("add %v: %v, not %v", s, e, want)
	}
}

// rising list of what should be held.
func rising(t *testing.T, held map[api.Cred]api.Signed) []api.Signed {
	t.Helper()
	var l []api.Signed
	for _, text := range texts {
		if s, ok := held[parsed(t, text)]; ok {
			l = append(l, s)
		}
	}
	return l
}

// P7.3: after whatever was added and dropped, what is held is what should be, and each list has just that.
func TestHistory(t *testing.T) {
	r := rand.New(rand.NewSource(7))
	for room := range len(texts) + 2 {
		v := empty(t, room)
		held := map[api.Cred]api.Signed{}
		for range 120 {
			step(t, r, v, room, held)
			agrees(t, v, room, rising(t, held))
			if t.Failed() {
				t.Fatalf("room %d", room)
			}
		}
	}
}

// P7.2, P7.3: of some clones of clones each goes its own way, and iterators go on with what was held ahead.
func TestHistoryApart(t *testing.T) {
	type pair struct {
		v    *vault.Vault
		held map[api.Cred]api.Signed
	}
	r := rand.New(rand.NewSource(11))
	const room = 12
	l := []pair{{empty(t, room), map[api.Cred]api.Signed{}}}
	for range 400 {
		one := l[r.Intn(len(l))]
		it, ahead := one.v.All(), rising(t, one.held)
		step(t, r, one.v, room, one.held)
		if got := slices.Collect(it); !slices.EqualFunc(got, ahead, same) {
			t.Errorf("%v, not %v", got, ahead)
		}
		if r.Intn(4) == 0 {
			l = append(l, pair{one.v.Clone(), maps.Clone(one.held)})
			l = l[max(0, len(l)-5):]
		}
		for _, p := range l {
			if got, want := slices.Collect(p.v.All()), rising(t, p.held); !slices.EqualFunc(got, want, same) || p.v.Room() != room-len(want) {
				t.Errorf("%v, not %v", got, want)
			}
		}
		if t.Failed() {
			return
		}
	}
}
