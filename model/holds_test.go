package model_test

import (
	"slices"
	"strings"
	"testing"

	"entente/api"
	"entente/model"
	"entente/name"
	"entente/role"
)

// knows answers a function that says what stands in texts of facts, and nothing else.
func knows(facts ...string) func(r api.Role, who string) bool {
	return func(r api.Role, who string) bool {
		return slices.Contains(facts, role.Text(r)+": "+who)
	}
}

// P8.3: the facts of one step, by hand.
func TestHolds(t *testing.T) {
	all := "a b c d e"
	for _, x := range []struct{ what, cred, in, names, facts string }{
		{"a Member", "a.r <- d", "", all, "a.r: d"},
		{"a Member, whoever is in it", "a.r <- d", "a.r: d\n a.r: e", all, "a.r: d"},
		{"a Member without names", "a.r <- d", "", "", "a.r: d"},
		{"a Member beside other names", "a.r <- d", "", "a b", "a.r: d"},
		{"an Include", "a.r <- b.s", "b.s: d\n b.s: a\n b.s: c\n a.r: e\n b.t: b", all, "a.r: a\n a.r: c\n a.r: d"},
		{"an Include of one who is in it already", "a.r <- b.s", "b.s: d\n a.r: d", all, "a.r: d"},
		{"an Include of none", "a.r <- b.s", "", all, ""},
		{"an Include of itself", "a.r <- a.r", "a.r: d", all, "a.r: d"},
		{"an Include of one who isn't named", "a.r <- b.s", "b.s: d\n b.s: f", "d e", "a.r: d"},
		{"an Include without names", "a.r <- b.s", "b.s: d", "", ""},
		{"names that aren't in order", "a.r <- b.s", "b.s: d\n b.s: a\n b.s: c", "e d c b a", "a.r: a\n a.r: c\n a.r: d"},
		{"names that are told twice", "a.r <- b.s", "b.s: d\n b.s: a", "d a d d a", "a.r: a\n a.r: d"},
		{"only one step", "a.r <- b.s", "c.t: d", all, ""},
		{"a Linked", "a.r <- a.s.t", "a.s: b\n b.t: d\n b.t: e", all, "a.r: d\n a.r: e"},
		{"a Linked of some", "a.r <- a.s.t", "a.s: b\n a.s: c\n b.t: d\n c.t: a\n c.t: d\n d.t: e", all, "a.r: a\n a.r: d"},
		{"a Linked of the last b alone", "a.r <- a.s.t", "a.s: b\n a.s: c\n c.t: d", all, "a.r: d"},
		{"a Linked of the first b alone", "a.r <- a.s.t", "a.s: b\n a.s: c\n b.t: d", all, "a.r: d"},
		{"a Linked without b", "a.r <- a.s.t", "b.t: d\n s.t: d\n a.t: d", all, ""},
		{"a Linked of a b who isn't named", "a.r <- a.s.t", "a.s: b\n a.s: c\n b.t: d\n c.t: e", "c d e", "a.r: e"},
		{"a Linked of one who isn't named", "a.r <- a.s.t", "a.s: b\n b.t: d\n b.t: e", "a b d", "a.r: d"},
		{"a Linked of who is in B himself", "a.r <- a.s.s", "a.s: a\n a.s: b", all, "a.r: a\n a.r: b"},
		{"a Linked without names", "a.r <- a.s.t", "a.s: b\n b.t: d", "", ""},
		{"a Both", "a.r <- b.s & c.t", "b.s: a\n b.s: d\n b.s: e\n c.t: b\n c.t: d\n c.t: e", all, "a.r: d\n a.r: e"},
		{"a Both, of B alone", "a.r <- b.s & c.t", "b.s: d", all, ""},
		{"a Both, of C alone", "a.r <- b.s & c.t", "c.t: d", all, ""},
		{"a Both of one who isn't named", "a.r <- b.s & c.t", "b.s: d\n c.t: d\n b.s: e\n c.t: e", "a e", "a.r: e"},
	} {
		c := parsed(t, x.cred)[0]
		if got := told(model.Holds(c, knows(lines(x.in)...), strings.Fields(x.names))); !slices.Equal(got, lines(x.facts)) {
			t.Errorf("%s: %q, not %q", x.what, got, lines(x.facts))
		}
	}
}

// P8.3: texts that are no names are left out, and the function is asked of none of them.
func TestHoldsNames(t *testing.T) {
	names := []string{"d", "", "A", "z-9", "a.r", "1", "-a", longest + "a", "d ", longest, "é", "d\x00", "a\xff", "d", "b"}
	want := []string{longest, "b", "d", "z-9"}
	for _, text := range []string{"a.r <- b.s", "a.r <- a.s.t", "a.r <- b.s & c.t"} {
		in := func(r api.Role, who string) bool {
			if !role.Right(r) || !name.Right(who) {
				t.Errorf("%s: asked of %q, %q", text, r, who)
			}
			return true
		}
		var got []string
		for _, f := range model.Holds(parsed(t, text)[0], in, names) {
			if f.Role != of("a.r") {
				t.Errorf("%s: %v", text, f)
			}
			got = append(got, f.Who)
		}
		if !slices.Equal(got, want) {
			t.Errorf("%s: %q", text, got)
		}
		if got := model.Holds(parsed(t, text)[0], in, []string{"", "A", "1"}); len(got) != 0 {
			t.Errorf("%s, without a name: %q", text, told(got))
		}
	}
}

// P8.3: none, if the credential isn't right.
func TestHoldsWrong(t *testing.T) {
	yes := func(api.Role, string) bool { return true }
	for _, c := range wrong {
		if got := model.Holds(c, yes, []string{"ann", "a", "x"}); len(got) != 0 {
			t.Errorf("%v: %q", c, told(got))
		}
	}
}

// P8.3: none, if there is no function, not even of a Member.
func TestHoldsNilIn(t *testing.T) {
	for _, c := range append(parsed(t, "a.r <- d", "a.r <- b.s", "a.r <- a.s.t", "a.r <- b.s & c.t"), wrong...) {
		if got := model.Holds(c, nil, []string{"a", "b", "d"}); len(got) != 0 {
			t.Errorf("%v: %q", c, told(got))
		}
	}
}

// A function that panics, at first or later, isn't heard: none.
func TestHoldsPanic(t *testing.T) {
	for _, what := range []any{"stop", api.ErrArg, nil} {
		for most := range 4 {
			for _, text := range []string{"a.r <- b.s", "a.r <- a.s.t", "a.r <- b.s & c.t"} {
				n := 0
				in := func(api.Role, string) bool {
					if n++; n > most {
						panic(what)
					}
					return true
				}
				if got := model.Holds(parsed(t, text)[0], in, []string{"a", "b", "c", "d", "e"}); len(got) != 0 {
					t.Errorf("%s, %d: %q", text, most, told(got))
				}
			}
		}
	}
}

// P8.3: by a model's own In: what follows of it is in it already.
func TestHoldsOfModel(t *testing.T) {
	l := parsed(t, "a.r <- b.s", "b.s <- d", "b.s <- e", "c.t <- c.u.v", "c.u <- f", "f.v <- e", "g.h <- b.s & c.t")
	m := model.Of(l)
	names := []string{"f", "e", "d"}
	for i, want := range []string{"a.r: d\n a.r: e", "b.s: d", "b.s: e", "c.t: e", "c.u: f", "f.v: e", "g.h: e"} {
		if got := told(model.Holds(l[i], m.In, names)); !slices.Equal(got, lines(want)) {
			t.Errorf("%v: %q, not %q", l[i], got, lines(want))
		}
	}
	// A step says nothing of whether the credential is in the model.
	if got := told(model.Holds(parsed(t, "x.y <- a.r")[0], m.In, names)); !slices.Equal(got, []string{"x.y: d", "x.y: e"}) {
		t.Errorf("%q", got)
	}
}
