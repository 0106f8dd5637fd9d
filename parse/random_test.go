package parse_test

import (
	"math/rand"
	"slices"
	"strings"
	"testing"

	"entente/api"
	"entente/formula"
	"entente/parse"
)

// few roles, some of them of words that texts have.
var few = []string{"a.r", "a.s", "b-1.r", "or.and", "all.x", "at.some"}

// random formula of at most so many levels, right but for, at times, its size, or an at that has no Kids or too few.
func random(r *rand.Rand, levels int) api.Formula {
	if levels < 2 || r.Intn(3) == 0 {
		return atom(few[r.Intn(len(few))])
	}
	var l []api.Formula
	for range r.Intn(5) {
		l = append(l, random(r, levels-1))
	}
	switch r.Intn(3) {
	case 0:
		k := r.Intn(len(l) + 1)
		if r.Intn(20) == 0 {
			k += r.Intn(95)
		}
		if len(l) == 0 && r.Intn(10) > 0 {
			return some()
		}
		return atK(k, l...)
	case 1:
		return all(l...)
	}
	return some(l...)
}

// speller writes a formula's tokens in one of the ways that the grammar has for it.
type speller struct {
	r    *rand.Rand
	said []string
}

func (x *speller) say(l ...string) { x.said = append(x.said, l...) }

// list of formulas with a token between.
func (x *speller) list(l []api.Formula, between string, say func(api.Formula)) {
	for i, f := range l {
		if i > 0 {
			x.say(between)
		}
		say(f)
	}
}

func (x *speller) any(f api.Formula) {
	if f.Op == api.Some && len(f.Kids) > 1 && x.r.Intn(2) == 0 {
		x.list(f.Kids, "or", x.both)
		return
	}
	x.both(f)
}

func (x *speller) both(f api.Formula) {
	if f.Op == api.All && len(f.Kids) > 1 && x.r.Intn(2) == 0 {
		x.list(f.Kids, "and", x.one)
		return
	}
	x.one(f)
}

func (x *speller) one(f api.Formula) {
	if x.r.Intn(3) == 0 {
		x.say("(")
		x.any(f)
		x.say(")")
		return
	}
	switch f.Op {
	case api.Atom:
		x.say(f.Role.Owner + "." + f.Role.Word)
		return
	case api.All:
		x.say("all")
	case api.Some:
		x.say("some")
	case api.AtK:
		x.say("at", string(appendInt(nil, f.K)))
	}
	x.say("(")
	x.list(f.Kids, ",", x.any)
	x.say(")")
}

// isWord tells whether a token is a word.
func isWord(s string) bool { return !strings.Contains("(),", s) }

// laid out tokens, with blanks where they must be, and some where they may be.
func laid(r *rand.Rand, l []string) string {
	s := strings.Repeat("\n", r.Intn(2))
	for i, token := range l {
		if i > 0 && isWord(l[i-1]) && isWord(token) {
			s += []string{" ", "\t", "\n", "\n\t", "  "}[r.Intn(5)]
		} else {
			s += []string{"", "", "", " ", "\t"}[r.Intn(5)]
		}
		s += token
	}
	return s + strings.Repeat(" ", r.Intn(2))
}

// P12.2, P12.3: whichever way a formula is said, it is what is parsed; and it is told, and parsed again.
func TestParseRandom(t *testing.T) {
	r := rand.New(rand.NewSource(1))
	var n count
	for range 20000 {
		f := random(r, 2+r.Intn(6))
		x := speller{r: r}
		x.any(f)
		s := laid(r, x.said)
		if len(s) > 2048 {
			continue
		}
		n.check(t, s)
		got, e := parse.Parse(s)
		if !formula.Right(f) {
			if e != api.ErrLong {
				t.Fatalf("%q: %v", s, e)
			}
			continue
		}
		if e != api.OK || !formula.Same(got, f) {
			t.Fatalf("%q: %v, %v, not %v", s, got, e, f)
		}
		if again, e := parse.Parse(parse.Text(f)); e != api.OK || !formula.Same(again, f) {
			t.Fatalf("%q: %v, %v", parse.Text(f), again, e)
		}
	}
	if n.well < 5000 || n.form > 0 || n.long < 100 {
		t.Errorf("%+v", n)
	}
}

// P12.2: texts with tokens that are left out, laid in, doubled or changed.
func TestParseChanged(t *testing.T) {
	r := rand.New(rand.NewSource(2))
	others := append([]string{"2", "01", "100", "a", "nor", "A.r", "&", "b.s."}, fewTokens...)
	var n count
	for range 20000 {
		x := speller{r: r}
		x.any(random(r, 2+r.Intn(4)))
		l := x.said
		for range 1 + r.Intn(2) {
			i := r.Intn(len(l))
			switch r.Intn(4) {
			case 0:
				l = slices.Delete(l, i, i+1)
			case 1:
				l = slices.Insert(l, i, others[r.Intn(len(others))])
			case 2:
				l = slices.Insert(l, i, l[i])
			case 3:
				l[i] = others[r.Intn(len(others))]
			}
			if len(l) == 0 {
				break
			}
		}
		n.check(t, laid(r, l))
	}
	if n.well < 500 || n.form < 5000 || n.long < 20 {
		t.Errorf("%+v", n)
	}
}

// P12.2: any bytes at all.
func TestParseBytes(t *testing.T) {
	r := rand.New(rand.NewSource(3))
	var n count
	for range 20000 {
		b := make([]byte, r.Intn(2100))
		r.Read(b)
		n.check(t, string(b))
	}
	if n.form < 10000 || n.long < 100 {
		t.Errorf("%+v", n)
	}
}

// P12.1: random ones, right or not: the text is empty just where they aren't.
func TestTextRandom(t *testing.T) {
	r := rand.New(rand.NewSource(4))
	empty := 0
	for range 20000 {
		f := random(r, 2+r.Intn(6))
		s := parse.Text(f)
		if (s != "") != formula.Right(f) {
			t.Fatalf("%v: %q", f, s)
		}
		if s == "" {
			empty++
		} else if want := toldAs(f); s != want {
			t.Fatalf("%q, not %q", s, want)
		}
	}
	if empty < 100 || empty > 15000 {
		t.Errorf("%d are empty", empty)
	}
}

// toldAs is the text by the document's words.
func toldAs(f api.Formula) string {
	s := f.Role.Owner + "." + f.Role.Word
	switch f.Op {
	case api.All:
		s = "all("
	case api.Some:
		s = "some("
	case api.AtK:
		s = "at " + string(appendInt(nil, f.K)) + "("
	}
	for i, kid := range f.Kids {
		if i > 0 {
			s += ", "
		}
		s += toldAs(kid)
	}
	if f.Op != api.Atom {
		s += ")"
	}
	return s
}
