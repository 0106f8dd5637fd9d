package formula_test

import (
	"bytes"
	"math/rand"
	"slices"
	"testing"

	"entente/api"
	"entente/formula"
	"entente/role"
	"entente/tape"
)

// few roles, so that formulas have some of them more than once.
var few = []string{"a.r", "a.s", "b.r", "b.s", "c.t", "d-1.u"}

// random right formula of at most so many levels, and, with luck, few enough nodes.
func random(r *rand.Rand, levels int) api.Formula {
	if levels < 2 || r.Intn(3) == 0 {
		return atom(few[r.Intn(len(few))])
	}
	var l []api.Formula
	for range r.Intn(5) {
		l = append(l, random(r, levels-1))
	}
	switch {
	case len(l) > 0 && r.Intn(3) == 0:
		return atK(r.Intn(len(l)+1), l...)
	case r.Intn(2) == 0:
		return all(l...)
	}
	return some(l...)
}

// randomRight is a random formula of few enough nodes.
func randomRight(r *rand.Rand) api.Formula {
	for {
		if f := random(r, 6); count(f) <= 64 {
			return f
		}
	}
}

// count of nodes, by the words alone.
func count(f api.Formula) int {
	n := 1
	for _, kid := range f.Kids {
		n += count(kid)
	}
	return n
}

// levels of a formula, by the words alone.
func levels(f api.Formula) int {
	n := 0
	for _, kid := range f.Kids {
		n = max(n, levels(kid))
	}
	return n + 1
}

// isRight by the document's words, for formulas that end.
func isRight(f api.Formula) bool {
	return count(f) <= 64 && levels(f) <= 6 && fits(f)
}

// fits by the document's words: node by node.
func fits(f api.Formula) bool {
	noRole, n := f.Role == api.Role{}, len(f.Kids)
	for _, kid := range f.Kids {
		if !fits(kid) {
			return false
		}
	}
	return f.Op == 1 && role.Right(f.Role) && n == 0 && f.K == 0 ||
		(f.Op == 2 || f.Op == 3) && noRole && n <= 8 && f.K == 0 ||
		f.Op == 4 && noRole && n >= 1 && n <= 8 && f.K >= 0 && f.K <= n
}

// isTrue by the document's words, of a right one.
func isTrue(f api.Formula, roles []api.Role) bool {
	are := func(kid api.Formula) bool { return isTrue(kid, roles) }
	switch f.Op {
	case api.Atom:
		return slices.Contains(roles, f.Role)
	case api.All:
		return !slices.ContainsFunc(f.Kids, func(kid api.Formula) bool { return !are(kid) })
	case api.Some:
		return slices.ContainsFunc(f.Kids, are)
	}
	return len(slices.DeleteFunc(slices.Clone(f.Kids), func(kid api.Formula) bool { return !are(kid) })) >= f.K
}

// bytesOf a right one, by the document's words.
func bytesOf(f api.Formula) []byte {
	b := []byte{byte(f.Op)}
	if f.Op == api.Atom {
		b = append(append(b, byte(len(f.Role.Owner))), f.Role.Owner...)
		return append(append(b, byte(len(f.Role.Word))), f.Role.Word...)
	}
	if f.Op == api.AtK {
		b = append(b, byte(f.K))
	}
	b = append(b, byte(len(f.Kids)))
	for _, kid := range f.Kids {
		b = append(b, bytesOf(kid)...)
	}
	return b
}

// subset of the few roles, by the bits of a number.
func subset(bits int) []api.Role {
	var l []api.Role
	for i, s := range few {
		if bits>>i&1 == 1 {
			l = append(l, of(s))
		}
	}
	return l
}

// P11.1: random ones, and ones that are changed in one part, are right by the document's words, or aren't.
func TestRightRandom(t *testing.T) {
	r := rand.New(rand.NewSource(1))
	rights, wrongs := 0, 0
	for range 300 {
		f := randomRight(r)
		for _, x := range append(changed(f), f, all(f), all(f, f), all(f, f, f, f)) {
			want := isRight(x)
			if formula.Right(x) != want {
				t.Fatalf("%v: not %v", x, want)
			}
			if n, d := formula.Size(x); n != count(x) || d != levels(x) {
				t.Fatalf("%v: %d, %d", x, n, d)
			}
			if want {
				rights++
			} else {
				wrongs++
			}
		}
	}
	if rights < 1000 || wrongs < 1000 {
		t.Errorf("%d are right, %d aren't", rights, wrongs)
	}
}

// P11.1: random ones are true by the document's words, of each set of roles; and the Atoms are a set.
func TestTrueRandom(t *testing.T) {
	r := rand.New(rand.NewSource(2))
	for range 500 {
		f := randomRight(r)
		for bits := range 1 << len(few) {
			roles := subset(bits)
			is := func(r api.Role) bool { return slices.Contains(roles, r) }
			if want := isTrue(f, roles); formula.True(f, is) != want {
				t.Fatalf("%v of %v: not %v", f, roles, want)
			}
			// Roles that it doesn't have are of no account.
			atoms := formula.Atoms(f)
			own := func(r api.Role) bool { return is(r) || !slices.Contains(atoms, r) }
			if formula.True(f, own) != formula.True(f, is) {
				t.Fatalf("%v of %v: by others it isn't as it was", f, roles)
			}
		}
	}
}

// P11.3: with more roles it stays true.
func TestMonotone(t *testing.T) {
	r := rand.New(rand.NewSource(3))
	for range 500 {
		f := randomRight(r)
		for bits := range 1 << len(few) {
			if !formula.True(f, func(x api.Role) bool { return slices.Contains(subset(bits), x) }) {
				continue
			}
			for more := range len(few) {
				roles := subset(bits | 1<<more)
				if !formula.True(f, func(x api.Role) bool { return slices.Contains(roles, x) }) {
					t.Fatalf("%v isn't true of %v any more", f, roles)
				}
			}
		}
	}
}

// P11.2, P11.3: random ones have the document's bytes, are got of them, and stand in their order.
func TestBytesRandom(t *testing.T) {
	r := rand.New(rand.NewSource(4))
	last := all()
	for range 3000 {
		f := randomRight(r)
		b := bytesOf(f)
		var p tape.Pen
		if !formula.Put(&p, f) || !bytes.Equal(p.Bytes(), b) {
			t.Fatalf("%v: %q, not %q", f, p.Bytes(), b)
		}
		x, left, e := got(string(b))
		if !formula.Same(x, f) || left != 0 || e != api.OK {
			t.Fatalf("%v: %v, %v", f, x, e)
		}
		want := bytes.Compare(b, bytesOf(last))
		if formula.Compare(f, last) != want || formula.Compare(last, f) != -want || formula.Same(f, last) != (want == 0) {
			t.Fatalf("%v and %v: not %d", f, last, want)
		}
		last = f
	}
}

// P11.2, P11.3: of bytes that are changed a little: what is got is right, and put so again; else there is nothing.
func TestGetRandom(t *testing.T) {
	r := rand.New(rand.NewSource(5))
	whole := 0
	for range 20000 {
		b := bytesOf(randomRight(r))
		for range 1 + r.Intn(2) {
			b[r.Intn(len(b))] = []byte("\x00\x01\x02\x03\x04\x05\x08\x09ab")[r.Intn(10)]
		}
		f, _, e := got(string(b))
		if e == api.OK {
			whole++
			if !formula.Right(f) || !bytes.Equal(bytesOf(f), b) {
				t.Fatalf("%q: %v", b, f)
			}
		} else if e != api.ErrTrail && !formula.Same(f, api.Formula{}) {
			t.Fatalf("%q: %v beside %v", b, f, e)
		}
	}
	if whole < 1000 || whole > 19000 {
		t.Errorf("%d are got whole", whole)
	}
}
