package cred_test

import (
	"slices"
	"strings"
	"testing"

	"entente/api"
	"entente/cred"
)

// sign of where two places lie.
func sign(i, k int) int {
	switch {
	case i < k:
		return -1
	case i > k:
		return 1
	}
	return 0
}

// P5.3, P5.4: the order is that of the bytes.
func TestCompare(t *testing.T) {
	for i, a := range known {
		for k, b := range known {
			want := sign(i, k)
			if strings.Compare(a.b, b.b) != want {
				t.Fatalf("%q and %q lie wrong in the list", a.text, b.text)
			}
			if got := cred.Compare(a.c, b.c); got != want {
				t.Errorf("%q and %q: %d, not %d", a.text, b.text, got, want)
			}
		}
	}
}

// P5.3: one that isn't right has no bytes: it is ahead of each right one, and beside each other such.
func TestCompareWrong(t *testing.T) {
	l := wrong()
	for _, a := range l {
		for _, b := range right() {
			if cred.Compare(a, b) != -1 || cred.Compare(b, a) != 1 {
				t.Errorf("%v and %v: %d, %d", a, b, cred.Compare(a, b), cred.Compare(b, a))
			}
		}
	}
	for i := range l {
		for _, k := range []int{0, i, len(l) - 1 - i} {
			if got := cred.Compare(l[i], l[k]); got != 0 {
				t.Errorf("%v and %v: %d", l[i], l[k], got)
			}
		}
	}
}

// P5.4: of any three the order is one.
func TestOrderIsOne(t *testing.T) {
	l := append(right(), wrong()[:20]...)
	for _, a := range l {
		for _, b := range l {
			if cred.Compare(a, b) != -cred.Compare(b, a) {
				t.Errorf("%v and %v: not the same both ways", a, b)
			}
			for _, c := range l {
				if cred.Compare(a, b) <= 0 && cred.Compare(b, c) <= 0 && cred.Compare(a, c) > 0 {
					t.Errorf("%v, %v and %v: not in line", a, b, c)
				}
			}
		}
	}
}

// riffle lays every second one of a list behind the others.
func riffle(l []api.Cred) []api.Cred {
	var halves [2][]api.Cred
	for i, c := range l {
		halves[i%2] = append(halves[i%2], c)
	}
	return slices.Concat(halves[1], halves[0])
}

// P5.3: the right ones of a list, rising, each once, whatever its order.
func TestSet(t *testing.T) {
	want := right()
	for _, l := range [][]api.Cred{want, slices.Concat(want, want), slices.Concat(wrong(), want, want[3:20], wrong())} {
		for range 20 {
			if got := cred.Set(l...); !slices.Equal(got, want) {
				t.Fatalf("%v: %v", l, got)
			}
			l = riffle(l)
		}
	}
	for i := range want {
		if got := cred.Set(slices.Concat(want[i:], want[:i])...); !slices.Equal(got, right()) {
			t.Errorf("from place %d on, then those ahead: %v", i, got)
		}
	}
}

// P5.3: lists that have no right one.
func TestSetOfNone(t *testing.T) {
	for _, l := range [][]api.Cred{nil, {}, {{}}, wrong()} {
		if got := cred.Set(l...); len(got) != 0 {
			t.Errorf("%d wrong ones: %v", len(l), got)
		}
	}
	if len(cred.Set()) != 0 {
		t.Error("the set of nothing")
	}
}

// P5.3: of all small lists, the set has just what right ones the list has, and the list has what it has.
func TestAllSmallLists(t *testing.T) {
	all := []api.Cred{both("a.r", "b.s", "c.t"), member("b.r", "z"), {}, include("a.r", "b.s"), both("a.r", "c.t", "b.s"), member("b.r", "z"), member("aa.a", "a"), {Kind: 1, Head: of("a.r")}}
	for bits := range 1 << len(all) {
		var l []api.Cred
		for i, c := range all {
			if bits>>i&1 == 1 {
				l = append(l, c)
			}
		}
		set := cred.Set(l...)
		for i, c := range set {
			if !cred.Right(c) || !slices.Contains(l, c) || i > 0 && cred.Compare(set[i-1], c) != -1 {
				t.Errorf("%v: %v", l, set)
			}
		}
		for _, c := range all {
			want := slices.Contains(l, c)
			if cred.Has(l, c) != want {
				t.Errorf("%v: %v is in it: not %v", l, c, want)
			}
			want = want && cred.Right(c)
			if slices.Contains(set, c) != want || cred.Has(set, c) != want {
				t.Errorf("%v: %v is in its set: not %v", l, c, want)
			}
		}
	}
}

// P5.3: what a list has, however it is ordered, right or not.
func TestHas(t *testing.T) {
	in := right()
	slices.Reverse(in)
	l := slices.Concat(wrong(), in, in)
	for _, c := range l {
		if !cred.Has(l, c) || !cred.Has([]api.Cred{c}, c) {
			t.Errorf("%v isn't there", c)
		}
	}
}

// P5.3: what a list hasn't, right or not.
func TestHasNot(t *testing.T) {
	l := right()
	for _, c := range wrong() {
		if cred.Has(l, c) || cred.Has(nil, c) || cred.Has([]api.Cred{}, c) {
			t.Errorf("%v is there", c)
		}
	}
	for i, c := range l {
		rest := slices.Concat(wrong(), l[:i], l[i+1:])
		if cred.Has(rest, c) || cred.Has(nil, c) {
			t.Errorf("%v is there", c)
		}
	}
	// Unlike wrong ones, though neither has bytes.
	if cred.Has([]api.Cred{{Kind: 9}}, api.Cred{}) || cred.Has([]api.Cred{linked("a.r", "b.s", "t")}, linked("a.r", "c.s", "t")) {
		t.Error("a wrong one is there by its bytes alone")
	}
}
