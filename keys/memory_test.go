package keys_test

import (
	"bytes"
	"slices"
	"testing"

	"entente/api"
	"entente/cred"
)

// spoil all bytes, those of the spare room too.
func spoil(b []byte) {
	b = b[:cap(b)]
	for i := range b {
		b[i] ^= 0x55
	}
}

// room lays bytes into some that have spare room behind them.
func room(b []byte) []byte {
	return append(bytes.Clone(b), "spare"...)[:len(b)]
}

// A registry keeps nothing of the keys that it was made of, and changes nothing of them.
func TestNewKeepsNothing(t *testing.T) {
	var l []api.Key
	for _, k := range held() {
		l = append(l, api.Key{Who: k.Who, Key: room(k.Key)})
	}
	l = append(l, api.Key{Who: "spare", Key: []byte("1")})[:len(l)]
	g := registry(t, l...)
	for i, k := range held() {
		if l[i].Who != k.Who || string(l[i].Key[:len(k.Key)+5]) != string(k.Key)+"spare" {
			t.Errorf("%d: now %v", i, l[i])
		}
		spoil(l[i].Key)
		l[i] = api.Key{}
	}
	if l[:len(l)+1][len(l)].Who != "spare" {
		t.Error("the spare room is changed")
	}
	for _, x := range signed(t) {
		if s, e := g.Sign(x.Cred); !same(s, x) || e != api.OK {
			t.Errorf("%v: %v, %v", x, s, e)
		}
	}
	if got := g.Names(); !slices.Equal(got, []string{"a", longest, "ann", "bob", "cy"}) {
		t.Errorf("%q", got)
	}
}

// What it answers is new each time, the spare room too.
func TestAnswersNew(t *testing.T) {
	g := registry(t, held()...)
	names := g.Names()
	names = names[:cap(names)]
	for i := range names {
		names[i] = "zz"
	}
	if got := g.Names(); !slices.Equal(got, []string{"a", longest, "ann", "bob", "cy"}) {
		t.Errorf("%q", got)
	}
	for _, x := range signed(t) {
		one, _ := g.Sign(x.Cred)
		two, _ := g.Sign(x.Cred)
		spoil(one.Tag)
		if three, _ := g.Sign(x.Cred); !same(two, x) || !same(three, x) {
			t.Errorf("%v: %v, %v", x, two, three)
		}
	}
	one := g.Good(signed(t)...)
	two := g.Good(signed(t)...)
	one = one[:cap(one)]
	for i := range one {
		one[i] = api.Cred{Kind: 9}
	}
	if !slices.Equal(two, parsed(t, texts...)) || !slices.Equal(g.Good(signed(t)...), two) {
		t.Errorf("%v", two)
	}
}

// Check and Good neither change nor keep what they are handed.
func TestCheckKeepsNothing(t *testing.T) {
	g := registry(t, held()...)
	var l []api.Signed
	for _, x := range signed(t) {
		l = append(l, api.Signed{Cred: x.Cred, Tag: room(x.Tag)})
	}
	slices.Reverse(l)
	l = append(l, api.Signed{Tag: []byte("spare")})[:len(l)]
	for _, x := range l {
		g.Check(x)
	}
	got := g.Good(l...)
	in := signed(t)
	slices.Reverse(in)
	for i, x := range in {
		if !same(l[i], x) || string(l[i].Tag[:13]) != string(x.Tag)+"spare" {
			t.Errorf("%d: now %v", i, l[i])
		}
	}
	if string(l[:len(l)+1][len(l)].Tag) != "spare" {
		t.Error("the spare room is changed")
	}
	for i := range l {
		spoil(l[i].Tag)
		l[i] = api.Signed{}
	}
	if !slices.Equal(got, parsed(t, texts...)) {
		t.Errorf("%v", got)
	}
}

// A registry answers the same whatever it was asked ahead, and each registry by its own keys.
func TestAskedAgain(t *testing.T) {
	g := registry(t, held()...)
	h := registry(t, api.Key{Who: "ann", Key: []byte("other")})
	for _, x := range signed(t) {
		want := g.Check(x)
		for _, c := range wrong {
			g.Sign(c)
			h.Check(api.Signed{Cred: c, Tag: x.Tag})
		}
		other, e := h.Sign(x.Cred)
		if g.Check(x) != want || want != api.OK {
			t.Errorf("%v: %v", x, g.Check(x))
		}
		if (e == api.OK) != (x.Head.Owner == "ann") {
			t.Errorf("%v: %v", x, e)
		}
		if e == api.OK && (g.Check(other) != api.ErrTag || h.Check(x) != api.ErrTag || !bytes.Equal(other.Tag, sum([]byte("other"), cred.Bytes(x.Cred)))) {
			t.Errorf("%v with another key: %v", x, other)
		}
	}
}
