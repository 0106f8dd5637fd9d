package vault_test

import (
	"bytes"
	"slices"
	"testing"

	"entente/api"
	"entente/vault"
)

// spoil all bytes, those of the spare room too.
func spoil(b []byte) {
	b = b[:cap(b)]
	for i := range b {
		b[i] ^= 0x55
	}
}

// spoilCreds of a list, those of the spare room too.
func spoilCreds(l []api.Cred) {
	l = l[:cap(l)]
	for i := range l {
		l[i] = api.Cred{Kind: 9}
	}
}

// A vault of nil: ErrNil, whatever is handed in, and nothing.
func TestNil(t *testing.T) {
	var v *vault.Vault
	for _, s := range append(all(t), api.Signed{}, api.Signed{Cred: wrong[2], Tag: make([]byte, 8)}, api.Signed{Cred: all(t)[0].Cred}) {
		if e := v.Add(s); e != api.ErrNil {
			t.Errorf("add %v: %v", s, e)
		}
		if e := v.Drop(s.Cred); e != api.ErrNil {
			t.Errorf("drop %v: %v", s, e)
		}
		if !none(v.Get(s.Cred)) {
			t.Errorf("%v is held", s)
		}
	}
	if v.Clone() != nil {
		t.Error("a clone")
	}
	agrees(t, v, 0, nil)
}

// A vault keeps nothing of a tag that was added, and changes nothing of it.
func TestAddKeepsNothing(t *testing.T) {
	v := empty(t, len(texts))
	for _, s := range all(t) {
		b := append(bytes.Clone(s.Tag), "spare"...)
		if e := v.Add(api.Signed{Cred: s.Cred, Tag: b[:8]}); e != api.OK {
			t.Errorf("%v: %v", s, e)
		}
		if !bytes.Equal(b, append(bytes.Clone(s.Tag), "spare"...)) {
			t.Errorf("%v: now %q", s, b)
		}
		spoil(b)
	}
	agrees(t, v, len(texts), all(t))
}

// The tags that it answers are new each time, the spare room too.
func TestTagsNew(t *testing.T) {
	v := filled(t, 2, all(t)...)
	c := v.Clone()
	for _, s := range all(t) {
		one, _ := v.Get(s.Cred)
		two, _ := v.Get(s.Cred)
		spoil(one.Tag)
		if !same(two, s) {
			t.Errorf("%v: now %v", s, two)
		}
	}
	agrees(t, v, len(texts)+2, all(t))
	it := v.All()
	other := slices.Collect(it)
	for s := range it {
		spoil(s.Tag)
	}
	if got := slices.Collect(it); !slices.EqualFunc(got, all(t), same) || !slices.EqualFunc(other, all(t), same) {
		t.Errorf("%v, %v", got, other)
	}
	agrees(t, v, len(texts)+2, all(t))
	agrees(t, c, len(texts)+2, all(t))
	for s := range c.All() {
		spoil(s.Tag)
	}
	agrees(t, v, len(texts)+2, all(t))
	agrees(t, c, len(texts)+2, all(t))
}

// The lists that it answers are new each time, the spare room too.
func TestListsNew(t *testing.T) {
	v := filled(t, 2, all(t)...)
	for range 2 {
		spoilCreds(v.Creds())
		spoilCreds(v.Issuer("a"))
		spoilCreds(v.Subject("a"))
		spoilCreds(v.Word("r"))
		spoilCreds(v.Head(api.Role{Owner: "a", Word: "r"}))
	}
	agrees(t, v, len(texts)+2, all(t))
	agrees(t, v.Clone(), len(texts)+2, all(t))
}

// What was answered stays as it was, whatever is done to the vault then.
func TestAnswersStay(t *testing.T) {
	v := filled(t, 2, all(t)...)
	creds, word := v.Creds(), v.Word("deal")
	got, _ := v.Get(parsed(t, texts[2]))
	for _, s := range all(t) {
		v.Drop(s.Cred)
		v.Add(api.Signed{Cred: s.Cred, Tag: make([]byte, 8)})
	}
	v.Add(signed(t, "zz.deal <- d", 1))
	if !slices.Equal(said(creds), texts) || len(word) != 4 || !same(got, all(t)[2]) {
		t.Errorf("%q, %q, %v", said(creds), said(word), got)
	}
}

// Two vaults know nothing of one another.
func TestApart(t *testing.T) {
	v, w := empty(t, 30), empty(t, 20)
	for i, s := range all(t) {
		if i%2 == 0 {
			v.Add(s)
		} else {
			w.Add(s)
		}
	}
	var even, odd []api.Signed
	for i, s := range all(t) {
		if i%2 == 0 {
			even = append(even, s)
		} else {
			odd = append(odd, s)
		}
	}
	agrees(t, v, 30, even)
	agrees(t, w, 20, odd)
}
