package keys_test

import (
	"bytes"
	"encoding/binary"
	"hash/fnv"
	"slices"
	"strings"
	"testing"

	"entente/api"
	"entente/cred"
	"entente/keys"
)

// longest name: of 16 signs.
const longest = "abcdefghijklmn-9"

// others that are no names.
var others = []string{"", ".", "0", "1a", "-a", "A", "aB", "a b", "a.", "a.b", "a\x00", "é", "a\xff", longest + "a", strings.Repeat("a", 272)}

// held keys, of all lengths that matter; bob's and cy's are the same.
func held() []api.Key {
	return []api.Key{
		{Who: "cy", Key: []byte("same")},
		{Who: "bob", Key: []byte("same")},
		{Who: "ann", Key: []byte{0}},
		{Who: longest, Key: []byte(strings.Repeat("k", 32))},
		{Who: "a", Key: []byte("\xff\x00\x80")},
	}
}

// texts of right credentials of those that have keys, by their bytes: rising.
var texts = []string{
	"a.r <- d",
	"cy.r <- ann",
	"ann.r <- bob",
	longest + ".r <- zed",
	"ann.r <- a.s",
	"bob.r <- zed.s",
	"a.r <- a.s.t",
	"bob.deal <- bob.partner.member",
	"ann.r <- a.b & b.a",
	"bob.r <- zed.s & zed.t",
}

// foreign: texts of right credentials of those that have none, though who they speak of has.
var foreign = []string{"d.r <- ann", "dd.r <- ann.s", "b.r <- b.s.ann", "an.r <- ann.s & bob.t", "anna.r <- ann"}

// wrong credentials: of those that have keys, of those that haven't, and of none.
var wrong = []api.Cred{
	{},
	{Kind: 1},
	{Kind: 1, Head: api.Role{Owner: "ann", Word: "r"}},
	{Kind: 1, Head: api.Role{Owner: "ann", Word: "R"}, Who: "bob"},
	{Kind: 1, Head: api.Role{Owner: "ann", Word: "r"}, Who: "bob", Word2: "t"},
	{Kind: 1, Head: api.Role{Owner: "dd", Word: "r"}, Who: "Bob"},
	{Kind: 1, Head: api.Role{Owner: "Ann", Word: "r"}, Who: "bob"},
	{Kind: 2, Head: api.Role{Owner: "ann", Word: "r"}, Who: "bob"},
	{Kind: 3, Head: api.Role{Owner: "ann", Word: "r"}, B: api.Role{Owner: "bob", Word: "s"}, Word2: "t"},
	{Kind: 4, Head: api.Role{Owner: "bob", Word: "r"}, B: api.Role{Owner: "zed", Word: "t"}, C: api.Role{Owner: "zed", Word: "s"}},
	{Kind: 5, Head: api.Role{Owner: "ann", Word: "r"}, Who: "bob"},
	{Kind: -1, Head: api.Role{Owner: "ann", Word: "r"}, Who: "bob"},
}

// parsed credentials of texts.
func parsed(t *testing.T, l ...string) []api.Cred {
	t.Helper()
	var creds []api.Cred
	for _, s := range l {
		c, ok := cred.Parse(s)
		if !ok {
			t.Fatalf("%q is no credential", s)
		}
		creds = append(creds, c)
	}
	return creds
}

// registry of keys that are right.
func registry(t *testing.T, l ...api.Key) *keys.Registry {
	t.Helper()
	g, e := keys.New(l...)
	if g == nil || e != api.OK {
		t.Fatalf("%v: %v", l, e)
	}
	return g
}

// keyOf answers the key that somebody has.
func keyOf(who string) []byte {
	for _, k := range held() {
		if k.Who == who {
			return k.Key
		}
	}
	return nil
}

// sum of bytes with a key, by another one's FNV-1a.
func sum(key, b []byte) []byte {
	h := fnv.New64a()
	h.Write([]byte{byte(len(key))})
	h.Write(key)
	h.Write(b)
	h.Write(key)
	return binary.BigEndian.AppendUint64(nil, h.Sum64())
}

// signed credentials of those that have keys, with their tags.
func signed(t *testing.T) []api.Signed {
	t.Helper()
	var l []api.Signed
	for _, c := range parsed(t, texts...) {
		l = append(l, api.Signed{Cred: c, Tag: sum(keyOf(c.Head.Owner), cred.Bytes(c))})
	}
	return l
}

// same tells whether two are alike.
func same(a, b api.Signed) bool {
	return a.Cred == b.Cred && bytes.Equal(a.Tag, b.Tag)
}

// P6.1: right keys of any length that a key has, also one that two have.
func TestNew(t *testing.T) {
	for n := 1; n <= 32; n++ {
		k := api.Key{Who: "ann", Key: bytes.Repeat([]byte{byte(n)}, n)}
		c := parsed(t, "ann.r <- bob")[0]
		s, e := registry(t, k).Sign(c)
		if e != api.OK || !bytes.Equal(s.Tag, sum(k.Key, cred.Bytes(c))) {
			t.Errorf("a key of %d bytes: %v, %v", n, s, e)
		}
	}
	registry(t, held()...)
}

// P6.1: what is wrong about one key.
func TestNewWrong(t *testing.T) {
	for _, who := range others {
		for n := range 40 {
			if g, e := keys.New(api.Key{Who: who, Key: make([]byte, n)}); g != nil || e != api.ErrName {
				t.Errorf("%q with %d bytes: %v", who, n, e)
			}
		}
	}
	for _, n := range []int{0, 33, 34, 64, 256, 257, 288, 65537} {
		if g, e := keys.New(api.Key{Who: "ann", Key: make([]byte, n)}); g != nil || e != api.ErrKey {
			t.Errorf("%d bytes: %v", n, e)
		}
	}
	if g, e := keys.New(api.Key{Who: "ann"}); g != nil || e != api.ErrKey {
		t.Errorf("a nil key: %v", e)
	}
	for _, k := range held() {
		for _, b := range [][]byte{k.Key, []byte("other")} {
			if g, e := keys.New(append(held(), api.Key{Who: k.Who, Key: b})...); g != nil || e != api.ErrTwice {
				t.Errorf("%s once more: %v", k.Who, e)
			}
		}
	}
}

// P6.1: the first key that is wrong is told, and of that the name ahead of the key, and this ahead of one that is there.
func TestNewFirstFault(t *testing.T) {
	ann := api.Key{Who: "ann", Key: []byte("1")}
	faults := []struct {
		k api.Key
		e api.Errno
	}{
		{api.Key{Who: "Ann", Key: []byte("1")}, api.ErrName},
		{api.Key{Who: "Ann"}, api.ErrName},
		{api.Key{Who: "bob"}, api.ErrKey},
		{api.Key{Who: "bob", Key: make([]byte, 33)}, api.ErrKey},
		{api.Key{Who: "ann"}, api.ErrKey},
		{api.Key{Who: "ann", Key: make([]byte, 33)}, api.ErrKey},
		{ann, api.ErrTwice},
		{api.Key{Who: "ann", Key: []byte("2")}, api.ErrTwice},
	}
	for i, first := range faults {
		for k, second := range faults {
			for _, l := range [][]api.Key{{ann, first.k, second.k}, {ann, {Who: "cy", Key: []byte("1")}, first.k, {Who: "bob", Key: []byte("1")}, second.k}} {
				if g, e := keys.New(l...); g != nil || e != first.e {
					t.Errorf("%d ahead of %d: %v, not %v", i, k, e, first.e)
				}
			}
		}
	}
}

// P6.1: the names that have keys, rising, however they were handed in.
func TestNames(t *testing.T) {
	want := []string{"a", longest, "ann", "bob", "cy"}
	l := held()
	for range l {
		if got := registry(t, l...).Names(); !slices.Equal(got, want) {
			t.Errorf("%v: %q", l, got)
		}
		l = append(l[1:len(l):len(l)], l[0])
	}
	b := []byte("k")
	g := registry(t, api.Key{Who: "aa", Key: b}, api.Key{Who: "b", Key: b}, api.Key{Who: "a0", Key: b}, api.Key{Who: "a-", Key: b}, api.Key{Who: "a", Key: b})
	if got := g.Names(); !slices.Equal(got, []string{"a", "a-", "a0", "aa", "b"}) {
		t.Errorf("%q", got)
	}
	// The names tell nothing of those that only were spoken of.
	g.Sign(parsed(t, "dd.r <- a")[0])
	g.Check(api.Signed{Cred: parsed(t, "dd.r <- a")[0]})
	if got := g.Names(); !slices.Equal(got, []string{"a", "a-", "a0", "aa", "b"}) {
		t.Errorf("once more: %q", got)
	}
}

// P6.1: a registry of no keys.
func TestNoKeys(t *testing.T) {
	for _, g := range []*keys.Registry{registry(t), registry(t, nil...), registry(t, []api.Key{}...)} {
		if len(g.Names()) != 0 || len(g.Good(signed(t)...)) != 0 {
			t.Errorf("%q, %v", g.Names(), g.Good(signed(t)...))
		}
		for _, x := range signed(t) {
			if s, e := g.Sign(x.Cred); !same(s, api.Signed{}) || e != api.ErrKey {
				t.Errorf("%v: %v", s, e)
			}
			if e := g.Check(x); e != api.ErrKey {
				t.Errorf("%v: %v", x, e)
			}
		}
		for _, c := range wrong {
			if s, e := g.Sign(c); !same(s, api.Signed{}) || e != api.ErrForm {
				t.Errorf("%v: %v, %v", c, s, e)
			}
		}
	}
}

// P6.1: it is signed with its issuer's key.
func TestSign(t *testing.T) {
	g := registry(t, held()...)
	for _, want := range signed(t) {
		if s, e := g.Sign(want.Cred); !same(s, want) || e != api.OK {
			t.Errorf("%v: %v, %v", want, s, e)
		}
	}
}

// P6.1: what can't be signed; beside an error there is none.
func TestSignNot(t *testing.T) {
	g := registry(t, held()...)
	for _, c := range wrong {
		if s, e := g.Sign(c); !same(s, api.Signed{}) || e != api.ErrForm {
			t.Errorf("%v: %v, %v", c, s, e)
		}
	}
	for _, c := range parsed(t, foreign...) {
		if s, e := g.Sign(c); !same(s, api.Signed{}) || e != api.ErrKey {
			t.Errorf("%v: %v, %v", c, s, e)
		}
	}
}

// P6.1, P6.3: what is signed is checked.
func TestCheck(t *testing.T) {
	g := registry(t, held()...)
	for _, x := range signed(t) {
		if e := g.Check(x); e != api.OK {
			t.Errorf("%v: %v", x, e)
		}
		if s, _ := g.Sign(x.Cred); g.Check(s) != api.OK {
			t.Errorf("%v: %v", s, g.Check(s))
		}
	}
}

// P6.1: one that isn't right is told ahead of one whose issuer has no key, and that ahead of the tag.
func TestCheckNot(t *testing.T) {
	g := registry(t, held()...)
	for _, c := range wrong {
		key := keyOf(c.Head.Owner)
		for _, b := range [][]byte{nil, {}, make([]byte, 8), sum(key, cred.Bytes(c))} {
			if e := g.Check(api.Signed{Cred: c, Tag: b}); e != api.ErrForm {
				t.Errorf("%v with %x: %v", c, b, e)
			}
		}
	}
	for _, c := range parsed(t, foreign...) {
		for _, b := range [][]byte{nil, {}, make([]byte, 8), make([]byte, 9), sum(nil, cred.Bytes(c)), sum([]byte("same"), cred.Bytes(c))} {
			if e := g.Check(api.Signed{Cred: c, Tag: b}); e != api.ErrKey {
				t.Errorf("%v with %x: %v", c, b, e)
			}
		}
	}
}

// P6.1: tags that are unlike in one bit, too short, too long, or none.
func TestCheckTag(t *testing.T) {
	g := registry(t, held()...)
	for _, x := range signed(t) {
		l := [][]byte{nil, {}, make([]byte, 8), slices.Concat(x.Tag, x.Tag), append(slices.Clone(x.Tag), 0), x.Tag[1:]}
		for bit := range 64 {
			b := slices.Clone(x.Tag)
			b[bit/8] ^= 1 << (bit % 8)
			l = append(l, b)
		}
		for n := range 8 {
			l = append(l, x.Tag[:n])
		}
		turned := slices.Clone(x.Tag)
		slices.Reverse(turned)
		for _, b := range append(l, turned) {
			if e := g.Check(api.Signed{Cred: x.Cred, Tag: b}); e != api.ErrTag {
				t.Errorf("%v with %x: %v", x, b, e)
			}
		}
	}
}

// P6.1, P6.3: a tag is its own credential's alone.
func TestCheckOtherCred(t *testing.T) {
	g := registry(t, held()...)
	for _, x := range signed(t) {
		for _, y := range signed(t) {
			want := api.ErrTag
			if x.Cred == y.Cred {
				want = api.OK
			}
			if e := g.Check(api.Signed{Cred: x.Cred, Tag: y.Tag}); e != want {
				t.Errorf("%v with the tag of %v: %v", x, y, e)
			}
		}
	}
}

// P6.3: by no other key that is unlike it; by the same one in another registry.
func TestCheckOtherKey(t *testing.T) {
	c := parsed(t, "ann.r <- bob")[0]
	l := []string{"k", "K", "kk", "k\x00", "\x00k", "\x00", "\x01", strings.Repeat("k", 31), strings.Repeat("k", 32), strings.Repeat("k", 31) + "l"}
	for i, a := range l {
		s, e := registry(t, api.Key{Who: "ann", Key: []byte(a)}).Sign(c)
		if e != api.OK {
			t.Fatal(e)
		}
		for k, b := range l {
			g := registry(t, api.Key{Who: "cy", Key: []byte(a)}, api.Key{Who: "ann", Key: []byte(b)}, api.Key{Who: "bob", Key: []byte(a)})
			if e := g.Check(s); (e == api.OK) != (i == k) || i != k && e != api.ErrTag {
				t.Errorf("%q and %q: %v", a, b, e)
			}
		}
	}
}

// P6.1: a credential of bob's, signed with ann's key.
func TestOthersKey(t *testing.T) {
	g := registry(t, held()...)
	for _, c := range parsed(t, texts...) {
		for _, k := range held() {
			want := api.ErrTag
			if bytes.Equal(k.Key, keyOf(c.Head.Owner)) {
				want = api.OK
			}
			if e := g.Check(api.Signed{Cred: c, Tag: sum(k.Key, cred.Bytes(c))}); e != want {
				t.Errorf("%v with %s's key: %v, not %v", c, k.Who, e, want)
			}
		}
	}
}

// P6.1: of those that Check takes, rising, each once, whatever the order.
func TestGood(t *testing.T) {
	g := registry(t, held()...)
	var bad []api.Signed
	for _, x := range signed(t) {
		bad = append(bad, api.Signed{Cred: x.Cred}, api.Signed{Cred: x.Cred, Tag: x.Tag[:7]}, api.Signed{Cred: x.Cred, Tag: make([]byte, 8)})
	}
	for _, c := range slices.Concat(wrong, parsed(t, foreign...)) {
		bad = append(bad, api.Signed{Cred: c, Tag: sum(keyOf(c.Head.Owner), cred.Bytes(c))})
	}
	want := parsed(t, texts...)
	good := signed(t)
	turned := signed(t)
	slices.Reverse(turned)
	for i, l := range [][]api.Signed{good, turned, slices.Concat(turned, good), slices.Concat(bad, turned, bad, good, bad)} {
		if got := g.Good(l...); !slices.Equal(got, want) {
			t.Errorf("%d: %v", i, got)
		}
	}
	for i := range good {
		if got := g.Good(slices.Concat(bad, good[i:], good[:i])...); !slices.Equal(got, want) {
			t.Errorf("from place %d on: %v", i, got)
		}
		if got := g.Good(slices.Concat(good[:i], bad, good[i+1:])...); !slices.Equal(got, slices.Concat(want[:i], want[i+1:])) {
			t.Errorf("without %v: %v", good[i], got)
		}
	}
	for i, l := range [][]api.Signed{nil, {}, {{}}, bad} {
		if got := g.Good(l...); len(got) != 0 {
			t.Errorf("none of %d: %v", i, got)
		}
	}
}

// P6.1: of a nil registry: ErrNil, none.
func TestNil(t *testing.T) {
	var g *keys.Registry
	if got := g.Names(); len(got) != 0 {
		t.Errorf("%q", got)
	}
	l := signed(t)
	for _, c := range slices.Concat(wrong, parsed(t, foreign...)) {
		l = append(l, api.Signed{Cred: c}, api.Signed{Cred: c, Tag: make([]byte, 8)})
	}
	for _, x := range l {
		if s, e := g.Sign(x.Cred); !same(s, api.Signed{}) || e != api.ErrNil {
			t.Errorf("%v: %v, %v", x, s, e)
		}
		if e := g.Check(x); e != api.ErrNil {
			t.Errorf("%v: %v", x, e)
		}
	}
	if got := g.Good(l...); len(got) != 0 || len(g.Good()) != 0 {
		t.Errorf("%v", got)
	}
}
