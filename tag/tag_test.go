package tag_test

import (
	"bytes"
	"encoding/binary"
	"fmt"
	"hash/fnv"
	"testing"

	"entente/tag"
)

// count answers n bytes, each unlike the one ahead of it.
func count(n int) []byte {
	b := make([]byte, n)
	for i := range b {
		b[i] = byte(i*37 + 1)
	}
	return b
}

// lengths of what is tagged: none, few, more than a byte can count, many.
var lengths = []int{0, 1, 2, 7, 8, 9, 31, 32, 33, 255, 256, 257, 2048, 65536}

// P2.1: sums that are known.
func TestSumKnown(t *testing.T) {
	for _, x := range []struct {
		s    string
		want uint64
	}{
		{"", 0xcbf29ce484222325},
		{"\x00", 0xaf63bd4c8601b7df},
		{"a", 0xaf63dc4c8601ec8c},
		{"b", 0xaf63df4c8601f1a5},
		{"foo", 0xdcb27518fed9d577},
		{"foobar", 0x85944171f73967e8},
	} {
		if got := tag.Sum([]byte(x.s)); got != x.want {
			t.Errorf("%q: %x, not %x", x.s, got, x.want)
		}
	}
}

// P2.1: sums of bytes of all values and of many lengths, by another one's FNV-1a.
func TestSumLengths(t *testing.T) {
	for _, n := range lengths {
		h := fnv.New64a()
		h.Write(count(n))
		if got := tag.Sum(count(n)); got != h.Sum64() {
			t.Errorf("of %d bytes: %x, not %x", n, got, h.Sum64())
		}
	}
	for x := range 256 {
		h := fnv.New64a()
		h.Write([]byte{byte(x)})
		if got := tag.Sum([]byte{byte(x)}); got != h.Sum64() {
			t.Errorf("of byte %d: %x, not %x", x, got, h.Sum64())
		}
	}
}

// P2.1: no bytes at all, in each way that they may be handed in.
func TestSumOfNone(t *testing.T) {
	const none = 0xCBF29CE484222325
	for i, got := range []uint64{tag.Sum(), tag.Sum(nil), tag.Sum([]byte{}), tag.Sum(nil, []byte{}, nil), tag.Sum([][]byte{}...), tag.Sum([][]byte(nil)...)} {
		if got != none {
			t.Errorf("%d: %x", i, got)
		}
	}
}

// P2.1: bytes in parts are one behind the other, wherever they are cut.
func TestSumParts(t *testing.T) {
	const want = 0x85944171f73967e8
	b := []byte("foobar")
	for i := range len(b) + 1 {
		for j := i; j <= len(b); j++ {
			if got := tag.Sum(b[:i], b[i:j], nil, b[j:]); got != want {
				t.Errorf("cut at %d and %d: %x", i, j, got)
			}
		}
	}
	if tag.Sum([]byte("bar"), []byte("foo")) == want {
		t.Error("the parts' order tells nothing")
	}
}

// summed is the tag by its words: length, key, bytes, key; the greatest byte first.
func summed(key, b []byte) []byte {
	h := fnv.New64a()
	h.Write([]byte{byte(len(key))})
	h.Write(key)
	h.Write(b)
	h.Write(key)
	return binary.BigEndian.AppendUint64(nil, h.Sum64())
}

// P2.1, P2.2: the tags of right keys, from 1 byte to 32; each is good.
func TestMakeRightKeys(t *testing.T) {
	for n := 1; n <= 32; n++ {
		for _, m := range lengths {
			key, b := count(n), count(m)
			got := tag.Make(key, b)
			if !bytes.Equal(got, summed(key, b)) {
				t.Errorf("a key of %d, %d bytes: %x, not %x", n, m, got, summed(key, b))
			}
			if !tag.Good(key, b, got) {
				t.Errorf("a key of %d, %d bytes: it isn't good", n, m)
			}
		}
	}
}

// P2.1: a key is its bytes, zeros too; nil and empty bytes are one.
func TestMakeZeros(t *testing.T) {
	for n := 1; n <= 32; n++ {
		key := make([]byte, n)
		got := tag.Make(key, nil)
		if !bytes.Equal(got, summed(key, nil)) || !bytes.Equal(got, tag.Make(key, []byte{})) {
			t.Errorf("a key of %d zeros: %x", n, got)
		}
		if !tag.Good(key, nil, got) || !tag.Good(key, []byte{}, got) {
			t.Errorf("a key of %d zeros: it isn't good", n)
		}
	}
}

// P2.1: a tag of known bytes.
func TestMakeKnown(t *testing.T) {
	for _, x := range []struct{ key, b, want string }{
		{"key", "body", "fa8c5f1828d11100"},
		{"k", "", "d0ff821867756c0a"},
	} {
		if got := fmt.Sprintf("%x", tag.Make([]byte(x.key), []byte(x.b))); got != x.want {
			t.Errorf("%q, %q: %s, not %s", x.key, x.b, got, x.want)
		}
	}
}

// P2.1: a key of no bytes, of 33 and of more has no tag, and nothing is one of it.
func TestWrongKeys(t *testing.T) {
	for _, key := range [][]byte{nil, {}, count(33), make([]byte, 33), count(255), count(256), count(257), count(288), count(65536)} {
		for _, b := range [][]byte{nil, {}, []byte("body"), count(300)} {
			if got := tag.Make(key, b); len(got) != 0 {
				t.Errorf("a key of %d: %x", len(key), got)
			}
			for _, x := range [][]byte{nil, {}, make([]byte, 8), summed(key, b)} {
				if tag.Good(key, b, x) {
					t.Errorf("a key of %d: %x is good", len(key), x)
				}
			}
		}
	}
}

// P2.2: one unlike byte in the bytes, wherever it is and whatever it is.
func TestUnlikeBytes(t *testing.T) {
	for _, key := range [][]byte{count(1), count(7), count(32), make([]byte, 32)} {
		for _, n := range []int{1, 2, 9, 40} {
			b := count(n)
			made := tag.Make(key, b)
			for i := range b {
				for x := 1; x < 256; x++ {
					b[i] ^= byte(x)
					if tag.Good(key, b, made) {
						t.Errorf("a key of %d: byte %d of %d is unlike by %x", len(key), i, n, x)
					}
					b[i] ^= byte(x)
				}
			}
		}
	}
}

// P2.2: one unlike byte in the tag, wherever it is and whatever it is.
func TestUnlikeTag(t *testing.T) {
	for _, key := range [][]byte{count(1), count(32)} {
		for _, b := range [][]byte{nil, []byte("body")} {
			made := tag.Make(key, b)
			for i := range made {
				for x := 1; x < 256; x++ {
					made[i] ^= byte(x)
					if tag.Good(key, b, made) {
						t.Errorf("a key of %d: byte %d of the tag is unlike by %x", len(key), i, x)
					}
					made[i] ^= byte(x)
				}
			}
		}
	}
}

// P2.1: a tag that is shorter or longer, of other bytes or of another key isn't good.
func TestOtherTags(t *testing.T) {
	key, b := []byte("key"), []byte("body")
	made := tag.Make(key, b)
	for i := range made {
		if tag.Good(key, b, made[:i]) || tag.Good(key, b, made[i+1:]) {
			t.Errorf("a piece of it is good, cut at %d", i)
		}
	}
	backwards := binary.LittleEndian.AppendUint64(nil, binary.BigEndian.Uint64(made))
	for _, x := range [][]byte{nil, {}, append(bytes.Clone(made), 0), append([]byte{0}, made...), append(bytes.Clone(made), made...), backwards} {
		if tag.Good(key, b, x) {
			t.Errorf("%x is good", x)
		}
	}
	for _, x := range []string{"", "bod", "bodyy", "ybod", "body\x00", "\x00body"} {
		if tag.Good(key, []byte(x), made) {
			t.Errorf("it is good of %q", x)
		}
	}
	for _, x := range []string{"k", "ke", "kez", "keyy", "key\x00", "\x00key", "KEY"} {
		if tag.Good([]byte(x), b, made) {
			t.Errorf("it is good with the key %q", x)
		}
	}
}

// What is handed in is not changed, its spare room included, and isn't kept.
func TestKeepsNothing(t *testing.T) {
	room := func(s string) []byte { return []byte(s + "spare")[:len(s)] }
	whole := func(b []byte) string { return string(b[:len(b)+len("spare")]) }
	key, b := room("key"), room("body")
	made := tag.Make(key, b)
	x := room(string(made))
	parts := [][]byte{room("foo"), nil, room("bar")}
	if tag.Sum(parts...) != 0x85944171f73967e8 || !tag.Good(key, b, x) {
		t.Error("the sum or the tag is wrong")
	}
	if whole(key) != "keyspare" || whole(b) != "bodyspare" || whole(x) != string(made)+"spare" {
		t.Errorf("what was handed in is now %q, %q, %q", whole(key), whole(b), whole(x))
	}
	if len(parts) != 3 || whole(parts[0]) != "foospare" || parts[1] != nil || whole(parts[2]) != "barspare" {
		t.Errorf("the parts are now %q", parts)
	}
	copy(key, "zzz")
	copy(b, "zzzz")
	if !bytes.Equal(made, x) || tag.Good(key, b, x) || !tag.Good([]byte("key"), []byte("body"), made) {
		t.Error("what was handed in is kept")
	}
}

// What Make answers is new memory, its spare room too.
func TestMakeNew(t *testing.T) {
	key, b := []byte("key"), []byte("body")
	one, two := tag.Make(key, b), tag.Make(key, b)
	want := string(two)
	clear(one)
	one, two = append(one, 'y'), append(two, 'x')
	if string(two) != want+"x" || string(one) != "\x00\x00\x00\x00\x00\x00\x00\x00y" {
		t.Errorf("two answers share their memory: %x, %x", one, two)
	}
	if string(key) != "key" || string(b) != "body" || string(tag.Make(key, b)) != want {
		t.Error("the answer is kept, or shares memory with what was handed in")
	}
}
