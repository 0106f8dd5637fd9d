package name_test

import (
	"slices"
	"strings"
	"testing"

	"entente/api"
	"entente/name"
	"entente/tape"
)

// longest name: of 16 signs.
const longest = "abcdefghijklmn-9"

// right names: of each length that they may have, and of each sign.
var right = []string{"a", "z", "m", "ab", "a0", "z9", "a-", "a--", "a-b", "a-9", "ann", "bob-2", "n00000000000000", "aaaaaaaaaaaaaaaa", longest}

// wrong names: empty ones, a wrong first sign, a wrong sign elsewhere, one sign too many, more.
var wrong = []string{
	"", "0", "1a", "9", "-", "-a", "A", "Ann", "aN", "anN", "a b", " a", "a ", "a_b", "a.b", "a\x00", "\x00", "\x00a", "a\n",
	"`", "{", "a`", "a{", "a/", "a:", "a,", "a@", "aé", "é", "a\xff", "\xffa", "aа", "a‐b", "ａ", "a\x80",
	longest + "a", longest + "-", "aaaaaaaaaaaaaaaaa", strings.Repeat("a", 32), strings.Repeat("a", 272), strings.Repeat("a", 65536+4),
}

// P3.1: right names and wrong ones.
func TestRight(t *testing.T) {
	for _, s := range right {
		if !name.Right(s) {
			t.Errorf("%q isn't right", s)
		}
	}
	for _, s := range wrong {
		if name.Right(s) {
			t.Errorf("%q is right", s)
		}
	}
}

// P3.1: each byte as the first sign, in the middle and as the last one.
func TestRightSigns(t *testing.T) {
	const letters = "abcdefghijklmnopqrstuvwxyz"
	for x := range 256 {
		s := string([]byte{byte(x)})
		first := strings.Contains(letters, s)
		later := strings.Contains(letters+"0123456789-", s)
		if name.Right(s) != first || name.Right(s+"a") != first || name.Right(s+longest[1:]) != first {
			t.Errorf("%q as the first sign: not %v", s, first)
		}
		if name.Right("a"+s+"b") != later || name.Right("a"+s) != later || name.Right(longest[:15]+s) != later {
			t.Errorf("%q behind the first sign: not %v", s, later)
		}
	}
}

// P3.1: names of each length.
func TestRightLengths(t *testing.T) {
	for n := range 40 {
		if name.Right(strings.Repeat("n", n)) != (n >= 1 && n <= 16) {
			t.Errorf("%d signs", n)
		}
	}
}

// lists and the sets of their right ones.
var lists = []struct {
	list, set string
}{
	{"", ""},
	{"a", "a"},
	{"b,a,b,1", "a,b"},
	{"cy,ann,!,cy", "ann,cy"},
	{"1", ""},
	{"A,B,-c", ""},
	{"a,a,a", "a"},
	{"a,b,c", "a,b,c"},
	{"c,b,a", "a,b,c"},
	{"aa,a,ab,a-,a0", "a,a-,a0,aa,ab"},
	{"b,ab,a", "a,ab,b"},
	{"z,A,y,0,x,-,z", "x,y,z"},
	{"a10,a9,a1", "a1,a10,a9"},
	{longest + "," + longest + "a," + longest[:15], longest[:15] + "," + longest},
}

// split a list, which may have none.
func split(s string) []string {
	if s == "" {
		return nil
	}
	return strings.Split(s, ",")
}

// P3.1, P3.3: the set of the right ones of a list, rising, each once.
func TestSet(t *testing.T) {
	for _, x := range lists {
		l, want := split(x.list), split(x.set)
		got := name.Set(l...)
		if !slices.Equal(got, want) {
			t.Errorf("%q: %q, not %q", l, got, want)
		}
		if !name.IsSet(got) {
			t.Errorf("%q: the set isn't one", l)
		}
		if name.IsSet(l) != (x.list == x.set) {
			t.Errorf("%q: IsSet tells %v", l, name.IsSet(l))
		}
		slices.Reverse(l)
		if got := name.Set(l...); !slices.Equal(got, want) {
			t.Errorf("%q: %q, not %q", l, got, want)
		}
	}
	if len(name.Set(wrong...)) != 0 {
		t.Errorf("wrong ones: %q", name.Set(wrong...))
	}
	if got := name.Set(slices.Concat(right, wrong, right)...); len(got) != len(right) || !name.IsSet(got) {
		t.Errorf("right and wrong ones: %q", got)
	}
}

// P3.1: nil and empty lists are one.
func TestEmptyLists(t *testing.T) {
	none := [][]string{nil, {}, {""}, {"A", "1"}}
	for i, a := range none {
		if len(name.Set(a...)) != 0 || name.Has(a, "a") || name.Has(a, "") || name.IsSet(a) != (len(a) == 0) {
			t.Errorf("%d: it has something", i)
		}
		for j, b := range none {
			if len(name.Union(a, b)) != 0 || len(name.Both(a, b)) != 0 || !name.Within(a, b) {
				t.Errorf("%d and %d: they have something", i, j)
			}
		}
		if l := []string{"a"}; name.Within(l, a) || !name.Within(a, l) || len(name.Both(a, l)) != 0 || !slices.Equal(name.Union(a, l), l) {
			t.Errorf("%d beside a", i)
		}
	}
	if len(name.Set()) != 0 {
		t.Error("the set of nothing")
	}
}

// P3.1: lists that are sets, and such as aren't.
func TestIsSet(t *testing.T) {
	for _, x := range []struct {
		l    string
		want bool
	}{
		{"", true}, {"a", true}, {"a,b", true}, {"a,ab,b", true}, {"a,a-,a0,aa", true}, {"ann,bob,cy,dee", true},
		{"b,a", false}, {"a,a", false}, {"a,b,b", false}, {"a,c,b", false}, {"b,a,c", false}, {"a,b,a", false},
		{"1", false}, {"A", false}, {"1,a", false}, {"A,a", false}, {"a,b,é", false}, {"a,b_", false}, {"a10,a9,b", true}, {"a9,a10", false},
	} {
		if got := name.IsSet(split(x.l)); got != x.want {
			t.Errorf("%q: %v", x.l, got)
		}
	}
	for _, l := range [][]string{{""}, {"", "a"}, {"a", ""}, {"a" + longest}} {
		if name.IsSet(l) {
			t.Errorf("%q is a set", l)
		}
	}
}

// P3.1: what a list has, however it is ordered; a wrong one it has never.
func TestHas(t *testing.T) {
	l := slices.Concat([]string{"cy", "ann", "cy", longest}, wrong)
	for _, s := range []string{"cy", "ann", longest} {
		if !name.Has(l, s) || !name.Has(name.Set(l...), s) {
			t.Errorf("%q isn't there", s)
		}
	}
	for _, s := range slices.Concat(wrong, []string{"c", "cyy", "an", "bob", longest[:15]}) {
		if name.Has(l, s) || name.Has(nil, s) {
			t.Errorf("%q is there", s)
		}
	}
}

// P3.1, P3.3: unions, what both have, and what lies within, the same both ways.
func TestTwoLists(t *testing.T) {
	for _, x := range []struct {
		a, b, union, both string
		ab, ba            bool
	}{
		{"", "", "", "", true, true},
		{"a", "", "a", "", false, true},
		{"a", "a", "a", "a", true, true},
		{"a", "b", "a,b", "", false, false},
		{"cy,ann,!,cy", "bob,cy,Z", "ann,bob,cy", "cy", false, false},
		{"b,a", "c,b,a,b", "a,b,c", "a,b", true, false},
		{"c,a,b", "b,c,a,a", "a,b,c", "a,b,c", true, true},
		{"1,A", "b,1,A", "b", "", true, false},
		{"1,b", "A,b,b", "b", "b", true, true},
		{"a,ab", "abc,a", "a,ab,abc", "a", false, false},
		{"d,b", "a,c", "a,b,c,d", "", false, false},
		{"z,m,a", "m", "a,m,z", "m", false, true},
	} {
		a, b := split(x.a), split(x.b)
		for _, two := range [][2][]string{{a, b}, {b, a}} {
			union, both := name.Union(two[0], two[1]), name.Both(two[0], two[1])
			if !slices.Equal(union, split(x.union)) || !name.IsSet(union) {
				t.Errorf("%q: the union is %q", two, union)
			}
			if !slices.Equal(both, split(x.both)) || !name.IsSet(both) {
				t.Errorf("%q: both have %q", two, both)
			}
		}
		if name.Within(a, b) != x.ab || name.Within(b, a) != x.ba {
			t.Errorf("%q and %q: within %v and %v", a, b, name.Within(a, b), name.Within(b, a))
		}
	}
}

// P3.1, P3.3: of all small lists, each call tells what is so name by name.
func TestAllSmallLists(t *testing.T) {
	names := []string{"b", "1", "a", "ab", "b"}
	pick := func(bits int) []string {
		var l []string
		for i, s := range names {
			if bits>>i&1 == 1 {
				l = append(l, s)
			}
		}
		return l
	}
	for i := range 32 {
		for j := range 32 {
			a, b := pick(i), pick(j)
			union, both, within := name.Union(a, b), name.Both(a, b), true
			for _, s := range names {
				inA, inB := s != "1" && slices.Contains(a, s), s != "1" && slices.Contains(b, s)
				within = within && (inB || !inA)
				if name.Has(a, s) != inA || name.Has(union, s) != (inA || inB) || name.Has(both, s) != (inA && inB) {
					t.Errorf("%q and %q: %q", a, b, s)
				}
			}
			if name.Within(a, b) != within || !name.IsSet(union) || !name.IsSet(both) {
				t.Errorf("%q and %q: within %v, %q, %q", a, b, name.Within(a, b), union, both)
			}
			if !slices.Equal(union, name.Union(b, a)) || !slices.Equal(both, name.Both(b, a)) {
				t.Errorf("%q and %q: not the same both ways", a, b)
			}
		}
	}
}

// P3.2: the bytes of a name are a text's.
func TestPut(t *testing.T) {
	var p tape.Pen
	want := ""
	for _, s := range right {
		if !name.Put(&p, s) {
			t.Errorf("%q isn't put", s)
		}
		want += string([]byte{byte(len(s))}) + s
		if string(p.Bytes()) != want {
			t.Fatalf("%q: %q, not %q", s, p.Bytes(), want)
		}
	}
	for _, s := range wrong {
		if name.Put(&p, s) || string(p.Bytes()) != want {
			t.Errorf("%.40q is put", s)
		}
	}
	for _, s := range []string{"", "a", "1"} {
		if name.Put(nil, s) {
			t.Errorf("%q is put by no pen", s)
		}
	}
}

// P3.2: what a text of any bytes is: a name, or which error.
func TestGet(t *testing.T) {
	for _, x := range []struct {
		b, want string
		e       api.Errno
	}{
		{"\x03ann", "ann", api.OK},
		{"\x01a", "a", api.OK},
		{"\x10" + longest, longest, api.OK},
		{"\x00", "", api.ErrName},
		{"\x01A", "", api.ErrName},
		{"\x011", "", api.ErrName},
		{"\x01-", "", api.ErrName},
		{"\x02a\x00", "", api.ErrName},
		{"\x02a\xff", "", api.ErrName},
		{"\x03a b", "", api.ErrName},
		{"\x101bcdefghijklmnop", "", api.ErrName},
		{"\x11abcdefghijklmnopq", "", api.ErrLong},
		{"\x111", "", api.ErrLong},
		{"\x11", "", api.ErrLong},
		{"\x80\x01", "", api.ErrLong},
		{"", "", api.ErrEnd},
		{"\x01", "", api.ErrEnd},
		{"\x03an", "", api.ErrEnd},
		{"\x03AN", "", api.ErrEnd},
		{"\x10abcdefghijklmno", "", api.ErrEnd},
		{"\x80", "", api.ErrEnd},
		{"\x83\x00ann", "", api.ErrForm},
		{"\x80\x80\x80\x80\x80\x80\x80\x80\x80\x01", "", api.ErrForm},
		{"\x03annb", "ann", api.ErrTrail},
		{"\x03ann\x00", "ann", api.ErrTrail},
		{"\x01Ab", "", api.ErrName},
	} {
		got := ""
		e := tape.Read([]byte(x.b), func(r *tape.Reader) { got = name.Get(r) })
		if e != x.e || got != x.want {
			t.Errorf("%q: %q, %v, not %q, %v", x.b, got, e, x.want, x.e)
		}
	}
}

// P3.2: a name that is none ends the reading at once.
func TestGetEnds(t *testing.T) {
	for _, b := range []string{"\x00\x01a", "\x01A\x01a", "\x11abcdefghijklmnopq\x01a", "\x09a"} {
		went := false
		tape.Read([]byte(b), func(r *tape.Reader) {
			name.Get(r)
			went = true
		})
		if went {
			t.Errorf("%q: the reading goes on", b)
		}
	}
}

// P3.2: of a nil reader, of one that has ended, and of the zero value: empty.
func TestGetOfNone(t *testing.T) {
	var kept *tape.Reader
	if e := tape.Read(nil, func(r *tape.Reader) { kept = r }); e != api.OK {
		t.Fatal(e)
	}
	var failed *tape.Reader
	tape.Read([]byte("\x01a\x01b"), func(r *tape.Reader) {
		failed = r
		r.Fail(api.ErrArg)
	})
	for i, r := range []*tape.Reader{nil, kept, failed, {}} {
		if got := name.Get(r); got != "" {
			t.Errorf("%d: %q", i, got)
		}
	}
}

// P3.3: what is put is got, one behind the other.
func TestPutThenGet(t *testing.T) {
	var p tape.Pen
	for _, s := range right {
		p.Number(300)
		name.Put(&p, s)
	}
	var got []string
	e := tape.Read(p.Bytes(), func(r *tape.Reader) {
		for r.Left() > 0 {
			r.Number(300)
			got = append(got, name.Get(r))
		}
	})
	if e != api.OK || !slices.Equal(got, right) {
		t.Errorf("%v, %q", e, got)
	}
}

// room lays a list into one that has spare room behind it.
func room(l ...string) []string {
	return append(l, "spare", "room")[:len(l)]
}

// whole is a list with its spare room.
func whole(l []string) []string {
	return l[:len(l)+2]
}

// What is handed in is not changed, its spare room included.
func TestChangesNothing(t *testing.T) {
	a, b := room("cy", "A", "ann", "cy"), room("bob", "", "ann")
	name.Set(a...)
	name.IsSet(a)
	name.Has(a, "ann")
	for _, two := range [][2][]string{{a, b}, {b, a}, {a, a}, {a, nil}, {nil, a}} {
		name.Union(two[0], two[1])
		name.Both(two[0], two[1])
		name.Within(two[0], two[1])
	}
	if got := whole(a); !slices.Equal(got, []string{"cy", "A", "ann", "cy", "spare", "room"}) {
		t.Errorf("now %q", got)
	}
	if got := whole(b); !slices.Equal(got, []string{"bob", "", "ann", "spare", "room"}) {
		t.Errorf("now %q", got)
	}
}

// What is answered is new memory, its spare room too, of lists that are sets already too.
func TestAnswersNew(t *testing.T) {
	answers := map[string]func(l []string) []string{
		"Set":                 func(l []string) []string { return name.Set(l...) },
		"Union with itself":   func(l []string) []string { return name.Union(l, l) },
		"Union with none":     func(l []string) []string { return name.Union(l, nil) },
		"Union, none with it": func(l []string) []string { return name.Union(nil, l) },
		"Both":                func(l []string) []string { return name.Both(l, l) },
	}
	for what, answer := range answers {
		l := room("a", "b", "c")
		one, two := answer(l), answer(l)
		all := one[:cap(one)]
		for i := range all {
			all[i] = "zz"
		}
		if !slices.Equal(whole(l), []string{"a", "b", "c", "spare", "room"}) || !slices.Equal(two, []string{"a", "b", "c"}) {
			t.Errorf("%s: shared: %q, %q", what, whole(l), two)
		}
		for i := range whole(l) {
			whole(l)[i] = "yy"
		}
		if !slices.Equal(two, []string{"a", "b", "c"}) {
			t.Errorf("%s: what was handed in is kept: %q", what, two)
		}
	}
}
