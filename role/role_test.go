package role_test

import (
	"slices"
	"strings"
	"testing"

	"entente/api"
	"entente/role"
	"entente/tape"
)

// longest name: of 16 signs.
const longest = "abcdefghijklmn-9"

// names that are right, rising.
var names = []string{"a", "a-", "a--", "a-z", "a0", "aa", "ab", longest, "b", "z", "z9"}

// others that are no names.
var others = []string{"", ".", "0", "1a", "-a", "A", "aB", "a b", "a.", ".a", "a.b", "a\x00", "é", "aé", "a\xff", longest + "a", strings.Repeat("a", 272)}

// of makes a role.
func of(owner, word string) api.Role {
	return api.Role{Owner: owner, Word: word}
}

// pairs of any two of a list.
func pairs(a, b []string) []api.Role {
	var l []api.Role
	for _, owner := range a {
		for _, word := range b {
			l = append(l, of(owner, word))
		}
	}
	return l
}

// right roles, rising.
func right() []api.Role {
	return pairs(names, names)
}

// wrong roles: the owner, the word, or both are no names.
func wrong() []api.Role {
	return slices.Concat(pairs(names, others), pairs(others, names), pairs(others, others))
}

// roles of a text with blanks between them.
func roles(t *testing.T, s string) []api.Role {
	t.Helper()
	var l []api.Role
	for _, x := range strings.Fields(s) {
		r, ok := role.Parse(x)
		if !ok {
			t.Fatalf("%q is no role", x)
		}
		l = append(l, r)
	}
	return l
}

// P4.1: a role is right, if both are names.
func TestRight(t *testing.T) {
	for _, r := range right() {
		if !role.Right(r) {
			t.Errorf("%q isn't right", r)
		}
	}
	for _, r := range wrong() {
		if role.Right(r) {
			t.Errorf("%.40q is right", r)
		}
	}
	if role.Right(api.Role{}) {
		t.Error("the zero one is right")
	}
}

// P4.1: the text of any role, right or not.
func TestText(t *testing.T) {
	for _, x := range []struct{ owner, word, want string }{
		{"shop", "member", "shop.member"},
		{"a", "b", "a.b"},
		{"b", "a", "b.a"},
		{longest, longest, longest + "." + longest},
		{"", "", "."},
		{"a", "", "a."},
		{"", "a", ".a"},
		{"a.b", "c", "a.b.c"},
		{"a", "b.c", "a.b.c"},
		{".", ".", "..."},
		{"A", "1", "A.1"},
		{" ", "\x00\xff", " .\x00\xff"},
		{"é", "ü", "é.ü"},
	} {
		if got := role.Text(of(x.owner, x.word)); got != x.want {
			t.Errorf("%q and %q: %q, not %q", x.owner, x.word, got, x.want)
		}
	}
	long := strings.Repeat("a", 70000)
	if role.Text(of(long, "b")) != long+".b" {
		t.Error("the text of a long one")
	}
}

// P4.1: which role a text is.
func TestParse(t *testing.T) {
	for _, x := range []struct{ s, owner, word string }{
		{"shop.member", "shop", "member"},
		{"gov.id", "gov", "id"},
		{"a.b", "a", "b"},
		{"a.a", "a", "a"},
		{"a-.b-", "a-", "b-"},
		{"z9.z-9", "z9", "z-9"},
		{longest + "." + longest, longest, longest},
	} {
		if r, ok := role.Parse(x.s); !ok || r != of(x.owner, x.word) {
			t.Errorf("%q: %q, %v", x.s, r, ok)
		}
	}
}

// P4.1: texts that are no right role's: the zero one and false.
func TestParseNone(t *testing.T) {
	for _, s := range []string{
		"", ".", "..", "...", "a", "ab", "a.", ".a", "a..b", ".a.b", "a.b.", ". a", "a.b.c", "a.b.c.d",
		"a b", "a b.c", "a.b c", " a.b", "a.b ", "a .b", "a. b", "a.b\n", "\ta.b", "a.b\x00", "\x00a.b", "a\x00.b",
		"A.b", "a.B", "1.b", "a.1", "-.b", "a.-", "a_.b", "a._", "a,b", "a:b", "a/b", "a-b", "a…b", "a．b", "a。b", "a\xffb", "é.b", "a.é", "a.\xff", "\xff.a",
		"a.b,a.c", "a.b a.c", "a.b <- c", "\"a.b\"", "a\\.b",
		longest + "a.b", "a." + longest + "a", longest + "." + longest + ".", longest + longest, strings.Repeat("a.", 40000), strings.Repeat(".", 70000),
	} {
		if r, ok := role.Parse(s); ok || r != (api.Role{}) {
			t.Errorf("%.40q: %q, %v", s, r, ok)
		}
	}
}

// P4.1: each byte at each place of a text.
func TestParseSigns(t *testing.T) {
	const letters = "abcdefghijklmnopqrstuvwxyz"
	for x := range 256 {
		s := string([]byte{byte(x)})
		first, later := strings.Contains(letters, s), strings.Contains(letters+"0123456789-", s)
		for _, y := range []struct {
			s, owner, word string
			want           bool
		}{
			{s + "b.cd", s + "b", "cd", first},
			{"a" + s + ".cd", "a" + s, "cd", later},
			{"ab" + s + "cd", "ab", "cd", s == "."},
			{"ab." + s + "d", "ab", s + "d", first},
			{"ab.c" + s, "ab", "c" + s, later},
		} {
			want := api.Role{}
			if y.want {
				want = of(y.owner, y.word)
			}
			if r, ok := role.Parse(y.s); ok != y.want || r != want {
				t.Errorf("%q: %q, %v", y.s, r, ok)
			}
		}
	}
}

// P4.3: what is told is parsed, if it is right, and what is parsed is told so again.
func TestTextThenParse(t *testing.T) {
	for _, r := range right() {
		if got, ok := role.Parse(role.Text(r)); !ok || got != r {
			t.Errorf("%q: %q, %v", r, got, ok)
		}
	}
	for _, r := range wrong() {
		if got, ok := role.Parse(role.Text(r)); ok || got != (api.Role{}) {
			t.Errorf("%.40q: %q, %v", r, got, ok)
		}
	}
	const signs = "aA.-1"
	var each func(s string)
	each = func(s string) {
		if r, ok := role.Parse(s); ok && (role.Text(r) != s || !role.Right(r)) {
			t.Errorf("%q is told as %q", s, role.Text(r))
		}
		if len(s) < 5 {
			for i := range len(signs) {
				each(s + signs[i:i+1])
			}
		}
	}
	each("")
}

// rising roles, wrong ones among them: by their owners, not by their texts.
var rising = []api.Role{
	of("", ""), of("", "a"), of("", "b"), of(" ", ""), of("-", "z"), of(".", "a"), of("0", "a"), of("A", "z"),
	of("a", ""), of("a", "."), of("a", "b"), of("a", "b-"), of("a", "b0"), of("a", "ba"), of("a", "z"), of("a", "\xff"),
	of("a-", "a"), of("a-", "b"), of("a.", "a"), of("a.b", ""), of("a0", "a"), of("aa", "a"), of("ab", "c"), of(longest+"z", "a"),
	of("b", ""), of("b", "a"), of("b", "z"), of("z", "a"), of("~", ""), of("é", "a"), of("ｚ", "a"), of("\xff", "a"),
}

// P4.1, P4.3: the order is by the owner, then by the word, byte by byte.
func TestCompare(t *testing.T) {
	for _, l := range [][]api.Role{rising, right()} {
		for i, a := range l {
			for k, b := range l {
				want := 0
				if i < k {
					want = -1
				} else if i > k {
					want = 1
				}
				if got := role.Compare(a, b); got != want {
					t.Errorf("%q and %q: %d, not %d", a, b, got, want)
				}
			}
		}
	}
}

// lists of right roles and their sets.
var lists = []struct{ list, set string }{
	{"", ""},
	{"a.b", "a.b"},
	{"a.b a.b a.b", "a.b"},
	{"b.a a.z ab.c a.b b.a", "a.b a.z ab.c b.a"},
	{"c.a b.b a.c", "a.c b.b c.a"},
	{"a.a a.b a.c", "a.a a.b a.c"},
	{"a-.a a.b a0.a a.a aa.a", "a.a a.b a-.a a0.a aa.a"},
	{"a.b- a.b0 a.b a.ba a.a", "a.a a.b a.b- a.b0 a.ba"},
	{"a.b b.a a.b b.a", "a.b b.a"},
	{"a10.b a9.b a.b10 a.b9", "a.b10 a.b9 a10.b a9.b"},
}

// P4.1: the set of the right ones of a list, rising, each once.
func TestSet(t *testing.T) {
	bad := []api.Role{{}, of("a", ""), of("", "b"), of("a", "B"), of("1", "b"), of("a.b", "c")}
	for _, x := range lists {
		l, want := roles(t, x.list), roles(t, x.set)
		for range 2 {
			for _, l := range [][]api.Role{l, slices.Concat(bad, l), slices.Concat(l, bad, l)} {
				if got := role.Set(l...); !slices.Equal(got, want) {
					t.Errorf("%q: %q, not %q", l, got, want)
				}
			}
			slices.Reverse(l)
		}
		if got := role.Set(want...); !slices.Equal(got, want) {
			t.Errorf("the set %q: %q", want, got)
		}
	}
	if got := role.Set(slices.Concat(right(), wrong(), right())...); !slices.Equal(got, right()) {
		t.Errorf("right and wrong ones: %q", got)
	}
}

// P4.1: lists that have no right one.
func TestSetOfNone(t *testing.T) {
	for _, l := range [][]api.Role{nil, {}, {{}}, wrong()} {
		if got := role.Set(l...); len(got) != 0 {
			t.Errorf("%.40q: %q", l, got)
		}
	}
	if len(role.Set()) != 0 {
		t.Error("the set of nothing")
	}
}

// P4.1: what a list has, however it is ordered, right or not.
func TestHas(t *testing.T) {
	in := roles(t, "shop.member a.b shop.member gov.id")
	l := slices.Concat(wrong(), in, wrong())
	for _, r := range l {
		if !role.Has(l, r) || !role.Has([]api.Role{r}, r) {
			t.Errorf("%.40q isn't there", r)
		}
	}
	for _, r := range in {
		if !role.Has(in, r) || !role.Has(role.Set(l...), r) {
			t.Errorf("%q isn't there", r)
		}
	}
	for _, r := range wrong() {
		if role.Has(in, r) || role.Has(role.Set(l...), r) {
			t.Errorf("%.40q is there", r)
		}
	}
}

// P4.1: what a list hasn't, right or not.
func TestHasNot(t *testing.T) {
	in := roles(t, "shop.member a.b gov.id")
	l := slices.Concat(wrong(), in, wrong())
	absent := []api.Role{of("shop", ""), of("", "member"), of("gov", "ID"), of("shop.member", "a"), of("shop", "member."), of("", "shop.member"), of("shop ", "member")}
	for _, r := range slices.Concat(absent, roles(t, "b.a a.a b.b a.id gov.member shop.membe shop.members id.gov")) {
		if role.Has(l, r) || role.Has(in, r) {
			t.Errorf("%q is there", r)
		}
	}
	for _, r := range slices.Concat(in, wrong()) {
		if role.Has(nil, r) || role.Has([]api.Role{}, r) {
			t.Errorf("%.40q is in nothing", r)
		}
	}
	// Unlike roles that have the same text.
	if role.Has([]api.Role{of("a.b", "c")}, of("a", "b.c")) || role.Has([]api.Role{of("", "a.")}, of(".a", "")) {
		t.Error("a role is there by its text alone")
	}
}

// P4.1: of all small lists, the set has just what right ones the list has.
func TestAllSmallLists(t *testing.T) {
	all := []api.Role{of("b", "a"), of("a", "b"), {}, of("a", "B"), of("a-", "a"), of("b", "a"), of("a", "a")}
	for bits := range 1 << len(all) {
		var l []api.Role
		for i, r := range all {
			if bits>>i&1 == 1 {
				l = append(l, r)
			}
		}
		set := role.Set(l...)
		for i, r := range set {
			if !role.Right(r) || !slices.Contains(l, r) || i > 0 && role.Compare(set[i-1], r) != -1 {
				t.Errorf("%q: %q", l, set)
			}
		}
		for _, r := range all {
			want := slices.Contains(l, r)
			if role.Has(l, r) != want {
				t.Errorf("%q: %q is in it: not %v", l, r, want)
			}
			want = want && role.Right(r)
			if slices.Contains(set, r) != want || role.Has(set, r) != want {
				t.Errorf("%q: %q is in its set: not %v", l, r, want)
			}
		}
	}
}

// P4.2: the bytes of a role are both names', the owner's first.
func TestPut(t *testing.T) {
	var p tape.Pen
	want := ""
	for _, r := range right() {
		if !role.Put(&p, r) {
			t.Errorf("%q isn't put", r)
		}
		want += string([]byte{byte(len(r.Owner))}) + r.Owner + string([]byte{byte(len(r.Word))}) + r.Word
		if string(p.Bytes()) != want {
			t.Fatalf("%q: %q, not %q", r, p.Bytes(), want)
		}
	}
	for _, r := range wrong() {
		if role.Put(&p, r) || string(p.Bytes()) != want {
			t.Fatalf("%.40q is put", r)
		}
	}
	var one tape.Pen
	if !role.Put(&one, of("a", "bc")) || string(one.Bytes()) != "\x01a\x02bc" {
		t.Errorf("a.bc: %q", one.Bytes())
	}
}

// P4.2: nothing is written of a role that isn't right, on a pen that has nothing either, and nothing by no pen.
func TestPutNothing(t *testing.T) {
	for _, r := range wrong() {
		var p tape.Pen
		if role.Put(&p, r) || len(p.Bytes()) != 0 {
			t.Errorf("%.40q is put", r)
		}
	}
	for _, r := range []api.Role{{}, of("a", "b"), of("a", "")} {
		if role.Put(nil, r) {
			t.Errorf("%q is put by no pen", r)
		}
	}
}

// P4.2: what any bytes are: a role, or which error, of the first part that fails.
func TestGet(t *testing.T) {
	for _, x := range []struct {
		b, owner, word string
		e              api.Errno
	}{
		{"\x01a\x02bc", "a", "bc", api.OK},
		{"\x04shop\x06member", "shop", "member", api.OK},
		{"\x10" + longest + "\x10" + longest, longest, longest, api.OK},
		{"\x01a\x00", "", "", api.ErrName},
		{"\x00\x01a", "", "", api.ErrName},
		{"\x00\x00", "", "", api.ErrName},
		{"\x00", "", "", api.ErrName},
		{"\x01A\x01b", "", "", api.ErrName},
		{"\x01a\x01B", "", "", api.ErrName},
		{"\x01a\x01B\x01c", "", "", api.ErrName},
		{"\x01.\x01b", "", "", api.ErrName},
		{"\x03a.b", "", "", api.ErrName},
		{"\x03a.b\x01c", "", "", api.ErrName},
		{"\x01A\x11", "", "", api.ErrName},
		{"\x01A\x80\x00", "", "", api.ErrName},
		{"\x11abcdefghijklmnopq\x01a", "", "", api.ErrLong},
		{"\x01a\x11abcdefghijklmnopq", "", "", api.ErrLong},
		{"\x01a\x11", "", "", api.ErrLong},
		{"\x11A\x01B", "", "", api.ErrLong},
		{"", "", "", api.ErrEnd},
		{"\x01", "", "", api.ErrEnd},
		{"\x01a", "", "", api.ErrEnd},
		{"\x01a\x01", "", "", api.ErrEnd},
		{"\x01a\x02b", "", "", api.ErrEnd},
		{"\x01a\x81", "", "", api.ErrEnd},
		{"\x01a\x02B", "", "", api.ErrEnd},
		{"\x81\x00a\x01b", "", "", api.ErrForm},
		{"\x01a\x81\x00b", "", "", api.ErrForm},
		{"\x01a\x80\x80\x80\x80\x80\x80\x80\x80\x80", "", "", api.ErrForm},
		{"\x01a\x01bc", "a", "b", api.ErrTrail},
		{"\x01a\x01b\x00", "a", "b", api.ErrTrail},
		{"\x01a\x01b\x01c", "a", "b", api.ErrTrail},
	} {
		got := api.Role{}
		e := tape.Read([]byte(x.b), func(r *tape.Reader) { got = role.Get(r) })
		if e != x.e || got != of(x.owner, x.word) {
			t.Errorf("%q: %q, %v, not %q and %q, %v", x.b, got, e, x.owner, x.word, x.e)
		}
	}
}

// P4.2: an error of either name ends the reading at once.
func TestGetEnds(t *testing.T) {
	for _, b := range []string{"\x00\x01a", "\x01A\x01a\x01b", "\x01a\x00\x01b", "\x01a\x01B\x01b", "\x01a\x11abcdefghijklmnopq", "\x01a\x09b", "\x01a"} {
		went := false
		tape.Read([]byte(b), func(r *tape.Reader) {
			role.Get(r)
			went = true
		})
		if went {
			t.Errorf("%q: the reading goes on", b)
		}
	}
}

// P4.2: of a nil reader, of one that has ended, and of the zero value: the zero role.
func TestGetOfNone(t *testing.T) {
	var well, failed *tape.Reader
	if e := tape.Read(nil, func(r *tape.Reader) { well = r }); e != api.OK {
		t.Fatal(e)
	}
	tape.Read([]byte("\x01a\x01b\x01c\x01d"), func(r *tape.Reader) {
		failed = r
		role.Get(r)
		r.Fail(api.ErrArg)
	})
	for i, r := range []*tape.Reader{nil, well, failed, {}} {
		if got := role.Get(r); got != (api.Role{}) {
			t.Errorf("%d: %q", i, got)
		}
	}
}

// P4.3: what is put is got, one behind the other.
func TestPutThenGet(t *testing.T) {
	var p tape.Pen
	for _, r := range right() {
		role.Put(&p, r)
		p.Number(300)
	}
	var got []api.Role
	e := tape.Read(p.Bytes(), func(r *tape.Reader) {
		for r.Left() > 0 {
			got = append(got, role.Get(r))
			r.Number(300)
		}
	})
	if e != api.OK || !slices.Equal(got, right()) {
		t.Errorf("%v, %q", e, got)
	}
}

// P4.3: bytes that are got whole are a right role's, and put so again.
func TestGetThenPut(t *testing.T) {
	const signs = "\x00\x01\x02aB-\x80"
	count := 0
	var each func(b []byte)
	each = func(b []byte) {
		got := api.Role{}
		if tape.Read(b, func(r *tape.Reader) { got = role.Get(r) }) == api.OK {
			count++
			var p tape.Pen
			if !role.Put(&p, got) || string(p.Bytes()) != string(b) {
				t.Errorf("%q: %q is put as %q", b, got, p.Bytes())
			}
		}
		for i := range len(signs) {
			if len(b) < 6 {
				each(append(slices.Clone(b), signs[i]))
			}
		}
	}
	each(nil)
	// a.a, a.aa, a.a-, aa.a, a-.a, and the four whose names both have two signs.
	if count != 9 {
		t.Errorf("%d were got whole, not 9", count)
	}
}

// room lays a list into one that has spare room behind it.
func room(l ...api.Role) []api.Role {
	return append(l, of("spare", "a"), of("room", "a"))[:len(l)]
}

// whole is a list with its spare room.
func whole(l []api.Role) []api.Role {
	return l[:len(l)+2]
}

// What is handed in is not changed, its spare room included.
func TestChangesNothing(t *testing.T) {
	l := room(of("b", "a"), api.Role{}, of("a", "b"), of("b", "a"))
	want := slices.Clone(whole(l))
	role.Set(l...)
	role.Has(l, of("a", "b"))
	if !slices.Equal(whole(l), want) {
		t.Errorf("now %q", whole(l))
	}
}

// What is answered is new memory, its spare room too, of a list that is a set already too.
func TestAnswersNew(t *testing.T) {
	for _, s := range []string{"a.b b.a c.a", "b.a a.b b.a", "a.b a.b a.b"} {
		l := room(roles(t, s)...)
		given := slices.Clone(whole(l))
		one, two := role.Set(l...), role.Set(l...)
		want := slices.Clone(two)
		all := one[:cap(one)]
		for i := range all {
			all[i] = of("zz", "zz")
		}
		if !slices.Equal(whole(l), given) || !slices.Equal(two, want) {
			t.Errorf("%s: shared: %q, %q", s, whole(l), two)
		}
		for i := range whole(l) {
			whole(l)[i] = of("yy", "yy")
		}
		if !slices.Equal(two, want) {
			t.Errorf("%s: what was handed in is kept: %q", s, two)
		}
	}
}
