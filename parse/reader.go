package parse

import (
	"strconv"
	"strings"

	"entente/api"
	"entente/role"
)

const (
	signs  = "abcdefghijklmnopqrstuvwxyz0123456789-." // of words
	blanks = " \t\n"
	mostK  = 99 // that two digits tell
)

// fault is what a reader panics with where a text isn't of the grammar: from however deep in brackets, the reading ends at once.
type fault struct{}

// reader of a text, token by token: words, brackets and commas, and any other sign by itself, which the grammar has nowhere.
type reader struct {
	token string // the first one that isn't taken; empty at the end
	left  string // what is behind it
}

// read what a text says by the grammar alone, be it a right formula or not.
func read(s string) (f api.Formula, e api.Errno) {
	defer func() {
		switch x := recover().(type) {
		case nil:
		case fault:
			f, e = api.Formula{}, api.ErrForm
		default: // none of the reader's own: it isn't the text that is wrong
			panic(x)
		}
	}()
	r := reader{left: s}
	r.next()
	f = r.any()
	r.must("")
	return f, api.OK
}

// next token, if there is one.
func (r *reader) next() {
	r.left = strings.TrimLeft(r.left, blanks)
	n := len(r.left) - len(strings.TrimLeft(r.left, signs))
	if n == 0 && r.left != "" {
		n = 1
	}
	r.token, r.left = r.left[:n], r.left[n:]
}

// take the token, whatever it is.
func (r *reader) take() string {
	token := r.token
	r.next()
	return token
}

// takes a token, if it is this one.
func (r *reader) takes(token string) bool {
	if r.token != token {
		return false
	}
	r.next()
	return true
}

// must take this token.
func (r *reader) must(token string) {
	if !r.takes(token) {
		panic(fault{})
	}
}

// any: both {or both}
func (r *reader) any() api.Formula {
	return r.joined(or, api.Some, r.both)
}

// both: one {and one}
func (r *reader) both() api.Formula {
	return r.joined(and, api.All, r.one)
}

// joined parts with a word between: one alone is itself.
func (r *reader) joined(word string, op int, part func() api.Formula) api.Formula {
	l := r.parts(word, part)
	if len(l) == 1 {
		return l[0]
	}
	return api.Formula{Op: op, Kids: l}
}

// parts, one or more, with a token between.
func (r *reader) parts(between string, part func() api.Formula) []api.Formula {
	l := []api.Formula{part()}
	for r.takes(between) {
		l = append(l, part())
	}
	return l
}

// one: ROLE | (any) | all (list) | some (list) | at K (list)
func (r *reader) one() api.Formula {
	switch token := r.take(); token {
	case open:
		f := r.any()
		r.must(shut)
		return f
	case all:
		return api.Formula{Op: api.All, Kids: r.list()}
	case some:
		return api.Formula{Op: api.Some, Kids: r.list()}
	case at:
		k := number(r.take())
		return api.Formula{Op: api.AtK, K: k, Kids: r.list()}
	default:
		return atom(token)
	}
}

// list: nothing | any {, any}, with its brackets
func (r *reader) list() []api.Formula {
	r.must(open)
	if r.takes(shut) {
		return nil
	}
	l := r.parts(comma, r.any)
	r.must(shut)
	return l
}

// atom of a role's text.
func atom(word string) api.Formula {
	x, ok := role.Parse(word)
	if !ok {
		panic(fault{})
	}
	return api.Formula{Op: api.Atom, Role: x}
}

// number that a word of one or two digits tells.
func number(word string) int {
	k, err := strconv.Atoi(word)
	// Told again it is another one, if it had noughts ahead.
	if err != nil || k < 0 || k > mostK || strconv.Itoa(k) != word {
		panic(fault{})
	}
	return k
}
