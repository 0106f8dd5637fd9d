package unlock

import (
	"entente/api"
	"entente/formula"
	"entente/guard"
	"entente/model"
)

// held credential, with its guard.
type held struct {
	cred  api.Cred
	guard api.Formula
	shown bool
}

// side of the two: what it holds, by layer 5's order, and what it knows of the other one.
type side struct {
	creds []held
	peer  string
	known *model.Model
}

// newSide that knows nothing yet. The guards are asked here, once, for there may be as many rounds as credentials.
func newSide(p api.Party, peer string) *side {
	s := &side{peer: peer, known: model.Of(nil)}
	for _, c := range showable(p) {
		// Where there is an error it is never free.
		if f, e := guard.Of(p, c); e == api.OK {
			s.creds = append(s.creds, held{cred: c, guard: f})
		}
	}
	return s
}

// showable credentials of a party, a set: were none of them guarded, layer 15 would let these go.
func showable(p api.Party) []api.Cred {
	var open api.Party
	for _, h := range p.Creds {
		open.Creds = append(open.Creds, api.Guarded{Signed: h.Signed, Release: api.Formula{Op: api.All}})
	}
	return guard.Free(open, nil, "")
}

// show what is free and wasn't shown, now that the other one has shown more.
func (s *side) show(more []api.Cred) []api.Cred {
	s.known.Add(more...)
	is := rolesOf(s.peer, s.known)
	var l []api.Cred
	for i := range s.creds {
		h := &s.creds[i]
		if !h.shown && formula.True(h.guard, is) {
			h.shown = true
			l = append(l, h.cred)
		}
	}
	return l
}

// shown credentials: a set.
func (s *side) shown() []api.Cred {
	var l []api.Cred
	for _, h := range s.creds {
		if h.shown {
			l = append(l, h.cred)
		}
	}
	return l
}
