package guard

import (
	"slices"

	"entente/api"
	"entente/cred"
	"entente/formula"
	"entente/keys"
	"entente/name"
	"entente/role"
)

// tagSize in bytes.
const tagSize = 8

// Right party? ErrName, ErrLong, ErrForm.
func Right(p api.Party) api.Errno {
	// All lists are measured ahead of what is in them, for that is told first.
	switch {
	case !name.Right(p.Name):
		return api.ErrName
	case tooMany(p):
		return api.ErrLong
	case !rightCreds(p.Creds) || !rightAcks(p.Acks) || !rightGuards(p):
		return api.ErrForm
	}
	return api.OK
}

// Check a party. Right's, the registry's.
func Check(p api.Party, g *keys.Registry) api.Errno {
	if e := Right(p); e != api.OK {
		return e
	}
	for _, h := range p.Creds {
		if e := g.Check(h.Signed); e != api.OK {
			return e
		}
	}
	return api.OK
}

// tooMany of anything?
func tooMany(p api.Party) bool {
	return len(p.Creds) > api.MostCreds || len(p.Acks) > api.MostAcks ||
		slices.ContainsFunc(p.Acks, func(a api.Ack) bool { return len(a.Closure) > api.MostClosure })
}

// rightCreds: is what is held right, its guards aside?
func rightCreds(l []api.Guarded) bool {
	return all(l, rightCred) && rising(l, compareCreds)
}

// rightCred that is held.
func rightCred(h api.Guarded) bool {
	return cred.Right(h.Cred) && len(h.Tag) == tagSize && formula.Right(h.Release)
}

// compareCreds that are held.
func compareCreds(a, b api.Guarded) int {
	return cred.Compare(a.Cred, b.Cred)
}

// rightAcks: are they?
func rightAcks(l []api.Ack) bool {
	return all(l, rightAck) && rising(l, compareAcks)
}

// rightAck: is it by itself? Whether its Role is right nothing asks.
func rightAck(a api.Ack) bool {
	return formula.Right(a.Release) && all(a.Closure, cred.Right) && rising(a.Closure, cred.Compare)
}

// compareAcks by their Roles.
func compareAcks(a, b api.Ack) int {
	return role.Compare(a.Role, b.Role)
}

// rightGuards of what it holds?
func rightGuards(p api.Party) bool {
	return all(p.Creds, func(h api.Guarded) bool {
		_, e := guardOf(p, h)
		return e == api.OK
	})
}

// all of a list are so?
func all[T any](l []T, is func(x T) bool) bool {
	for _, x := range l {
		if !is(x) {
			return false
		}
	}
	return true
}

// rising: is each of a list above the one ahead of it?
func rising[T any](l []T, compare func(a, b T) int) bool {
	for i := 1; i < len(l); i++ {
		if compare(l[i-1], l[i]) >= 0 {
			return false
		}
	}
	return true
}
