package formula

import (
	"bytes"
	"math"

	"entente/api"
	"entente/role"
	"entente/tape"
)

// Put a formula.
func Put(p *tape.Pen, f api.Formula) bool {
	// All of it is asked first, for nothing is written of one that isn't right.
	return Right(f) && put(p, f)
}

// put a right formula, if there is a pen.
func put(p *tape.Pen, f api.Formula) bool {
	if !p.Number(f.Op) {
		return false
	}
	if f.Op == api.Atom {
		return role.Put(p, f.Role)
	}
	if f.Op == api.AtK {
		p.Number(f.K)
	}
	p.Number(len(f.Kids))
	for _, kid := range f.Kids {
		put(p, kid)
	}
	return true
}

// Get a formula.
func Get(t *tape.Reader) api.Formula {
	nodes := 0
	f := get(t, 1, &nodes)
	if !Right(f) {
		t.Fail(api.ErrForm)
		return api.Formula{} // Fail lets a nil reader, and one that has ended, come here.
	}
	return f
}

// get the next node, so many deep, and its Kids; nodes are counted as they come. What they make together isn't asked.
func get(t *tape.Reader, deep int, nodes *int) api.Formula {
	// Without a bound, for an Op that is too great is told as any other wrong one.
	f := api.Formula{Op: t.Number(math.MaxInt)}
	*nodes++
	if f.Op < api.Atom || f.Op > api.AtK || deep > api.MostDeep || *nodes > api.MostNodes {
		t.Fail(api.ErrForm)
		return api.Formula{}
	}
	if f.Op == api.Atom {
		f.Role = role.Get(t)
		return f
	}
	if f.Op == api.AtK {
		f.K = t.Number(api.MostKids)
	}
	for range t.Number(api.MostKids) {
		f.Kids = append(f.Kids, get(t, deep+1, nodes))
	}
	return f
}

// Compare two formulas.
func Compare(a, b api.Formula) int {
	return bytes.Compare(written(a), written(b))
}

// written formula: its bytes, none of one that isn't right.
func written(f api.Formula) []byte {
	var p tape.Pen
	Put(&p, f)
	return p.Bytes()
}
