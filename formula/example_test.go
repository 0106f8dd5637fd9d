package formula_test

import (
	"fmt"

	"entente/api"
	"entente/formula"
	"entente/role"
	"entente/tape"
)

// a.r and one of b.s and c.t. All of none: true, whatever is.
func Example() {
	r, _ := role.Parse("a.r")
	s, _ := role.Parse("b.s")
	u, _ := role.Parse("c.t")
	either := api.Formula{Op: api.Some, Kids: []api.Formula{{Op: api.Atom, Role: s}, {Op: api.Atom, Role: u}}}
	f := api.Formula{Op: api.All, Kids: []api.Formula{{Op: api.Atom, Role: r}, either}}
	nodes, deep := formula.Size(f)
	fmt.Println(formula.Right(f), nodes, deep, len(formula.Atoms(f)))
	has := []api.Role{r}
	is := func(r api.Role) bool { return role.Has(has, r) }
	fmt.Println(formula.True(f, is), formula.True(api.Formula{Op: api.All}, is))
	has = append(has, u)
	fmt.Println(formula.True(f, is))
	var p tape.Pen
	formula.Put(&p, f)
	var got api.Formula
	e := tape.Read(p.Bytes(), func(t *tape.Reader) { got = formula.Get(t) })
	fmt.Println(int(e), formula.Same(got, f), formula.Compare(got, either))
	// Output:
	// true 5 3 3
	// false true
	// true
	// 0 true -1
}
