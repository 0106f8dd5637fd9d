package role_test

import (
	"fmt"

	"entente/api"
	"entente/role"
	"entente/tape"
)

func Example() {
	r, ok := role.Parse("shop.member")
	fmt.Println(r.Owner, r.Word, ok, role.Right(r), role.Text(r))
	gov := api.Role{Owner: "gov", Word: "id"}
	l := role.Set(r, gov, r, api.Role{Owner: "gov"})
	fmt.Println(l, role.Has(l, gov), role.Compare(gov, r))
	var p tape.Pen
	fmt.Println(role.Put(&p, gov), role.Put(&p, api.Role{Owner: "gov"}))
	e := tape.Read(p.Bytes(), func(t *tape.Reader) { r = role.Get(t) })
	fmt.Println(int(e), role.Text(r))
	// Output:
	// shop member true true shop.member
	// [{gov id} {shop member}] true -1
	// true false
	// 0 gov.id
}
