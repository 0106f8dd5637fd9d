package cred_test

import (
	"fmt"

	"entente/api"
	"entente/cred"
	"entente/role"
	"entente/tape"
)

func Example() {
	c, ok := cred.Parse("shop.deal <- shop.partner.member")
	fmt.Println(c.Kind == api.Linked, role.Text(c.Head), role.Text(c.B), c.Word2, ok)
	_, ok = cred.Parse("a.r <- c.t & b.s")
	fmt.Println(ok)
	for _, r := range cred.Roles(c) {
		fmt.Println(role.Text(r))
	}
	d := api.Cred{Kind: api.Member, Head: c.Head, Who: "ann"}
	l := cred.Set(c, d, c, api.Cred{})
	for _, x := range l {
		fmt.Println(cred.Text(x))
	}
	fmt.Println(cred.Compare(d, c), cred.Has(l, d), cred.Right(api.Cred{}))
	var got api.Cred
	e := tape.Read(cred.Bytes(d), func(t *tape.Reader) { got = cred.Get(t) })
	fmt.Println(int(e), got == d)
	// Output:
	// true shop.deal shop.partner member true
	// false
	// shop.deal
	// shop.partner
	// shop.deal <- ann
	// shop.deal <- shop.partner.member
	// -1 true false
	// 0 true
}
