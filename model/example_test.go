package model_test

import (
	"fmt"

	"entente/api"
	"entente/cred"
	"entente/model"
	"entente/role"
)

// a.r <- b.s and b.s <- d: d is in a.r.
func Example() {
	include, _ := cred.Parse("a.r <- b.s")
	member, _ := cred.Parse("b.s <- d")
	m := model.Of([]api.Cred{include, member})
	r, _ := role.Parse("a.r")
	fmt.Println(m.In(r, "d"), m.Members(r), len(m.Roles("d")))
	more, _ := cred.Parse("b.s <- e")
	fmt.Println(m.Add(more), m.Add(more))
	for _, f := range m.Facts() {
		fmt.Println(role.Text(f.Role), f.Who)
	}
	// Output:
	// true [d] 2
	// 2 0
	// a.r d
	// a.r e
	// b.s d
	// b.s e
}

// One step, by whatever a function says: here ann and bob are in each role.
func ExampleHolds() {
	c, _ := cred.Parse("club.old <- club.member")
	in := func(r api.Role, who string) bool { return who == "ann" || who == "bob" }
	for _, f := range model.Holds(c, in, []string{"cy", "bob", "ann", "Ann"}) {
		fmt.Println(role.Text(f.Role), f.Who)
	}
	// Output:
	// club.old ann
	// club.old bob
}
