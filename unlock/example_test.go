package unlock_test

import (
	"fmt"

	"entente/api"
	"entente/cred"
	"entente/parse"
	"entente/role"
	"entente/unlock"
)

// hold a credential under a guard.
func hold(c, release string) api.Guarded {
	said, _ := cred.Parse(c)
	f, _ := parse.Parse(release)
	return api.Guarded{Signed: api.Signed{Cred: said, Tag: []byte("12345678")}, Release: f}
}

func Example() {
	shop := api.Party{Name: "shop", Creds: []api.Guarded{
		hold("bbb.good <- shop", "all()"),
		hold("gov.firm <- shop", "gov.id"),
	}}
	ann := api.Party{Name: "ann", Creds: []api.Guarded{
		hold("gov.id <- ann", "bbb.good"),
		hold("gov.spy <- ann", "gov.agent"),
		hold("gov.vet <- ann", "gov.firm"),
	}}
	x, y, rounds := unlock.Of(shop, ann)
	fmt.Println(len(x), rounds)
	for _, c := range y {
		fmt.Println(cred.Text(c))
	}
	f, _ := parse.Parse("gov.id and (gov.vet or gov.spy)")
	fmt.Println(unlock.Grants(shop, ann, f))
	l, ok := unlock.Proof(shop, ann, f)
	for _, s := range l {
		fmt.Println(s.Fact.Who, "is in", role.Text(s.Fact.Role))
	}
	fmt.Println(ok)
	spy, _ := parse.Parse("gov.spy")
	fmt.Println(unlock.Grants(shop, ann, spy))
	// Output:
	// 2 4
	// gov.id <- ann
	// gov.vet <- ann
	// true
	// ann is in gov.id
	// ann is in gov.vet
	// true
	// false
}

// Both want to see the other one's first: none.
func Example_both() {
	a := api.Party{Name: "a", Creds: []api.Guarded{hold("x.y <- a", "x.z")}}
	b := api.Party{Name: "b", Creds: []api.Guarded{hold("x.z <- b", "x.y")}}
	fmt.Println(unlock.Of(a, b))
	// Output: [] [] 0
}
