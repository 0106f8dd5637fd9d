package guard_test

import (
	"fmt"

	"entente/api"
	"entente/cred"
	"entente/guard"
	"entente/keys"
	"entente/parse"
)

func Example() {
	g, _ := keys.New(api.Key{Who: "gov", Key: []byte("g")}, api.Key{Who: "gym", Key: []byte("m")})
	id, _ := cred.Parse("gov.id <- ann")
	card, _ := cred.Parse("gym.card <- ann")
	signedID, _ := g.Sign(id)
	signedCard, _ := g.Sign(card)
	shop, _ := parse.Parse("shop.ok")
	agent, _ := parse.Parse("gov.agent")
	always, _ := parse.Parse("all()")
	p := api.Party{
		Name:  "ann",
		Creds: []api.Guarded{{Signed: signedID, Release: shop}, {Signed: signedCard, Release: always}},
		Acks:  []api.Ack{{Role: id.Head, Release: agent, Closure: []api.Cred{id}}},
	}
	fmt.Println(int(guard.Right(p)), int(guard.Check(p, g)))
	f, e := guard.Of(p, id)
	fmt.Println(parse.Text(f), int(e), guard.Acks(p, id))
	fmt.Println(len(guard.Free(p, nil, "bob")), guard.Told(p, id.Head, nil, "bob"))
	ok, _ := cred.Parse("shop.ok <- bob")
	is, _ := cred.Parse("gov.agent <- bob")
	has := []api.Cred{ok, is}
	for _, c := range guard.Free(p, has, "bob") {
		fmt.Println(cred.Text(c))
	}
	fmt.Println(guard.Told(p, id.Head, has, "bob"), len(guard.Free(p, has, "cy")))
	// Output:
	// 0 0
	// all(gov.agent, shop.ok) 0 [{gov id}]
	// 1 false
	// gov.id <- ann
	// gym.card <- ann
	// true 1
}
