package vault_test

import (
	"fmt"

	"entente/api"
	"entente/cred"
	"entente/keys"
	"entente/vault"
)

func Example() {
	g, _ := keys.New(api.Key{Who: "ann", Key: []byte("ka")}, api.Key{Who: "bob", Key: []byte("kb")})
	v, e := vault.New(2)
	fmt.Println(int(e), v.Len(), v.Room())
	for _, text := range []string{"bob.friend <- ann.friend", "ann.friend <- cy", "ann.friend <- cy", "ann.friend <- dan"} {
		c, _ := cred.Parse(text)
		s, _ := g.Sign(c)
		fmt.Println(int(v.Add(s)))
	}
	for s := range v.All() {
		fmt.Println(cred.Text(s.Cred), int(g.Check(s)))
	}
	c, _ := cred.Parse("ann.friend <- cy")
	s, ok := v.Get(c)
	fmt.Println(len(s.Tag), ok, len(v.Issuer("bob")), len(v.Subject("cy")), len(v.Word("friend")))
	w := v.Clone()
	fmt.Println(int(v.Drop(c)), int(v.Drop(c)), v.Len(), w.Len())
	// Output:
	// 0 0 2
	// 0
	// 0
	// 41
	// 40
	// ann.friend <- cy 0
	// bob.friend <- ann.friend 0
	// 8 true 1 1 2
	// 0 42 1 2
}

// Room 1: one goes in, another one doesn't.
func ExampleVault_Add() {
	v, _ := vault.New(1)
	a, _ := cred.Parse("a.r <- ann")
	b, _ := cred.Parse("a.r <- bob")
	fmt.Println(int(v.Add(api.Signed{Cred: a, Tag: make([]byte, 8)})))
	fmt.Println(int(v.Add(api.Signed{Cred: b, Tag: make([]byte, 8)})))
	// Output:
	// 0
	// 40
}
