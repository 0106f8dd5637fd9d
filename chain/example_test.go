package chain_test

import (
	"fmt"

	"entente/api"
	"entente/chain"
	"entente/cred"
	"entente/role"
)

// a.r <- b.s and b.s <- d: how d comes to a.r. Of a Member: one step.
func Example() {
	include, _ := cred.Parse("a.r <- b.s")
	member, _ := cred.Parse("b.s <- d")
	creds := []api.Cred{include, member}
	long, _ := chain.Find(creds, api.Fact{Role: include.Head, Who: "d"})
	for _, s := range long {
		fmt.Println(cred.Text(s.Cred)+":", s.Fact.Who, "is in", role.Text(s.Fact.Role))
	}
	short, ok := chain.Find(creds, api.Fact{Role: member.Head, Who: "d"})
	fmt.Println(len(short), ok)
	fmt.Println(chain.Find(creds, api.Fact{Role: member.Head, Who: "e"}))
	fmt.Println(len(chain.Merge(short, long)), len(chain.Used(long)))
	// Output:
	// b.s <- d: d is in b.s
	// a.r <- b.s: d is in a.r
	// 1 true
	// [] false
	// 2 2
}
