package check_test

import (
	"fmt"

	"entente/api"
	"entente/check"
	"entente/cred"
)

// a.r <- b.s (d in a.r) alone: place 0, ErrChain.
func Example() {
	include, _ := cred.Parse("a.r <- b.s")
	member, _ := cred.Parse("b.s <- d")
	may := []api.Cred{include, member}
	want := api.Fact{Role: include.Head, Who: "d"}
	last := api.Step{Cred: include, Fact: want}
	first := api.Step{Cred: member, Fact: api.Fact{Role: member.Head, Who: "d"}}
	fmt.Println(check.Check([]api.Step{last}, may, want))
	fmt.Println(check.Check([]api.Step{first}, may, want))
	fmt.Println(check.Check([]api.Step{first, last}, may, want))
	fmt.Println(check.Tight([]api.Step{first, last}), check.Follows(last, []api.Fact{first.Fact}))
	// Output:
	// 0 entente: error 50
	// 1 entente: error 42
	// 2 entente: error 0
	// true true
}
