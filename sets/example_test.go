package sets_test

import (
	"fmt"

	"entente/api"
	"entente/parse"
	"entente/sets"
)

// Two of three: three sets of two.
func Example() {
	f, _ := parse.Parse("at 2(a.r, b.s, c.t)")
	l, e := sets.Least(f)
	fmt.Println(l, int(e))
	fmt.Println(sets.First(f, func(r api.Role) bool { return r.Owner != "a" }))
	fmt.Println(sets.First(f, func(r api.Role) bool { return r.Owner == "a" }))
	fmt.Println(sets.Suffices(f, l[1]), sets.Suffices(f, l[1][1:]))
	fmt.Println(sets.Within(l[1][1:], l[1]), sets.Within(l[0], l[1]))
	// Output:
	// [[{a r} {b s}] [{a r} {c t}] [{b s} {c t}]] 0
	// [{b s} {c t}] true
	// [] false
	// true false
	// true false
}
