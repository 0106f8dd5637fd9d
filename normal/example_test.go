package normal_test

import (
	"fmt"

	"entente/normal"
	"entente/parse"
)

func Example() {
	f, _ := parse.Parse("all(b.s, all(a.r, b.s))")
	n, e := normal.Of(f)
	fmt.Println(parse.Text(n), int(e), normal.Is(f), normal.Is(n))
	g, _ := parse.Parse("at 2(all(), d.u, c.t)")
	n, e = normal.Both(f, g)
	fmt.Println(parse.Text(n), int(e))
	n, e = normal.Both(n, normal.Never())
	fmt.Println(parse.Text(n), int(e))
	// Output:
	// all(a.r, b.s) 0 false true
	// all(a.r, b.s, some(c.t, d.u)) 0
	// some() 0
}
