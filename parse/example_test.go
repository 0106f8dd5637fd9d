package parse_test

import (
	"fmt"

	"entente/parse"
)

func Example() {
	f, e := parse.Parse("a.r and (b.s or c.t)")
	fmt.Println(parse.Text(f), int(e))
	f, e = parse.Parse("at 2(a.r,\n\tb.s, c.t and d.u)")
	fmt.Println(parse.Text(f), int(e))
	f, e = parse.Parse("a.r and")
	fmt.Println(f.Op, int(e))
	f, e = parse.Parse("at 2(a.r)")
	fmt.Println(f.Op, int(e))
	// Output:
	// all(a.r, some(b.s, c.t)) 0
	// at 2(a.r, b.s, all(c.t, d.u)) 0
	// 0 11
	// 0 12
}
