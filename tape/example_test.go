package tape_test

import (
	"fmt"

	"entente/api"
	"entente/tape"
)

func Example() {
	var p tape.Pen
	p.Number(300)
	p.Text([]byte("ann"))
	var n int
	var who []byte
	e := tape.Read(p.Bytes(), func(r *tape.Reader) {
		n = r.Number(1000) // at most 1000
		who = r.Text(16)   // of at most 16 bytes
		if len(who) == 0 {
			r.Fail(api.ErrName)
		}
	})
	fmt.Printf("% X: %d %s %d\n", p.Bytes(), n, who, e)
	// Output: AC 02 03 61 6E 6E: 300 ann 0
}
