package name_test

import (
	"fmt"

	"entente/name"
	"entente/tape"
)

func Example() {
	fmt.Println(name.Right("ann-2"), name.Right("2ann"))
	l := name.Set("b", "a", "b", "1")
	fmt.Println(l, name.IsSet(l), name.Has(l, "a"))
	fmt.Println(name.Union(l, []string{"c"}), name.Both(l, []string{"c", "b"}))
	fmt.Println(name.Within([]string{"a", "1"}, l))
	var p tape.Pen
	fmt.Println(name.Put(&p, "ann"), name.Put(&p, "Bob"))
	var who string
	e := tape.Read(p.Bytes(), func(r *tape.Reader) { who = name.Get(r) })
	fmt.Println(int(e), who)
	// Output:
	// true false
	// [a b] true true
	// [a b c] [b]
	// true
	// true false
	// 0 ann
}
