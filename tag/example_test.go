package tag_test

import (
	"fmt"

	"entente/tag"
)

func Example() {
	key := []byte("key")
	t := tag.Make(key, []byte("body"))
	fmt.Printf("%x\n", t)
	fmt.Println(tag.Good(key, []byte("body"), t))
	fmt.Println(tag.Good(key, []byte("Body"), t))
	fmt.Printf("%X\n", tag.Sum())
	// Output:
	// fa8c5f1828d11100
	// true
	// false
	// CBF29CE484222325
}
