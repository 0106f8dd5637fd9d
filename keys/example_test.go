package keys_test

import (
	"fmt"

	"entente/api"
	"entente/cred"
	"entente/keys"
	"entente/tape"
)

func Example() {
	g, e := keys.New(api.Key{Who: "bob", Key: []byte("kb")}, api.Key{Who: "ann", Key: []byte("ka")})
	fmt.Println(int(e), g.Names())
	c, _ := cred.Parse("ann.friend <- cy")
	s, e := g.Sign(c)
	fmt.Println(int(e), len(s.Tag), int(g.Check(s)))
	// A credential of bob's, with ann's tag.
	d := s
	d.Head.Owner = "bob"
	fmt.Println(g.Check(d))
	for _, x := range g.Good(d, s, s) {
		fmt.Println(cred.Text(x))
	}
	var p tape.Pen
	ok := keys.Put(&p, s)
	var got api.Signed
	e = tape.Read(p.Bytes(), func(t *tape.Reader) { got = keys.Get(t) })
	fmt.Println(ok, int(e), int(g.Check(got)))
	// Output:
	// 0 [ann bob]
	// 0 8 0
	// entente: error 20
	// ann.friend <- cy
	// true 0 0
}
