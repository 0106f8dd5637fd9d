package cred_test

import (
	"regexp"
	"strings"
	"testing"

	"entente/api"
	"entente/cred"
)

// form of a text: the names of the Head, then those of each kind.
var form = regexp.MustCompile(strings.ReplaceAll(`^(N)\.(N) <- (?:(N)|(N)\.(N)|(N)\.(N)\.(N)|(N)\.(N) & (N)\.(N))$`, "N", "[a-z][a-z0-9-]{0,15}"))

// read is the right credential that a text is by its form, and whether it is one.
func read(s string) (api.Cred, bool) {
	m := form.FindStringSubmatch(s)
	if m == nil {
		return api.Cred{}, false
	}
	c := api.Cred{Head: api.Role{Owner: m[1], Word: m[2]}}
	ok := true
	switch {
	case m[3] != "":
		c.Kind, c.Who = 1, m[3]
	case m[4] != "":
		c.Kind, c.B = 2, api.Role{Owner: m[4], Word: m[5]}
	case m[6] != "":
		c.Kind, c.B, c.Word2 = 3, api.Role{Owner: m[6], Word: m[7]}, m[8]
		ok = m[6] == m[1]
	default:
		c.Kind, c.B, c.C = 4, api.Role{Owner: m[9], Word: m[10]}, api.Role{Owner: m[11], Word: m[12]}
		ok = m[9] < m[11] || m[9] == m[11] && m[10] < m[12]
	}
	if !ok {
		return api.Cred{}, false
	}
	return c, true
}

// parsed fails the test unless s is just what its form says; does it answer one?
func parsed(t *testing.T, s string) bool {
	t.Helper()
	want, is := read(s)
	got, ok := cred.Parse(s)
	if ok != is || got != want {
		t.Errorf("%.200q: %v, %v, not %v, %v", s, got, ok, want, is)
	}
	return is
}

// P5.1, P5.4: which credential a text is; what is told is parsed.
func TestParse(t *testing.T) {
	for _, x := range known {
		if got, ok := cred.Parse(x.text); !ok || got != x.c {
			t.Errorf("%q: %v, %v", x.text, got, ok)
		}
		if !parsed(t, cred.Text(x.c)) {
			t.Errorf("%q isn't of the form", cred.Text(x.c))
		}
	}
}

// P5.1: texts that are no right credential's: the zero one and false.
func TestParseNone(t *testing.T) {
	for _, s := range []string{
		"", " ", "<-", " <- ", "a.r", "a.r <-", "a.r <- ", "a.r<-d", "a.r <-d", "a.r<- d", "<- d", " <- d", "d", "a.r d", "a.r - d", "a.r < d", "a.r -> d", "a.r <= d", "a.r <-- d", "a.r ← d",
		" a.r <- d", "a.r <- d ", "a.r  <- d", "a.r <-  d", "a.r\t<- d", "a.r <- d\n", "a.r <- d\x00", "a .r <- d", "a.r <- d.", "a.r <- .d", "a. <- d", ".r <- d",
		"r <- d", "a.b.r <- d", "a.r.s.t <- d", "A.r <- d", "a.r <- D", "a.r <- 1", "a.r <- -d", "a.R <- d", "a.r <- é", "a.r <- \xff",
		"a.r <- d <- e", "a.r <- d, e", "a.r <- d & e", "a.r <- d e", "a.r <- d\na.r <- e", "a.r <- d;",
		"a.r <- b.", "a.r <- .s", "a.r <- b..s", "a.r <- b.S", "a.r <- B.s", "a.r <- b.s ", "a.r <- b s", "a.r <- b. s",
		"a.r <- b.s.t", "aa.r <- a.s.t", "a.r <- aa.s.t", "a.r <- a.s.", "a.r <- a..t", "a.r <- .s.t", "a.r <- a.s.T", "a.r <- a.S.t", "a.r <- a.s.t.u", "a.r <- a.s .t",
		"a.r <- c.t & b.s", "a.r <- b.s & b.s", "a.r <- b.t & b.s", "a.r <- b.a & ab.c", "a.r <- a-.b & a.z",
		"a.r <- b.s & ", "a.r <- & c.t", "a.r <-  & c.t", "a.r <- b.s &", "a.r <- b.s&c.t", "a.r <- b.s& c.t", "a.r <- b.s &c.t", "a.r <- b.s  & c.t", "a.r <- b.s &  c.t", "a.r <- b.s && c.t", "a.r <- b.s and c.t", "a.r <- b.s + c.t",
		"a.r <- b.s & d", "a.r <- a & b.s", "a.r <- a.s.t & b.s", "a.r <- a.s & b.s.t", "a.r <- a.s & b.t & c.u", "a.r & b.s <- d", "a.r & b.s", "a.r <- a.s & a.t <- d",
		"a.r <- " + longest + "a", longest + "a.r <- d", "a." + longest + "a <- d", "a.r <- b." + longest + "a", "a.r <- a.s." + longest + "a", "a.r <- a.s & b." + longest + "a",
		strings.Repeat("a.r <- ", 9000), strings.Repeat("a", 65536), "a.r <- " + strings.Repeat("a.", 32768), "a.r <- " + strings.Repeat("a.s & ", 9000) + "z.z",
	} {
		if got, ok := cred.Parse(s); ok || got != (api.Cred{}) {
			t.Errorf("%.200q: %v, %v", s, got, ok)
		}
		if parsed(t, s) {
			t.Errorf("%.200q is of the form", s)
		}
	}
}

// P5.1: each byte in the stead of each of a text, ahead of it, and each of them away.
func TestParseEachByte(t *testing.T) {
	count := [2]int{}
	for _, x := range known {
		for at := range len(x.text) + 1 {
			ahead, behind := x.text[:at], x.text[at:]
			for b := range 256 {
				s := string([]byte{byte(b)})
				texts := []string{ahead + s + behind}
				if behind != "" {
					texts = append(texts, ahead+s+behind[1:], ahead+behind[1:], ahead)
				}
				for _, s := range texts {
					if parsed(t, s) {
						count[1]++
					} else {
						count[0]++
					}
				}
			}
		}
	}
	if count[0] < 1000 || count[1] < 1000 {
		t.Errorf("only so many were none, and one: %v", count)
	}
}

// P5.1, P5.4: any few parts one behind the other; what is parsed is told so again.
func TestParseThenText(t *testing.T) {
	count := [5]int{}
	pieces := []string{"a", "b", "a.b", ".", " <- ", " & ", " ", "B"}
	var each func(s string, left int)
	each = func(s string, left int) {
		if parsed(t, s) {
			c, _ := cred.Parse(s)
			count[c.Kind]++
			if !cred.Right(c) || cred.Text(c) != s {
				t.Errorf("%q is told as %q", s, cred.Text(c))
			}
		}
		for _, x := range pieces {
			if left > 0 {
				each(s+x, left-1)
			}
		}
	}
	each("", 6)
	for kind := 1; kind <= 4; kind++ {
		if count[kind] == 0 {
			t.Errorf("none of kind %d was parsed", kind)
		}
	}
}
