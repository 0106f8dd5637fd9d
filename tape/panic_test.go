package tape_test

import (
	"errors"
	"runtime"
	"testing"

	"entente/api"
	"entente/tape"
)

const x42 = 42

// caught is what run panics with, or nil.
func caught(run func()) (x any) {
	defer func() { x = recover() }()
	run()
	return nil
}

// P1.3: what f panics with by itself goes on beyond Read as it is, errors of api too.
func TestPanicGoesOn(t *testing.T) {
	here := 0
	for _, want := range []any{x42, "words", errors.New("own"), &here, api.OK, api.ErrEnd, api.ErrTrail, struct{ E api.Errno }{api.ErrForm}, [2]int{1, 2}} {
		behind := false
		got := caught(func() {
			tape.Read([]byte("\x01"), func(r *tape.Reader) {
				r.Number(9)
				panic(want)
			})
			behind = true
		})
		if got != want || behind {
			t.Errorf("panic with %v: %v (gone on: %v)", want, got, behind)
		}
	}
}

// P1.3: the same of values that can't be compared, and of nil.
func TestPanicOfOddValues(t *testing.T) {
	got, ok := caught(func() {
		tape.Read(nil, func(*tape.Reader) { panic([]int{1, 2}) })
	}).([]int)
	if !ok || len(got) != 2 {
		t.Errorf("panic with a slice: %v", got)
	}
	var none *runtime.PanicNilError
	if x, ok := caught(func() {
		tape.Read(nil, func(*tape.Reader) { panic(nil) })
	}).(error); !ok || !errors.As(x, &none) {
		t.Errorf("panic with nil: %v", x)
	}
}

// P1.3: an error of the running program's own is a panic too.
func TestPanicOfRuntime(t *testing.T) {
	var list []int
	_, ok := caught(func() {
		tape.Read([]byte("\x03"), func(r *tape.Reader) { list[r.Number(9)]++ })
	}).(runtime.Error)
	if !ok {
		t.Error("an index out of range doesn't go on beyond Read")
	}
}

// P1.3: so does a panic of what f deferred, behind an error.
func TestPanicBehindError(t *testing.T) {
	got := caught(func() {
		tape.Read(nil, func(r *tape.Reader) {
			defer func() { panic(x42) }()
			r.Number(9)
		})
	})
	if got != x42 {
		t.Errorf("%v", got)
	}
}

// P1.3: an error within an inner Read ends the inner f alone.
func TestInnerReadApart(t *testing.T) {
	steps := ""
	var inner [3]api.Errno
	outer := tape.Read([]byte("\x01\x02\x03"), func(r *tape.Reader) {
		steps += string(rune('0' + r.Number(9)))
		inner[0] = tape.Read(nil, func(q *tape.Reader) {
			steps += "a"
			q.Number(9)
			steps += "-"
		})
		steps += string(rune('0' + r.Number(9)))
		inner[1] = tape.Read([]byte("\x04"), func(q *tape.Reader) { q.Fail(api.ErrName) })
		inner[2] = tape.Read([]byte("\x04"), nil)
		steps += string(rune('0' + r.Number(9)))
	})
	if want := [3]api.Errno{api.ErrEnd, api.ErrName, api.ErrTrail}; inner != want {
		t.Errorf("the inner ones: %v", inner)
	}
	if outer != api.OK || steps != "1a23" {
		t.Errorf("the outer one: %v, steps %q", outer, steps)
	}
}

// P1.3: an inner Read that goes well changes nothing of what the outer one answers.
func TestOuterErrorBehindInner(t *testing.T) {
	inner, n := api.ErrNil, 0
	outer := tape.Read([]byte("\x09"), func(r *tape.Reader) {
		inner = tape.Read([]byte("\x05"), func(q *tape.Reader) { n = q.Number(9) })
		r.Number(5)
		n = 0
	})
	if inner != api.OK || outer != api.ErrLong || n != 5 {
		t.Errorf("%v, %v, %d", inner, outer, n)
	}
}

// P1.2, P1.3: an outer reader's error ends the outer f at once, in an inner f too.
func TestOuterErrorWithinInner(t *testing.T) {
	steps := ""
	outer := tape.Read([]byte("\x80\x00"), func(r *tape.Reader) {
		defer func() { steps += "d" }()
		tape.Read([]byte("\x05"), func(q *tape.Reader) {
			defer func() { steps += "c" }()
			steps += "ab"[:q.Number(9)-3]
			r.Number(9)
			steps += "-"
		})
		steps += "-"
	})
	if outer != api.ErrForm || steps != "abcd" {
		t.Errorf("%v, steps %q", outer, steps)
	}
}

// P1.3: a panic goes on beyond all Reads that it is within.
func TestPanicBeyondAll(t *testing.T) {
	behind := false
	got := caught(func() {
		tape.Read(nil, func(*tape.Reader) {
			tape.Read(nil, func(*tape.Reader) { panic(x42) })
			behind = true
		})
		behind = true
	})
	if got != x42 || behind {
		t.Errorf("%v (gone on: %v)", got, behind)
	}
}

// Behind a panic or an error, Read is as ever.
func TestReadBehindPanic(t *testing.T) {
	caught(func() { tape.Read(nil, func(*tape.Reader) { panic(x42) }) })
	tape.Read(nil, func(r *tape.Reader) { r.Fail(api.ErrName) })
	n := 0
	if e := tape.Read([]byte("\x05"), func(r *tape.Reader) { n = r.Number(9) }); e != api.OK || n != 5 {
		t.Errorf("%v, %d", e, n)
	}
}
