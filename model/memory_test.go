package model_test

import (
	"slices"
	"testing"

	"entente/api"
	"entente/model"
)

// spoil all of a list, the spare room too.
func spoil[T any](l []T, with T) {
	l = l[:cap(l)]
	for i := range l {
		l[i] = with
	}
}

// A model of nil: false, nothing, 0.
func TestNil(t *testing.T) {
	var m *model.Model
	for _, c := range append(parsed(t, "a.r <- d", "a.r <- b.s"), wrong...) {
		if got := m.Add(c, c); got != 0 {
			t.Errorf("%v: %d came", c, got)
		}
		if m.In(c.Head, c.Who) || len(m.Members(c.Head)) != 0 || len(m.Roles(c.Who)) != 0 {
			t.Errorf("%v is there", c)
		}
	}
	if m.Add() != 0 || len(m.Facts()) != 0 || m.In(api.Role{}, "") || len(m.Members(api.Role{})) != 0 || len(m.Roles("")) != 0 {
		t.Error("there is something")
	}
}

// Of nothing there is a model all the same, to which may be added.
func TestEmpty(t *testing.T) {
	for _, l := range [][]api.Cred{nil, {}, wrong} {
		m := model.Of(l)
		if m == nil {
			t.Fatalf("of %v: nil", l)
		}
		if len(m.Facts()) != 0 || m.In(api.Role{}, "") || len(m.Members(api.Role{})) != 0 || len(m.Roles("")) != 0 {
			t.Errorf("of %v there is something", l)
		}
		if got := m.Add(parsed(t, "a.r <- d")...); got != 1 {
			t.Errorf("of %v: %d came", l, got)
		}
	}
}

// A model keeps no list that was handed in, and changes none, its spare room included.
func TestKeepsNoList(t *testing.T) {
	l := parsed(t, "z.z <- d", "b.s <- d", "a.r <- b.s", "c.t <- b.s & e.u", "a.r <- b.s")
	was := slices.Clone(l)
	room := append(make([]api.Cred, 0, 9), l...)
	m := model.Of(room)
	if !slices.Equal(room, was) || room[:9][5] != (api.Cred{}) {
		t.Errorf("now %v", room[:9])
	}
	spoil(room, parsed(t, "x.y <- x")[0])
	room = append(room[:0], parsed(t, "e.u <- e", "e.u <- d")...)
	if got := m.Add(room...); got != 3 {
		t.Errorf("%d came", got)
	}
	if !slices.Equal(room, parsed(t, "e.u <- e", "e.u <- d")) || room[:9][2].Who != "x" {
		t.Errorf("now %v", room[:9])
	}
	spoil(room, parsed(t, "x.y <- x")[0])
	if got := m.Add(parsed(t, "b.s <- e")...); got != 3 {
		t.Errorf("%d came", got)
	}
	want := []string{"a.r: d", "a.r: e", "b.s: d", "b.s: e", "c.t: d", "c.t: e", "e.u: d", "e.u: e", "z.z: d"}
	if got := told(m.Facts()); !slices.Equal(got, want) {
		t.Errorf("%q", got)
	}
}

// Holds changes no list of names, its spare room included.
func TestHoldsKeepsNoList(t *testing.T) {
	room := append(make([]string, 0, 9), "d", "", "b", "d", "a")
	for _, c := range parsed(t, "a.r <- d", "a.r <- b.s", "a.r <- a.s.t", "a.r <- b.s & c.t") {
		model.Holds(c, func(api.Role, string) bool { return true }, room)
		if !slices.Equal(room[:9], []string{"d", "", "b", "d", "a", "", "", "", ""}) {
			t.Errorf("%v: now %q", c, room[:9])
		}
	}
}

// What is answered is new each time, the spare room too, and stays as it was.
func TestAnswersNew(t *testing.T) {
	l := parsed(t, "a.r <- b.s", "b.s <- d", "b.s <- e", "b.s <- f", "c.t <- d")
	m := model.Of(l)
	want := told(m.Facts())
	members, ofD, facts := m.Members(of("b.s")), m.Roles("d"), m.Facts()
	for range 2 {
		spoil(m.Members(of("b.s")), "x")
		spoil(m.Roles("d"), of("x.y"))
		spoil(m.Facts(), api.Fact{Role: of("x.y"), Who: "x"})
		spoil(model.Holds(l[0], m.In, []string{"d", "e", "f"}), api.Fact{})
	}
	if got := told(m.Facts()); !slices.Equal(got, want) {
		t.Errorf("%q", got)
	}
	m.Add(parsed(t, "b.s <- a", "a.a <- d")...)
	if !slices.Equal(members, []string{"d", "e", "f"}) || !slices.Equal(roles(ofD), []string{"a.r", "b.s", "c.t"}) || !slices.Equal(told(facts), want) {
		t.Errorf("%q, %q, %q", members, roles(ofD), told(facts))
	}
	if got := m.Members(of("b.s")); !slices.Equal(got, []string{"a", "d", "e", "f"}) {
		t.Errorf("%q", got)
	}
	if got := roles(m.Roles("d")); !slices.Equal(got, []string{"a.a", "a.r", "b.s", "c.t"}) {
		t.Errorf("%q", got)
	}
}

// What is asked changes nothing: a role or a name that was asked for isn't there behind it.
func TestAskedChangesNothing(t *testing.T) {
	m := model.Of(parsed(t, "a.r <- b.s", "b.s <- d"))
	for range 2 {
		m.In(of("x.y"), "d")
		m.Members(of("x.y"))
		m.Roles("x")
		if !slices.Equal(told(m.Facts()), []string{"a.r: d", "b.s: d"}) || len(m.Roles("d")) != 2 {
			t.Errorf("%q", told(m.Facts()))
		}
	}
}
