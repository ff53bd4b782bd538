package frames

import (
	"testing"

	"frames/api"
)

// pagesIn: which pages of a kept environment are in.
func pagesIn(m *Machine, env int) [api.MaxPages]bool {
	var list [api.MaxPages]bool
	for page := range list {
		_, list[page] = m.envs[env].memory.Frame(page)
	}
	return list
}

// others lets an environment but 0 make some call; what it answers is no matter here. Now and then it names 0 too.
func others(m *Machine, d *dice) {
	env, page, slot, write := 1+d.below(3), d.below(16), d.below(8), d.below(2) == 0
	handle := d.below(40)
	l, _ := m.Rights(env)
	if len(l) > 0 {
		handle = l[d.below(len(l))].Handle
	}
	switch d.below(20) {
	case 0, 1, 2, 3:
		m.Alloc(env)
	case 4, 5, 6:
		m.Derive(env, handle, d.below(4), write)
	case 7:
		m.Revoke(env, handle)
	case 8:
		m.Drop(env, handle)
	case 9:
		m.Kill(env)
	case 10, 11:
		m.Spawn(env)
	case 12, 13:
		m.Map(env, page, handle, write, slot)
	case 14:
		m.Store(env, page, d.below(4), d.below(256))
	case 15:
		m.Unmap(env, page)
	case 16:
		m.Keep(env, 1+d.below(16), d.below(3))
	case 17, 18:
		m.Write(env, d.below(64), d.below(256))
	default:
		m.Squeeze(env, 1+d.below(4))
	}
}

// tally: what the accesses of one test have shown.
type tally struct{ refused, in, out, refills int }

// checked makes an access of environment 0, and tells whether P20 holds for it. wrote is what it wrote, address by address.
func checked(t *testing.T, m *Machine, d *dice, wrote *[64]int, sum *tally) {
	t.Helper()
	address, value, write := d.below(64), d.below(256), d.below(2) == 0
	pages := pagesIn(m, 0)
	c, _ := m.Counts(0)
	before := state(m)
	got, e := 0, api.OK
	if write {
		e = m.Write(0, address, value)
	} else {
		got, e = m.Read(0, address)
	}
	if e != api.OK {
		if e != api.ErrFull || c.In > 0 {
			t.Fatalf("address %d: answer %d, with %d pages in", address, e, c.In)
		}
		wantSame(t, m, before)
		sum.refused++
		return
	}
	if write {
		wrote[address] = value
	} else if got != wrote[address] {
		t.Fatalf("Read(0, %d) = %d, want %d", address, got, wrote[address])
	}
	atMostOne(t, m, c, pages, sum)
}

// atMostOne: since c and pages were told, at most one refill was made, one page came in, one went out.
func atMostOne(t *testing.T, m *Machine, c api.Counts, pages [api.MaxPages]bool, sum *tally) {
	t.Helper()
	now, _ := m.Counts(0)
	refills, ins, outs := now.Refills-c.Refills, now.Ins-c.Ins, now.Outs-c.Outs
	in, out := 0, 0
	for page, is := range pagesIn(m, 0) {
		if is && !pages[page] {
			in++
		}
		if !is && pages[page] {
			out++
		}
	}
	if refills < 0 || refills > 1 || in > 1 || out > 1 || ins < 0 || ins > in || outs < 0 || outs > out {
		t.Fatalf("an access: %+v, then %+v; %d in, %d out", c, now, in, out)
	}
	sum.refills, sum.in, sum.out = sum.refills+refills, sum.in+in, sum.out+out
}

func TestP20WhateverOthersDo(t *testing.T) {
	var sum tally
	for seed := 0; seed < 300; seed++ {
		d := &dice{state: uint64(seed) * 77}
		m := made(t, 1+d.below(6), 1+d.below(8), 4)
		for i := d.below(8); i > 0; i-- {
			others(m, d)
		}
		wantErr(t, "Kill(0)", m.Kill(0), api.OK) // others may have given it rights
		wantErr(t, "Spawn(0)", m.Spawn(0), api.OK)
		keep(t, m, 0, 1+d.below(6), seed%3)
		var wrote [64]int
		for i := 0; i < 400; i++ {
			switch kind := d.below(40); {
			case kind < 18:
				others(m, d)
			case kind < 19:
				squeeze(t, m, 0, 1+d.below(6))
			case kind < 20:
				clean(t, m, 0)
			default:
				checked(t, m, d, &wrote, &sum)
			}
		}
	}
	if sum.refused == 0 || sum.in == 0 || sum.out == 0 || sum.refills == 0 {
		t.Errorf("the calls show too little: %+v", sum)
	}
}

// While a page is in, an access is never refused, though no frame is free and no room for a right is left.
func TestP20NeverFullWhileAPageIsIn(t *testing.T) {
	for policy := 0; policy <= 2; policy++ {
		m := made(t, 3, 2, 2)
		keep(t, m, 0, 16, policy)
		write(t, m, 0, 0, 1)
		alloc(t, m, 1, 2)
		alloc(t, m, 1, 3)
		for h := 4; h <= api.MaxRights; h++ {
			derive(t, m, 1, 2, 1, false, h)
		}
		squeeze(t, m, 0, 1)
		wantRights(t, m, 0, one) // the last page stays in: a quota is never 0
		for address := 0; address < 64; address++ {
			write(t, m, 0, address, 1+address)
		}
		for address := 63; address >= 0; address-- {
			read(t, m, 0, address, 1+address)
		}
		wantCounts(t, m, 0, "31 15 16 1")
	}
}
