package frames

import (
	"fmt"
	"testing"

	"frames/api"
)

func keep(t *testing.T, m *Machine, env int, quota int, policy int) {
	t.Helper()
	wantErr(t, fmt.Sprintf("Keep(%d, %d, %d)", env, quota, policy), m.Keep(env, quota, policy), api.OK)
}

func refuseKeep(t *testing.T, m *Machine, env int, quota int, policy int, err api.Errno) {
	t.Helper()
	before := state(m)
	wantErr(t, fmt.Sprintf("Keep(%d, %d, %d)", env, quota, policy), m.Keep(env, quota, policy), err)
	wantSame(t, m, before)
}

func read(t *testing.T, m *Machine, env int, address int, want int) {
	t.Helper()
	v, e := m.Read(env, address)
	wantNum(t, fmt.Sprintf("Read(%d, %d)", env, address), v, e, want, api.OK)
}

func refuseRead(t *testing.T, m *Machine, env int, address int, err api.Errno) {
	t.Helper()
	before := state(m)
	v, e := m.Read(env, address)
	wantNum(t, fmt.Sprintf("Read(%d, %d)", env, address), v, e, 0, err)
	wantSame(t, m, before)
}

func write(t *testing.T, m *Machine, env int, address int, value int) {
	t.Helper()
	wantErr(t, fmt.Sprintf("Write(%d, %d, %d)", env, address, value), m.Write(env, address, value), api.OK)
}

func refuseWrite(t *testing.T, m *Machine, env int, address int, value int, err api.Errno) {
	t.Helper()
	before := state(m)
	wantErr(t, fmt.Sprintf("Write(%d, %d, %d)", env, address, value), m.Write(env, address, value), err)
	wantSame(t, m, before)
}

// wantCounts: Refills, Ins, Outs, In, as a text; and Counts changes nothing.
func wantCounts(t *testing.T, m *Machine, env int, want string) {
	t.Helper()
	before := state(m)
	c, e := m.Counts(env)
	if got := fmt.Sprint(c.Refills, c.Ins, c.Outs, c.In); got != want || e != api.OK {
		t.Errorf("Counts(%d): %s, %d, want %s", env, got, e, want)
	}
	wantSame(t, m, before)
}

func refuseCounts(t *testing.T, m *Machine, env int, err api.Errno) {
	t.Helper()
	before := state(m)
	c, e := m.Counts(env)
	if c != (api.Counts{}) || e != err {
		t.Errorf("Counts(%d): %+v, %d, want %d", env, c, e, err)
	}
	wantSame(t, m, before)
}

var (
	noQuotas    = []int{0, -1, api.MaxFrames + 1, 1 << 32, 1<<32 + 1, least, most}
	noPolicies  = []int{-1, 3, 1 << 32, 1<<32 + 1, least, most}
	noAddresses = []int{-1, -4, 64, 65, 1 << 32, 1<<32 + 1, least, most}
)

func TestP14OrderOfErrors(t *testing.T) {
	m := uneven(t)
	for _, env := range append(noEnvs, 3) {
		refuseKeep(t, m, env, 99, 99, api.ErrEnv)
		refuseKeep(t, m, env, 1, 0, api.ErrEnv)
	}
	refuseKeep(t, m, 2, 99, 99, api.ErrKept)
	refuseKeep(t, m, 2, 1, 0, api.ErrKept)
	for _, quota := range noQuotas {
		refuseKeep(t, m, 0, quota, 0, api.ErrArg)
		refuseKeep(t, m, 1, quota, 99, api.ErrArg)
	}
	for _, policy := range noPolicies {
		refuseKeep(t, m, 0, 1, policy, api.ErrArg)
		refuseKeep(t, m, 1, 16, policy, api.ErrArg)
	}
	refuseKeep(t, m, 0, 1, 0, api.ErrHeld) // by a first right
	refuseKeep(t, m, 1, 1, 0, api.ErrHeld) // by a derived one
	wantErr(t, "Revoke(0, 1)", m.Revoke(0, 1), api.OK)
	for _, quota := range noQuotas {
		refuseKeep(t, m, 1, quota, 0, api.ErrArg)
	}
	for _, policy := range noPolicies {
		refuseKeep(t, m, 1, 1, policy, api.ErrArg)
	}
	keep(t, m, 1, 1, 0)
	wantErr(t, "Drop(0, 1)", m.Drop(0, 1), api.OK)
	keep(t, m, 0, 1, 0)
	refuseKeep(t, m, 0, 1, 0, api.ErrKept)
}

func TestP14QuotasAndPolicies(t *testing.T) {
	for quota := 1; quota <= 16; quota++ {
		for policy := 0; policy <= 2; policy++ {
			m := made(t, 16, 1, 1)
			keep(t, m, 0, quota, policy)
			wantCounts(t, m, 0, "0 0 0 0")
			wantRights(t, m, 0, "[]")
			wantTable(t, m, "-")
			for page := 0; page < 16; page++ {
				read(t, m, 0, 4*page, 0)
				wantCounts(t, m, 0, fmt.Sprint(page+1, 0, 0, min(page+1, quota)))
			}
		}
	}
}

func TestP14AllBytesAreZero(t *testing.T) {
	m := made(t, 2, 2, 1)
	alloc(t, m, 0, 1)
	alloc(t, m, 0, 2)
	mapped(t, m, 0, 0, 1, true, 0)
	mapped(t, m, 0, 1, 2, true, 1)
	for at := 0; at < 4; at++ {
		stored(t, m, 0, 0, at, 100+at)
		stored(t, m, 0, 1, at, 200+at)
	}
	wantErr(t, "Drop(0, 1)", m.Drop(0, 1), api.OK)
	refuseKeep(t, m, 0, 2, 0, api.ErrHeld)
	wantErr(t, "Drop(0, 2)", m.Drop(0, 2), api.OK)
	keep(t, m, 0, 2, 0)
	for address := 0; address < 64; address++ {
		read(t, m, 0, address, 0)
	}
	wantCounts(t, m, 0, "16 0 0 2")
}

func TestP15OrderOfErrors(t *testing.T) {
	m := made(t, 1, 1, 4)
	wantErr(t, "Kill(3)", m.Kill(3), api.OK)
	alloc(t, m, 0, 1)
	keep(t, m, 2, 1, api.Oldest)
	for _, env := range append(noEnvs, 3) {
		refuseRead(t, m, env, 99, api.ErrEnv)
		refuseRead(t, m, env, 0, api.ErrEnv)
		refuseWrite(t, m, env, 99, 999, api.ErrEnv)
		refuseWrite(t, m, env, 0, 0, api.ErrEnv)
		refuseCounts(t, m, env, api.ErrEnv)
	}
	for _, env := range []int{0, 1} {
		refuseRead(t, m, env, 99, api.ErrRaw)
		refuseRead(t, m, env, 0, api.ErrRaw)
		refuseWrite(t, m, env, 99, 0, api.ErrRaw)
		refuseWrite(t, m, env, 0, 999, api.ErrRaw)
		refuseWrite(t, m, env, 0, 0, api.ErrRaw)
		refuseCounts(t, m, env, api.ErrRaw)
	}
	refuseNumbers(t, m, 2) // no frame is free: ErrFull applies too
	refuseRead(t, m, 2, 0, api.ErrFull)
	refuseRead(t, m, 2, 63, api.ErrFull)
	refuseWrite(t, m, 2, 0, 0, api.ErrFull)
	refuseWrite(t, m, 2, 63, 255, api.ErrFull)
	wantCounts(t, m, 2, "0 0 0 0")
	wantErr(t, "Drop(0, 1)", m.Drop(0, 1), api.OK)
	refuseNumbers(t, m, 2)
	write(t, m, 2, 63, 255)
	refuseNumbers(t, m, 2)
	read(t, m, 2, 63, 255)
	wantRights(t, m, 2, "[{2 2 0 true}]")
}

// refuseNumbers: addresses that are not there, and values that are no bytes.
func refuseNumbers(t *testing.T, m *Machine, env int) {
	t.Helper()
	for _, address := range noAddresses {
		refuseRead(t, m, env, address, api.ErrArg)
		refuseWrite(t, m, env, address, 0, api.ErrArg)
		refuseWrite(t, m, env, address, 999, api.ErrArg)
	}
	for _, value := range noBytes {
		refuseWrite(t, m, env, 0, value, api.ErrArg)
		refuseWrite(t, m, env, 63, value, api.ErrArg)
	}
}

func TestP15WhatWasWrittenIsRead(t *testing.T) {
	for frames := 1; frames <= 16; frames++ {
		for quota := 1; quota <= 16; quota++ {
			for policy := 0; policy <= 2; policy++ {
				m := made(t, frames, 1+frames%8, 1)
				keep(t, m, 0, quota, policy)
				writeAndRead(t, m, frames+quota)
			}
		}
	}
}

// writeAndRead: half of the bytes are written, page after page; all are read the other way round; then all are written anew,
// from page to page at each step.
func writeAndRead(t *testing.T, m *Machine, salt int) {
	t.Helper()
	for address := 0; address < 64; address += 2 {
		write(t, m, 0, address, 255-address)
	}
	for address := 63; address >= 0; address-- {
		want := 0
		if address%2 == 0 {
			want = 255 - address
		}
		read(t, m, 0, address, want)
	}
	for i := 0; i < 64; i++ {
		write(t, m, 0, i*13%64, i+salt)
	}
	for i := 0; i < 64; i++ {
		read(t, m, 0, i*29%64, i*29*5%64+salt) // 13 times 5 is 1 modulo 64
	}
}

func TestP15AllValues(t *testing.T) {
	m := made(t, 1, 1, 1)
	keep(t, m, 0, 1, api.Oldest)
	for value := 0; value < 256; value++ {
		write(t, m, 0, 6, value)
		read(t, m, 0, 6, value)
		read(t, m, 0, 40, 0) // so that it goes out
		read(t, m, 0, 6, value)
	}
	for address := 0; address < 64; address++ {
		want := 0
		if address == 6 {
			want = 255
		}
		read(t, m, 0, address, want)
	}
}

// seen: what Rights, Table and Counts must tell behind an access.
type seen struct {
	access string // r or w, and the page
	rights string
	table  string
	counts string
}

// accesses makes the accesses, of environment 0, and looks at everything behind each. Each Write writes what no earlier one did.
func accesses(t *testing.T, m *Machine, list []seen) {
	t.Helper()
	var last [api.MaxPages]int
	for i, s := range list {
		page := 0
		fmt.Sscan(s.access[1:], &page)
		if s.access[0] == 'w' {
			last[page] = i + 1
			write(t, m, 0, 4*page+2, i+1)
		} else {
			read(t, m, 0, 4*page+2, last[page])
		}
		l, _ := m.Rights(0)
		c, _ := m.Counts(0)
		rights, table, counts := fmt.Sprint(l), tableText(m), fmt.Sprint(c.Refills, c.Ins, c.Outs, c.In)
		if rights != s.rights || table != s.table || counts != s.counts {
			t.Fatalf("behind access %d, %s:\n%s | %s | %s, want\n%s | %s | %s", i, s.access, rights, table, counts, s.rights, s.table, s.counts)
		}
	}
}

const (
	one   = "[{1 0 0 true}]"
	two   = "[{1 0 0 true} {2 0 1 true}]"
	three = "[{1 0 0 true} {2 0 1 true} {3 0 2 true}]"
)

func TestExample4(t *testing.T) {
	m := made(t, 2, 2, 3)
	keep(t, m, 0, 2, api.Stalest)
	accesses(t, m, []seen{
		{"w0", one, "0:0=0w -", "1 0 0 1"},
		{"w1", two, "0:0=0w 0:1=1w", "2 0 0 2"},
		{"r0", two, "0:0=0w 0:1=1w", "2 0 0 2"},
		{"w2", two, "0:0=0w 0:2=1w", "3 0 1 2"},
		{"r1", two, "0:1=0 0:2=1w", "4 1 2 2"},
		{"r0", two, "0:1=0 0:0=1", "5 2 3 2"},
		{"r2", two, "0:2=0 0:0=1", "6 3 3 2"}, // page 1 goes out as it came in
	})
}

func TestExample5(t *testing.T) {
	m := made(t, 2, 2, 3)
	keep(t, m, 0, 2, api.Oldest)
	accesses(t, m, []seen{{"r0", one, "0:0=0 -", "1 0 0 1"}})
	alloc(t, m, 1, 2)
	accesses(t, m, []seen{{"r1", one, "0:1=0 -", "2 0 0 1"}})
	keep(t, m, 2, 1, api.Oldest)
	refuseRead(t, m, 2, 0, api.ErrFull)
	wantErr(t, "Drop(1, 2)", m.Drop(1, 2), api.OK)
	read(t, m, 2, 0, 0)
	wantRights(t, m, 2, "[{3 2 1 true}]")
	wantTable(t, m, "0:1=0 2:0=1")
	wantCounts(t, m, 2, "1 0 0 1")
}

func TestP16Oldest(t *testing.T) {
	m := made(t, 4, 4, 1)
	keep(t, m, 0, 3, api.Oldest)
	accesses(t, m, []seen{
		{"r0", one, "0:0=0 - - -", "1 0 0 1"},
		{"w1", two, "0:0=0 0:1=1w - -", "2 0 0 2"},
		{"r2", three, "0:0=0 0:1=1w 0:2=2 -", "3 0 0 3"},
		{"w0", three, "0:0=0w 0:1=1w 0:2=2 -", "4 0 0 3"}, // a refill in its own slot; it stays the oldest
		{"r3", three, "0:3=0 0:1=1w 0:2=2 -", "5 0 1 3"},
		{"r1", three, "0:3=0 0:1=1w 0:2=2 -", "5 0 1 3"},
		{"r0", three, "0:3=0 0:0=1 0:2=2 -", "6 1 2 3"},
		{"r1", three, "0:3=0 0:0=1 0:1=2 -", "7 2 2 3"}, // page 2 goes out, and was never changed
		{"r2", three, "0:2=0 0:0=1 0:1=2 -", "8 2 2 3"},
		{"r3", three, "0:2=0 0:3=1 0:1=2 -", "9 2 2 3"},
		{"r0", three, "0:2=0 0:3=1 0:0=2 -", "10 3 2 3"}, // it went out unchanged now, but changed before
	})
}

func TestP16Stalest(t *testing.T) {
	m := made(t, 4, 4, 1)
	keep(t, m, 0, 3, api.Stalest)
	accesses(t, m, []seen{
		{"r0", one, "0:0=0 - - -", "1 0 0 1"},
		{"w1", two, "0:0=0 0:1=1w - -", "2 0 0 2"},
		{"r2", three, "0:0=0 0:1=1w 0:2=2 -", "3 0 0 3"},
		{"r0", three, "0:0=0 0:1=1w 0:2=2 -", "3 0 0 3"},
		{"w3", three, "0:0=0 0:3=1w 0:2=2 -", "4 0 1 3"},
		{"w2", three, "0:0=0 0:3=1w 0:2=2w -", "5 0 1 3"},
		{"r1", three, "0:1=0 0:3=1w 0:2=2w -", "6 1 1 3"},
		{"r3", three, "0:1=0 0:3=1w 0:2=2w -", "6 1 1 3"},
		{"r0", three, "0:1=0 0:3=1w 0:0=2 -", "7 1 2 3"},
		{"r2", three, "0:2=0 0:3=1w 0:0=2 -", "8 2 2 3"}, // page 1 goes out as it came in
		{"r1", three, "0:2=0 0:1=1 0:0=2 -", "9 3 3 3"},
	})
}

func TestP16Freshest(t *testing.T) {
	m := made(t, 4, 4, 1)
	keep(t, m, 0, 3, api.Freshest)
	accesses(t, m, []seen{
		{"w0", one, "0:0=0w - - -", "1 0 0 1"},
		{"r1", two, "0:0=0w 0:1=1 - -", "2 0 0 2"},
		{"r2", three, "0:0=0w 0:1=1 0:2=2 -", "3 0 0 3"},
		{"r3", three, "0:0=0w 0:1=1 0:3=2 -", "4 0 0 3"},
		{"w1", three, "0:0=0w 0:1=1w 0:3=2 -", "5 0 0 3"},
		{"r2", three, "0:0=0w 0:2=1 0:3=2 -", "6 0 1 3"},
		{"r0", three, "0:0=0w 0:2=1 0:3=2 -", "6 0 1 3"},
		{"w1", three, "0:1=0w 0:2=1 0:3=2 -", "7 1 2 3"},
		{"r3", three, "0:1=0w 0:2=1 0:3=2 -", "7 1 2 3"},
		{"r0", three, "0:1=0w 0:2=1 0:0=2 -", "8 2 2 3"},
	})
}

// A call that is refused is no access.
func TestP16RefusedIsNoAccess(t *testing.T) {
	for _, policy := range []int{api.Stalest, api.Freshest} {
		m := made(t, 2, 2, 1)
		keep(t, m, 0, 2, policy)
		read(t, m, 0, 0, 0)
		read(t, m, 0, 4, 0)
		refuseWrite(t, m, 0, 0, 256, api.ErrArg)
		refuseWrite(t, m, 0, 3, -1, api.ErrArg)
		read(t, m, 0, 8, 0)
		wantTable(t, m, []string{api.Stalest: "0:2=0 0:1=1", api.Freshest: "0:0=0 0:2=1"}[policy])
	}
}

func TestP16TheOnlyPageGoesOut(t *testing.T) {
	for policy := 0; policy <= 2; policy++ {
		m := made(t, 3, 3, 1)
		keep(t, m, 0, 1, policy)
		accesses(t, m, []seen{
			{"r5", one, "0:5=0 - -", "1 0 0 1"},
			{"w15", one, "0:15=0w - -", "2 0 0 1"},
			{"w5", one, "0:5=0w - -", "3 0 1 1"},
			{"r15", one, "0:15=0 - -", "4 1 2 1"},
			{"w15", one, "0:15=0w - -", "5 1 2 1"},
			{"r5", one, "0:5=0 - -", "6 2 3 1"},
			{"r5", one, "0:5=0 - -", "6 2 3 1"},
		})
	}
}

// A page takes the free frame with the least number, and a right with the next handle, as Alloc would have.
func TestP16FramesAndHandles(t *testing.T) {
	m := made(t, 5, 8, 2)
	for h := 1; h <= 5; h++ {
		alloc(t, m, 1, h)
	}
	keep(t, m, 0, 16, api.Oldest)
	refuseRead(t, m, 0, 0, api.ErrFull)
	wantErr(t, "Drop(1, 4)", m.Drop(1, 4), api.OK)
	wantErr(t, "Drop(1, 2)", m.Drop(1, 2), api.OK)
	accesses(t, m, []seen{{"w9", "[{6 0 1 true}]", "0:9=1w - - - - - - -", "1 0 0 1"}})
	alloc(t, m, 1, 7)
	wantErr(t, "Drop(1, 1)", m.Drop(1, 1), api.OK)
	accesses(t, m, []seen{
		{"r0", "[{6 0 1 true} {8 0 0 true}]", "0:9=1w 0:0=0 - - - - - -", "2 0 0 2"},
		{"r1", "[{6 0 1 true} {8 0 0 true}]", "0:1=1 0:0=0 - - - - - -", "3 0 1 2"}, // by its right too
	})
	wantErr(t, "Drop(1, 3)", m.Drop(1, 3), api.OK)
	accesses(t, m, []seen{{"w2", "[{6 0 1 true} {8 0 0 true} {9 0 2 true}]", "0:1=1 0:0=0 0:2=2w - - - - -", "4 0 1 3"}})
	refuseAlloc(t, m, 1, api.ErrFull)
}

// As many rights as may be are alive, though frames are free.
func TestP16NoRoomForARight(t *testing.T) {
	m := made(t, 4, 2, 3)
	keep(t, m, 0, 4, api.Oldest)
	keep(t, m, 2, 4, api.Oldest)
	write(t, m, 0, 0, 7)
	alloc(t, m, 1, 2)
	for h := 3; h <= api.MaxRights; h++ {
		derive(t, m, 1, 2, 1, false, h)
	}
	refuseRead(t, m, 2, 0, api.ErrFull)
	refuseWrite(t, m, 2, 0, 1, api.ErrFull)
	write(t, m, 0, 4, 8)
	wantRights(t, m, 0, one)
	wantTable(t, m, "0:1=0w -")
	wantCounts(t, m, 0, "2 0 1 1")
	wantErr(t, "Drop(1, 32)", m.Drop(1, 32), api.OK)
	read(t, m, 2, 0, 0)
	wantRights(t, m, 2, "[{33 2 2 true}]")
	read(t, m, 0, 0, 7)
	wantRights(t, m, 0, one)
	wantErr(t, "Drop(1, 31)", m.Drop(1, 31), api.OK)
	read(t, m, 0, 4, 8)
	wantRights(t, m, 0, "[{1 0 0 true} {34 0 3 true}]")
	wantCounts(t, m, 0, "4 2 2 2")
}

// A page that was never written reads as 0, whatever the page held that lay in its frame before.
func TestP16NothingIsLeftOfAnotherPage(t *testing.T) {
	m := made(t, 1, 1, 2)
	keep(t, m, 0, 1, api.Freshest)
	for at := 0; at < 4; at++ {
		write(t, m, 0, 8+at, 250+at)
	}
	for at := 0; at < 4; at++ {
		read(t, m, 0, 12+at, 0)
	}
	for at := 0; at < 4; at++ {
		read(t, m, 0, 8+at, 250+at)
	}
	wantErr(t, "Kill(0)", m.Kill(0), api.OK)
	keep(t, m, 1, 1, api.Freshest)
	for at := 0; at < 4; at++ {
		read(t, m, 1, 8+at, 0)
	}
}

func TestP16Turn(t *testing.T) {
	m := made(t, 8, 3, 2)
	keep(t, m, 0, 8, api.Oldest)
	alloc(t, m, 1, 1)
	mapped(t, m, 1, 9, 1, true, 1)
	pages := func(from int, to int) string { // the rights 2, 3, .. to the frames 1, 2, ..
		text := ""
		for h := from; h <= to; h++ {
			text += fmt.Sprintf(" {%d 0 %d true}", h, h-1)
		}
		return "[" + text[1:] + "]"
	}
	accesses(t, m, []seen{
		{"r0", pages(2, 2), "0:0=1 1:9=0w -", "1 0 0 1"},
		{"r1", pages(2, 3), "0:0=1 1:9=0w 0:1=2", "2 0 0 2"},
		{"w2", pages(2, 4), "0:2=3w 1:9=0w 0:1=2", "3 0 0 3"},  // turn 0
		{"w1", pages(2, 4), "0:2=3w 1:9=0w 0:1=2w", "4 0 0 3"}, // in its own slot: no turn
		{"r3", pages(2, 5), "0:2=3w 0:3=4 0:1=2w", "5 0 0 4"},  // turn 1
		{"r0", pages(2, 5), "0:2=3w 0:3=4 0:0=1", "6 0 0 4"},   // turn 2
		{"r1", pages(2, 5), "0:1=2w 0:3=4 0:0=1", "7 0 0 4"},   // turn 0; it is changed
		{"r4", pages(2, 6), "0:1=2w 0:4=5 0:0=1", "8 0 0 5"},   // turn 1
		{"w0", pages(2, 6), "0:1=2w 0:4=5 0:0=1w", "9 0 0 5"},  // in its own slot
		{"w3", pages(2, 6), "0:1=2w 0:4=5 0:3=4w", "10 0 0 5"}, // turn 2
		{"r0", pages(2, 6), "0:0=1w 0:4=5 0:3=4w", "11 0 0 5"}, // turn 0; it is changed
	})
	mapped(t, m, 1, 0, 1, false, 0) // no turn, though it takes a slot
	wantErr(t, "Unmap(1, 0)", m.Unmap(1, 0), api.OK)
	read(t, m, 0, 8, 0)
	wantTable(t, m, "0:2=3w 0:4=5 0:3=4w") // the empty slot, before the turn
	mapped(t, m, 1, 0, 1, false, 2)
	read(t, m, 0, 4, 0)
	wantTable(t, m, "0:2=3w 0:1=2w 1:0=0") // turn 1
	wantCounts(t, m, 0, "13 0 0 5")
}

// TURN is the machine's: two kept environments share it, and it outlives them.
func TestP16TurnIsTheMachines(t *testing.T) {
	m := made(t, 8, 2, 3)
	keep(t, m, 0, 4, api.Oldest)
	keep(t, m, 1, 4, api.Stalest)
	read(t, m, 0, 0, 0)
	read(t, m, 1, 0, 0)
	write(t, m, 0, 4, 1) // turn 0
	wantTable(t, m, "0:1=2w 1:0=1")
	write(t, m, 1, 4, 2) // turn 1
	wantTable(t, m, "0:1=2w 1:1=3w")
	read(t, m, 1, 0, 0) // turn 0
	wantTable(t, m, "1:0=1 1:1=3w")
	wantErr(t, "Kill(1)", m.Kill(1), api.OK)
	wantErr(t, "Spawn(1)", m.Spawn(1), api.OK)
	wantTable(t, m, "- -")
	keep(t, m, 1, 4, api.Stalest)
	read(t, m, 1, 8, 0)
	read(t, m, 0, 0, 0)
	wantTable(t, m, "1:2=1 0:0=0")
	read(t, m, 0, 4, 1) // turn 1, still
	wantTable(t, m, "1:2=1 0:1=2w")
	wantCounts(t, m, 0, "4 0 0 2")
	wantCounts(t, m, 1, "1 0 0 1")
}

// In a table of one slot each access to another page makes a refill, though the pages stay in.
func TestP16OneSlot(t *testing.T) {
	m := made(t, 2, 1, 1)
	keep(t, m, 0, 2, api.Oldest)
	accesses(t, m, []seen{
		{"w0", one, "0:0=0w", "1 0 0 1"},
		{"r1", two, "0:1=1", "2 0 0 2"},
		{"r0", two, "0:0=0w", "3 0 0 2"},
		{"w0", two, "0:0=0w", "3 0 0 2"},
		{"w1", two, "0:1=1w", "4 0 0 2"},
		{"r2", two, "0:2=0", "5 0 1 2"},
		{"r1", two, "0:1=1w", "6 0 1 2"},
	})
}

// What other environments do: it takes entries and free frames, but no byte and no page.
func TestOthersMeanwhile(t *testing.T) {
	m := made(t, 4, 2, 3)
	keep(t, m, 0, 3, api.Stalest)
	write(t, m, 0, 0, 10)
	write(t, m, 0, 4, 11)
	alloc(t, m, 1, 3)
	mapped(t, m, 1, 0, 3, true, 0)
	mapped(t, m, 1, 1, 3, true, 1)
	for at := 0; at < 4; at++ {
		stored(t, m, 1, 0, at, 99)
	}
	wantTable(t, m, "1:0=2w 1:1=2w")
	wantCounts(t, m, 0, "2 0 0 2") // a page is in without an entry too
	wantRights(t, m, 0, two)
	for handle := 1; handle <= 2; handle++ { // its rights are nobody else's
		refuseDerive(t, m, 1, handle, 1, false, api.ErrCap)
		refuseDerive(t, m, 0, handle, 1, false, api.ErrKept)
		refuseMap(t, m, 1, 2, handle, false, 0, api.ErrCap)
		refuseEnds(t, m, 1, handle, api.ErrCap)
		refuseEnds(t, m, 0, handle, api.ErrKept)
	}
	refuseDerive(t, m, 1, 3, 0, false, api.ErrKept)
	read(t, m, 0, 0, 10)
	wantTable(t, m, "0:0=0w 1:1=2w") // turn 0, and it may be written: it is changed
	refuseLoad(t, m, 0, 0, 0, api.ErrKept)
	refuseStore(t, m, 0, 0, 0, 1, api.ErrKept)
	refuseUnmap(t, m, 0, 0, api.ErrKept)
	alloc(t, m, 1, 4)
	refuseAlloc(t, m, 1, api.ErrFull)
	write(t, m, 0, 8, 12) // no frame is free: page 1 goes out
	wantCounts(t, m, 0, "4 0 1 2")
	wantTable(t, m, "0:0=0w 0:2=1w") // turn 1
	refuseLoad(t, m, 1, 1, 0, api.ErrMiss)
	mapped(t, m, 1, 5, 3, true, 0)
	wantLoad(t, m, 1, 5, 0, 99)
	wantErr(t, "Kill(1)", m.Kill(1), api.OK)
	wantTable(t, m, "- 0:2=1w")
	read(t, m, 0, 4, 11)
	wantRights(t, m, 0, "[{1 0 0 true} {2 0 1 true} {5 0 2 true}]")
	wantTable(t, m, "0:1=2 0:2=1w")
	wantCounts(t, m, 0, "5 1 1 3")
}

// Two kept environments of other quotas and policies, at the same addresses.
func TestTwoKeptMemories(t *testing.T) {
	m := made(t, 3, 8, 2)
	keep(t, m, 0, 2, api.Oldest)
	keep(t, m, 1, 1, api.Freshest)
	for address := 0; address < 64; address++ {
		write(t, m, 0, address, address)
		write(t, m, 1, address, 255-address)
	}
	wantCounts(t, m, 0, "16 0 14 2")
	wantCounts(t, m, 1, "16 0 15 1")
	wantRights(t, m, 0, "[{1 0 0 true} {3 0 2 true}]")
	wantRights(t, m, 1, "[{2 1 1 true}]")
	for address := 63; address >= 0; address-- {
		read(t, m, 0, address, address)
		read(t, m, 1, address, 255-address)
	}
	wantCounts(t, m, 0, "30 14 16 2")
	wantCounts(t, m, 1, "31 15 16 1")
}

func TestP9KillOfAKeptMemory(t *testing.T) {
	m := made(t, 2, 3, 2)
	keep(t, m, 0, 2, api.Freshest)
	for page := 0; page < 4; page++ {
		write(t, m, 0, 4*page, 10+page)
	}
	wantCounts(t, m, 0, "4 0 2 2")
	refuseAlloc(t, m, 1, api.ErrFull)
	wantErr(t, "Kill(0)", m.Kill(0), api.OK)
	wantTable(t, m, "- - -")
	refuseEnv(t, m, 0)
	alloc(t, m, 1, 3) // its frames are free
	alloc(t, m, 1, 4)
	mapped(t, m, 1, 0, 3, false, 0)
	wantLoad(t, m, 1, 0, 0, 0) // and nothing is left in them
	wantErr(t, "Spawn(0)", m.Spawn(0), api.OK)
	wantRights(t, m, 0, "[]")
	refuseRead(t, m, 0, 0, api.ErrRaw)
	refuseWrite(t, m, 0, 0, 1, api.ErrRaw)
	refuseCounts(t, m, 0, api.ErrRaw)
	wantErr(t, "Drop(1, 3)", m.Drop(1, 3), api.OK)
	alloc(t, m, 0, 5) // it is raw
	mapped(t, m, 0, 0, 5, true, 0)
	wantLoad(t, m, 0, 0, 0, 0)
	refuseKeep(t, m, 0, 1, api.Oldest, api.ErrHeld)
}

// Kept anew, a memory knows nothing of what it was: neither bytes, nor counts, nor what went out changed, nor quota and policy.
func TestP9KeptAnew(t *testing.T) {
	m := made(t, 3, 4, 1)
	keep(t, m, 0, 3, api.Freshest)
	for address := 0; address < 64; address++ {
		write(t, m, 0, address, 1+address)
	}
	for address := 0; address < 64; address++ {
		read(t, m, 0, address, 1+address)
	}
	wantErr(t, "Kill(0)", m.Kill(0), api.OK)
	wantErr(t, "Spawn(0)", m.Spawn(0), api.OK)
	keep(t, m, 0, 2, api.Oldest)
	wantCounts(t, m, 0, "0 0 0 0")
	wantTable(t, m, "- - - -")
	accesses(t, m, []seen{
		{"r0", "[{4 0 0 true}]", "0:0=0 - - -", "1 0 0 1"},
		{"r1", "[{4 0 0 true} {5 0 1 true}]", "0:0=0 0:1=1 - -", "2 0 0 2"},
		{"r2", "[{4 0 0 true} {5 0 1 true}]", "0:2=0 0:1=1 - -", "3 0 0 2"},
	})
	for address := 0; address < 64; address++ {
		read(t, m, 0, address, 0)
	}
	wantCounts(t, m, 0, "19 0 0 2")
}

func TestP2MemoriesAreApart(t *testing.T) {
	a, b := made(t, 1, 1, 1), made(t, 1, 1, 1)
	keep(t, a, 0, 1, api.Oldest)
	write(t, a, 0, 0, 5)
	write(t, a, 0, 4, 6)
	before := state(a)
	refuseRead(t, b, 0, 0, api.ErrRaw)
	keep(t, b, 0, 1, api.Oldest)
	for address := 0; address < 64; address++ {
		read(t, b, 0, address, 0)
		write(t, b, 0, address, 255)
	}
	wantErr(t, "Kill(0)", b.Kill(0), api.OK)
	wantSame(t, a, before)
	read(t, a, 0, 0, 5)
	wantCounts(t, a, 0, "3 1 2 1")
}
