package frames

import (
	"fmt"
	"testing"

	"frames/api"
)

// wantDirty: the pages, as a text; and Dirty changes nothing.
func wantDirty(t *testing.T, m *Machine, env int, want string) {
	t.Helper()
	before := state(m)
	l, e := m.Dirty(env)
	if got := fmt.Sprint(l); got != want || e != api.OK {
		t.Errorf("Dirty(%d): %s, %d, want %s", env, got, e, want)
	}
	wantSame(t, m, before)
}

func clean(t *testing.T, m *Machine, env int) {
	t.Helper()
	wantErr(t, fmt.Sprintf("Clean(%d)", env), m.Clean(env), api.OK)
	wantDirty(t, m, env, "[]")
}

// refuseDirty: Dirty and Clean are refused.
func refuseDirty(t *testing.T, m *Machine, env int, err api.Errno) {
	t.Helper()
	before := state(m)
	l, e := m.Dirty(env)
	if len(l) != 0 || e != err {
		t.Errorf("Dirty(%d): %v, %d, want %d", env, l, e, err)
	}
	wantErr(t, fmt.Sprintf("Clean(%d)", env), m.Clean(env), err)
	wantSame(t, m, before)
}

func TestP18OrderOfErrors(t *testing.T) {
	m := uneven(t)
	for _, env := range append(noEnvs, 3) {
		refuseDirty(t, m, env, api.ErrEnv)
	}
	refuseDirty(t, m, 0, api.ErrRaw)
	refuseDirty(t, m, 1, api.ErrRaw)
	wantDirty(t, m, 2, "[3]")
	clean(t, m, 2)
	wantErr(t, "Kill(2)", m.Kill(2), api.OK)
	refuseDirty(t, m, 2, api.ErrEnv)
	wantErr(t, "Spawn(2)", m.Spawn(2), api.OK)
	refuseDirty(t, m, 2, api.ErrRaw)
}

func TestExample4ToItsEnd(t *testing.T) {
	m := made(t, 2, 2, 3)
	keep(t, m, 0, 2, api.Stalest)
	write(t, m, 0, 0, 11)
	write(t, m, 0, 4, 12)
	read(t, m, 0, 0, 11)
	write(t, m, 0, 8, 13)
	wantCounts(t, m, 0, "3 0 1 2")
	read(t, m, 0, 4, 12)
	wantCounts(t, m, 0, "4 1 2 2")
	wantDirty(t, m, 0, "[0 1 2]")
	clean(t, m, 0)
	read(t, m, 0, 0, 11)
	wantDirty(t, m, 0, "[]")
}

func TestP18EachPage(t *testing.T) {
	for policy := 0; policy <= 2; policy++ {
		m := made(t, 3, 2, 1)
		keep(t, m, 0, 3, policy)
		wantDirty(t, m, 0, "[]")
		for page := 0; page < 16; page++ {
			write(t, m, 0, 4*page+page%4, page)
			wantDirty(t, m, 0, fmt.Sprint([]int{page}))
			clean(t, m, 0)
		}
		want := []int{}
		for page := 15; page >= 0; page-- { // written in falling order, told in rising order
			write(t, m, 0, 4*page+3, 100+page)
			want = append([]int{page}, want...)
			wantDirty(t, m, 0, fmt.Sprint(want))
		}
		for page := 0; page < 16; page++ {
			read(t, m, 0, 4*page+3, 100+page)
			wantDirty(t, m, 0, fmt.Sprint(want))
		}
		clean(t, m, 0)
		clean(t, m, 0) // none is dirty already
		for page := 15; page >= 0; page-- {
			read(t, m, 0, 4*page+3, 100+page)
			wantDirty(t, m, 0, "[]")
		}
	}
}

// By a Write alone a page is dirty, even if the byte was that before; not by a call that is refused.
func TestP18ByAWriteAlone(t *testing.T) {
	m := made(t, 1, 1, 2)
	alloc(t, m, 1, 1)
	keep(t, m, 0, 1, api.Oldest)
	refuseWrite(t, m, 0, 0, 1, api.ErrFull)
	refuseRead(t, m, 0, 4, api.ErrFull)
	wantDirty(t, m, 0, "[]")
	wantErr(t, "Drop(1, 1)", m.Drop(1, 1), api.OK)
	read(t, m, 0, 0, 0)
	refuseWrite(t, m, 0, 0, 256, api.ErrArg)
	refuseWrite(t, m, 0, 64, 1, api.ErrArg)
	refuseWrite(t, m, 0, -1, 1, api.ErrArg)
	wantDirty(t, m, 0, "[]")
	write(t, m, 0, 1, 0)
	wantDirty(t, m, 0, "[0]")
	write(t, m, 0, 63, 0)
	wantDirty(t, m, 0, "[0 15]")
	clean(t, m, 0)
	write(t, m, 0, 60, 0) // it is in, and changed
	wantDirty(t, m, 0, "[15]")
	read(t, m, 0, 8, 0) // it goes out
	wantDirty(t, m, 0, "[15]")
	clean(t, m, 0) // one that is out too
	read(t, m, 0, 60, 0)
	wantDirty(t, m, 0, "[]")
}

// Clean does not make a page unchanged: one that is in goes out changed, and needs no refill for a Write.
func TestP18CleanIsNotUnchanged(t *testing.T) {
	m := made(t, 1, 2, 1)
	keep(t, m, 0, 1, api.Oldest)
	write(t, m, 0, 0, 7)
	clean(t, m, 0)
	wantTable(t, m, "0:0=0w -")
	write(t, m, 0, 1, 8)
	wantCounts(t, m, 0, "1 0 0 1")
	clean(t, m, 0)
	read(t, m, 0, 4, 0)
	wantCounts(t, m, 0, "2 0 1 1")
	clean(t, m, 0)
	read(t, m, 0, 0, 7) // it went out changed, though it is clean
	read(t, m, 0, 1, 8)
	wantCounts(t, m, 0, "3 1 1 1")
	wantTable(t, m, "0:0=0 -")
	wantDirty(t, m, 0, "[]")
	read(t, m, 0, 4, 0) // not changed since it came in
	wantCounts(t, m, 0, "4 1 1 1")
}

// A page that is changed, and clean, is refilled with Write, though by a Read.
func TestP18CleanAndRefill(t *testing.T) {
	m := made(t, 2, 1, 1)
	keep(t, m, 0, 2, api.Oldest)
	write(t, m, 0, 0, 7)
	clean(t, m, 0)
	read(t, m, 0, 4, 0)
	wantTable(t, m, "0:1=1")
	read(t, m, 0, 0, 7)
	wantTable(t, m, "0:0=0w")
	write(t, m, 0, 4, 9) // and one that is dirty, but not changed, is refilled without
	write(t, m, 0, 8, 9)
	write(t, m, 0, 12, 9)
	wantDirty(t, m, 0, "[1 2 3]")
	read(t, m, 0, 4, 9)
	wantTable(t, m, "0:1=0")
}

// Clean changes nothing that Rights, Table, Counts and Read tell.
func TestP18CleanTouchesNothingElse(t *testing.T) {
	m := made(t, 3, 2, 3)
	keep(t, m, 0, 2, api.Stalest)
	keep(t, m, 1, 1, api.Freshest)
	for address := 0; address < 64; address++ {
		write(t, m, 0, address, address)
		write(t, m, 1, address, 100+address)
	}
	all := "[0 1 2 3 4 5 6 7 8 9 10 11 12 13 14 15]"
	rights, table := allRights(m, 3), tableText(m)
	wantCounts(t, m, 0, "16 0 14 2")
	clean(t, m, 0)
	wantDirty(t, m, 1, all) // another one's
	if allRights(m, 3) != rights {
		t.Errorf("Clean(0): rights %s, then %s", rights, allRights(m, 3))
	}
	wantTable(t, m, table)
	wantCounts(t, m, 0, "16 0 14 2")
	write(t, m, 0, 20, 20)
	clean(t, m, 1)
	wantDirty(t, m, 0, "[5]")
	for address := 63; address >= 0; address-- {
		read(t, m, 0, address, address)
		read(t, m, 1, address, 100+address)
	}
	wantDirty(t, m, 0, "[5]")
	wantDirty(t, m, 1, "[]")
}

// Clean is no access: the policies choose as if it had not been.
func TestP18CleanIsNoAccess(t *testing.T) {
	for policy, want := range []string{api.Oldest: "0:2=0 0:1=1", api.Stalest: "0:0=0w 0:2=1", api.Freshest: "0:2=0 0:1=1"} {
		m := made(t, 2, 2, 1)
		keep(t, m, 0, 2, policy)
		write(t, m, 0, 0, 1)
		read(t, m, 0, 4, 0)
		read(t, m, 0, 0, 1)
		clean(t, m, 0)
		read(t, m, 0, 8, 0)
		wantTable(t, m, want)
	}
}

func TestP18KeptAnew(t *testing.T) {
	m := made(t, 2, 2, 1)
	keep(t, m, 0, 2, api.Oldest)
	for page := 0; page < 16; page++ {
		write(t, m, 0, 4*page, 1)
	}
	wantErr(t, "Kill(0)", m.Kill(0), api.OK)
	wantErr(t, "Spawn(0)", m.Spawn(0), api.OK)
	keep(t, m, 0, 2, api.Oldest)
	wantDirty(t, m, 0, "[]")
	write(t, m, 0, 36, 1)
	wantDirty(t, m, 0, "[9]")
}

func TestP2DirtyIsTheCallers(t *testing.T) {
	m := made(t, 2, 2, 1)
	keep(t, m, 0, 2, api.Oldest)
	for page := 0; page < 5; page++ {
		write(t, m, 0, 4*page, page)
	}
	first, _ := m.Dirty(0)
	second, _ := m.Dirty(0)
	for i := range first {
		first[i] = -9
	}
	first = first[:cap(first)] // its spare room
	for i := range first {
		first[i] = 77
	}
	if fmt.Sprint(second) != "[0 1 2 3 4]" {
		t.Errorf("a list is changed by another one's caller: %v", second)
	}
	wantDirty(t, m, 0, "[0 1 2 3 4]")
	write(t, m, 0, 20, 5)
	wantDirty(t, m, 0, "[0 1 2 3 4 5]")
	clean(t, m, 0)
	write(t, m, 0, 60, 1)
	if fmt.Sprint(second) != "[0 1 2 3 4]" {
		t.Errorf("a list is changed by later calls: %v", second)
	}
	for _, n := range first {
		if n != 77 {
			t.Errorf("a list is changed by later calls: %v", first)
		}
	}
	wantDirty(t, m, 0, "[15]")
}
