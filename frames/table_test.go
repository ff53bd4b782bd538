package frames

import (
	"fmt"
	"testing"

	"frames/api"
)

// tableText: the slots, as a text: env:page=frame, w if one may write; - in an empty one.
func tableText(m *Machine) string {
	text := ""
	for i, e := range m.Table() {
		if i > 0 {
			text += " "
		}
		switch {
		case e == api.Entry{}:
			text += "-"
		case !e.Used:
			text += "?"
		case e.Write:
			text += fmt.Sprintf("%d:%d=%dw", e.Env, e.Page, e.Frame)
		default:
			text += fmt.Sprintf("%d:%d=%d", e.Env, e.Page, e.Frame)
		}
	}
	return text
}

func wantTable(t *testing.T, m *Machine, want string) {
	t.Helper()
	if got := tableText(m); got != want {
		t.Errorf("Table(): %s, want %s", got, want)
	}
}

func mapped(t *testing.T, m *Machine, env int, page int, handle int, write bool, slot int) {
	t.Helper()
	wantErr(t, fmt.Sprintf("Map(%d, %d, %d, %v, %d)", env, page, handle, write, slot), m.Map(env, page, handle, write, slot), api.OK)
}

func refuseMap(t *testing.T, m *Machine, env int, page int, handle int, write bool, slot int, err api.Errno) {
	t.Helper()
	before := state(m)
	wantErr(t, fmt.Sprintf("Map(%d, %d, %d, %v, %d)", env, page, handle, write, slot), m.Map(env, page, handle, write, slot), err)
	wantSame(t, m, before)
}

func refuseUnmap(t *testing.T, m *Machine, env int, page int, err api.Errno) {
	t.Helper()
	before := state(m)
	wantErr(t, fmt.Sprintf("Unmap(%d, %d)", env, page), m.Unmap(env, page), err)
	wantSame(t, m, before)
}

func wantLoad(t *testing.T, m *Machine, env int, page int, at int, want int) {
	t.Helper()
	v, e := m.Load(env, page, at)
	wantNum(t, fmt.Sprintf("Load(%d, %d, %d)", env, page, at), v, e, want, api.OK)
}

func refuseLoad(t *testing.T, m *Machine, env int, page int, at int, err api.Errno) {
	t.Helper()
	before := state(m)
	v, e := m.Load(env, page, at)
	wantNum(t, fmt.Sprintf("Load(%d, %d, %d)", env, page, at), v, e, 0, err)
	wantSame(t, m, before)
}

func stored(t *testing.T, m *Machine, env int, page int, at int, value int) {
	t.Helper()
	wantErr(t, fmt.Sprintf("Store(%d, %d, %d, %d)", env, page, at, value), m.Store(env, page, at, value), api.OK)
}

func refuseStore(t *testing.T, m *Machine, env int, page int, at int, value int, err api.Errno) {
	t.Helper()
	before := state(m)
	wantErr(t, fmt.Sprintf("Store(%d, %d, %d, %d)", env, page, at, value), m.Store(env, page, at, value), err)
	wantSame(t, m, before)
}

var (
	noEnvs   = []int{-1, 4, 1 << 32, least, most}
	noPages  = []int{-1, api.MaxPages, api.MaxPages + 1, 1 << 32, least, most}
	noPlaces = []int{-1, api.PageSize, api.PageSize + 1, 1 << 32, least, most}
	noBytes  = []int{-1, 256, 257, 1 << 32, least, most}
)

// uneven: environment 0 may write frame 0 (right 1) and has it at page 3, 1 may read it (right 2), 2 is kept and has frame 1 (right 3)
// at page 3, 3 is not alive.
func uneven(t *testing.T) *Machine {
	t.Helper()
	m := made(t, 2, 2, 4)
	alloc(t, m, 0, 1)
	derive(t, m, 0, 1, 1, false, 2)
	mapped(t, m, 0, 3, 1, true, 0)
	keep(t, m, 2, 1, api.Oldest)
	write(t, m, 2, 12, 9)
	wantRights(t, m, 2, "[{3 2 1 true}]")
	wantTable(t, m, "0:3=0w 2:3=1w")
	wantErr(t, "Kill(3)", m.Kill(3), api.OK)
	return m
}

func TestP10OrderOfErrors(t *testing.T) {
	m := uneven(t)
	for _, env := range append(noEnvs, 3) {
		refuseMap(t, m, env, 99, 99, true, 99, api.ErrEnv)
		refuseMap(t, m, env, 3, 1, true, 0, api.ErrEnv)
	}
	refuseMap(t, m, 2, 99, 99, true, 99, api.ErrKept)
	refuseMap(t, m, 2, 3, 3, true, 1, api.ErrKept)
	for _, page := range noPages {
		refuseMap(t, m, 0, page, 99, true, 99, api.ErrPage)
		refuseMap(t, m, 0, page, 1, true, 0, api.ErrPage)
	}
	for _, handle := range []int{0, -1, 2, 3, 4, 1 << 32, 1<<32 + 1, least, most} {
		refuseMap(t, m, 0, 0, handle, true, 99, api.ErrCap)
		refuseMap(t, m, 0, 0, handle, false, 0, api.ErrCap)
	}
	refuseMap(t, m, 1, 0, 1, true, 99, api.ErrCap)
	refuseMap(t, m, 1, 0, 2, true, 99, api.ErrRights)
	refuseMap(t, m, 1, 0, 2, true, 0, api.ErrRights)
	for _, slot := range []int{-1, 2, 3, api.MaxSlots, 1 << 32, least, most} {
		refuseMap(t, m, 1, 0, 2, false, slot, api.ErrSlot)
		refuseMap(t, m, 0, 3, 1, true, slot, api.ErrSlot) // its entry stays where it is
	}
	wantErr(t, "Drop(0, 1)", m.Drop(0, 1), api.OK)
	refuseMap(t, m, 0, 3, 1, true, 0, api.ErrCap)
	refuseMap(t, m, 1, 0, 2, false, 0, api.ErrCap)
}

func TestP10Map(t *testing.T) {
	m := made(t, 3, 3, 2)
	wantTable(t, m, "- - -")
	alloc(t, m, 0, 1)
	alloc(t, m, 0, 2)
	derive(t, m, 0, 2, 1, false, 3)
	mapped(t, m, 0, 0, 2, true, 1)
	wantTable(t, m, "- 0:0=1w -")
	mapped(t, m, 0, 15, 2, false, 2) // less than the right allows; a frame may lie at two pages
	mapped(t, m, 1, 0, 3, false, 0)
	wantTable(t, m, "1:0=1 0:0=1w 0:15=1")
	mapped(t, m, 0, 0, 1, true, 1) // another frame, in the same slot
	wantTable(t, m, "1:0=1 0:0=0w 0:15=1")
	mapped(t, m, 0, 0, 1, false, 1) // less, in the same slot
	wantTable(t, m, "1:0=1 0:0=0 0:15=1")
	mapped(t, m, 0, 0, 1, true, 2) // it moves to the slot of another page
	wantTable(t, m, "1:0=1 - 0:0=0w")
	mapped(t, m, 0, 1, 1, true, 0) // and another environment's entry gives way
	wantTable(t, m, "0:1=0w - 0:0=0w")
	mapped(t, m, 1, 1, 3, false, 2)
	wantTable(t, m, "0:1=0w - 1:1=1")
	wantRights(t, m, 0, "[{1 0 0 true} {2 0 1 true}]")
	wantRights(t, m, 1, "[{3 1 1 false}]")
}

func TestP10AllPagesAndSlots(t *testing.T) {
	for slots := 1; slots <= api.MaxSlots; slots++ {
		m := made(t, 1, slots, 1)
		alloc(t, m, 0, 1)
		for page := 0; page < api.MaxPages; page++ {
			mapped(t, m, 0, page, 1, true, page%slots)
		}
		l := m.Table()
		if len(l) != slots {
			t.Fatalf("%d slots: Table() has %d", slots, len(l))
		}
		for page := api.MaxPages - slots; page < api.MaxPages; page++ {
			if e := l[page%slots]; e != (api.Entry{Used: true, Page: page, Write: true}) {
				t.Errorf("%d slots: slot %d holds %v", slots, page%slots, e)
			}
		}
	}
}

func TestP11OrderOfErrors(t *testing.T) {
	m := uneven(t)
	for _, env := range append(noEnvs, 3) {
		refuseUnmap(t, m, env, 3, api.ErrEnv)
		refuseUnmap(t, m, env, 99, api.ErrEnv)
	}
	refuseUnmap(t, m, 2, 3, api.ErrKept)
	refuseUnmap(t, m, 2, 99, api.ErrKept)
	for _, page := range noPages {
		refuseUnmap(t, m, 0, page, api.ErrPage)
	}
}

func TestP11Unmap(t *testing.T) {
	m := made(t, 1, 4, 2)
	alloc(t, m, 0, 1)
	derive(t, m, 0, 1, 1, false, 2)
	mapped(t, m, 0, 0, 1, true, 3)
	mapped(t, m, 0, 15, 1, false, 0)
	mapped(t, m, 1, 15, 2, false, 1)
	before := state(m)
	for _, page := range []int{1, 14} {
		wantErr(t, "Unmap of a page without an entry", m.Unmap(0, page), api.OK)
	}
	wantErr(t, "Unmap(1, 0)", m.Unmap(1, 0), api.OK)
	wantSame(t, m, before)
	wantErr(t, "Unmap(0, 15)", m.Unmap(0, 15), api.OK)
	wantTable(t, m, "- 1:15=0 - 0:0=0w")
	wantErr(t, "Unmap(0, 0)", m.Unmap(0, 0), api.OK)
	wantTable(t, m, "- 1:15=0 - -")
	refuseLoad(t, m, 0, 0, 0, api.ErrMiss)
	wantErr(t, "Unmap(0, 0) again", m.Unmap(0, 0), api.OK)
	wantRights(t, m, 0, "[{1 0 0 true}]")
}

func TestP12OrderOfErrors(t *testing.T) {
	m := uneven(t)
	mapped(t, m, 1, 5, 2, false, 1)
	for _, env := range append(noEnvs, 3) {
		refuseLoad(t, m, env, 99, 99, api.ErrEnv)
		refuseLoad(t, m, env, 3, 0, api.ErrEnv)
		refuseStore(t, m, env, 99, 99, 999, api.ErrEnv)
		refuseStore(t, m, env, 3, 0, 1, api.ErrEnv)
	}
	refuseLoad(t, m, 2, 99, 99, api.ErrKept)
	refuseLoad(t, m, 2, 3, 0, api.ErrKept)
	refuseStore(t, m, 2, 99, 99, 999, api.ErrKept)
	refuseStore(t, m, 2, 3, 0, 1, api.ErrKept)
	for _, page := range noPages {
		refuseLoad(t, m, 0, page, 99, api.ErrPage)
		refuseLoad(t, m, 0, page, 0, api.ErrPage)
		refuseStore(t, m, 0, page, 99, 999, api.ErrPage)
		refuseStore(t, m, 0, page, 0, 1, api.ErrPage)
	}
	for _, at := range noPlaces {
		refuseLoad(t, m, 0, 3, at, api.ErrAt)
		refuseLoad(t, m, 0, 4, at, api.ErrAt)
		refuseStore(t, m, 0, 3, at, 1, api.ErrAt)
		refuseStore(t, m, 0, 4, at, 999, api.ErrAt)
		refuseStore(t, m, 1, 5, at, 999, api.ErrAt)
	}
	for _, value := range noBytes {
		refuseStore(t, m, 0, 3, 0, value, api.ErrArg)
		refuseStore(t, m, 0, 4, 0, value, api.ErrArg)
		refuseStore(t, m, 1, 5, 0, value, api.ErrArg)
	}
	refuseLoad(t, m, 0, 4, 0, api.ErrMiss)
	refuseLoad(t, m, 1, 3, 0, api.ErrMiss) // another environment's entry
	refuseStore(t, m, 0, 4, 0, 1, api.ErrMiss)
	refuseStore(t, m, 1, 3, 0, 1, api.ErrMiss)
	refuseStore(t, m, 1, 5, 0, 1, api.ErrWrite)
	mapped(t, m, 0, 3, 1, false, 0)
	refuseStore(t, m, 0, 3, 0, 1, api.ErrWrite) // though the right's Write is true
}

func TestP12Bytes(t *testing.T) {
	m := made(t, 2, 4, 2)
	alloc(t, m, 0, 1)
	alloc(t, m, 0, 2)
	derive(t, m, 0, 1, 1, true, 3)
	mapped(t, m, 0, 0, 1, true, 0)
	mapped(t, m, 0, 1, 2, true, 1)
	mapped(t, m, 0, 15, 1, false, 2)
	mapped(t, m, 1, 0, 3, true, 3)
	for value := 0; value < 256; value++ {
		stored(t, m, 0, 0, value%4, value)
		wantLoad(t, m, 0, 0, value%4, value)
	}
	for at := 0; at < 4; at++ {
		wantLoad(t, m, 0, 0, at, 252+at)
		wantLoad(t, m, 0, 15, at, 252+at) // the same frame at another page
		wantLoad(t, m, 1, 0, at, 252+at)  // and of another environment
		wantLoad(t, m, 0, 1, at, 0)
	}
	stored(t, m, 1, 0, 2, 7)
	stored(t, m, 0, 1, 2, 8)
	wantLoad(t, m, 0, 0, 2, 7)
	wantErr(t, "Unmap(0, 0)", m.Unmap(0, 0), api.OK)
	mapped(t, m, 0, 9, 1, false, 3)
	wantLoad(t, m, 0, 9, 2, 7) // the bytes are the frame's, not the entry's
	wantLoad(t, m, 0, 1, 2, 8)
}

func TestP13TableIsTheCallers(t *testing.T) {
	m := made(t, 1, 3, 1)
	alloc(t, m, 0, 1)
	mapped(t, m, 0, 2, 1, true, 1)
	early := m.Table()
	other := m.Table()
	before := state(m)
	other = other[:cap(other)]
	for i := range other {
		other[i] = api.Entry{Used: true, Env: -1, Page: -1, Frame: -1}
	}
	wantSame(t, m, before)
	wantTable(t, m, "- 0:2=0w -")
	mapped(t, m, 0, 2, 1, false, 0)
	wantErr(t, "Kill(0)", m.Kill(0), api.OK)
	if got := fmt.Sprint(early); got != "[{false 0 0 0 false} {true 0 2 0 true} {false 0 0 0 false}]" {
		t.Errorf("a table that came out early is now %s", got)
	}
	wantTable(t, m, "- - -")
}

func TestP2TablesAreApart(t *testing.T) {
	a, b := made(t, 1, 2, 1), made(t, 1, 2, 1)
	alloc(t, a, 0, 1)
	alloc(t, b, 0, 1)
	mapped(t, a, 0, 1, 1, true, 0)
	stored(t, a, 0, 1, 0, 5)
	before := state(a)
	mapped(t, b, 0, 1, 1, true, 1)
	wantLoad(t, b, 0, 1, 0, 0)
	stored(t, b, 0, 1, 0, 6)
	wantErr(t, "Drop(0, 1)", b.Drop(0, 1), api.OK)
	wantSame(t, a, before)
	wantTable(t, a, "0:1=0w -")
	wantTable(t, b, "- -")
}

// TestEntriesOfEndedRights: 1 is environment 0's first right to frame 0; 2 (to write) and 3 (to read) of environment 1 are derived from it,
// and 4 of environment 2 from 3; 5 is environment 1's first right to frame 1, and 6 of environment 0 is derived from it.
func TestEntriesOfEndedRights(t *testing.T) {
	for _, c := range []struct {
		call string
		end  func(m *Machine) api.Errno
		want string
	}{
		{"Revoke(0, 1)", func(m *Machine) api.Errno { return m.Revoke(0, 1) }, "0:0=0w - - - 1:4=1w 0:4=1 -"},
		{"Revoke(1, 2)", func(m *Machine) api.Errno { return m.Revoke(1, 2) }, "0:0=0w 1:0=0w 1:1=0 2:0=0 1:4=1w 0:4=1 -"},
		{"Revoke(1, 3)", func(m *Machine) api.Errno { return m.Revoke(1, 3) }, "0:0=0w 1:0=0w 1:1=0 - 1:4=1w 0:4=1 -"},
		{"Revoke(1, 5)", func(m *Machine) api.Errno { return m.Revoke(1, 5) }, "0:0=0w 1:0=0w 1:1=0 2:0=0 1:4=1w - -"},
		{"Drop(0, 1)", func(m *Machine) api.Errno { return m.Drop(0, 1) }, "- - - - 1:4=1w 0:4=1 -"},
		{"Drop(1, 2)", func(m *Machine) api.Errno { return m.Drop(1, 2) }, "0:0=0w - 1:1=0 2:0=0 1:4=1w 0:4=1 -"},
		{"Drop(1, 3)", func(m *Machine) api.Errno { return m.Drop(1, 3) }, "0:0=0w 1:0=0w 1:1=0 - 1:4=1w 0:4=1 -"},
		{"Drop(2, 4)", func(m *Machine) api.Errno { return m.Drop(2, 4) }, "0:0=0w 1:0=0w 1:1=0 - 1:4=1w 0:4=1 -"},
		{"Drop(1, 5)", func(m *Machine) api.Errno { return m.Drop(1, 5) }, "0:0=0w 1:0=0w 1:1=0 2:0=0 - - -"},
		{"Kill(0)", func(m *Machine) api.Errno { return m.Kill(0) }, "- - - - 1:4=1w - -"},
		{"Kill(1)", func(m *Machine) api.Errno { return m.Kill(1) }, "0:0=0w - - - - - -"},
		{"Kill(2)", func(m *Machine) api.Errno { return m.Kill(2) }, "0:0=0w 1:0=0w 1:1=0 - 1:4=1w 0:4=1 -"},
		{"Spawn(3)", func(m *Machine) api.Errno { return m.Spawn(3) }, "0:0=0w 1:0=0w 1:1=0 2:0=0 1:4=1w 0:4=1 -"},
	} {
		m := made(t, 2, 7, 4)
		wantErr(t, "Kill(3)", m.Kill(3), api.OK)
		alloc(t, m, 0, 1)
		derive(t, m, 0, 1, 1, true, 2)
		derive(t, m, 0, 1, 1, false, 3)
		derive(t, m, 1, 3, 2, false, 4)
		alloc(t, m, 1, 5)
		derive(t, m, 1, 5, 0, false, 6)
		mapped(t, m, 0, 0, 1, true, 0)
		mapped(t, m, 1, 0, 2, true, 1)
		mapped(t, m, 1, 1, 3, false, 2)
		mapped(t, m, 2, 0, 4, false, 3)
		mapped(t, m, 1, 4, 5, true, 4)
		mapped(t, m, 0, 4, 6, false, 5)
		wantErr(t, c.call, c.end(m), api.OK)
		if got := tableText(m); got != c.want {
			t.Errorf("behind %s: %s, want %s", c.call, got, c.want)
		}
	}
}

// An entry hangs on no right by its handle: any that allows as much backs it.
func TestEntryIsBackedByAnyRight(t *testing.T) {
	m := made(t, 2, 3, 2)
	alloc(t, m, 0, 1)
	alloc(t, m, 0, 2)
	derive(t, m, 0, 1, 1, true, 3)
	derive(t, m, 0, 1, 1, true, 4)
	derive(t, m, 0, 1, 1, false, 5)
	derive(t, m, 0, 2, 1, true, 6) // to another frame: it backs nothing here
	mapped(t, m, 1, 0, 3, true, 0)
	mapped(t, m, 1, 1, 3, false, 1)
	mapped(t, m, 1, 2, 5, false, 2)
	stored(t, m, 1, 0, 1, 77)
	wantErr(t, "Drop(1, 3)", m.Drop(1, 3), api.OK)
	wantTable(t, m, "1:0=0w 1:1=0 1:2=0")
	wantErr(t, "Drop(1, 5)", m.Drop(1, 5), api.OK)
	wantTable(t, m, "1:0=0w 1:1=0 1:2=0")
	derive(t, m, 0, 1, 1, false, 7)
	wantErr(t, "Drop(1, 4)", m.Drop(1, 4), api.OK) // it is gone, not an entry with less
	wantTable(t, m, "- 1:1=0 1:2=0")
	wantLoad(t, m, 1, 1, 1, 77)
	refuseLoad(t, m, 1, 0, 1, api.ErrMiss)
	wantErr(t, "Drop(1, 7)", m.Drop(1, 7), api.OK)
	wantTable(t, m, "- - -")
}

func TestGoneEntriesDoNotComeBack(t *testing.T) {
	m := made(t, 1, 2, 2)
	alloc(t, m, 0, 1)
	derive(t, m, 0, 1, 1, true, 2)
	mapped(t, m, 0, 6, 1, true, 0)
	mapped(t, m, 1, 6, 2, true, 1)
	wantErr(t, "Revoke(0, 1)", m.Revoke(0, 1), api.OK)
	derive(t, m, 0, 1, 1, true, 3)
	wantTable(t, m, "0:6=0w -")
	refuseLoad(t, m, 1, 6, 0, api.ErrMiss)
	wantErr(t, "Drop(0, 1)", m.Drop(0, 1), api.OK)
	alloc(t, m, 0, 4)
	wantTable(t, m, "- -")
	refuseStore(t, m, 0, 6, 0, 1, api.ErrMiss)
	mapped(t, m, 0, 6, 4, true, 1)
	wantErr(t, "Kill(0)", m.Kill(0), api.OK)
	wantErr(t, "Spawn(0)", m.Spawn(0), api.OK)
	alloc(t, m, 0, 5)
	wantTable(t, m, "- -")
	refuseLoad(t, m, 0, 6, 0, api.ErrMiss)
}

func TestP4GivenOutFramesAreZero(t *testing.T) {
	m := made(t, 2, 2, 2)
	alloc(t, m, 0, 1)
	alloc(t, m, 1, 2)
	mapped(t, m, 0, 0, 1, true, 0)
	mapped(t, m, 1, 0, 2, true, 1)
	for at := 0; at < 4; at++ {
		stored(t, m, 0, 0, at, 100+at)
		stored(t, m, 1, 0, at, 200+at)
	}
	derive(t, m, 0, 1, 1, false, 3)
	wantErr(t, "Revoke(0, 1)", m.Revoke(0, 1), api.OK)
	wantErr(t, "Kill(1)", m.Kill(1), api.OK)
	wantErr(t, "Spawn(1)", m.Spawn(1), api.OK)
	alloc(t, m, 1, 4)
	mapped(t, m, 1, 0, 4, false, 1)
	for at := 0; at < 4; at++ {
		wantLoad(t, m, 0, 0, at, 100+at) // neither Derive nor Revoke nor another's Alloc touches it
		wantLoad(t, m, 1, 0, at, 0)
	}
	wantErr(t, "Drop(0, 1)", m.Drop(0, 1), api.OK)
	alloc(t, m, 0, 5)
	mapped(t, m, 0, 0, 5, false, 0)
	for at := 0; at < 4; at++ {
		wantLoad(t, m, 0, 0, at, 0)
	}
}
