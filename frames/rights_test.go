package frames

import (
	"fmt"
	"testing"

	"frames/api"
)

func TestP3New(t *testing.T) {
	for f := -1; f <= api.MaxFrames+1; f++ {
		for s := -1; s <= api.MaxSlots+1; s++ {
			for n := -1; n <= api.MaxEnvs+1; n++ {
				may := f >= 1 && f <= 16 && s >= 1 && s <= 8 && n >= 1 && n <= 4
				wantNew(t, api.Config{Frames: f, Slots: s, Envs: n}, may)
			}
		}
	}
	for _, far := range []int{least, most, 1 << 32, -1 << 32} {
		wantNew(t, api.Config{Frames: far, Slots: 1, Envs: 1}, false)
		wantNew(t, api.Config{Frames: 1, Slots: far, Envs: 1}, false)
		wantNew(t, api.Config{Frames: 1, Slots: 1, Envs: far}, false)
	}
}

func wantNew(t *testing.T, c api.Config, may bool) {
	t.Helper()
	m, e := New(c)
	if may && (m == nil || e != api.OK) || !may && (m != nil || e != api.ErrConfig) {
		t.Errorf("New(%+v): %v, %d", c, m != nil, e)
	}
}

func TestP3AllIsFreeAndAlive(t *testing.T) {
	m := made(t, 16, 8, 4)
	for env := 0; env < 4; env++ {
		wantRights(t, m, env, "[]")
		wantErr(t, "Spawn of one that is alive", m.Spawn(env), api.ErrLive)
	}
	for i := 0; i < 16; i++ {
		alloc(t, m, 3, i+1)
		l, _ := m.Rights(3)
		if last := l[len(l)-1]; last != (api.Right{Handle: i + 1, Env: 3, Frame: i, Write: true}) {
			t.Errorf("Alloc %d made %v", i, last)
		}
	}
	refuseAlloc(t, m, 3, api.ErrFull)
}

func TestP1NoSuchEnv(t *testing.T) {
	for envs := 1; envs <= api.MaxEnvs; envs++ {
		m := made(t, 2, 1, envs)
		alloc(t, m, 0, 1)
		for _, env := range []int{-1, envs, envs + 1, api.MaxEnvs, 1 << 32, least, most} {
			refuseEnv(t, m, env)
			refuseDerive(t, m, 0, 1, env, true, api.ErrEnv)
			before := state(m)
			wantErr(t, "Spawn", m.Spawn(env), api.ErrEnv)
			wantSame(t, m, before)
		}
	}
}

func TestP1NoSuchRight(t *testing.T) {
	m := made(t, 2, 1, 2)
	alloc(t, m, 0, 1)
	alloc(t, m, 0, 2)
	wantErr(t, "Drop(0, 2)", m.Drop(0, 2), api.OK)
	for _, handle := range []int{0, -1, 2, 3, 1 << 32, 1<<32 + 1, least, most} {
		refuseEnds(t, m, 0, handle, api.ErrCap)
		refuseDerive(t, m, 0, handle, 1, false, api.ErrCap)
	}
	refuseEnds(t, m, 1, 1, api.ErrCap)
	refuseDerive(t, m, 1, 1, 1, false, api.ErrCap)
}

func TestP4LeastFreeFrame(t *testing.T) {
	m := made(t, 3, 1, 2)
	alloc(t, m, 0, 1)
	alloc(t, m, 1, 2)
	alloc(t, m, 0, 3)
	wantErr(t, "Drop(0, 3)", m.Drop(0, 3), api.OK)
	wantErr(t, "Drop(1, 2)", m.Drop(1, 2), api.OK)
	alloc(t, m, 0, 4)
	wantRights(t, m, 0, "[{1 0 0 true} {4 0 1 true}]")
	wantErr(t, "Drop(0, 1)", m.Drop(0, 1), api.OK)
	alloc(t, m, 1, 5)
	alloc(t, m, 1, 6)
	wantRights(t, m, 1, "[{5 1 0 true} {6 1 2 true}]")
	refuseAlloc(t, m, 0, api.ErrFull)
	refuseAlloc(t, m, 1, api.ErrFull)
}

func TestP4BytesBecomeZero(t *testing.T) {
	m := made(t, 2, 1, 1)
	alloc(t, m, 0, 1)
	full := frame{1, 2, 3, 4}
	m.frames[0] = full
	m.frames[1] = full
	wantErr(t, "Drop(0, 1)", m.Drop(0, 1), api.OK)
	alloc(t, m, 0, 2)
	if m.frames[0] != (frame{}) || m.frames[1] != full {
		t.Errorf("bytes behind Alloc: %v", m.frames)
	}
	m.frames[0] = full
	derive(t, m, 0, 2, 0, true, 3)
	wantErr(t, "Revoke(0, 2)", m.Revoke(0, 2), api.OK)
	if m.frames[0] != full {
		t.Errorf("bytes behind Derive and Revoke: %v", m.frames)
	}
}

func TestP4P5MaxRights(t *testing.T) {
	m := made(t, 2, 1, 2)
	alloc(t, m, 0, 1)
	for h := 2; h < api.MaxRights; h++ {
		derive(t, m, 0, 1, h%2, h%3 == 0, h)
	}
	alloc(t, m, 1, 32)
	refuseDerive(t, m, 0, 1, 1, false, api.ErrFull)
	wantErr(t, "Drop(1, 32)", m.Drop(1, 32), api.OK)
	derive(t, m, 0, 1, 0, false, 33)
	refuseAlloc(t, m, 0, api.ErrFull) // though a frame is free
	refuseDerive(t, m, 0, 1, 1, true, api.ErrFull)
	wantErr(t, "Drop(0, 33)", m.Drop(0, 33), api.OK)
	alloc(t, m, 0, 34)
}

func TestP5Write(t *testing.T) {
	m := made(t, 1, 1, 4)
	alloc(t, m, 0, 1)
	derive(t, m, 0, 1, 1, true, 2)
	derive(t, m, 1, 2, 2, false, 3)
	refuseDerive(t, m, 2, 3, 3, true, api.ErrRights)
	derive(t, m, 2, 3, 3, false, 4)
	derive(t, m, 1, 2, 1, true, 5)
	wantRights(t, m, 0, "[{1 0 0 true}]")
	wantRights(t, m, 1, "[{2 1 0 true} {5 1 0 true}]")
	wantRights(t, m, 2, "[{3 2 0 false}]")
	wantRights(t, m, 3, "[{4 3 0 false}]")
}

func TestP1OrderOfErrors(t *testing.T) {
	m := made(t, 1, 1, 4)
	alloc(t, m, 0, 1)
	derive(t, m, 0, 1, 0, false, 2)
	for h := 3; h <= api.MaxRights; h++ {
		derive(t, m, 0, 1, 3, false, h)
	}
	wantErr(t, "Kill(1)", m.Kill(1), api.OK)
	keep(t, m, 2, 1, api.Oldest)
	refuseAlloc(t, m, 1, api.ErrEnv)
	refuseAlloc(t, m, 2, api.ErrKept)
	refuseAlloc(t, m, 0, api.ErrFull)
	refuseDerive(t, m, 1, 9, 2, true, api.ErrEnv)
	refuseDerive(t, m, 2, 9, 1, true, api.ErrKept)
	refuseDerive(t, m, 0, 99, 1, true, api.ErrCap)
	refuseDerive(t, m, 0, 99, 2, true, api.ErrCap)
	refuseDerive(t, m, 0, 2, 1, true, api.ErrEnv)
	refuseDerive(t, m, 0, 2, 2, true, api.ErrKept)
	refuseDerive(t, m, 0, 2, 3, true, api.ErrRights)
	refuseDerive(t, m, 0, 2, 3, false, api.ErrFull)
	refuseEnds(t, m, 1, 1, api.ErrEnv)
	refuseEnds(t, m, 2, 1, api.ErrKept)
}

func TestKeptEnvironments(t *testing.T) {
	m := made(t, 2, 1, 2)
	keep(t, m, 0, 1, api.Oldest)
	write(t, m, 0, 0, 9)
	refuseAlloc(t, m, 0, api.ErrKept)
	refuseDerive(t, m, 0, 1, 1, false, api.ErrKept)
	refuseEnds(t, m, 0, 1, api.ErrKept)
	refuseMap(t, m, 0, 0, 1, false, 0, api.ErrKept)
	refuseUnmap(t, m, 0, 0, api.ErrKept)
	refuseLoad(t, m, 0, 0, 0, api.ErrKept)
	refuseStore(t, m, 0, 0, 0, 0, api.ErrKept)
	refuseKeep(t, m, 0, 1, api.Oldest, api.ErrKept)
	wantRights(t, m, 0, "[{1 0 0 true}]")
	wantErr(t, "Spawn(0)", m.Spawn(0), api.ErrLive)
	wantErr(t, "Kill(0)", m.Kill(0), api.OK)
	refuseEnv(t, m, 0)
	wantErr(t, "Spawn(0)", m.Spawn(0), api.OK)
	alloc(t, m, 0, 2) // it is raw again
	wantRights(t, m, 0, "[{2 0 0 true}]")
}

func TestP6P7Ends(t *testing.T) {
	for _, c := range []struct {
		drop bool
		env  int
		h    int
		want string
	}{
		{false, 0, 1, "[{1 0 0 true}] [{6 1 1 true}] []"},
		{false, 1, 2, "[{1 0 0 true}] [{2 1 0 true} {6 1 1 true}] [{5 2 0 false}]"},
		{false, 0, 3, "[{1 0 0 true} {3 0 0 true}] [{2 1 0 true} {6 1 1 true}] [{5 2 0 false}]"},
		{false, 2, 4, "[{1 0 0 true} {3 0 0 true}] [{2 1 0 true} {6 1 1 true}] [{4 2 0 false} {5 2 0 false}]"},
		{true, 0, 1, "[] [{6 1 1 true}] []"},
		{true, 1, 2, "[{1 0 0 true}] [{6 1 1 true}] [{5 2 0 false}]"},
		{true, 0, 3, "[{1 0 0 true}] [{2 1 0 true} {6 1 1 true}] [{5 2 0 false}]"},
		{true, 2, 4, "[{1 0 0 true} {3 0 0 true}] [{2 1 0 true} {6 1 1 true}] [{5 2 0 false}]"},
		{true, 1, 6, "[{1 0 0 true} {3 0 0 true}] [{2 1 0 true}] [{4 2 0 false} {5 2 0 false}]"},
	} {
		m := made(t, 2, 1, 3)
		alloc(t, m, 0, 1)
		derive(t, m, 0, 1, 1, true, 2)
		derive(t, m, 1, 2, 0, true, 3)
		derive(t, m, 0, 3, 2, false, 4)
		derive(t, m, 0, 1, 2, false, 5)
		alloc(t, m, 1, 6)
		if c.drop {
			wantErr(t, "Drop", m.Drop(c.env, c.h), api.OK)
		} else {
			wantErr(t, "Revoke", m.Revoke(c.env, c.h), api.OK)
		}
		if got := allRights(m, 3); got != c.want {
			t.Errorf("drop %v of %d: %s, want %s", c.drop, c.h, got, c.want)
		}
	}
}

func allRights(m *Machine, envs int) string {
	text := ""
	for env := 0; env < envs; env++ {
		l, _ := m.Rights(env)
		if env > 0 {
			text += " "
		}
		text += fmt.Sprint(l)
	}
	return text
}

func TestP7FrameIsFreeWithItsFirstRightAlone(t *testing.T) {
	m := made(t, 1, 1, 2)
	alloc(t, m, 0, 1)
	derive(t, m, 0, 1, 1, true, 2)
	wantErr(t, "Drop(1, 2)", m.Drop(1, 2), api.OK)
	refuseAlloc(t, m, 1, api.ErrFull)
	derive(t, m, 0, 1, 1, true, 3)
	wantErr(t, "Drop(0, 1)", m.Drop(0, 1), api.OK)
	refuseEnds(t, m, 1, 3, api.ErrCap)
	alloc(t, m, 1, 4)
}

func TestP2ListsAreTheCallers(t *testing.T) {
	m := made(t, 4, 1, 2)
	for h := 1; h <= 3; h++ {
		alloc(t, m, 0, h)
	}
	early, _ := m.Rights(0)
	other, _ := m.Rights(0)
	before := state(m)
	other = other[:cap(other)]
	for i := range other {
		other[i] = api.Right{Handle: -1, Env: -1, Frame: -1}
	}
	wantSame(t, m, before)
	wantRights(t, m, 0, "[{1 0 0 true} {2 0 1 true} {3 0 2 true}]")
	wantErr(t, "Drop(0, 1)", m.Drop(0, 1), api.OK)
	alloc(t, m, 0, 4)
	derive(t, m, 0, 4, 0, false, 5)
	wantErr(t, "Kill(0)", m.Kill(0), api.OK)
	if got := fmt.Sprint(early); got != "[{1 0 0 true} {2 0 1 true} {3 0 2 true}]" {
		t.Errorf("a list that came out early is now %s", got)
	}
}

func TestP2MachinesAreApart(t *testing.T) {
	a := made(t, 1, 1, 2)
	alloc(t, a, 0, 1)
	derive(t, a, 0, 1, 1, false, 2)
	wantErr(t, "Kill(1)", a.Kill(1), api.OK)
	before := state(a)
	b := made(t, 1, 1, 2)
	alloc(t, b, 1, 1)
	wantErr(t, "Kill(0)", b.Kill(0), api.OK)
	wantErr(t, "Drop(1, 1)", b.Drop(1, 1), api.OK)
	wantSame(t, a, before)
	derive(t, a, 0, 1, 0, false, 3)
}

func TestP9KillAndSpawn(t *testing.T) {
	m := made(t, 3, 1, 3)
	alloc(t, m, 0, 1)
	derive(t, m, 0, 1, 1, true, 2)
	derive(t, m, 1, 2, 2, true, 3)
	derive(t, m, 2, 3, 0, true, 4)
	alloc(t, m, 1, 5)
	derive(t, m, 1, 5, 0, false, 6)
	alloc(t, m, 2, 7)
	wantErr(t, "Kill(1)", m.Kill(1), api.OK)
	refuseEnv(t, m, 1)
	refuseDerive(t, m, 0, 1, 1, false, api.ErrEnv)
	wantRights(t, m, 0, "[{1 0 0 true}]")
	wantRights(t, m, 2, "[{7 2 2 true}]")
	alloc(t, m, 0, 8)
	wantRights(t, m, 0, "[{1 0 0 true} {8 0 1 true}]")
	wantErr(t, "Spawn(1)", m.Spawn(1), api.OK)
	wantErr(t, "Spawn(1) again", m.Spawn(1), api.ErrLive)
	wantRights(t, m, 1, "[]")
	derive(t, m, 0, 8, 1, true, 9)
	wantRights(t, m, 1, "[{9 1 1 true}]")
}

func TestP9AllAreKilled(t *testing.T) {
	m := made(t, 1, 1, 4)
	alloc(t, m, 2, 1)
	for env := 0; env < 4; env++ {
		wantErr(t, "Kill", m.Kill(env), api.OK)
	}
	for env := 0; env < 4; env++ {
		refuseEnv(t, m, env)
		wantErr(t, "Spawn", m.Spawn(env), api.OK)
		wantRights(t, m, env, "[]")
	}
	alloc(t, m, 3, 2)
}
