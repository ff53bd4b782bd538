package frames

import (
	"fmt"
	"testing"

	"frames/api"
)

const (
	most  = 1<<63 - 1
	least = -1 << 63
)

func made(t *testing.T, frames int, slots int, envs int) *Machine {
	t.Helper()
	m, e := New(api.Config{Frames: frames, Slots: slots, Envs: envs})
	if m == nil || e != api.OK {
		t.Fatalf("New(%d, %d, %d): %v, %d", frames, slots, envs, m != nil, e)
	}
	return m
}

// state: all that a machine holds, as a text.
func state(m *Machine) string { return fmt.Sprintf("%+v", *m) }

func wantErr(t *testing.T, what string, got api.Errno, want api.Errno) {
	t.Helper()
	if got != want {
		t.Errorf("%s: %d, want %d", what, got, want)
	}
}

func wantNum(t *testing.T, what string, n int, e api.Errno, want int, err api.Errno) {
	t.Helper()
	if n != want || e != err {
		t.Errorf("%s: %d, %d, want %d, %d", what, n, e, want, err)
	}
}

func alloc(t *testing.T, m *Machine, env int, want int) {
	t.Helper()
	h, e := m.Alloc(env)
	wantNum(t, fmt.Sprintf("Alloc(%d)", env), h, e, want, api.OK)
}

func refuseAlloc(t *testing.T, m *Machine, env int, err api.Errno) {
	t.Helper()
	before := state(m)
	h, e := m.Alloc(env)
	wantNum(t, fmt.Sprintf("Alloc(%d)", env), h, e, 0, err)
	wantSame(t, m, before)
}

func derive(t *testing.T, m *Machine, env int, handle int, to int, write bool, want int) {
	t.Helper()
	h, e := m.Derive(env, handle, to, write)
	wantNum(t, fmt.Sprintf("Derive(%d, %d, %d, %v)", env, handle, to, write), h, e, want, api.OK)
}

func refuseDerive(t *testing.T, m *Machine, env int, handle int, to int, write bool, err api.Errno) {
	t.Helper()
	before := state(m)
	h, e := m.Derive(env, handle, to, write)
	wantNum(t, fmt.Sprintf("Derive(%d, %d, %d, %v)", env, handle, to, write), h, e, 0, err)
	wantSame(t, m, before)
}

// refuseEnds: Revoke and Drop of this handle are refused.
func refuseEnds(t *testing.T, m *Machine, env int, handle int, err api.Errno) {
	t.Helper()
	before := state(m)
	wantErr(t, fmt.Sprintf("Revoke(%d, %d)", env, handle), m.Revoke(env, handle), err)
	wantErr(t, fmt.Sprintf("Drop(%d, %d)", env, handle), m.Drop(env, handle), err)
	wantSame(t, m, before)
}

// refuseEnv: a number by which no environment that is alive is meant is refused by all calls but Spawn.
func refuseEnv(t *testing.T, m *Machine, env int) {
	t.Helper()
	before := state(m)
	refuseAlloc(t, m, env, api.ErrEnv)
	refuseDerive(t, m, env, 1, 0, false, api.ErrEnv)
	refuseEnds(t, m, env, 1, api.ErrEnv)
	refuseMap(t, m, env, 0, 1, false, 0, api.ErrEnv)
	refuseUnmap(t, m, env, 0, api.ErrEnv)
	refuseLoad(t, m, env, 0, 0, api.ErrEnv)
	refuseStore(t, m, env, 0, 0, 0, api.ErrEnv)
	refuseKeep(t, m, env, 1, api.Oldest, api.ErrEnv)
	refuseRead(t, m, env, 0, api.ErrEnv)
	refuseWrite(t, m, env, 0, 0, api.ErrEnv)
	refuseCounts(t, m, env, api.ErrEnv)
	refuseDirty(t, m, env, api.ErrEnv)
	refuseSqueeze(t, m, env, 1, api.ErrEnv)
	l, e := m.Rights(env)
	if len(l) != 0 || e != api.ErrEnv {
		t.Errorf("Rights(%d): %v, %d", env, l, e)
	}
	wantErr(t, fmt.Sprintf("Kill(%d)", env), m.Kill(env), api.ErrEnv)
	wantSame(t, m, before)
}

func wantSame(t *testing.T, m *Machine, before string) {
	t.Helper()
	if now := state(m); now != before {
		t.Errorf("a refused call has changed\n%s to\n%s", before, now)
	}
}

func wantRights(t *testing.T, m *Machine, env int, want string) {
	t.Helper()
	l, e := m.Rights(env)
	if got := fmt.Sprint(l); got != want || e != api.OK {
		t.Errorf("Rights(%d): %s, %d, want %s", env, got, e, want)
	}
}
