package frames

import (
	"fmt"
	"testing"

	"frames/api"
)

// model says P3 to P9 in another way: every right that was ever made stays in the list, with a flag whether it has ended.
type model struct {
	frames, envs int
	dead         map[int]bool
	made         []modelRight
}

type modelRight struct {
	right  api.Right
	parent int
	ended  bool
}

// alive: a right is, if neither it nor any that it comes of has ended.
func (w *model) alive(handle int) bool {
	for handle != 0 {
		r := w.made[handle-1]
		if r.ended {
			return false
		}
		handle = r.parent
	}
	return true
}

func (w *model) count() int {
	n := 0
	for _, r := range w.made {
		if w.alive(r.right.Handle) {
			n++
		}
	}
	return n
}

func (w *model) taken(frame int) bool {
	for _, r := range w.made {
		if r.right.Frame == frame && w.alive(r.right.Handle) {
			return true
		}
	}
	return false
}

func (w *model) bad(env int) bool { return env < 0 || env >= w.envs || w.dead[env] }

func (w *model) cap(env int, handle int) bool {
	return handle >= 1 && handle <= len(w.made) && w.made[handle-1].right.Env == env && w.alive(handle)
}

func (w *model) add(env int, frame int, write bool, parent int) int {
	h := len(w.made) + 1
	w.made = append(w.made, modelRight{right: api.Right{Handle: h, Env: env, Frame: frame, Write: write}, parent: parent})
	return h
}

func (w *model) alloc(env int) (int, api.Errno) {
	if w.bad(env) {
		return 0, api.ErrEnv
	}
	for f := 0; f < w.frames; f++ {
		if !w.taken(f) && w.count() < api.MaxRights {
			return w.add(env, f, true, 0), api.OK
		}
	}
	return 0, api.ErrFull
}

func (w *model) derive(env int, handle int, to int, write bool) (int, api.Errno) {
	switch {
	case w.bad(env):
		return 0, api.ErrEnv
	case !w.cap(env, handle):
		return 0, api.ErrCap
	case w.bad(to):
		return 0, api.ErrEnv
	case write && !w.made[handle-1].right.Write:
		return 0, api.ErrRights
	case w.count() >= api.MaxRights:
		return 0, api.ErrFull
	}
	return w.add(to, w.made[handle-1].right.Frame, write, handle), api.OK
}

func (w *model) end(env int, handle int, itself bool) api.Errno {
	if w.bad(env) {
		return api.ErrEnv
	}
	if !w.cap(env, handle) {
		return api.ErrCap
	}
	for i, r := range w.made {
		if itself && r.right.Handle == handle || !itself && r.parent == handle {
			w.made[i].ended = true
		}
	}
	return api.OK
}

func (w *model) rights(env int) string {
	var l []api.Right
	if w.bad(env) {
		return fmt.Sprint(l, api.ErrEnv)
	}
	for _, r := range w.made {
		if r.right.Env == env && w.alive(r.right.Handle) {
			l = append(l, r.right)
		}
	}
	return fmt.Sprint(l, api.OK)
}

func (w *model) kill(env int) api.Errno {
	if w.bad(env) {
		return api.ErrEnv
	}
	for i, r := range w.made {
		if r.right.Env == env {
			w.made[i].ended = true
		}
	}
	w.dead[env] = true
	return api.OK
}

func (w *model) spawn(env int) api.Errno {
	if env < 0 || env >= w.envs {
		return api.ErrEnv
	}
	if !w.dead[env] {
		return api.ErrLive
	}
	w.dead[env] = false
	return api.OK
}

// dice: the same numbers at every run.
type dice struct{ state uint64 }

func (d *dice) below(n int) int {
	d.state = d.state*6364136223846793005 + 1442695040888963407
	return int((d.state >> 33) % uint64(n))
}

// answer: what one call said.
type answer struct {
	handle int
	err    api.Errno
}

// step does one call with the machine and with the model, and tells its name and both answers.
func step(m *Machine, w *model, d *dice) (string, answer, answer) {
	env, to, write := d.below(w.envs+2)-1, d.below(w.envs+2)-1, d.below(2) == 0
	handle := len(w.made) + 1 - d.below(40)
	if d.below(3) > 0 && handle >= 1 && handle <= len(w.made) {
		env = w.made[handle-1].right.Env
	}
	var got, want answer
	switch kind := d.below(80); {
	case kind < 15:
		got.handle, got.err = m.Alloc(env)
		want.handle, want.err = w.alloc(env)
		return "Alloc", got, want
	case kind < 65:
		got.handle, got.err = m.Derive(env, handle, to, write)
		want.handle, want.err = w.derive(env, handle, to, write)
		return "Derive", got, want
	case kind < 70:
		return "Revoke", answer{err: m.Revoke(env, handle)}, answer{err: w.end(env, handle, false)}
	case kind < 75:
		return "Drop", answer{err: m.Drop(env, handle)}, answer{err: w.end(env, handle, true)}
	case kind < 77:
		return "Kill", answer{err: m.Kill(env)}, answer{err: w.kill(env)}
	}
	return "Spawn", answer{err: m.Spawn(env)}, answer{err: w.spawn(env)}
}

func TestAgainstModel(t *testing.T) {
	seen := map[string]bool{}
	for seed := 0; seed < 300; seed++ {
		d := &dice{state: uint64(seed)}
		w := &model{frames: 1 + d.below(api.MaxFrames), envs: 1 + d.below(api.MaxEnvs), dead: map[int]bool{}}
		m := made(t, w.frames, 1+d.below(api.MaxSlots), w.envs)
		for i := 0; i < 250; i++ {
			before := state(m)
			call, got, want := step(m, w, d)
			if got != want {
				t.Fatalf("seed %d, call %d: %s: %v, want %v", seed, i, call, got, want)
			}
			if got.err != api.OK {
				wantSame(t, m, before)
			}
			seen[fmt.Sprint(call, " ", want.err)] = true
			sameRights(t, m, w)
		}
	}
	wantSeen(t, seen)
}

func sameRights(t *testing.T, m *Machine, w *model) {
	t.Helper()
	for env := -1; env <= w.envs; env++ {
		l, e := m.Rights(env)
		if got, want := fmt.Sprint(l, e), w.rights(env); got != want {
			t.Fatalf("Rights(%d): %s, want %s", env, got, want)
		}
	}
}

// wantSeen: each call has given each answer that it can, or else the numbers are too lame to show anything.
func wantSeen(t *testing.T, seen map[string]bool) {
	t.Helper()
	for call, errs := range map[string][]api.Errno{
		"Alloc":  {api.OK, api.ErrEnv, api.ErrFull},
		"Derive": {api.OK, api.ErrEnv, api.ErrCap, api.ErrRights, api.ErrFull},
		"Revoke": {api.OK, api.ErrEnv, api.ErrCap},
		"Drop":   {api.OK, api.ErrEnv, api.ErrCap},
		"Kill":   {api.OK, api.ErrEnv},
		"Spawn":  {api.OK, api.ErrEnv, api.ErrLive},
	} {
		for _, e := range errs {
			if !seen[fmt.Sprint(call, " ", e)] {
				t.Errorf("%s never answered %d", call, e)
			}
		}
	}
}
