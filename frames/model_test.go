package frames

import (
	"fmt"
	"testing"

	"frames/api"
)

// model says P3 to P13 in another way: every right that was ever made stays in the list, with a flag whether it has ended,
// and the entries lie by environment and page.
type model struct {
	frames, slots, envs int
	dead                map[int]bool
	made                []modelRight
	entries             map[envPage]modelEntry
	bytes               [api.MaxFrames][api.PageSize]int
}

type envPage struct{ env, page int }

type modelEntry struct {
	slot, frame int
	write       bool
}

type modelRight struct {
	right  api.Right
	parent int
	ended  bool
}

// alive: a right is, if neither it nor any that it comes of has ended.
func (w *model) alive(handle int) bool {
	for handle != 0 {
		r := w.made[handle-1]
		if r.ended {
			return false
		}
		handle = r.parent
	}
	return true
}

func (w *model) count() int {
	n := 0
	for _, r := range w.made {
		if w.alive(r.right.Handle) {
			n++
		}
	}
	return n
}

func (w *model) taken(frame int) bool {
	for _, r := range w.made {
		if r.right.Frame == frame && w.alive(r.right.Handle) {
			return true
		}
	}
	return false
}

func (w *model) bad(env int) bool { return env < 0 || env >= w.envs || w.dead[env] }

func (w *model) cap(env int, handle int) bool {
	return handle >= 1 && handle <= len(w.made) && w.made[handle-1].right.Env == env && w.alive(handle)
}

func (w *model) add(env int, frame int, write bool, parent int) int {
	h := len(w.made) + 1
	w.made = append(w.made, modelRight{right: api.Right{Handle: h, Env: env, Frame: frame, Write: write}, parent: parent})
	return h
}

func (w *model) alloc(env int) (int, api.Errno) {
	if w.bad(env) {
		return 0, api.ErrEnv
	}
	for f := 0; f < w.frames; f++ {
		if !w.taken(f) && w.count() < api.MaxRights {
			w.bytes[f] = [api.PageSize]int{}
			return w.add(env, f, true, 0), api.OK
		}
	}
	return 0, api.ErrFull
}

func (w *model) derive(env int, handle int, to int, write bool) (int, api.Errno) {
	switch {
	case w.bad(env):
		return 0, api.ErrEnv
	case !w.cap(env, handle):
		return 0, api.ErrCap
	case w.bad(to):
		return 0, api.ErrEnv
	case write && !w.made[handle-1].right.Write:
		return 0, api.ErrRights
	case w.count() >= api.MaxRights:
		return 0, api.ErrFull
	}
	return w.add(to, w.made[handle-1].right.Frame, write, handle), api.OK
}

func (w *model) end(env int, handle int, itself bool) api.Errno {
	if w.bad(env) {
		return api.ErrEnv
	}
	if !w.cap(env, handle) {
		return api.ErrCap
	}
	for i, r := range w.made {
		if itself && r.right.Handle == handle || !itself && r.parent == handle {
			w.made[i].ended = true
		}
	}
	return api.OK
}

func (w *model) rights(env int) string {
	var l []api.Right
	if w.bad(env) {
		return fmt.Sprint(l, api.ErrEnv)
	}
	for _, r := range w.made {
		if r.right.Env == env && w.alive(r.right.Handle) {
			l = append(l, r.right)
		}
	}
	return fmt.Sprint(l, api.OK)
}

func (w *model) kill(env int) api.Errno {
	if w.bad(env) {
		return api.ErrEnv
	}
	for i, r := range w.made {
		if r.right.Env == env {
			w.made[i].ended = true
		}
	}
	w.dead[env] = true
	return api.OK
}

func (w *model) spawn(env int) api.Errno {
	if env < 0 || env >= w.envs {
		return api.ErrEnv
	}
	if !w.dead[env] {
		return api.ErrLive
	}
	w.dead[env] = false
	return api.OK
}

// sweep: what is not backed is gone.
func (w *model) sweep() {
	for at, e := range w.entries {
		backed := false
		for _, r := range w.made {
			enough := r.right.Write || !e.write
			backed = backed || r.right.Env == at.env && r.right.Frame == e.frame && enough && w.alive(r.right.Handle)
		}
		if !backed {
			delete(w.entries, at)
		}
	}
}

func (w *model) mapIt(env int, page int, handle int, write bool, slot int) api.Errno {
	switch {
	case w.bad(env):
		return api.ErrEnv
	case page < 0 || page > 15:
		return api.ErrPage
	case !w.cap(env, handle):
		return api.ErrCap
	case write && !w.made[handle-1].right.Write:
		return api.ErrRights
	case slot < 0 || slot >= w.slots:
		return api.ErrSlot
	}
	for at, e := range w.entries {
		if e.slot == slot {
			delete(w.entries, at)
		}
	}
	w.entries[envPage{env, page}] = modelEntry{slot, w.made[handle-1].right.Frame, write}
	return api.OK
}

func (w *model) unmap(env int, page int) api.Errno {
	switch {
	case w.bad(env):
		return api.ErrEnv
	case page < 0 || page > 15:
		return api.ErrPage
	}
	delete(w.entries, envPage{env, page})
	return api.OK
}

func (w *model) load(env int, page int, at int) (int, api.Errno) {
	e, found := w.entries[envPage{env, page}]
	switch {
	case w.bad(env):
		return 0, api.ErrEnv
	case page < 0 || page > 15:
		return 0, api.ErrPage
	case at < 0 || at > 3:
		return 0, api.ErrAt
	case !found:
		return 0, api.ErrMiss
	}
	return w.bytes[e.frame][at], api.OK
}

func (w *model) store(env int, page int, at int, value int) api.Errno {
	e, found := w.entries[envPage{env, page}]
	switch {
	case w.bad(env):
		return api.ErrEnv
	case page < 0 || page > 15:
		return api.ErrPage
	case at < 0 || at > 3:
		return api.ErrAt
	case value < 0 || value > 255:
		return api.ErrArg
	case !found:
		return api.ErrMiss
	case !e.write:
		return api.ErrWrite
	}
	w.bytes[e.frame][at] = value
	return api.OK
}

func (w *model) table() []api.Entry {
	l := make([]api.Entry, w.slots)
	for at, e := range w.entries {
		l[e.slot] = api.Entry{Used: true, Env: at.env, Page: at.page, Frame: e.frame, Write: e.write}
	}
	return l
}

// dice: the same numbers at every run.
type dice struct{ state uint64 }

func (d *dice) below(n int) int {
	d.state = d.state*6364136223846793005 + 1442695040888963407
	return int((d.state >> 33) % uint64(n))
}

// answer: what one call said.
type answer struct {
	number int
	err    api.Errno
}

// some chooses a number from 0 to n - 1, now and then one beyond.
func (d *dice) some(n int) int {
	if d.below(20) == 0 {
		return []int{-1, n, least, most}[d.below(4)]
	}
	return d.below(n)
}

// chosen draws a handle among the last ones, and mostly the environment whose right it is.
func (w *model) chosen(d *dice) (int, int) {
	env, handle := d.below(w.envs+2)-1, len(w.made)+1-d.below(40)
	if d.below(3) > 0 && handle >= 1 && handle <= len(w.made) {
		env = w.made[handle-1].right.Env
	}
	return env, handle
}

// tableStep does one call of P10 to P12 with the machine and with the model, and tells its name and both answers.
func tableStep(m *Machine, w *model, d *dice) (string, answer, answer) {
	var got, want answer
	env, page, at, value := d.some(w.envs), d.some(api.MaxPages), d.some(api.PageSize), d.some(256)
	e := w.table()[d.below(w.slots)]
	if e.Used && d.below(4) > 0 {
		env, page = e.Env, e.Page
	}
	switch kind := d.below(10); {
	case kind < 5:
		owner, handle := w.chosen(d)
		write, slot := d.below(2) == 0, d.some(w.slots)
		return "Map", answer{err: m.Map(owner, page, handle, write, slot)}, answer{err: w.mapIt(owner, page, handle, write, slot)}
	case kind < 6:
		return "Unmap", answer{err: m.Unmap(env, page)}, answer{err: w.unmap(env, page)}
	case kind < 8:
		got.number, got.err = m.Load(env, page, at)
		want.number, want.err = w.load(env, page, at)
		return "Load", got, want
	}
	return "Store", answer{err: m.Store(env, page, at, value)}, answer{err: w.store(env, page, at, value)}
}

// rightsStep does one call of P4 to P9 with the machine and with the model, and tells its name and both answers.
func rightsStep(m *Machine, w *model, d *dice) (string, answer, answer) {
	env, handle := w.chosen(d)
	to, write := d.below(w.envs+2)-1, d.below(2) == 0
	var got, want answer
	switch kind := d.below(80); {
	case kind < 15:
		got.number, got.err = m.Alloc(env)
		want.number, want.err = w.alloc(env)
		return "Alloc", got, want
	case kind < 65:
		got.number, got.err = m.Derive(env, handle, to, write)
		want.number, want.err = w.derive(env, handle, to, write)
		return "Derive", got, want
	case kind < 70:
		return "Revoke", answer{err: m.Revoke(env, handle)}, answer{err: w.end(env, handle, false)}
	case kind < 75:
		return "Drop", answer{err: m.Drop(env, handle)}, answer{err: w.end(env, handle, true)}
	case kind < 77:
		return "Kill", answer{err: m.Kill(env)}, answer{err: w.kill(env)}
	}
	return "Spawn", answer{err: m.Spawn(env)}, answer{err: w.spawn(env)}
}

func step(m *Machine, w *model, d *dice) (string, answer, answer) {
	if d.below(2) == 0 {
		return tableStep(m, w, d)
	}
	call, got, want := rightsStep(m, w, d)
	w.sweep()
	return call, got, want
}

func TestAgainstModel(t *testing.T) {
	seen := map[string]bool{}
	for seed := 0; seed < 300; seed++ {
		d := &dice{state: uint64(seed)}
		w := &model{frames: 1 + d.below(api.MaxFrames), slots: 1 + d.below(api.MaxSlots), envs: 1 + d.below(api.MaxEnvs)}
		w.dead, w.entries = map[int]bool{}, map[envPage]modelEntry{}
		m := made(t, w.frames, w.slots, w.envs)
		for i := 0; i < 500; i++ {
			before := state(m)
			call, got, want := step(m, w, d)
			if got != want {
				t.Fatalf("seed %d, call %d: %s: %v, want %v", seed, i, call, got, want)
			}
			if got.err != api.OK {
				wantSame(t, m, before)
			}
			seen[fmt.Sprint(call, " ", want.err)] = true
			sameRights(t, m, w)
			sameTable(t, m, w)
		}
	}
	wantSeen(t, seen)
}

func sameTable(t *testing.T, m *Machine, w *model) {
	t.Helper()
	if got, want := fmt.Sprint(m.Table()), fmt.Sprint(w.table()); got != want {
		t.Fatalf("Table(): %s, want %s", got, want)
	}
	for f := 0; f < w.frames; f++ { // what a free frame holds, nobody can see
		if got, want := fmt.Sprint(m.frames[f]), fmt.Sprint(w.bytes[f]); w.taken(f) && got != want {
			t.Fatalf("frame %d: %s, want %s", f, got, want)
		}
	}
}

func sameRights(t *testing.T, m *Machine, w *model) {
	t.Helper()
	for env := -1; env <= w.envs; env++ {
		l, e := m.Rights(env)
		if got, want := fmt.Sprint(l, e), w.rights(env); got != want {
			t.Fatalf("Rights(%d): %s, want %s", env, got, want)
		}
	}
}

// wantSeen: each call has given each answer that it can, or else the numbers are too lame to show anything.
func wantSeen(t *testing.T, seen map[string]bool) {
	t.Helper()
	for call, errs := range map[string][]api.Errno{
		"Alloc":  {api.OK, api.ErrEnv, api.ErrFull},
		"Derive": {api.OK, api.ErrEnv, api.ErrCap, api.ErrRights, api.ErrFull},
		"Revoke": {api.OK, api.ErrEnv, api.ErrCap},
		"Drop":   {api.OK, api.ErrEnv, api.ErrCap},
		"Kill":   {api.OK, api.ErrEnv},
		"Spawn":  {api.OK, api.ErrEnv, api.ErrLive},
		"Map":    {api.OK, api.ErrEnv, api.ErrPage, api.ErrCap, api.ErrRights, api.ErrSlot},
		"Unmap":  {api.OK, api.ErrEnv, api.ErrPage},
		"Load":   {api.OK, api.ErrEnv, api.ErrPage, api.ErrAt, api.ErrMiss},
		"Store":  {api.OK, api.ErrEnv, api.ErrPage, api.ErrAt, api.ErrArg, api.ErrMiss, api.ErrWrite},
	} {
		for _, e := range errs {
			if !seen[fmt.Sprint(call, " ", e)] {
				t.Errorf("%s never answered %d", call, e)
			}
		}
	}
}
