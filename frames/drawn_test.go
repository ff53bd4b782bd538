package frames

import (
	"fmt"
	"slices"
	"testing"

	"frames/api"
)

// dice: the same numbers at every run.
type dice struct {
	state  uint64
	memory int  // of ten calls, so many are of P14 to P19
	calm   bool // environment 0 alone is kept, and few calls end rights, so that as many are alive as may be
}

func (d *dice) below(n int) int {
	d.state = d.state*6364136223846793005 + 1442695040888963407
	return int((d.state >> 33) % uint64(n))
}

// some chooses a number from 0 to n - 1, now and then one beyond.
func (d *dice) some(n int) int {
	if d.below(20) == 0 {
		return []int{-1, n, least, most}[d.below(4)]
	}
	return d.below(n)
}

// answer: what one call said.
type answer struct {
	number int
	err    api.Errno
}

// drawn: one call, what the model answers, and the same call with the machine, still to be made.
type drawn struct {
	call string
	want answer
	do   func(m *Machine) answer
}

func plain(e api.Errno) answer         { return answer{err: e} }
func number(n int, e api.Errno) answer { return answer{n, e} }
func counted(c api.Counts, e api.Errno) answer {
	return answer{((c.Refills*1000+c.Ins)*1000+c.Outs)*1000 + c.In, e}
}

// listed: the list as one number, which tells its order too, and a list written over, as its caller may do.
func listed(l []int, e api.Errno) answer {
	n := 0
	for i, page := range l {
		n = n*31 + page + 1
		l[i] = least
	}
	return answer{n, e}
}

// chosen draws a handle, mostly of a right that is alive, and mostly the environment whose right it is.
func (w *model) chosen(d *dice) (int, int) {
	env, handle := d.below(w.envs+2)-1, d.below(len(w.made)+2)
	for i := 0; i < 10 && !w.usable(handle); i++ {
		handle = d.below(len(w.made) + 2)
	}
	if d.below(5) > 0 && handle >= 1 && handle <= len(w.made) {
		env = w.made[handle-1].right.Env
	}
	return env, handle
}

// usable: the right is alive, and its environment raw.
func (w *model) usable(handle int) bool {
	return handle >= 1 && handle <= len(w.made) && w.alive(handle) && w.kept[w.made[handle-1].right.Env] == nil
}

// tableStep draws a call of P10 to P12.
func (w *model) tableStep(d *dice) drawn {
	env, page, at, value := d.some(w.envs), d.some(api.MaxPages), d.some(api.PageSize), d.some(256)
	e := w.table()[d.below(w.slots)]
	if e.Used && d.below(4) > 0 {
		env, page = e.Env, e.Page
	}
	switch kind := d.below(10); {
	case kind < 5:
		owner, handle := w.chosen(d)
		write, slot := d.below(2) == 0, d.some(w.slots)
		return drawn{"Map", plain(w.mapIt(owner, page, handle, write, slot)), func(m *Machine) answer {
			return plain(m.Map(owner, page, handle, write, slot))
		}}
	case kind < 6:
		return drawn{"Unmap", plain(w.unmap(env, page)), func(m *Machine) answer { return plain(m.Unmap(env, page)) }}
	case kind < 8:
		return drawn{"Load", number(w.load(env, page, at)), func(m *Machine) answer { return number(m.Load(env, page, at)) }}
	}
	return drawn{"Store", plain(w.store(env, page, at, value)), func(m *Machine) answer { return plain(m.Store(env, page, at, value)) }}
}

// rightsStep draws a call of P4 to P9.
func (w *model) rightsStep(d *dice) drawn {
	env, handle := w.chosen(d)
	to, write := d.below(w.envs+2)-1, d.below(2) == 0
	kind := d.below(80)
	if d.calm && d.below(10) > 0 {
		kind = d.below(65)
	}
	switch {
	case kind < 15:
		return drawn{"Alloc", number(w.alloc(env)), func(m *Machine) answer { return number(m.Alloc(env)) }}
	case kind < 65:
		return drawn{"Derive", number(w.derive(env, handle, to, write)), func(m *Machine) answer { return number(m.Derive(env, handle, to, write)) }}
	case kind < 70:
		return drawn{"Revoke", plain(w.end(env, handle, false)), func(m *Machine) answer { return plain(m.Revoke(env, handle)) }}
	case kind < 75:
		return drawn{"Drop", plain(w.end(env, handle, true)), func(m *Machine) answer { return plain(m.Drop(env, handle)) }}
	case kind < 77:
		return drawn{"Kill", plain(w.kill(env)), func(m *Machine) answer { return plain(m.Kill(env)) }}
	}
	return drawn{"Spawn", plain(w.spawn(env)), func(m *Machine) answer { return plain(m.Spawn(env)) }}
}

// memoryStep draws a call of P14 to P19.
func (w *model) memoryStep(d *dice) drawn {
	env, address, value := d.some(w.envs), d.some(64), d.some(256)
	for i := 0; i < 2 && w.kept[env] == nil; i++ {
		env = d.some(w.envs)
	}
	quota := 1 + d.some(api.MaxFrames>>d.below(4))
	switch kind := d.below(25); {
	case kind < 2 && !d.calm:
		policy := d.some(3)
		return drawn{"Keep", plain(w.keep(env, quota, policy)), func(m *Machine) answer { return plain(m.Keep(env, quota, policy)) }}
	case kind < 10:
		return drawn{"Read", number(w.read(env, address)), func(m *Machine) answer { return number(m.Read(env, address)) }}
	case kind < 19:
		return drawn{"Write", plain(w.write(env, address, value)), func(m *Machine) answer { return plain(m.Write(env, address, value)) }}
	case kind < 20:
		return drawn{"Counts", counted(w.counts(env)), func(m *Machine) answer { return counted(m.Counts(env)) }}
	case kind < 22:
		return drawn{"Dirty", listed(w.dirty(env)), func(m *Machine) answer { return listed(m.Dirty(env)) }}
	case kind < 23:
		return drawn{"Clean", plain(w.clean(env)), func(m *Machine) answer { return plain(m.Clean(env)) }}
	}
	return drawn{"Squeeze", plain(w.squeeze(env, quota)), func(m *Machine) answer { return plain(m.Squeeze(env, quota)) }}
}

func (w *model) step(d *dice) drawn {
	var next drawn
	switch {
	case d.calm && len(w.made) == 0 && w.raw(0) == api.OK:
		quota, policy := 1+d.below(5), d.below(3)
		next = drawn{"Keep", plain(w.keep(0, quota, policy)), func(m *Machine) answer { return plain(m.Keep(0, quota, policy)) }}
	case d.below(10) < d.memory:
		next = w.memoryStep(d)
	case d.below(2) == 0:
		next = w.tableStep(d)
	default:
		next = w.rightsStep(d)
	}
	w.sweep()
	return next
}

func TestAgainstModel(t *testing.T) {
	seen := map[string]bool{}
	for seed := 0; seed < 400; seed++ {
		d := &dice{state: uint64(seed), memory: 1 + seed%8, calm: seed%3 == 0}
		w := newModel(1+d.below(api.MaxFrames), 1+d.below(api.MaxSlots), 1+d.below(api.MaxEnvs))
		m := made(t, w.frames, w.slots, w.envs)
		for i := 0; i < 500; i++ {
			next := w.step(d)
			before := ""
			if next.want.err != api.OK {
				before = state(m)
			}
			if got := next.do(m); got != next.want {
				t.Fatalf("seed %d, call %d: %s: %v, want %v", seed, i, next.call, got, next.want)
			}
			if next.want.err != api.OK {
				wantSame(t, m, before)
			}
			seen[fmt.Sprint(next.call, " ", next.want.err)] = true
			sameRights(t, m, w)
			sameTable(t, m, w)
			sameMemory(t, m, w)
		}
	}
	wantSeen(t, seen)
}

func sameRights(t *testing.T, m *Machine, w *model) {
	t.Helper()
	for env := -1; env <= w.envs; env++ {
		l, e := m.Rights(env)
		if got, want := fmt.Sprint(l, e), w.rights(env); got != want {
			t.Fatalf("Rights(%d): %s, want %s", env, got, want)
		}
	}
}

func sameTable(t *testing.T, m *Machine, w *model) {
	t.Helper()
	if got, want := fmt.Sprint(m.Table()), fmt.Sprint(w.table()); got != want {
		t.Fatalf("Table(): %s, want %s", got, want)
	}
	for f, want := range w.held() {
		for at, value := range want {
			if got := int(m.frames[f][at]); got != value {
				t.Fatalf("frame %d: %v, want %v", f, m.frames[f], want)
			}
		}
	}
}

// held: what each frame that is not free must hold. What a free frame holds, nobody can see.
func (w *model) held() map[int][]int {
	all := map[int][]int{}
	for f := 0; f < w.frames; f++ {
		if w.taken(f) {
			all[f] = w.bytes[f][:]
		}
	}
	for _, k := range w.kept {
		for page, p := range k.in {
			all[p.frame] = k.values[page*4 : page*4+4]
		}
	}
	return all
}

func sameMemory(t *testing.T, m *Machine, w *model) {
	t.Helper()
	for env := -1; env <= w.envs; env++ {
		got, e := m.Counts(env)
		if want, err := w.counts(env); got != want || e != err {
			t.Fatalf("Counts(%d): %+v, %d, want %+v, %d", env, got, e, want, err)
		}
		l, e := m.Dirty(env)
		if want, err := w.dirty(env); !slices.Equal(l, want) || e != err {
			t.Fatalf("Dirty(%d): %v, %d, want %v, %d", env, l, e, want, err)
		}
	}
}

// wantSeen: each call has given each answer that it can, or else the numbers are too lame to show anything.
func wantSeen(t *testing.T, seen map[string]bool) {
	t.Helper()
	for call, errs := range map[string][]api.Errno{
		"Alloc":   {api.OK, api.ErrEnv, api.ErrKept, api.ErrFull},
		"Derive":  {api.OK, api.ErrEnv, api.ErrKept, api.ErrCap, api.ErrRights, api.ErrFull},
		"Revoke":  {api.OK, api.ErrEnv, api.ErrKept, api.ErrCap},
		"Drop":    {api.OK, api.ErrEnv, api.ErrKept, api.ErrCap},
		"Kill":    {api.OK, api.ErrEnv},
		"Spawn":   {api.OK, api.ErrEnv, api.ErrLive},
		"Map":     {api.OK, api.ErrEnv, api.ErrKept, api.ErrPage, api.ErrCap, api.ErrRights, api.ErrSlot},
		"Unmap":   {api.OK, api.ErrEnv, api.ErrKept, api.ErrPage},
		"Load":    {api.OK, api.ErrEnv, api.ErrKept, api.ErrPage, api.ErrAt, api.ErrMiss},
		"Store":   {api.OK, api.ErrEnv, api.ErrKept, api.ErrPage, api.ErrAt, api.ErrArg, api.ErrMiss, api.ErrWrite},
		"Keep":    {api.OK, api.ErrEnv, api.ErrKept, api.ErrArg, api.ErrHeld},
		"Read":    {api.OK, api.ErrEnv, api.ErrRaw, api.ErrArg, api.ErrFull},
		"Write":   {api.OK, api.ErrEnv, api.ErrRaw, api.ErrArg, api.ErrFull},
		"Counts":  {api.OK, api.ErrEnv, api.ErrRaw},
		"Dirty":   {api.OK, api.ErrEnv, api.ErrRaw},
		"Clean":   {api.OK, api.ErrEnv, api.ErrRaw},
		"Squeeze": {api.OK, api.ErrEnv, api.ErrRaw, api.ErrArg},
	} {
		for _, e := range errs {
			if !seen[fmt.Sprint(call, " ", e)] {
				t.Errorf("%s never answered %d", call, e)
			}
		}
	}
}
