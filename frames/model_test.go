package frames

import (
	"fmt"
	"slices"

	"frames/api"
)

// model says P3 to P19 in another way: every right that was ever made stays in the list, with a flag whether it has ended,
// the entries lie by environment and page, and a kept memory is one row of values, with the times of what was done to its pages.
type model struct {
	frames, slots, envs int
	dead                map[int]bool
	made                []modelRight
	entries             map[envPage]modelEntry
	bytes               [api.MaxFrames][api.PageSize]int // but of the frames of kept memory
	kept                map[int]*modelMemory
	turn, clock         int
}

func newModel(frames int, slots int, envs int) *model {
	return &model{
		frames: frames, slots: slots, envs: envs,
		dead: map[int]bool{}, entries: map[envPage]modelEntry{}, kept: map[int]*modelMemory{},
	}
}

type envPage struct{ env, page int }

type modelEntry struct {
	slot, frame int
	write       bool
}

type modelRight struct {
	right  api.Right
	parent int
	ended  bool
}

// alive: a right is, if neither it nor any that it comes of has ended.
func (w *model) alive(handle int) bool {
	for handle != 0 {
		r := w.made[handle-1]
		if r.ended {
			return false
		}
		handle = r.parent
	}
	return true
}

func (w *model) count() int {
	n := 0
	for _, r := range w.made {
		if w.alive(r.right.Handle) {
			n++
		}
	}
	return n
}

func (w *model) taken(frame int) bool {
	for _, r := range w.made {
		if r.right.Frame == frame && w.alive(r.right.Handle) {
			return true
		}
	}
	return false
}

func (w *model) bad(env int) bool { return env < 0 || env >= w.envs || w.dead[env] }

// raw: what P4 to P12 say of env first.
func (w *model) raw(env int) api.Errno {
	switch {
	case w.bad(env):
		return api.ErrEnv
	case w.kept[env] != nil:
		return api.ErrKept
	}
	return api.OK
}

func (w *model) cap(env int, handle int) bool {
	return handle >= 1 && handle <= len(w.made) && w.made[handle-1].right.Env == env && w.alive(handle)
}

func (w *model) add(env int, frame int, write bool, parent int) int {
	h := len(w.made) + 1
	w.made = append(w.made, modelRight{right: api.Right{Handle: h, Env: env, Frame: frame, Write: write}, parent: parent})
	return h
}

func (w *model) alloc(env int) (int, api.Errno) {
	if e := w.raw(env); e != api.OK {
		return 0, e
	}
	f := w.toGive()
	if f < 0 {
		return 0, api.ErrFull
	}
	w.bytes[f] = [api.PageSize]int{}
	return w.add(env, f, true, 0), api.OK
}

// toGive: the frame that the next first right is made for, or -1.
func (w *model) toGive() int {
	for f := 0; f < w.frames; f++ {
		if !w.taken(f) && w.count() < api.MaxRights {
			return f
		}
	}
	return -1
}

func (w *model) derive(env int, handle int, to int, write bool) (int, api.Errno) {
	switch {
	case w.raw(env) != api.OK:
		return 0, w.raw(env)
	case !w.cap(env, handle):
		return 0, api.ErrCap
	case w.raw(to) != api.OK:
		return 0, w.raw(to)
	case write && !w.made[handle-1].right.Write:
		return 0, api.ErrRights
	case w.count() >= api.MaxRights:
		return 0, api.ErrFull
	}
	return w.add(to, w.made[handle-1].right.Frame, write, handle), api.OK
}

func (w *model) end(env int, handle int, itself bool) api.Errno {
	if e := w.raw(env); e != api.OK {
		return e
	}
	if !w.cap(env, handle) {
		return api.ErrCap
	}
	for i, r := range w.made {
		if itself && r.right.Handle == handle || !itself && r.parent == handle {
			w.made[i].ended = true
		}
	}
	return api.OK
}

func (w *model) rights(env int) string {
	var l []api.Right
	if w.bad(env) {
		return fmt.Sprint(l, api.ErrEnv)
	}
	for _, r := range w.made {
		if r.right.Env == env && w.alive(r.right.Handle) {
			l = append(l, r.right)
		}
	}
	return fmt.Sprint(l, api.OK)
}

func (w *model) kill(env int) api.Errno {
	if w.bad(env) {
		return api.ErrEnv
	}
	for i, r := range w.made {
		if r.right.Env == env {
			w.made[i].ended = true
		}
	}
	w.dead[env] = true
	delete(w.kept, env)
	return api.OK
}

func (w *model) spawn(env int) api.Errno {
	if env < 0 || env >= w.envs {
		return api.ErrEnv
	}
	if !w.dead[env] {
		return api.ErrLive
	}
	w.dead[env] = false
	return api.OK
}

// sweep: what is not backed is gone.
func (w *model) sweep() {
	for at, e := range w.entries {
		backed := false
		for _, r := range w.made {
			enough := r.right.Write || !e.write
			backed = backed || r.right.Env == at.env && r.right.Frame == e.frame && enough && w.alive(r.right.Handle)
		}
		if !backed {
			delete(w.entries, at)
		}
	}
}

func (w *model) mapIt(env int, page int, handle int, write bool, slot int) api.Errno {
	switch {
	case w.raw(env) != api.OK:
		return w.raw(env)
	case page < 0 || page > 15:
		return api.ErrPage
	case !w.cap(env, handle):
		return api.ErrCap
	case write && !w.made[handle-1].right.Write:
		return api.ErrRights
	case slot < 0 || slot >= w.slots:
		return api.ErrSlot
	}
	w.put(envPage{env, page}, modelEntry{slot, w.made[handle-1].right.Frame, write})
	return api.OK
}

// put: what lies in the slot gives way.
func (w *model) put(of envPage, entry modelEntry) {
	for at, e := range w.entries {
		if e.slot == entry.slot {
			delete(w.entries, at)
		}
	}
	w.entries[of] = entry
}

func (w *model) unmap(env int, page int) api.Errno {
	switch {
	case w.raw(env) != api.OK:
		return w.raw(env)
	case page < 0 || page > 15:
		return api.ErrPage
	}
	delete(w.entries, envPage{env, page})
	return api.OK
}

func (w *model) load(env int, page int, at int) (int, api.Errno) {
	e, found := w.entries[envPage{env, page}]
	switch {
	case w.raw(env) != api.OK:
		return 0, w.raw(env)
	case page < 0 || page > 15:
		return 0, api.ErrPage
	case at < 0 || at > 3:
		return 0, api.ErrAt
	case !found:
		return 0, api.ErrMiss
	}
	return w.bytes[e.frame][at], api.OK
}

func (w *model) store(env int, page int, at int, value int) api.Errno {
	e, found := w.entries[envPage{env, page}]
	switch {
	case w.raw(env) != api.OK:
		return w.raw(env)
	case page < 0 || page > 15:
		return api.ErrPage
	case at < 0 || at > 3:
		return api.ErrAt
	case value < 0 || value > 255:
		return api.ErrArg
	case !found:
		return api.ErrMiss
	case !e.write:
		return api.ErrWrite
	}
	w.bytes[e.frame][at] = value
	return api.OK
}

func (w *model) table() []api.Entry {
	l := make([]api.Entry, w.slots)
	for at, e := range w.entries {
		l[e.slot] = api.Entry{Used: true, Env: at.env, Page: at.page, Frame: e.frame, Write: e.write}
	}
	return l
}

type modelMemory struct {
	quota, policy      int
	values             [api.MaxPages * api.PageSize]int
	in                 map[int]*modelPage
	goneChanged, dirty map[int]bool
	refills, ins, outs int
}

// modelPage: a page that is in; came and used are times of the model's clock.
type modelPage struct {
	frame, came, used int
	changed           bool
}

func (w *model) keep(env int, quota int, policy int) api.Errno {
	switch {
	case w.raw(env) != api.OK:
		return w.raw(env)
	case quota < 1 || quota > 16 || policy < 0 || policy > 2:
		return api.ErrArg
	}
	for _, r := range w.made {
		if r.right.Env == env && w.alive(r.right.Handle) {
			return api.ErrHeld
		}
	}
	w.kept[env] = &modelMemory{quota: quota, policy: policy, in: map[int]*modelPage{}, goneChanged: map[int]bool{}, dirty: map[int]bool{}}
	return api.OK
}

// asked: what P15 and P17 to P19 say of env first.
func (w *model) asked(env int) api.Errno {
	switch {
	case w.bad(env):
		return api.ErrEnv
	case w.kept[env] == nil:
		return api.ErrRaw
	}
	return api.OK
}

func (w *model) read(env int, address int) (int, api.Errno) {
	switch {
	case w.asked(env) != api.OK:
		return 0, w.asked(env)
	case address < 0 || address > 63:
		return 0, api.ErrArg
	case !w.access(env, address/4, false):
		return 0, api.ErrFull
	}
	return w.kept[env].values[address], api.OK
}

func (w *model) write(env int, address int, value int) api.Errno {
	switch {
	case w.asked(env) != api.OK:
		return w.asked(env)
	case address < 0 || address > 63 || value < 0 || value > 255:
		return api.ErrArg
	case !w.access(env, address/4, true):
		return api.ErrFull
	}
	w.kept[env].values[address] = value
	w.kept[env].dirty[address/4] = true
	return api.OK
}

func (w *model) dirty(env int) ([]int, api.Errno) {
	if e := w.asked(env); e != api.OK {
		return nil, e
	}
	var l []int
	for page := range w.kept[env].dirty {
		l = append(l, page)
	}
	slices.Sort(l)
	return l, api.OK
}

func (w *model) clean(env int) api.Errno {
	if e := w.asked(env); e != api.OK {
		return e
	}
	clear(w.kept[env].dirty)
	return api.OK
}

func (w *model) squeeze(env int, quota int) api.Errno {
	switch {
	case w.asked(env) != api.OK:
		return w.asked(env)
	case quota < 1 || quota > 16:
		return api.ErrArg
	}
	k := w.kept[env]
	for k.quota = quota; len(k.in) > quota; {
		frame := w.out(env)
		for i, r := range w.made {
			if r.right.Frame == frame && r.right.Env == env {
				w.made[i].ended = true
			}
		}
	}
	return api.OK
}

// out: the policy's page goes out; its frame.
func (w *model) out(env int) int {
	k := w.kept[env]
	page := k.victim()
	frame := k.in[page].frame
	if k.in[page].changed {
		k.outs++
		k.goneChanged[page] = true
	}
	delete(k.in, page)
	delete(w.entries, envPage{env, page})
	return frame
}

func (w *model) counts(env int) (api.Counts, api.Errno) {
	if e := w.asked(env); e != api.OK {
		return api.Counts{}, e
	}
	k := w.kept[env]
	return api.Counts{Refills: k.refills, Ins: k.ins, Outs: k.outs, In: len(k.in)}, api.OK
}

func (w *model) access(env int, page int, write bool) bool {
	k := w.kept[env]
	w.clock++
	if k.in[page] == nil {
		frame := w.toGive()
		switch {
		case frame >= 0 && len(k.in) < k.quota:
			w.add(env, frame, true, 0)
		case len(k.in) > 0:
			frame = w.out(env)
		default:
			return false
		}
		k.in[page] = &modelPage{frame: frame, came: w.clock}
		if k.goneChanged[page] {
			k.ins++
		}
	}
	k.in[page].used = w.clock
	w.refill(env, page, write)
	k.in[page].changed = k.in[page].changed || write
	return true
}

// victim: the page that no other one of those that are in beats.
func (k *modelMemory) victim() int {
	for page, p := range k.in {
		beaten := false
		for _, o := range k.in {
			switch k.policy {
			case api.Oldest:
				beaten = beaten || o.came < p.came
			case api.Stalest:
				beaten = beaten || o.used < p.used
			case api.Freshest:
				beaten = beaten || o.used > p.used
			}
		}
		if !beaten {
			return page
		}
	}
	return -1
}

func (w *model) refill(env int, page int, write bool) {
	k, p := w.kept[env], w.kept[env].in[page]
	old, found := w.entries[envPage{env, page}]
	if found && (old.write || !write) {
		return
	}
	slot := old.slot
	if !found {
		for slot = 0; slot < w.slots && w.table()[slot].Used; slot++ {
		}
		if slot == w.slots {
			slot = w.turn
			w.turn = (w.turn + 1) % w.slots
		}
	}
	k.refills++
	w.put(envPage{env, page}, modelEntry{slot, p.frame, p.changed || write})
}
