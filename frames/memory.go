package frames

import (
	"frames/api"
	"frames/kept"
)

// Keep leaves an environment's memory to the machine (P14).
func (m *Machine) Keep(env int, quota int, policy int) api.Errno {
	e := m.needRaw(env)
	if e != api.OK {
		return e
	}
	if !isQuota(quota) || !isPolicy(policy) {
		return api.ErrArg
	}
	held := m.rights.Of(env)
	if len(held) > 0 {
		return api.ErrHeld
	}
	m.envs[env].kept = true
	m.envs[env].memory = kept.Empty(quota, policy)
	return api.OK
}

// isQuota tells whether a quota is one that may be. It may be more than the machine has frames.
func isQuota(quota int) bool { return quota >= 1 && quota <= api.MaxFrames }

// isPolicy tells whether there is such a policy.
func isPolicy(policy int) bool {
	return policy == api.Oldest || policy == api.Stalest || policy == api.Freshest
}

// needKept answers ErrEnv or ErrRaw, if env is none that is alive and kept.
func (m *Machine) needKept(env int) api.Errno {
	if !m.isAlive(env) {
		return api.ErrEnv
	}
	if !m.envs[env].kept {
		return api.ErrRaw
	}
	return api.OK
}

// needAddress answers what needKept does, or ErrArg, if there is no such address.
func (m *Machine) needAddress(env int, address int) api.Errno {
	e := m.needKept(env)
	if e != api.OK {
		return e
	}
	if address < 0 || address >= api.MaxPages*api.PageSize {
		return api.ErrArg
	}
	return api.OK
}

// Read tells a byte of a kept memory (P15).
func (m *Machine) Read(env int, address int) (int, api.Errno) {
	e := m.needAddress(env, address)
	if e != api.OK {
		return 0, e
	}
	home, e := m.access(env, address/api.PageSize, false)
	if e != api.OK {
		return 0, e
	}
	return int(m.frames[home][address%api.PageSize]), api.OK
}

// Write writes one (P15).
func (m *Machine) Write(env int, address int, value int) api.Errno {
	e := m.needAddress(env, address)
	if e != api.OK {
		return e
	}
	if !isByte(value) {
		return api.ErrArg
	}
	home, e := m.access(env, address/api.PageSize, true)
	if e != api.OK {
		return e
	}
	m.frames[home][address%api.PageSize] = byte(value)
	return api.OK
}

// access makes an access to a page of a kept environment, and tells the frame in which it lies then, or answers ErrFull (P16).
func (m *Machine) access(env int, page int, write bool) (int, api.Errno) {
	home, in := m.envs[env].memory.Frame(page)
	if !in {
		home, in = m.bringIn(env, page)
	}
	if !in {
		return 0, api.ErrFull
	}
	m.refill(env, page, home, write)
	m.envs[env].memory.Touch(page, write)
	return home, api.OK
}

// bringIn brings in a page that is not in, and tells its frame, if there is one for it.
func (m *Machine) bringIn(env int, page int) (int, bool) {
	home, found := m.frameFor(env)
	if !found {
		return 0, false
	}
	bytes := m.envs[env].memory.ComeIn(page, home)
	m.frames[home] = bytes
	return home, true
}

// frameFor gives a kept environment a further frame, if it may have one, or else the frame of a page that goes out.
func (m *Machine) frameFor(env int) (int, bool) {
	least, found := m.leastFree()
	if found && m.envs[env].memory.HasRoom() {
		m.give(env, least)
		return least, true
	}
	return m.putOut(env)
}

// putOut lets the page go out that the policy chooses, and tells the frame in which it lay, if a page is in.
func (m *Machine) putOut(env int) (int, bool) {
	page, home, found := m.envs[env].memory.Chosen()
	if !found {
		return 0, false
	}
	bytes := m.frames[home]
	m.envs[env].memory.GoOut(page, bytes)
	m.table.Remove(env, page)
	return home, true
}

// refill puts an entry of a page that is in into the table, if the access finds none that will do.
func (m *Machine) refill(env int, page int, home int, write bool) {
	entry, found := m.table.Find(env, page)
	if found && (entry.Write || !write) {
		return
	}
	m.envs[env].memory.CountRefill()
	may := write || m.envs[env].memory.Changed(page)
	m.table.Refill(api.Entry{Used: true, Env: env, Page: page, Frame: home, Write: may})
}

// Counts tells how often what was done (P17).
func (m *Machine) Counts(env int) (api.Counts, api.Errno) {
	e := m.needKept(env)
	if e != api.OK {
		return api.Counts{}, e
	}
	return m.envs[env].memory.Counts(), api.OK
}

// Dirty tells the pages that were written (P18).
func (m *Machine) Dirty(env int) ([]int, api.Errno) {
	e := m.needKept(env)
	if e != api.OK {
		return nil, e
	}
	return m.envs[env].memory.Dirty(), api.OK
}

// Clean makes none dirty (P18).
func (m *Machine) Clean(env int) api.Errno {
	e := m.needKept(env)
	if e != api.OK {
		return e
	}
	m.envs[env].memory.Clean()
	return api.OK
}

// Squeeze sets another quota (P19).
func (m *Machine) Squeeze(env int, quota int) api.Errno {
	e := m.needKept(env)
	if e != api.OK {
		return e
	}
	if !isQuota(quota) {
		return api.ErrArg
	}
	beyond := m.envs[env].memory.SetQuota(quota)
	for i := 0; i < beyond; i++ {
		m.giveUp(env)
	}
	return api.OK
}

// giveUp lets the page go out that the policy chooses, and its frame become free.
func (m *Machine) giveUp(env int) {
	home, found := m.putOut(env)
	if found {
		m.rights.EndFirst(home)
	}
}
