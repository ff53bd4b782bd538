package frames

import "frames/api"

// Alloc makes a right to a free frame (P4).
func (m *Machine) Alloc(env int) (int, api.Errno) {
	e := m.needRaw(env)
	if e != api.OK {
		return 0, e
	}
	least, found := m.leastFree()
	if !found {
		return 0, api.ErrFull
	}
	return m.give(env, least), api.OK
}

// give makes the first right to a free frame, and answers its handle. The caller has the frame from leastFree.
func (m *Machine) give(env int, free int) int {
	m.frames[free] = frame{}
	return m.rights.First(env, free)
}

// leastFree tells the free frame with the least number, if one is free and there is room for a right to it.
func (m *Machine) leastFree() (int, bool) {
	if m.rights.Full() {
		return 0, false
	}
	for i := range m.frames {
		if m.rights.Free(i) {
			return i, true
		}
	}
	return 0, false
}

// Derive makes a right of another one (P5).
func (m *Machine) Derive(env int, handle int, to int, write bool) (int, api.Errno) {
	parent, e := m.needRight(env, handle)
	if e != api.OK {
		return 0, e
	}
	e = m.needRaw(to)
	if e != api.OK {
		return 0, e
	}
	if write && !parent.Write {
		return 0, api.ErrRights
	}
	if m.rights.Full() {
		return 0, api.ErrFull
	}
	return m.rights.Derive(parent, to, write), api.OK
}

// needRight tells the right of a raw environment, or answers ErrEnv, ErrKept or ErrCap.
func (m *Machine) needRight(env int, handle int) (api.Right, api.Errno) {
	e := m.needRaw(env)
	if e != api.OK {
		return api.Right{}, e
	}
	right, found := m.rights.Find(env, handle)
	if !found {
		return api.Right{}, api.ErrCap
	}
	return right, api.OK
}

// Revoke ends all that comes of a right (P6).
func (m *Machine) Revoke(env int, handle int) api.Errno {
	right, e := m.needRight(env, handle)
	if e != api.OK {
		return e
	}
	m.rights.EndDerived(right.Handle)
	m.dropUnbacked()
	return api.OK
}

// Drop ends a right (P7).
func (m *Machine) Drop(env int, handle int) api.Errno {
	right, e := m.needRight(env, handle)
	if e != api.OK {
		return e
	}
	m.rights.End(right.Handle)
	m.dropUnbacked()
	return api.OK
}

// Rights tells the rights of an environment (P8).
func (m *Machine) Rights(env int) ([]api.Right, api.Errno) {
	if !m.isAlive(env) {
		return nil, api.ErrEnv
	}
	return m.rights.Of(env), api.OK
}

// Kill ends an environment (P9).
func (m *Machine) Kill(env int) api.Errno {
	if !m.isAlive(env) {
		return api.ErrEnv
	}
	m.rights.EndOf(env)
	m.dropUnbacked()
	m.envs[env] = environment{}
	return api.OK
}

// Spawn begins one (P9).
func (m *Machine) Spawn(env int) api.Errno {
	if !m.isEnv(env) {
		return api.ErrEnv
	}
	if m.envs[env].alive {
		return api.ErrLive
	}
	m.envs[env] = environment{alive: true}
	return api.OK
}
