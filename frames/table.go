package frames

import "frames/api"

// Map puts an entry into the table (P10).
func (m *Machine) Map(env int, page int, handle int, write bool, slot int) api.Errno {
	e := m.needPage(env, page)
	if e != api.OK {
		return e
	}
	right, found := m.rights.Find(env, handle)
	if !found {
		return api.ErrCap
	}
	if write && !right.Write {
		return api.ErrRights
	}
	if !m.table.Has(slot) {
		return api.ErrSlot
	}
	m.table.Put(slot, api.Entry{Used: true, Env: env, Page: page, Frame: right.Frame, Write: write})
	return api.OK
}

// needPage answers ErrEnv, ErrKept or ErrPage, if there is no such page of a raw environment.
func (m *Machine) needPage(env int, page int) api.Errno {
	e := m.needRaw(env)
	if e != api.OK {
		return e
	}
	if page < 0 || page >= api.MaxPages {
		return api.ErrPage
	}
	return api.OK
}

// Unmap takes one out (P11).
func (m *Machine) Unmap(env int, page int) api.Errno {
	e := m.needPage(env, page)
	if e != api.OK {
		return e
	}
	m.table.Remove(env, page)
	return api.OK
}

// Load tells a byte (P12).
func (m *Machine) Load(env int, page int, at int) (int, api.Errno) {
	e := m.needPlace(env, page, at)
	if e != api.OK {
		return 0, e
	}
	entry, found := m.table.Find(env, page)
	if !found {
		return 0, api.ErrMiss
	}
	return int(m.frames[entry.Frame][at]), api.OK
}

// Store writes a byte (P12).
func (m *Machine) Store(env int, page int, at int, value int) api.Errno {
	e := m.needPlace(env, page, at)
	if e != api.OK {
		return e
	}
	if !isByte(value) {
		return api.ErrArg
	}
	entry, found := m.table.Find(env, page)
	if !found {
		return api.ErrMiss
	}
	if !entry.Write {
		return api.ErrWrite
	}
	m.frames[entry.Frame][at] = byte(value)
	return api.OK
}

// needPlace answers what needPage does, or ErrAt, if at is no place of a frame.
func (m *Machine) needPlace(env int, page int, at int) api.Errno {
	e := m.needPage(env, page)
	if e != api.OK {
		return e
	}
	if at < 0 || at >= api.PageSize {
		return api.ErrAt
	}
	return api.OK
}

// isByte tells whether a value fits into a byte.
func isByte(value int) bool { return value >= 0 && value <= 255 }

// Table tells the slots (P13).
func (m *Machine) Table() []api.Entry { return m.table.List() }

// dropUnbacked takes out the entries that have lost their backing. Whatever ends a right calls it behind that,
// or else an entry would come back with the next right to its frame.
func (m *Machine) dropUnbacked() {
	for _, e := range m.table.List() {
		if e.Used && !m.rights.Backs(e.Env, e.Frame, e.Write) {
			m.table.Remove(e.Env, e.Page)
		}
	}
}
