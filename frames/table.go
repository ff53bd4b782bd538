package frames

import "frames/api"

// Map puts an entry into the table (P10).
func (m *Machine) Map(env int, page int, handle int, write bool, slot int) api.Errno {
	return api.OK
}

// Unmap takes one out (P11).
func (m *Machine) Unmap(env int, page int) api.Errno { return api.OK }

// Load tells a byte (P12).
func (m *Machine) Load(env int, page int, at int) (int, api.Errno) { return 0, api.OK }

// Store writes a byte (P12).
func (m *Machine) Store(env int, page int, at int, value int) api.Errno { return api.OK }

// Table tells the slots (P13).
func (m *Machine) Table() []api.Entry { return nil }
