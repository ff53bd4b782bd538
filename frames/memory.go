package frames

import "frames/api"

// Keep leaves an environment's memory to the machine (P14).
func (m *Machine) Keep(env int, quota int, policy int) api.Errno { return api.OK }

// Read tells a byte of a kept memory (P15).
func (m *Machine) Read(env int, address int) (int, api.Errno) { return 0, api.OK }

// Write writes one (P15).
func (m *Machine) Write(env int, address int, value int) api.Errno { return api.OK }

// Counts tells how often what was done (P17).
func (m *Machine) Counts(env int) (api.Counts, api.Errno) { return api.Counts{}, api.OK }

// Dirty tells the pages that were written (P18).
func (m *Machine) Dirty(env int) ([]int, api.Errno) { return nil, api.OK }

// Clean makes none dirty (P18).
func (m *Machine) Clean(env int) api.Errno { return api.OK }

// Squeeze sets another quota (P19).
func (m *Machine) Squeeze(env int, quota int) api.Errno { return api.OK }
