// Package frames: a small machine whose pages are mapped by right: see DOC.md.
package frames

import (
	"frames/api"
	"frames/kept"
	"frames/rights"
	"frames/table"
)

// Machine: frames, rights, the table, environments.
type Machine struct {
	envs   []environment
	frames []frame
	rights rights.Store
	table  table.Table
}

// environment: raw and not alive, as long as nothing else is said.
type environment struct {
	alive  bool
	kept   bool
	memory kept.Memory // says nothing while the environment is raw
}

// frame: the bytes of one frame.
type frame [api.PageSize]byte

// New makes a machine (P3).
func New(c api.Config) (*Machine, api.Errno) {
	if !mayBe(c) {
		return nil, api.ErrConfig
	}
	m := &Machine{
		envs:   make([]environment, c.Envs),
		frames: make([]frame, c.Frames),
		table:  table.Empty(c.Slots),
	}
	for i := range m.envs {
		m.envs[i].alive = true
	}
	return m, api.OK
}

// mayBe tells whether a config is one that may be.
func mayBe(c api.Config) bool {
	if c.Frames < 1 || c.Frames > api.MaxFrames {
		return false
	}
	if c.Slots < 1 || c.Slots > api.MaxSlots {
		return false
	}
	return c.Envs >= 1 && c.Envs <= api.MaxEnvs
}

// isEnv tells whether env is the number of an environment.
func (m *Machine) isEnv(env int) bool {
	return env >= 0 && env < len(m.envs)
}

// isAlive tells whether env is the number of an environment that is alive.
func (m *Machine) isAlive(env int) bool {
	return m.isEnv(env) && m.envs[env].alive
}

// needRaw answers ErrEnv or ErrKept, if env is none that is alive and raw.
func (m *Machine) needRaw(env int) api.Errno {
	if !m.isAlive(env) {
		return api.ErrEnv
	}
	if m.envs[env].kept {
		return api.ErrKept
	}
	return api.OK
}
