// Package rights: the rights to frames that are alive, and which comes of which.
package rights

import "frames/api"

// noParent is what a first right has as its parent; handles begin at 1.
const noParent = 0

// held is a right that is alive, with the handle of its parent.
type held struct {
	right  api.Right
	parent int
}

// Store holds the rights that are alive, in the order of their handles. So a right stands behind its parent,
// and one pass over the list finds all that comes of a right.
type Store struct {
	alive []held
	last  int // the handle that was given last: it goes on rising when rights end, so that none is given twice
}

// Full tells whether there is no room for a further right.
func (s *Store) Full() bool { return len(s.alive) >= api.MaxRights }

// Free tells whether a frame is free.
func (s *Store) Free(frame int) bool {
	for _, h := range s.alive {
		if h.right.Frame == frame {
			return false
		}
	}
	return true
}

// Find tells the right that has this handle, if it is alive and one of env.
func (s *Store) Find(env int, handle int) (api.Right, bool) {
	for _, h := range s.alive {
		if h.right.Handle == handle && h.right.Env == env {
			return h.right, true
		}
	}
	return api.Right{}, false
}

// Of tells the rights of env, in the order of their handles.
func (s *Store) Of(env int) []api.Right {
	var list []api.Right
	for _, h := range s.alive {
		if h.right.Env == env {
			list = append(list, h.right)
		}
	}
	return list
}

// Backs tells whether a right of env to a frame is alive, by which one may write if write is true.
func (s *Store) Backs(env int, frame int, write bool) bool {
	for _, h := range s.alive {
		if h.right.Env == env && h.right.Frame == frame && (h.right.Write || !write) {
			return true
		}
	}
	return false
}

// First makes the first right to a frame, and answers its handle. The caller has seen that the frame is free and the store not full.
func (s *Store) First(env int, frame int) int {
	return s.add(api.Right{Env: env, Frame: frame, Write: true}, noParent)
}

// Derive makes a right of env that comes of parent, and answers its handle. The caller has seen that parent allows it and the store is not full.
func (s *Store) Derive(parent api.Right, env int, write bool) int {
	return s.add(api.Right{Env: env, Frame: parent.Frame, Write: write}, parent.Handle)
}

// add gives a right the next handle and lays it behind the others.
func (s *Store) add(right api.Right, parent int) int {
	s.last++
	right.Handle = s.last
	s.alive = append(s.alive, held{right: right, parent: parent})
	return right.Handle
}

// End ends a right, and all that comes of it.
func (s *Store) End(handle int) {
	s.endAll([]int{handle})
}

// EndDerived ends all that comes of a right, but not the right.
func (s *Store) EndDerived(handle int) {
	var derived []int
	for _, h := range s.alive {
		if h.parent == handle {
			derived = append(derived, h.right.Handle)
		}
	}
	s.endAll(derived)
}

// EndOf ends the rights of env, and all that comes of them.
func (s *Store) EndOf(env int) {
	var owned []int
	for _, h := range s.alive {
		if h.right.Env == env {
			owned = append(owned, h.right.Handle)
		}
	}
	s.endAll(owned)
}

// EndFirst ends the first right to a frame, and so all rights to it: the others come of it.
func (s *Store) EndFirst(frame int) {
	var left []held
	for _, h := range s.alive {
		if h.right.Frame != frame {
			left = append(left, h)
		}
	}
	s.alive = left
}

// endAll ends the rights with these handles, and all that comes of them.
func (s *Store) endAll(handles []int) {
	var left []held
	var ended []int
	for _, h := range s.alive {
		chosen := has(handles, h.right.Handle)
		orphan := has(ended, h.parent)
		if chosen || orphan {
			ended = append(ended, h.right.Handle)
		} else {
			left = append(left, h)
		}
	}
	s.alive = left
}

// has tells whether n is in the list.
func has(list []int, n int) bool {
	for _, x := range list {
		if x == n {
			return true
		}
	}
	return false
}
