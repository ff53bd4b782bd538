// Package table: the slots, and the entries that they hold.
package table

import "frames/api"

// Table holds a slot at each place; one that is not used is empty, with 0 and false in it.
// No two entries have the same environment and page.
type Table struct {
	slots []api.Entry
}

// Empty makes a table of so many slots. The caller has seen that the number is not negative.
func Empty(slots int) Table {
	return Table{slots: make([]api.Entry, slots)}
}

// Has tells whether there is such a slot.
func (t *Table) Has(slot int) bool {
	return slot >= 0 && slot < len(t.slots)
}

// List tells the slots, in order.
func (t *Table) List() []api.Entry {
	var list []api.Entry
	for _, e := range t.slots {
		list = append(list, e)
	}
	return list
}

// Find tells the entry of env and page, if there is one.
func (t *Table) Find(env int, page int) (api.Entry, bool) {
	for _, e := range t.slots {
		if isOf(e, env, page) {
			return e, true
		}
	}
	return api.Entry{}, false
}

// Remove takes the entry of env and page out, if there is one.
func (t *Table) Remove(env int, page int) {
	for i, e := range t.slots {
		if isOf(e, env, page) {
			t.slots[i] = api.Entry{}
		}
	}
}

// Put lays an entry into a slot, whatever is there. If there is no such slot, nothing is changed.
func (t *Table) Put(slot int, entry api.Entry) {
	if !t.Has(slot) {
		return
	}
	t.Remove(entry.Env, entry.Page)
	t.slots[slot] = entry
}

// isOf tells whether a slot holds the entry of env and page. An empty slot looks like one of environment 0 and page 0.
func isOf(e api.Entry, env int, page int) bool {
	return e.Used && e.Env == env && e.Page == page
}
