// Package table: the slots, and the entries that they hold.
package table

import "frames/api"

// Table holds a slot at each place; one that is not used is empty, with 0 and false in it.
// No two entries have the same environment and page.
type Table struct {
	slots []api.Entry
	turn  int // the slot that gives way next, when Refill finds none
}

// Empty makes a table of so many slots. The caller has seen that the number is not negative.
func Empty(slots int) Table {
	return Table{slots: make([]api.Entry, slots)}
}

// Has tells whether there is such a slot.
func (t *Table) Has(slot int) bool {
	return slot >= 0 && slot < len(t.slots)
}

// List tells the slots, in order.
func (t *Table) List() []api.Entry {
	var list []api.Entry
	for _, e := range t.slots {
		list = append(list, e)
	}
	return list
}

// Find tells the entry of env and page, if there is one.
func (t *Table) Find(env int, page int) (api.Entry, bool) {
	slot, found := t.slotOf(env, page)
	if !found {
		return api.Entry{}, false
	}
	return t.slots[slot], true
}

// slotOf tells the slot of the entry of env and page, if there is one.
func (t *Table) slotOf(env int, page int) (int, bool) {
	for i, e := range t.slots {
		if e.Used && e.Env == env && e.Page == page {
			return i, true
		}
	}
	return 0, false
}

// Remove takes the entry of env and page out, if there is one.
func (t *Table) Remove(env int, page int) {
	slot, found := t.slotOf(env, page)
	if found {
		t.slots[slot] = api.Entry{}
	}
}

// Put lays an entry into a slot, whatever is there. If there is no such slot, nothing is changed.
func (t *Table) Put(slot int, entry api.Entry) {
	if !t.Has(slot) {
		return
	}
	t.Remove(entry.Env, entry.Page)
	t.slots[slot] = entry
}

// Refill lays an entry into the slot of the one of the same environment and page; if there is none, into the first empty slot;
// and if none is empty, into the slot whose turn it is.
func (t *Table) Refill(entry api.Entry) {
	slot, found := t.slotOf(entry.Env, entry.Page)
	if !found {
		slot, found = t.firstEmpty()
	}
	if !found {
		slot = t.takeTurn()
	}
	t.Put(slot, entry)
}

// firstEmpty tells the empty slot with the least number, if one is empty.
func (t *Table) firstEmpty() (int, bool) {
	for i, e := range t.slots {
		if !e.Used {
			return i, true
		}
	}
	return 0, false
}

// takeTurn tells the slot whose turn it is, and passes the turn on.
func (t *Table) takeTurn() int {
	slot := t.turn
	t.turn++
	if t.turn >= len(t.slots) {
		t.turn = 0
	}
	return slot
}
