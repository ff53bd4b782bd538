package table

import (
	"fmt"
	"testing"

	"frames/api"
)

func entry(env int, page int, frame int, write bool) api.Entry {
	return api.Entry{Used: true, Env: env, Page: page, Frame: frame, Write: write}
}

func wantList(t *testing.T, table *Table, want ...api.Entry) {
	t.Helper()
	if got := table.List(); fmt.Sprint(got) != fmt.Sprint(want) {
		t.Errorf("List() = %v, want %v", got, want)
	}
}

func TestEmpty(t *testing.T) {
	for slots := 1; slots <= api.MaxSlots; slots++ {
		table := Empty(slots)
		wantList(t, &table, make([]api.Entry, slots)...)
		for _, slot := range []int{-1 << 63, -1, 0, slots - 1, slots, slots + 1, 1 << 32, 1<<63 - 1} {
			if got, want := table.Has(slot), slot == 0 || slot == slots-1; got != want {
				t.Errorf("%d slots: Has(%d) = %v", slots, slot, got)
			}
		}
		if e, found := table.Find(0, 0); found || e != (api.Entry{}) {
			t.Errorf("an empty slot is taken for the entry of 0 and 0: %v", e)
		}
	}
}

func TestPut(t *testing.T) {
	table := Empty(3)
	none := api.Entry{}
	table.Put(1, entry(0, 0, 5, true))
	wantList(t, &table, none, entry(0, 0, 5, true), none)
	table.Put(0, entry(1, 0, 5, false))
	table.Put(2, entry(0, 1, 6, false))
	wantList(t, &table, entry(1, 0, 5, false), entry(0, 0, 5, true), entry(0, 1, 6, false))
	table.Put(2, entry(0, 0, 7, false)) // it moves, and what was there is gone
	wantList(t, &table, entry(1, 0, 5, false), none, entry(0, 0, 7, false))
	table.Put(2, entry(0, 0, 8, true)) // in its own slot
	wantList(t, &table, entry(1, 0, 5, false), none, entry(0, 0, 8, true))
	for _, slot := range []int{-1, 3, 1 << 32, -1 << 63, 1<<63 - 1} {
		table.Put(slot, entry(0, 0, 9, true))
		wantList(t, &table, entry(1, 0, 5, false), none, entry(0, 0, 8, true))
	}
}

func TestFindAndRemove(t *testing.T) {
	table := Empty(4)
	none := api.Entry{}
	a, b, c := entry(0, 2, 1, true), entry(2, 0, 1, false), entry(2, 2, 3, true)
	table.Put(0, a)
	table.Put(1, b)
	table.Put(3, c)
	for _, want := range []api.Entry{a, b, c} {
		if got, found := table.Find(want.Env, want.Page); !found || got != want {
			t.Errorf("Find(%d, %d) = %v, %v", want.Env, want.Page, got, found)
		}
	}
	for _, n := range [][2]int{{0, 0}, {1, 2}, {0, 1}, {-1, 2}, {2, 1 << 32}} {
		if got, found := table.Find(n[0], n[1]); found || got != none {
			t.Errorf("Find(%d, %d) = %v, %v", n[0], n[1], got, found)
		}
		table.Remove(n[0], n[1])
		wantList(t, &table, a, b, none, c)
	}
	table.Remove(2, 0)
	wantList(t, &table, a, none, none, c)
	table.Remove(2, 2)
	wantList(t, &table, a, none, none, none)
	table.Remove(0, 2)
	wantList(t, &table, none, none, none, none)
}

func TestListIsTheCallers(t *testing.T) {
	table := Empty(2)
	table.Put(0, entry(1, 1, 1, true))
	early := table.List()
	other := table.List()
	other = other[:cap(other)]
	for i := range other {
		other[i] = entry(3, 3, 3, false)
	}
	wantList(t, &table, entry(1, 1, 1, true), api.Entry{})
	table.Put(0, entry(2, 2, 2, false))
	if early[0] != entry(1, 1, 1, true) {
		t.Errorf("a list that came out early is now %v", early)
	}
}

func TestRefill(t *testing.T) {
	table := Empty(3)
	none := api.Entry{}
	a, b, c, d, e := entry(0, 0, 1, false), entry(0, 1, 2, true), entry(1, 0, 3, true), entry(1, 1, 4, true), entry(2, 0, 5, false)
	table.Put(1, a)
	table.Refill(b)
	wantList(t, &table, b, a, none)
	table.Refill(entry(0, 0, 1, true)) // in its own slot, though another one is empty
	wantList(t, &table, b, entry(0, 0, 1, true), none)
	table.Refill(c)
	wantList(t, &table, b, entry(0, 0, 1, true), c)
	table.Refill(d) // turn 0
	wantList(t, &table, d, entry(0, 0, 1, true), c)
	table.Refill(entry(1, 0, 6, false)) // in its own slot, though none is empty: no turn
	wantList(t, &table, d, entry(0, 0, 1, true), entry(1, 0, 6, false))
	table.Refill(b) // turn 1
	wantList(t, &table, d, b, entry(1, 0, 6, false))
	table.Remove(1, 1)
	table.Refill(a) // the empty slot: no turn
	wantList(t, &table, a, b, entry(1, 0, 6, false))
	table.Put(0, d) // no turn
	table.Refill(e) // turn 2
	wantList(t, &table, d, b, e)
	table.Refill(c) // turn 0
	wantList(t, &table, c, b, e)
}

func TestRefillOfOneSlot(t *testing.T) {
	table := Empty(1)
	for page := 0; page < 5; page++ {
		table.Refill(entry(0, page, page, false))
		wantList(t, &table, entry(0, page, page, false))
	}
}
