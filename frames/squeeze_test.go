package frames

import (
	"fmt"
	"testing"

	"frames/api"
)

func squeeze(t *testing.T, m *Machine, env int, quota int) {
	t.Helper()
	wantErr(t, fmt.Sprintf("Squeeze(%d, %d)", env, quota), m.Squeeze(env, quota), api.OK)
}

func refuseSqueeze(t *testing.T, m *Machine, env int, quota int, err api.Errno) {
	t.Helper()
	before := state(m)
	wantErr(t, fmt.Sprintf("Squeeze(%d, %d)", env, quota), m.Squeeze(env, quota), err)
	wantSame(t, m, before)
}

// wantAll: what Rights, Table and Counts tell of environment 0.
func wantAll(t *testing.T, m *Machine, rights string, table string, counts string) {
	t.Helper()
	wantRights(t, m, 0, rights)
	wantTable(t, m, table)
	wantCounts(t, m, 0, counts)
}

func TestP19OrderOfErrors(t *testing.T) {
	m := uneven(t)
	for _, quota := range append(noQuotas, 1, 16) {
		for _, env := range append(noEnvs, 3) {
			refuseSqueeze(t, m, env, quota, api.ErrEnv)
		}
		refuseSqueeze(t, m, 0, quota, api.ErrRaw)
		refuseSqueeze(t, m, 1, quota, api.ErrRaw)
	}
	for _, quota := range noQuotas {
		refuseSqueeze(t, m, 2, quota, api.ErrArg)
	}
	squeeze(t, m, 2, 1)
	squeeze(t, m, 2, 16)
	wantRights(t, m, 2, "[{3 2 1 true}]")
	wantErr(t, "Kill(2)", m.Kill(2), api.OK)
	refuseSqueeze(t, m, 2, 1, api.ErrEnv)
	wantErr(t, "Spawn(2)", m.Spawn(2), api.OK)
	refuseSqueeze(t, m, 2, 1, api.ErrRaw)
}

// A quota that is refused leaves the one that was.
func TestP19RefusedQuota(t *testing.T) {
	m := made(t, 4, 4, 1)
	keep(t, m, 0, 2, api.Oldest)
	for _, quota := range noQuotas {
		refuseSqueeze(t, m, 0, quota, api.ErrArg)
	}
	for page := 0; page < 4; page++ {
		read(t, m, 0, 4*page, 0)
	}
	wantCounts(t, m, 0, "4 0 0 2")
}

// four: pages 0 to 3 are in, in the frames 0 to 3; 0 and 2 are changed; they came in from 0 to 3, and were used last in the order 3, 0, 2, 1.
func four(t *testing.T, policy int) *Machine {
	t.Helper()
	m := made(t, 5, 5, 2)
	keep(t, m, 0, 4, policy)
	for page := 0; page < 4; page++ {
		read(t, m, 0, 4*page, 0)
	}
	write(t, m, 0, 0, 50)
	write(t, m, 0, 8, 52)
	read(t, m, 0, 4, 0)
	wantAll(t, m, "[{1 0 0 true} {2 0 1 true} {3 0 2 true} {4 0 3 true}]", "0:0=0w 0:1=1 0:2=2w 0:3=3 -", "6 0 0 4")
	return m
}

// squeezed: what is left behind Squeeze to 4, 3, 2 and 1 pages.
type squeezed struct {
	rights, table, counts [5]string
	left                  int // the page that is in at last
}

var bySqueeze = []squeezed{
	api.Oldest: {
		rights: [5]string{4: "[{1 0 0 true} {2 0 1 true} {3 0 2 true} {4 0 3 true}]", 3: "[{2 0 1 true} {3 0 2 true} {4 0 3 true}]", 2: "[{3 0 2 true} {4 0 3 true}]", 1: "[{4 0 3 true}]"},
		table:  [5]string{4: "0:0=0w 0:1=1 0:2=2w 0:3=3 -", 3: "- 0:1=1 0:2=2w 0:3=3 -", 2: "- - 0:2=2w 0:3=3 -", 1: "- - - 0:3=3 -"},
		counts: [5]string{4: "6 0 0 4", 3: "6 0 1 3", 2: "6 0 1 2", 1: "6 0 2 1"},
		left:   3,
	},
	api.Stalest: {
		rights: [5]string{4: "[{1 0 0 true} {2 0 1 true} {3 0 2 true} {4 0 3 true}]", 3: "[{1 0 0 true} {2 0 1 true} {3 0 2 true}]", 2: "[{2 0 1 true} {3 0 2 true}]", 1: "[{2 0 1 true}]"},
		table:  [5]string{4: "0:0=0w 0:1=1 0:2=2w 0:3=3 -", 3: "0:0=0w 0:1=1 0:2=2w - -", 2: "- 0:1=1 0:2=2w - -", 1: "- 0:1=1 - - -"},
		counts: [5]string{4: "6 0 0 4", 3: "6 0 0 3", 2: "6 0 1 2", 1: "6 0 2 1"},
		left:   1,
	},
	api.Freshest: {
		rights: [5]string{4: "[{1 0 0 true} {2 0 1 true} {3 0 2 true} {4 0 3 true}]", 3: "[{1 0 0 true} {3 0 2 true} {4 0 3 true}]", 2: "[{1 0 0 true} {4 0 3 true}]", 1: "[{4 0 3 true}]"},
		table:  [5]string{4: "0:0=0w 0:1=1 0:2=2w 0:3=3 -", 3: "0:0=0w - 0:2=2w 0:3=3 -", 2: "0:0=0w - - 0:3=3 -", 1: "- - - 0:3=3 -"},
		counts: [5]string{4: "6 0 0 4", 3: "6 0 0 3", 2: "6 0 1 2", 1: "6 0 2 1"},
		left:   3,
	},
}

func TestP19EachPolicy(t *testing.T) {
	for policy, want := range bySqueeze {
		for quota := 1; quota <= 4; quota++ { // at one go
			m := four(t, policy)
			squeeze(t, m, 0, quota)
			wantAll(t, m, want.rights[quota], want.table[quota], want.counts[quota])
			wantDirty(t, m, 0, "[0 2]")
		}
		m := four(t, policy)
		for quota := 4; quota >= 1; quota-- { // step by step
			squeeze(t, m, 0, quota)
			wantAll(t, m, want.rights[quota], want.table[quota], want.counts[quota])
			squeeze(t, m, 0, quota)
			wantAll(t, m, want.rights[quota], want.table[quota], want.counts[quota])
		}
		read(t, m, 0, 4*want.left, 0)
		wantCounts(t, m, 0, want.counts[1]) // it is in, and has its entry
		for page, value := range []int{50, 0, 52, 0} {
			read(t, m, 0, 4*page, value)
		}
		c, _ := m.Counts(0)
		if c.Ins != 2 || c.Outs != 2 || c.In != 1 {
			t.Errorf("policy %d: Counts(0) = %+v", policy, c)
		}
	}
}

// A quota that is no less than what is in lets nothing go out, and lets come in as many as it says.
func TestP19Up(t *testing.T) {
	for policy := range bySqueeze {
		for quota := 4; quota <= 16; quota++ {
			m := four(t, policy)
			rights, table := allRights(m, 2), tableText(m)
			squeeze(t, m, 0, quota)
			wantAll(t, m, bySqueeze[policy].rights[4], table, "6 0 0 4")
			if got := allRights(m, 2); got != rights {
				t.Errorf("Squeeze(0, %d): rights %s, then %s", quota, rights, got)
			}
			read(t, m, 0, 40, 0)
			read(t, m, 0, 44, 0)
			c, _ := m.Counts(0)
			if want := min(quota, 5); c.In != want {
				t.Errorf("quota %d, 5 frames: %d pages are in", quota, c.In)
			}
		}
	}
}

// It holds from now on: down, then up, and each time as many pages come in as it says.
func TestP19FromNowOn(t *testing.T) {
	for policy := 0; policy <= 2; policy++ {
		m := made(t, 16, 8, 1)
		keep(t, m, 0, 16, policy)
		for address := 0; address < 64; address++ {
			write(t, m, 0, address, 200-address)
		}
		for _, quota := range []int{16, 1, 2, 15, 3, 8, 7, 16, 2, 1} {
			squeeze(t, m, 0, quota)
			for address := 63; address >= 0; address-- {
				read(t, m, 0, address, 200-address)
				if c, _ := m.Counts(0); c.In > quota {
					t.Fatalf("quota %d: %d pages are in", quota, c.In)
				}
			}
			c, _ := m.Counts(0)
			l, _ := m.Rights(0)
			if c.In != quota || len(l) != quota {
				t.Errorf("quota %d: %d pages are in, by %d rights", quota, c.In, len(l))
			}
		}
	}
}

// Before a page is in, Squeeze sets the quota alone.
func TestP19NoPageIsIn(t *testing.T) {
	m := made(t, 3, 3, 1)
	keep(t, m, 0, 1, api.Freshest)
	squeeze(t, m, 0, 2)
	wantAll(t, m, "[]", "- - -", "0 0 0 0")
	accesses(t, m, []seen{
		{"r0", one, "0:0=0 - -", "1 0 0 1"},
		{"r1", two, "0:0=0 0:1=1 -", "2 0 0 2"},
		{"r2", two, "0:0=0 0:2=1 -", "3 0 0 2"},
	})
}

// A page goes out changed by Squeeze, though it has no entry any more; so it counts for Ins when it comes in again.
func TestP19WithoutAnEntry(t *testing.T) {
	m := made(t, 3, 1, 1)
	keep(t, m, 0, 3, api.Oldest)
	accesses(t, m, []seen{
		{"w0", one, "0:0=0w", "1 0 0 1"},
		{"w1", two, "0:1=1w", "2 0 0 2"},
		{"r2", three, "0:2=2", "3 0 0 3"},
	})
	squeeze(t, m, 0, 1)
	wantAll(t, m, "[{3 0 2 true}]", "0:2=2", "3 0 2 1")
	read(t, m, 0, 2, 1)
	wantAll(t, m, "[{3 0 2 true}]", "0:0=2", "4 1 2 1")
	read(t, m, 0, 6, 2)
	wantAll(t, m, "[{3 0 2 true}]", "0:1=2", "5 2 2 1")
}

// The right ends, and its handle is not given again; the frame is free for everyone, the least number first, and holds 0 then.
func TestP19FramesAreFree(t *testing.T) {
	m := made(t, 4, 4, 2)
	keep(t, m, 0, 4, api.Stalest)
	for page := 0; page < 4; page++ {
		for at := 0; at < 4; at++ {
			write(t, m, 0, 4*page+at, 10*page+at+1)
		}
	}
	refuseAlloc(t, m, 1, api.ErrFull)
	squeeze(t, m, 0, 1)
	wantAll(t, m, "[{4 0 3 true}]", "- - - 0:3=3w", "4 0 3 1")
	for handle := 1; handle <= 3; handle++ {
		refuseEnds(t, m, 1, handle, api.ErrCap)
		refuseEnds(t, m, 0, handle, api.ErrKept)
	}
	alloc(t, m, 1, 5)
	wantRights(t, m, 1, "[{5 1 0 true}]")
	mapped(t, m, 1, 0, 5, true, 0)
	for at := 0; at < 4; at++ {
		wantLoad(t, m, 1, 0, at, 0)
		stored(t, m, 1, 0, at, 99)
	}
	squeeze(t, m, 0, 16)
	read(t, m, 0, 0, 1)
	read(t, m, 0, 4, 11)
	wantRights(t, m, 0, "[{4 0 3 true} {6 0 1 true} {7 0 2 true}]")
	read(t, m, 0, 8, 21) // no frame is free: page 3 goes out
	wantRights(t, m, 0, "[{4 0 3 true} {6 0 1 true} {7 0 2 true}]")
	wantCounts(t, m, 0, "7 3 4 3")
	wantLoad(t, m, 1, 0, 3, 99)
	refuseAlloc(t, m, 1, api.ErrFull)
	squeeze(t, m, 0, 2) // page 0, in frame 1
	wantRights(t, m, 0, "[{4 0 3 true} {7 0 2 true}]")
	alloc(t, m, 1, 8)
	wantRights(t, m, 1, "[{5 1 0 true} {8 1 1 true}]")
}

// As many rights as may be are alive: a right that ends makes room.
func TestP19RoomForRights(t *testing.T) {
	m := made(t, 4, 2, 2)
	keep(t, m, 0, 4, api.Oldest)
	write(t, m, 0, 0, 1)
	write(t, m, 0, 4, 2)
	alloc(t, m, 1, 3)
	for h := 4; h <= api.MaxRights; h++ {
		derive(t, m, 1, 3, 1, false, h)
	}
	refuseDerive(t, m, 1, 3, 1, false, api.ErrFull)
	refuseAlloc(t, m, 1, api.ErrFull)
	squeeze(t, m, 0, 1)
	wantRights(t, m, 0, "[{2 0 1 true}]")
	derive(t, m, 1, 3, 1, false, 33)
	squeeze(t, m, 0, 4)
	read(t, m, 0, 0, 1) // no room for a right: page 1 goes out
	wantRights(t, m, 0, "[{2 0 1 true}]")
	wantCounts(t, m, 0, "3 1 2 1")
}

// What others have is not touched: neither rights, nor entries, nor bytes, nor another kept memory.
func TestP19OthersMeanwhile(t *testing.T) {
	m := made(t, 6, 5, 3)
	alloc(t, m, 1, 1)
	mapped(t, m, 1, 0, 1, true, 1)
	mapped(t, m, 1, 1, 1, false, 4)
	stored(t, m, 1, 0, 2, 77)
	keep(t, m, 0, 3, api.Oldest)
	keep(t, m, 2, 2, api.Oldest)
	write(t, m, 0, 0, 5)
	write(t, m, 2, 0, 6)
	write(t, m, 0, 4, 7)
	write(t, m, 2, 4, 8) // turn 0
	wantTable(t, m, "2:1=4w 1:0=0w 2:0=2w 0:1=3w 1:1=0")
	rights := fmt.Sprint(m.Rights(1)) + fmt.Sprint(m.Rights(2))
	squeeze(t, m, 0, 1)
	wantTable(t, m, "2:1=4w 1:0=0w 2:0=2w 0:1=3w 1:1=0")
	wantRights(t, m, 0, "[{4 0 3 true}]")
	if got := fmt.Sprint(m.Rights(1)) + fmt.Sprint(m.Rights(2)); got != rights {
		t.Errorf("Squeeze(0, 1): rights of others %s, then %s", rights, got)
	}
	wantCounts(t, m, 2, "2 0 0 2")
	squeeze(t, m, 2, 1)
	wantTable(t, m, "2:1=4w 1:0=0w - 0:1=3w 1:1=0")
	wantCounts(t, m, 0, "2 0 1 1")
	wantCounts(t, m, 2, "2 0 1 1")
	wantLoad(t, m, 1, 1, 2, 77)
	read(t, m, 0, 0, 5)
	wantTable(t, m, "2:1=4w 1:0=0w 0:0=3 - 1:1=0")
	read(t, m, 2, 0, 6)
	wantTable(t, m, "2:0=4 1:0=0w 0:0=3 - 1:1=0")
	squeeze(t, m, 0, 2)
	squeeze(t, m, 2, 2)
	read(t, m, 0, 4, 7)
	read(t, m, 2, 4, 8) // turn 1: Squeeze makes no turn
	wantTable(t, m, "2:0=4 2:1=2 0:0=3 0:1=1 1:1=0")
}

// Kept anew, a memory has the quota that Keep says, not the one of an earlier Squeeze.
func TestP19KeptAnew(t *testing.T) {
	m := made(t, 4, 4, 1)
	keep(t, m, 0, 4, api.Oldest)
	squeeze(t, m, 0, 1)
	write(t, m, 0, 0, 1)
	wantErr(t, "Kill(0)", m.Kill(0), api.OK)
	wantErr(t, "Spawn(0)", m.Spawn(0), api.OK)
	keep(t, m, 0, 3, api.Oldest)
	for page := 0; page < 5; page++ {
		read(t, m, 0, 4*page, 0)
	}
	wantCounts(t, m, 0, "5 0 0 3")
}
