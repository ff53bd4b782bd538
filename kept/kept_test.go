package kept

import (
	"fmt"
	"testing"

	"frames/api"
)

type bytes = [api.PageSize]byte

// with: a memory of quota 3 in which the pages 4, 5 and 6 came in, in this order, into the frames 14, 15 and 16.
func with(policy int) *Memory {
	k := Empty(3, policy)
	for page := 4; page <= 6; page++ {
		k.ComeIn(page, page+10)
		k.Touch(page, false)
	}
	return &k
}

func wantCounts(t *testing.T, k *Memory, want api.Counts) {
	t.Helper()
	if got := k.Counts(); got != want {
		t.Errorf("Counts() = %+v, want %+v", got, want)
	}
}

func wantChosen(t *testing.T, k *Memory, page int) {
	t.Helper()
	if p, frame, found := k.Chosen(); p != page || frame != page+10 || !found {
		t.Errorf("policy %d: Chosen() = %d, %d, %v, want %d", k.policy, p, frame, found, page)
	}
}

func TestEmpty(t *testing.T) {
	for policy := api.Oldest; policy <= api.Freshest; policy++ {
		k := Empty(1, policy)
		wantCounts(t, &k, api.Counts{})
		if page, frame, found := k.Chosen(); page != 0 || frame != 0 || found {
			t.Errorf("Chosen() of an empty memory = %d, %d, %v", page, frame, found)
		}
		for page := 0; page < api.MaxPages; page++ {
			if frame, in := k.Frame(page); frame != 0 || in {
				t.Errorf("Frame(%d) = %d, %v", page, frame, in)
			}
		}
	}
}

func TestHasRoom(t *testing.T) {
	for quota := 1; quota <= api.MaxFrames; quota++ {
		k := Empty(quota, api.Oldest)
		for page := 0; page < quota; page++ {
			if !k.HasRoom() {
				t.Errorf("quota %d: no room with %d pages", quota, page)
			}
			k.ComeIn(page, page)
		}
		if k.HasRoom() {
			t.Errorf("quota %d: room with as many pages", quota)
		}
		k.GoOut(0, bytes{})
		if !k.HasRoom() {
			t.Errorf("quota %d: no room behind GoOut", quota)
		}
	}
}

func TestFrame(t *testing.T) {
	k := with(api.Stalest)
	k.GoOut(5, bytes{})
	k.ComeIn(0, 9)
	for page, want := range []string{0: "9 true", 1: "0 false", 4: "14 true", 5: "0 false", 6: "16 true"} {
		if frame, in := k.Frame(page); want != "" && fmt.Sprint(frame, in) != want {
			t.Errorf("Frame(%d) = %d, %v, want %s", page, frame, in, want)
		}
	}
	wantCounts(t, k, api.Counts{In: 3})
}

func TestChosen(t *testing.T) {
	for policy, want := range [][4]int{
		api.Oldest:   {4, 4, 4, 5},
		api.Stalest:  {4, 5, 6, 6},
		api.Freshest: {6, 4, 5, 5},
	} {
		k := with(policy)
		wantChosen(t, k, want[0])
		k.Touch(4, false)
		wantChosen(t, k, want[1])
		k.Touch(5, true)
		wantChosen(t, k, want[2])
		k.Touch(5, false) // the same one again
		wantChosen(t, k, want[2])
		k.GoOut(4, bytes{})
		wantChosen(t, k, want[3])
	}
}

func TestChosenBehindComingIn(t *testing.T) {
	for policy, want := range []int{api.Oldest: 5, api.Stalest: 5, api.Freshest: 4} {
		k := with(policy)
		k.GoOut(4, bytes{})
		k.ComeIn(4, 14)
		wantChosen(t, k, want)
	}
}

func TestOutside(t *testing.T) {
	k := with(api.Oldest)
	full := bytes{1, 2, 3, 255}
	k.GoOut(4, full) // not changed: nothing of it is kept
	wantIn(t, k, 4, bytes{})
	wantCounts(t, k, api.Counts{In: 3})
	k.Touch(4, true)
	k.GoOut(4, full)
	wantCounts(t, k, api.Counts{Outs: 1, In: 2})
	wantIn(t, k, 4, full)
	wantCounts(t, k, api.Counts{Ins: 1, Outs: 1, In: 3})
	k.Touch(4, false)
	k.GoOut(4, bytes{9, 9, 9, 9}) // not changed since it came in
	wantIn(t, k, 4, full)
	wantCounts(t, k, api.Counts{Ins: 2, Outs: 1, In: 3})
	k.Touch(5, true)
	k.Touch(5, false)
	k.GoOut(5, bytes{7})
	wantIn(t, k, 5, bytes{7})
	k.Touch(4, true)
	k.GoOut(4, bytes{})
	wantIn(t, k, 4, bytes{})
	wantCounts(t, k, api.Counts{Ins: 4, Outs: 3, In: 3})
}

// wantIn: the page comes in, holds this, and is not changed.
func wantIn(t *testing.T, k *Memory, page int, want bytes) {
	t.Helper()
	if got := k.ComeIn(page, page+10); got != want {
		t.Errorf("ComeIn(%d) = %v, want %v", page, got, want)
	}
	if k.Changed(page) {
		t.Errorf("page %d is changed as it comes in", page)
	}
}

func TestChangedAndDirty(t *testing.T) {
	for policy := api.Oldest; policy <= api.Freshest; policy++ {
		k := with(policy)
		k.Touch(5, true)
		k.Touch(6, false)
		for page := 0; page < api.MaxPages; page++ {
			if k.Changed(page) != (page == 5) {
				t.Errorf("page %d: changed %v", page, k.Changed(page))
			}
		}
		wantDirty(t, k, "[5]")
		k.Touch(5, false)
		if !k.Changed(5) {
			t.Error("page 5 is not changed any more behind a Read")
		}
		k.GoOut(5, bytes{})
		k.ComeIn(5, 15)
		if k.Changed(5) {
			t.Error("page 5 is changed as it is back in")
		}
		wantDirty(t, k, "[5]")
	}
}

func wantDirty(t *testing.T, k *Memory, want string) {
	t.Helper()
	if got := fmt.Sprint(k.Dirty()); got != want {
		t.Errorf("Dirty() = %s, want %s", got, want)
	}
}

func TestClean(t *testing.T) {
	k := with(api.Freshest)
	k.Clean()
	wantDirty(t, k, "[]")
	for page := 6; page >= 4; page-- {
		k.Touch(page, true)
	}
	k.GoOut(5, bytes{8})
	wantDirty(t, k, "[4 5 6]")
	k.Clean()
	wantDirty(t, k, "[]")
	if !k.Changed(4) || !k.Changed(6) {
		t.Error("a page that is in is not changed any more")
	}
	wantIn(t, k, 5, bytes{8})
	k.GoOut(4, bytes{7})
	wantIn(t, k, 4, bytes{7})
	wantCounts(t, k, api.Counts{Ins: 2, Outs: 2, In: 3})
	wantDirty(t, k, "[]")
	k.Touch(6, true)
	k.Touch(4, false)
	wantDirty(t, k, "[6]")
}

func TestSetQuota(t *testing.T) {
	for quota := 1; quota <= api.MaxFrames; quota++ {
		k := with(api.Oldest)
		if got := k.SetQuota(quota); max(got, 0) != max(3-quota, 0) {
			t.Errorf("SetQuota(%d) = %d", quota, got)
		}
		if k.HasRoom() != (quota > 3) {
			t.Errorf("SetQuota(%d): HasRoom() = %v", quota, k.HasRoom())
		}
		wantCounts(t, k, api.Counts{In: 3}) // they go out one by one, by the caller
	}
}

func TestCountRefill(t *testing.T) {
	k := with(api.Oldest)
	k.CountRefill()
	k.CountRefill()
	wantCounts(t, k, api.Counts{Refills: 2, In: 3})
}
