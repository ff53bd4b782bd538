package rights

import (
	"fmt"
	"testing"

	"frames/api"
)

// family: 1 is first; 2 and 5 come of 1, 3 of 2, 4 of 3; 6 is first to another frame.
func family() *Store {
	s := &Store{}
	s.First(0, 3)
	one, _ := s.Find(0, 1)
	s.Derive(one, 1, true)
	two, _ := s.Find(1, 2)
	s.Derive(two, 0, true)
	three, _ := s.Find(0, 3)
	s.Derive(three, 2, false)
	s.Derive(one, 2, false)
	s.First(1, 7)
	return s
}

// alive: the handles that are alive, as a text.
func alive(s *Store) string {
	var list []int
	for _, h := range s.alive {
		list = append(list, h.right.Handle)
	}
	return fmt.Sprint(list)
}

func wantAlive(t *testing.T, s *Store, what string, want string) {
	t.Helper()
	if got := alive(s); got != want {
		t.Errorf("%s: alive are %s, want %s", what, got, want)
	}
}

func TestMaking(t *testing.T) {
	s := family()
	wantAlive(t, s, "making", "[1 2 3 4 5 6]")
	for env, want := range []string{"[{1 0 3 true} {3 0 3 true}]", "[{2 1 3 true} {6 1 7 true}]", "[{4 2 3 false} {5 2 3 false}]", "[]"} {
		if got := fmt.Sprint(s.Of(env)); got != want {
			t.Errorf("Of(%d) = %s, want %s", env, got, want)
		}
	}
	for frame, want := range []bool{true, true, true, false, true, true, true, false, true} {
		if got := s.Free(frame); got != want {
			t.Errorf("Free(%d) = %v", frame, got)
		}
	}
}

func TestFind(t *testing.T) {
	s := family()
	if right, found := s.Find(2, 4); !found || right != (api.Right{Handle: 4, Env: 2, Frame: 3}) {
		t.Errorf("Find(2, 4) = %v, %v", right, found)
	}
	for _, c := range [][2]int{{0, 4}, {1, 4}, {0, 0}, {0, 7}, {0, -1}, {-1, 1}, {0, 1<<63 - 1}} {
		if right, found := s.Find(c[0], c[1]); found || right != (api.Right{}) {
			t.Errorf("Find(%d, %d) = %v, %v", c[0], c[1], right, found)
		}
	}
}

func TestEnding(t *testing.T) {
	for handle, want := range []string{"[1 2 3 4 5 6]", "[6]", "[1 5 6]", "[1 2 5 6]", "[1 2 3 5 6]", "[1 2 3 4 6]", "[1 2 3 4 5]", "[1 2 3 4 5 6]"} {
		s := family()
		s.End(handle)
		wantAlive(t, s, fmt.Sprintf("End(%d)", handle), want)
	}
	for handle, want := range []string{1: "[1 6]", 2: "[1 2 5 6]", 3: "[1 2 3 5 6]", 4: "[1 2 3 4 5 6]", 5: "[1 2 3 4 5 6]", 6: "[1 2 3 4 5 6]"} {
		if handle == 0 {
			continue // no right has it
		}
		s := family()
		s.EndDerived(handle)
		wantAlive(t, s, fmt.Sprintf("EndDerived(%d)", handle), want)
	}
	for env, want := range []string{"[6]", "[1 5]", "[1 2 3 6]", "[1 2 3 4 5 6]"} {
		s := family()
		s.EndOf(env)
		wantAlive(t, s, fmt.Sprintf("EndOf(%d)", env), want)
	}
	for frame, want := range []string{3: "[6]", 7: "[1 2 3 4 5]", 8: "[1 2 3 4 5 6]"} {
		if want == "" {
			want = "[1 2 3 4 5 6]" // the frame is free
		}
		s := family()
		s.EndFirst(frame)
		wantAlive(t, s, fmt.Sprintf("EndFirst(%d)", frame), want)
		if !s.Free(frame) {
			t.Errorf("EndFirst(%d): it is not free", frame)
		}
	}
}

func TestHandlesAreNotGivenTwice(t *testing.T) {
	s := family()
	s.End(6)
	s.End(1)
	for want := 7; want < 100; want++ {
		if got := s.First(0, 0); got != want {
			t.Errorf("First = %d, want %d", got, want)
		}
		s.End(want)
	}
}

func TestFull(t *testing.T) {
	s := &Store{}
	for i := 0; i < api.MaxRights; i++ {
		if s.Full() {
			t.Errorf("full with %d rights", i)
		}
		s.First(0, i)
	}
	if !s.Full() {
		t.Errorf("not full with %d rights", api.MaxRights)
	}
	s.End(5)
	if s.Full() {
		t.Error("full behind an end")
	}
}

func TestBacks(t *testing.T) {
	s := family()
	for _, c := range []struct {
		env, frame  int
		read, write bool
	}{
		{0, 3, true, true}, {1, 3, true, true}, {2, 3, true, false}, {3, 3, false, false},
		{0, 7, false, false}, {1, 7, true, true}, {2, 7, false, false}, {0, 0, false, false}, {-1, 3, false, false},
	} {
		wantBacks(t, s, c.env, c.frame, c.read, c.write)
	}
	one, _ := s.Find(0, 1)
	s.Derive(one, 2, true)
	wantBacks(t, s, 2, 3, true, true) // by the last of three
	s.End(2)
	wantBacks(t, s, 0, 3, true, true)
	wantBacks(t, s, 1, 3, false, false)
	s.End(1)
	wantBacks(t, s, 2, 3, false, false)
}

func wantBacks(t *testing.T, s *Store, env int, frame int, read bool, write bool) {
	t.Helper()
	if got := s.Backs(env, frame, false); got != read {
		t.Errorf("Backs(%d, %d, false) = %v", env, frame, got)
	}
	if got := s.Backs(env, frame, true); got != write {
		t.Errorf("Backs(%d, %d, true) = %v", env, frame, got)
	}
}
