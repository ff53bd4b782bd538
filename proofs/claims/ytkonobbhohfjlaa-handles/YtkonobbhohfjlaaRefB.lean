import Derived.Test.YtkonobbhohfjlaaRefA
namespace Go.Proofs.Ytkonobbhohfjlaa
open Go.RowKit
set_option linter.unusedVariables false

section
variable {own : Nat → Nat × Nat} {id : Nat} {w : World} {m : Nat} {s : RSt} {nk : Nat} {vR vB vS vA vK : Value} {bs : List Nat}

theorem ret_int2 {a b c d : Int} (h : a = c) (h' : b = d) : Ending.returned (.tuple #[.int .i64 a, .int .i64 b]) = .returned (.tuple #[.int .i64 c, .int .i64 d]) := by rw [h, h']

set_option maxHeartbeats 2000000 in
set_option maxRecDepth 100000 in
theorem right_any (h : RefRep own id w m s nk vR vB vS vA vK bs) (ha : s.alive.length = s.ne) (hn : s.ne ≤ 4) (hk : nk = s.ne) (ho : Ordered s.rights) (hm : s.rights.length ≤ 4611686018427387904) (env hd : Int)
    (hd0 : -9223372036854775808 ≤ hd) :
    Calls Try.prog 91 #[.pointer (some ⟨m, 0, none⟩), .int .i64 env, .int .i64 hd] w fun e w' => e = .returned (.tuple #[.int .i64 (rightE s env hd).1, .int .i64 (rightE s env hd).2]) ∧ w' = w := by
  have k3 := h.blk.cell 3
  simp at k3
  obtain ⟨ao, cap, g0, hv, _⟩ := h.rR.view
  cases hal : aliveB s env
  · have hr : rawE s env = 2 := by simp [rawE, hal]
    have HR : Hid (rightE s env hd = (-1, 2)) := by simp [Hid, rightE, hr]
    clear hal
    go_enter Try.func91, Try.ntmps91
    go_wp2_with fail
    refine (raw_any h ha hn hk env).mono ?_
    rintro e w2 ⟨rfl, rfl⟩
    rw [hr]
    clear hr
    go_wp2_with fail
    go_ret2
    exact ⟨ret_int2 (by rw [HR.out]) (by rw [HR.out]), rfl⟩
  · have hr : rawE s env = 0 := by simp [rawE, hal]
    by_cases h1 : 1 ≤ hd ∧ hd ≤ s.rights.length
    · obtain ⟨h1, h2⟩ := h1
      obtain ⟨j, rfl⟩ : ∃ j : Nat, hd = (j : Int) + 1 := ⟨(hd - 1).toNat, by omega⟩
      have hj : j < s.rights.length := by omega
      obtain ⟨r, hrr⟩ : ∃ r, s.rights[j]? = some r := ⟨s.rights[j], by simp⟩
      obtain ⟨g, cap', hv', _, _, c1, _⟩ := h.right hrr
      rw [hv'] at k3
      have hc1 : ¬ (j : Int) + 1 < 1 := by omega
      have hc2 : ¬ (s.rights.length : Int) < (j : Int) + 1 := by omega
      have hi1 : (0 : Int) ≤ (j : Int) := by omega
      have hi2 : (j : Int) < (s.rights.length : Int) := by omega
      have hs1 : (j : Int) + 1 - 1 = j := by omega
      by_cases he : r.env = env
      · have he' : (r.env != env) = false := by simp [he]
        cases hl : lv s.rights j
        · have HR : Hid (rightE s env (j + 1) = (-1, 9)) := by
            have h1' : (1 : Int) ≤ (j : Int) + 1 ∧ (j : Int) + 1 ≤ s.rights.length := ⟨h1, h2⟩
            simp only [Hid, rightE, hr, if_pos h1', hs1, Int.toNat_natCast, hrr, he, hl]; simp
          clear hal hv hv' h1 h2 he
          go_enter Try.func91, Try.ntmps91
          go_wp2_with fail
          refine (raw_any h ha hn hk env).mono ?_
          rintro e w2 ⟨rfl, rfl⟩
          rw [hr]
          clear hr
          go_wp2_with fail
          refine (living_any h ho hm j (by omega) (by omega)).mono ?_
          rintro e w3 ⟨rfl, rfl⟩
          rw [hl]
          clear hl
          go_wp2_with fail
          go_ret2
          exact ⟨ret_int2 (by rw [HR.out]) (by rw [HR.out]), rfl⟩
        · have HR : Hid (rightE s env (j + 1) = ((j : Int), 0)) := by
            have h1' : (1 : Int) ≤ (j : Int) + 1 ∧ (j : Int) + 1 ≤ s.rights.length := ⟨h1, h2⟩
            simp only [Hid, rightE, hr, if_pos h1', hs1, Int.toNat_natCast, hrr, he, hl]; simp
          clear hal hv hv' h1 h2 he
          go_enter Try.func91, Try.ntmps91
          go_wp2_with fail
          refine (raw_any h ha hn hk env).mono ?_
          rintro e w2 ⟨rfl, rfl⟩
          rw [hr]
          clear hr
          go_wp2_with fail
          refine (living_any h ho hm j (by omega) (by omega)).mono ?_
          rintro e w3 ⟨rfl, rfl⟩
          rw [hl]
          clear hl
          go_wp2_with fail
          go_ret2
          exact ⟨ret_int2 (by rw [HR.out]) (by rw [HR.out]), rfl⟩
      · have he' : (r.env != env) = true := by simp [he]
        have HR : Hid (rightE s env (j + 1) = (-1, 9)) := by
          have h1' : (1 : Int) ≤ (j : Int) + 1 ∧ (j : Int) + 1 ≤ s.rights.length := ⟨h1, h2⟩
          simp only [Hid, rightE, hr, if_pos h1', hs1, Int.toNat_natCast, hrr]; simp [he]
        clear hal hv hv' h1 h2 he
        go_enter Try.func91, Try.ntmps91
        go_wp2_with fail
        refine (raw_any h ha hn hk env).mono ?_
        rintro e w2 ⟨rfl, rfl⟩
        rw [hr]
        clear hr
        go_wp2_with fail
        go_ret2
        exact ⟨ret_int2 (by rw [HR.out]) (by rw [HR.out]), rfl⟩
    · have HR : Hid (rightE s env hd = (-1, 9)) := by simp only [Hid, rightE, hr, if_neg h1]; simp
      rw [hv] at k3
      by_cases h2 : hd < 1
      · clear hal hv h1
        go_enter Try.func91, Try.ntmps91
        go_wp2_with fail
        refine (raw_any h ha hn hk env).mono ?_
        rintro e w2 ⟨rfl, rfl⟩
        rw [hr]
        clear hr
        go_wp2_with fail
        go_ret2
        exact ⟨ret_int2 (by rw [HR.out]) (by rw [HR.out]), rfl⟩
      · have h3 : (s.rights.length : Int) < hd := by omega
        clear hal hv h1
        go_enter Try.func91, Try.ntmps91
        go_wp2_with fail
        refine (raw_any h ha hn hk env).mono ?_
        rintro e w2 ⟨rfl, rfl⟩
        rw [hr]
        clear hr
        go_wp2_with fail
        go_ret2
        exact ⟨ret_int2 (by rw [HR.out]) (by rw [HR.out]), rfl⟩
end
end Go.Proofs.Ytkonobbhohfjlaa
