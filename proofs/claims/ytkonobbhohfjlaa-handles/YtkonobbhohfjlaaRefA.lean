/-
  What the document's machine answers: the calls that only look.
-/
import Derived.Test.YtkonobbhohfjlaaRep
namespace Go.Proofs.Ytkonobbhohfjlaa
open Go.RowKit
set_option linter.unusedVariables false

section
variable {own : Nat → Nat × Nat} {id : Nat} {w : World} {m : Nat} {s : RSt} {nk : Nat} {vR vB vS vA vK : Value} {bs : List Nat}

/-- The cells of right i. -/
theorem RefRep.right (h : RefRep own id w m s nk vR vB vS vA vK bs) {i : Nat} {r : RR} (hr : s.rights[i]? = some r) :
    ∃ g cap, vR = .slice (some ⟨g, 0, none⟩) s.rights.length cap ∧ own g = (id, 1) ∧ w.cell? ⟨g, i * 6, none⟩ = some (.int .i64 r.h) ∧ w.cell? ⟨g, i * 6 + 1, none⟩ = some (.int .i64 r.env) ∧ w.cell? ⟨g, i * 6 + 2, none⟩ = some (.int .i64 r.fr) ∧
      w.cell? ⟨g, i * 6 + 3, none⟩ = some (.bool r.wr) ∧ w.cell? ⟨g, i * 6 + 4, none⟩ = some (.int .i64 r.frm) ∧ w.cell? ⟨g, i * 6 + 5, none⟩ = some (.bool r.ended) ∧ ∀ j, w.frozen? ⟨g, j, none⟩ = false := by
  have hi := (List.getElem?_eq_some_iff.1 hr).1
  obtain ⟨g, cap, hv, hc, hf⟩ := h.rR.form (by omega)
  have hx : ∀ j, j < 6 → w.cell? ⟨g, i * 6 + j, none⟩ = r.cells[j]? := fun j hj => by
    rw [hc _ (by omega), flat_get RR.cells 6 (fun _ => rfl) _ _ j _ hr hj]
  exact ⟨g, cap, hv, h.tR g (by rw [hv]; rfl), hx 0 (by omega), hx 1 (by omega), hx 2 (by omega), hx 3 (by omega), hx 4 (by omega), hx 5 (by omega), hf⟩

set_option maxHeartbeats 1000000 in
set_option maxRecDepth 100000 in
theorem living_any (h : RefRep own id w m s nk vR vB vS vA vK bs) (ho : Ordered s.rights) (hm : s.rights.length ≤ 4611686018427387904) (i : Int) (hi : i < s.rights.length) (hi0 : -1 ≤ i) :
    Calls Try.prog 96 #[.pointer (some ⟨m, 0, none⟩), .int .i64 i] w fun e w' => e = .returned (.bool (lv s.rights i)) ∧ w' = w := by
  have k3 := h.blk.cell 3
  simp at k3
  go_enter Try.func96, Try.ntmps96
  go_wp2_with fail
  go_loopg [1] (i + 1).toNat (fun k x wr => ∃ q : Int, x = .int .i64 q ∧ (q + 1).toNat ≤ k ∧ -1 ≤ q ∧ q < s.rights.length ∧ lv s.rights q = lv s.rights i ∧ wr = w)
  case atStart => exact ⟨i, rfl, Nat.le_refl _, hi0, hi, rfl, rfl⟩
  case round =>
    obtain ⟨q, rfl, hk, hq0, hq1, hlv, rfl⟩ := hrel
    have HL : Hid (lv s.rights q = lv s.rights i) := hlv
    clear hlv
    by_cases hq : 0 ≤ q
    · obtain ⟨j, rfl⟩ := Int.eq_ofNat_of_zero_le hq
      have hj : j < s.rights.length := by omega
      obtain ⟨r, hr⟩ : ∃ r, s.rights[j]? = some r := ⟨s.rights[j], by simp⟩
      obtain ⟨g, cap, hv, _, _, _, _, _, c4, c5, _⟩ := h.right hr
      have hst := lv_step ho hr
      have hbd := ho j r hr
      rw [hv] at k3
      have HS : Hid (lv s.rights j = (!r.ended && lv s.rights r.frm)) := hst
      clear hst hv
      cases he : r.ended
      · rw [he] at c5
        go_wp2_with fail
        go_roundg ((r.frm + 1).toNat)
        case measure => omega
        case rel => exact ⟨r.frm, rfl, Nat.le_refl _, hbd.1, by omega, by rw [← HL.out, HS.out, he]; rfl, rfl⟩
      · rw [he] at c5
        go_wp2_with fail
        go_ret
        exact ⟨ret_bool (by rw [← HL.out, HS.out, he]; rfl), rfl⟩
    · go_wp2_with fail
      go_ret
      exact ⟨ret_bool (by rw [← HL.out, lv_neg (by omega)]), rfl⟩

theorem ret_int {a b : Int} (h : a = b) : Ending.returned (.int .i64 a) = .returned (.int .i64 b) := by rw [h]

set_option maxHeartbeats 1000000 in
set_option maxRecDepth 100000 in
theorem count_any (h : RefRep own id w m s nk vR vB vS vA vK bs) (ho : Ordered s.rights) (hm : s.rights.length ≤ 4611686018427387904) :
    Calls Try.prog 92 #[.pointer (some ⟨m, 0, none⟩)] w fun e w' => e = .returned (.int .i64 (cnt s.rights)) ∧ w' = w := by
  have k3 := h.blk.cell 3
  simp at k3
  obtain ⟨ao, cap, g, hv, _⟩ := h.rR.view
  rw [hv] at k3
  have Hv : Hid (vR = .slice ao s.rights.length cap) := hv
  clear hv
  go_enter Try.func92, Try.ntmps92
  go_wp2_with fail
  go_loopg [3, 4] s.rights.length (fun k n x wr => ∃ q : Nat, x = .int .i64 q ∧ q + k = s.rights.length ∧ n = .int .i64 (cntTo s.rights q) ∧ wr = w)
  case atStart => exact ⟨0, rfl, by omega, rfl, rfl⟩
  case round =>
    obtain ⟨q, rfl, hk, rfl, rfl⟩ := hrel
    have hle := cntTo_le s.rights q
    have HK : Hid (q + gk = s.rights.length) := hk
    have hq : q ≤ s.rights.length := by omega
    clear hk
    by_cases hlt : q < s.rights.length
    · go_wp2_with fail
      refine (living_any h ho hm q (by omega) (by omega)).mono ?_
      rintro e w2 ⟨rfl, rfl⟩
      have hsc := cntTo_succ s.rights q
      cases hl : lv s.rights q
      · rw [hl] at hsc
        have HS : Hid (cntTo s.rights (q + 1) = cntTo s.rights q) := by unfold Hid; simpa using hsc
        clear hsc hl
        go_wp2_with fail
        go_roundg (gk - 1)
        case measure => have := HK.out; omega
        case rel => exact ⟨q + 1, by go_num, by have := HK.out; omega, by rw [HS.out], rfl⟩
      · rw [hl] at hsc
        have HS : Hid (cntTo s.rights (q + 1) = cntTo s.rights q + 1) := by unfold Hid; simpa using hsc
        clear hsc hl
        go_wp2_with fail
        go_roundg (gk - 1)
        case measure => have := HK.out; omega
        case rel => exact ⟨q + 1, by go_num, by have := HK.out; omega, by rw [HS.out]; go_num, rfl⟩
    · go_wp2_with fail
      go_ret
      exact ⟨ret_int (by rw [show q = s.rights.length by omega]; rfl), rfl⟩

theorem ownsB_at {rs : List RR} {i : Nat} {r : RR} (hr : rs[i]? = some r) (env fr : Int) (wr : Bool) : ownsB rs env fr wr i = (lv rs i && (r.env == env && (r.fr == fr && (r.wr || !wr)))) := by
  unfold ownsB; rw [hr]

set_option maxHeartbeats 2000000 in
set_option maxRecDepth 100000 in
theorem owned_any (h : RefRep own id w m s nk vR vB vS vA vK bs) (ho : Ordered s.rights) (hm : s.rights.length ≤ 4611686018427387904) (env fr : Int) (wt : Bool) :
    Calls Try.prog 109 #[.pointer (some ⟨m, 0, none⟩), .int .i64 env, .int .i64 fr, .bool wt] w fun e w' => e = .returned (.bool (owned s.rights env fr wt)) ∧ Below w.heap.size w w' := by
  obtain ⟨ao, cap, g, hv, _⟩ := h.rR.view
  go_enter Try.func109, Try.ntmps109
  go_wp2_with fail
  go_loopg [9] s.rights.length (fun k x wr => ∃ q : Nat, x = .int .i64 q ∧ q + k = s.rights.length ∧ (List.range q).any (ownsB s.rights env fr wt) = false ∧ Below w.heap.size w wr)
  case atStart => exact ⟨0, rfl, by omega, rfl, Below.refl _ _⟩
  case round =>
    obtain ⟨q, rfl, hk, hno, hbl⟩ := hrel
    have h' := h.below hbl
    have k3 := h'.blk.cell 3
    simp at k3
    have HK : Hid (q + gk = s.rights.length) := hk
    have HN : Hid ((List.range q).any (ownsB s.rights env fr wt) = false) := hno
    have hq : q ≤ s.rights.length := by omega
    clear hk hno
    by_cases hlt : q < s.rights.length
    · obtain ⟨r, hr⟩ : ∃ r, s.rights[q]? = some r := ⟨s.rights[q], by simp⟩
      obtain ⟨g', cap', hv', _, c0, c1, c2, c3, _, _, _⟩ := h'.right hr
      rw [hv'] at k3
      have hlen : ∀ a, s.rights[q]? = some a → True := fun _ _ => trivial
      have HE : Hid (ownsB s.rights env fr wt q = (lv s.rights q && (r.env == env && (r.fr == fr && (r.wr || !wt))))) := ownsB_at hr env fr wt
      clear hv' hv
      go_wp2_with fail
      refine (living_any h' ho hm q (by omega) (by omega)).mono ?_
      rintro e w2 ⟨rfl, rfl⟩
      have hyes : (lv s.rights q && (r.env == env && (r.fr == fr && (r.wr || !wt)))) = true → owned s.rights env fr wt = true := fun hy => by
        unfold owned
        rw [List.any_eq_true]
        exact ⟨q, List.mem_range.2 hlt, by rw [HE.out]; exact hy⟩
      have hnext : (lv s.rights q && (r.env == env && (r.fr == fr && (r.wr || !wt)))) = false → (List.range (q + 1)).any (ownsB s.rights env fr wt) = false := fun hy => by
        rw [List.range_succ, List.any_append, HN.out]
        simp [HE.out, hy]
      have HY : Hid ((lv s.rights q && (r.env == env && (r.fr == fr && (r.wr || !wt)))) = true → owned s.rights env fr wt = true) := hyes
      have HX : Hid ((lv s.rights q && (r.env == env && (r.fr == fr && (r.wr || !wt)))) = false → (List.range (q + 1)).any (ownsB s.rights env fr wt) = false) := hnext
      clear hyes hnext hr hlen h'
      cases hl : lv s.rights q
      · rw [hl] at HX
        clear HY HE hl
        go_wp2_with fail
        go_roundg (gk - 1)
        case measure => have := HK.out; omega
        case rel => exact ⟨q + 1, by go_num, by have := HK.out; omega, HX.out (by simp), hbl.alloc (by have := hbl.size; omega) _⟩
      · rw [hl] at HX HY
        clear HE hl
        cases he : (r.env == env)
        · rw [he] at HX
          go_wp2_with fail
          go_roundg (gk - 1)
          case measure => have := HK.out; omega
          case rel => exact ⟨q + 1, by go_num, by have := HK.out; omega, HX.out (by simp), hbl.alloc (by have := hbl.size; omega) _⟩
        · cases hf : (r.fr == fr)
          · rw [hf] at HX
            go_wp2_with fail
            go_roundg (gk - 1)
            case measure => have := HK.out; omega
            case rel => exact ⟨q + 1, by go_num, by have := HK.out; omega, HX.out (by simp), hbl.alloc (by have := hbl.size; omega) _⟩
          · rw [he, hf] at HX HY
            cases hw : r.wr
            · rw [hw] at HX HY c3
              cases wt
              · go_wp2_with fail
                go_ret
                exact ⟨ret_bool (HY.out (by simp)).symm, hbl.alloc (by have := hbl.size; omega) _⟩
              · go_wp2_with fail
                go_roundg (gk - 1)
                case measure => have := HK.out; omega
                case rel => exact ⟨q + 1, by go_num, by have := HK.out; omega, HX.out (by simp), hbl.alloc (by have := hbl.size; omega) _⟩
            · rw [hw] at HX HY c3
              go_wp2_with fail
              go_ret
              exact ⟨ret_bool (HY.out (by simp)).symm, hbl.alloc (by have := hbl.size; omega) _⟩
    · obtain rfl : q = s.rights.length := by omega
      rw [hv] at k3
      go_wp2_with fail
      go_ret
      exact ⟨ret_bool (by unfold owned; rw [HN.out]), hbl⟩

set_option maxHeartbeats 1000000 in
set_option maxRecDepth 100000 in
theorem alive_any (h : RefRep own id w m s nk vR vB vS vA vK bs) (ha : s.alive.length = s.ne) (hn : s.ne ≤ 4) (env : Int) :
    Calls Try.prog 95 #[.pointer (some ⟨m, 0, none⟩), .int .i64 env] w fun e w' => e = .returned (.bool (aliveB s env)) ∧ w' = w := by
  have k2 := h.blk.cell 2
  have k7 := h.blk.cell 7
  simp at k2 k7
  by_cases h1 : 0 ≤ env
  · by_cases h2 : env < s.ne
    · obtain ⟨j, rfl⟩ := Int.eq_ofNat_of_zero_le h1
      have hj : j < s.alive.length := by omega
      obtain ⟨g, cap, hv, hc, _⟩ := h.rA.form (by omega)
      obtain ⟨b, hb⟩ : ∃ b, s.alive[j]? = some b := ⟨s.alive[j], by simp⟩
      have c0 : w.cell? ⟨g, j, none⟩ = some (.bool b) := by rw [hc _ (by omega), List.getElem?_map, hb]; rfl
      rw [hv] at k7
      have hr : aliveB s j = b := by simp [aliveB, h2, hb]
      rw [hr]
      clear hv hr hb
      have hl : (j : Int) < (s.alive.length : Int) := by omega
      go_enter Try.func95, Try.ntmps95
      go_wp2_with fail
      go_ret
      exact ⟨rfl, rfl⟩
    · have hr : aliveB s env = false := by simp [aliveB]; omega
      rw [hr]
      go_enter Try.func95, Try.ntmps95
      go_wp2_with fail
      go_ret
      exact ⟨rfl, rfl⟩
  · have hr : aliveB s env = false := by simp [aliveB]; omega
    rw [hr]
    go_enter Try.func95, Try.ntmps95
    go_wp2_with fail
    go_ret
    exact ⟨rfl, rfl⟩

theorem aliveB_nat {s : RSt} {env : Int} (h : aliveB s env = true) : ∃ j : Nat, env = j ∧ j < s.ne := by
  simp [aliveB] at h
  exact ⟨env.toNat, by omega, by omega⟩

set_option maxHeartbeats 1000000 in
set_option maxRecDepth 100000 in
theorem raw_any (h : RefRep own id w m s nk vR vB vS vA vK bs) (ha : s.alive.length = s.ne) (hn : s.ne ≤ 4) (hk : nk = s.ne) (env : Int) :
    Calls Try.prog 89 #[.pointer (some ⟨m, 0, none⟩), .int .i64 env] w fun e w' => e = .returned (.int .i64 (rawE s env)) ∧ w' = w := by
  have k8 := h.blk.cell 8
  simp at k8
  go_enter Try.func89, Try.ntmps89
  go_wp2_with fail
  refine (alive_any h ha hn env).mono ?_
  rintro e w2 ⟨rfl, rfl⟩
  cases hal : aliveB s env
  · have HR : Hid (rawE s env = 2) := by simp [Hid, rawE, hal]
    clear hal
    go_wp2_with fail
    go_ret
    exact ⟨ret_int HR.out.symm, rfl⟩
  · have HR : Hid (rawE s env = 0) := by simp [Hid, rawE, hal]
    obtain ⟨j, rfl, hj⟩ := aliveB_nat hal
    subst hk
    obtain ⟨g, cap, hv, hc, _⟩ := h.rK.form (by omega)
    have c0 : w2.cell? ⟨g, j, none⟩ = some (.pointer none) := by rw [hc _ (by omega)]; simp [hj]
    rw [hv] at k8
    have hl : (j : Int) < (s.ne : Int) := by omega
    clear hal hv
    go_wp2_with fail
    go_ret
    exact ⟨ret_int HR.out.symm, rfl⟩
end
end Go.Proofs.Ytkonobbhohfjlaa
