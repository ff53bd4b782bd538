/-
  The statement's own list of rights ('book'), beside the machine.
-/
import Derived.Test.YtkonobbhohfjlaaHPure
import Derived.Test.YtkonobbhohfjlaaWList
namespace Go.Proofs.Ytkonobbhohfjlaa
open Go.RowKit
set_option linter.unusedVariables false
attribute [local go_sem ↓] Go.wp_at_zero Go.wp_at_succ

def gcells (r : RR) : List Value := [.int .i64 r.env, .int .i64 r.frm, .bool r.wr, .bool r.ended]
def alAt (s : RSt) (j : Nat) : Bool := s.alive[j]?.getD false
def bcells (m s : Nat) (rs : RSt) (vM : Value) : List Value := [.pointer (some ⟨m, 0, none⟩), .int .i64 rs.nf, .int .i64 s, .int .i64 rs.ne, vM, .bool (alAt rs 0), .bool (alAt rs 1), .bool (alAt rs 2), .bool (alAt rs 3)]

/-- 'own': (id, 0): the struct; 1: its list. -/
structure BRep (own : Nat → Nat × Nat) (id : Nat) (w : World) (b m s : Nat) (rs : RSt) (vM : Value) : Prop where
  blk : Blk w b (bcells m s rs vM) 36
  row : Row w vM 62 4 rs.rights.length (rs.rights.flatMap gcells)
  tb : own b = (id, 0)
  tM : Tg own vM (id, 1)

section
variable {own own' : Nat → Nat × Nat} {id : Nat} {w w' : World} {b m s : Nat} {rs : RSt} {vM : Value}

theorem BRep.of (h : BRep own id w b m s rs vM) (ho : ∀ x, x < w.heap.size → own' x = own x) (hb : ∀ x, x < w.heap.size → (own x).1 = id → w'.heap[x]? = w.heap[x]?) : BRep own' id w' b m s rs vM :=
  ⟨h.blk.of (hb b h.blk.lt (by rw [h.tb])), h.row.kept h.tM (fun x hx ht => hb x hx (by rw [ht])), (ho b h.blk.lt).trans h.tb, h.tM.congr h.row ho⟩
theorem BRep.below (h : BRep own id w b m s rs vM) (hb : Below w.heap.size w w') : BRep own id w' b m s rs vM := h.of (fun _ _ => rfl) (fun x hx _ => hb.block x hx)

theorem BRep.c0 (h : BRep own id w b m s rs vM) : w.cell? ⟨b, 0, none⟩ = some (.pointer (some ⟨m, 0, none⟩)) := (h.blk.cell 0).trans rfl
theorem BRep.c1 (h : BRep own id w b m s rs vM) : w.cell? ⟨b, 1, none⟩ = some (.int .i64 rs.nf) := (h.blk.cell 1).trans rfl
theorem BRep.c3 (h : BRep own id w b m s rs vM) : w.cell? ⟨b, 3, none⟩ = some (.int .i64 rs.ne) := (h.blk.cell 3).trans rfl
theorem BRep.c4 (h : BRep own id w b m s rs vM) : w.cell? ⟨b, 4, none⟩ = some vM := (h.blk.cell 4).trans rfl
theorem BRep.cal (h : BRep own id w b m s rs vM) (j : Nat) (hj : j < 4) : w.cell? ⟨b, 5 + j, none⟩ = some (.bool (alAt rs j)) := by
  rw [h.blk.cell]
  have : j = 0 ∨ j = 1 ∨ j = 2 ∨ j = 3 := by omega
  rcases this with rfl | rfl | rfl | rfl <;> rfl

/-- The cells of right i. -/
theorem BRep.right (h : BRep own id w b m s rs vM) {i : Nat} {r : RR} (hr : rs.rights[i]? = some r) :
    ∃ g cap, vM = .slice (some ⟨g, 0, none⟩) rs.rights.length cap ∧ own g = (id, 1) ∧ w.cell? ⟨g, i * 4, none⟩ = some (.int .i64 r.env) ∧ w.cell? ⟨g, i * 4 + 1, none⟩ = some (.int .i64 r.frm) ∧ w.cell? ⟨g, i * 4 + 2, none⟩ = some (.bool r.wr) ∧ w.cell? ⟨g, i * 4 + 3, none⟩ = some (.bool r.ended) ∧
      ∀ j, w.frozen? ⟨g, j, none⟩ = false := by
  have hi := (List.getElem?_eq_some_iff.1 hr).1
  obtain ⟨g, cap, hv, hc, hf⟩ := h.row.form (by omega)
  have hx : ∀ j, j < 4 → w.cell? ⟨g, i * 4 + j, none⟩ = (gcells r)[j]? := fun j hj => by rw [hc _ (by omega), flat_get gcells 4 (fun _ => rfl) rs.rights i j r hr hj]
  exact ⟨g, cap, hv, h.tM g (by rw [hv]; rfl), (hx 0 (by omega)).trans rfl, (hx 1 (by omega)).trans rfl, (hx 2 (by omega)).trans rfl, (hx 3 (by omega)).trans rfl, hf⟩

set_option maxHeartbeats 1000000 in
set_option maxRecDepth 100000 in
theorem bliving_any (h : BRep own id w b m s rs vM) (ho : Ordered rs.rights) (hm : rs.rights.length ≤ 4611686018427387904) (i : Int) (hi : i < rs.rights.length) (hi0 : -1 ≤ i) :
    Calls Try.prog 23 #[.pointer (some ⟨b, 0, none⟩), .int .i64 i] w fun e w' => e = .returned (.bool (lv rs.rights i)) ∧ w' = w := by
  have k3 := h.c4
  go_enter Try.func23, Try.ntmps23
  go_wp2_with fail
  go_loopg [1] (i + 1).toNat (fun k x wr => ∃ q : Int, x = .int .i64 q ∧ (q + 1).toNat ≤ k ∧ -1 ≤ q ∧ q < rs.rights.length ∧ lv rs.rights q = lv rs.rights i ∧ wr = w)
  case atStart => exact ⟨i, rfl, Nat.le_refl _, hi0, hi, rfl, rfl⟩
  case round =>
    obtain ⟨q, rfl, hk, hq0, hq1, hlv, rfl⟩ := hrel
    have HL : Hid (lv rs.rights q = lv rs.rights i) := hlv
    clear hlv
    by_cases hq : 0 ≤ q
    · obtain ⟨j, rfl⟩ := Int.eq_ofNat_of_zero_le hq
      have hj : j < rs.rights.length := by omega
      obtain ⟨r, hr⟩ : ∃ r, rs.rights[j]? = some r := ⟨rs.rights[j], by simp⟩
      obtain ⟨g, cap, hv, _, _, c4, _, c5, _⟩ := h.right hr
      have hst := lv_step ho hr
      have hbd := ho j r hr
      rw [hv] at k3
      have HS : Hid (lv rs.rights j = (!r.ended && lv rs.rights r.frm)) := hst
      clear hst hv
      cases he : r.ended
      · rw [he] at c5
        go_wp2_with fail
        go_roundg ((r.frm + 1).toNat)
        case measure => omega
        case rel => exact ⟨r.frm, rfl, Nat.le_refl _, hbd.1, by omega, by rw [← HL.out, HS.out, he]; rfl, rfl⟩
      · rw [he] at c5
        go_wp2_with fail
        go_ret
        exact ⟨ret_bool (by rw [← HL.out, HS.out, he]; rfl), rfl⟩
    · go_wp2_with fail
      go_ret
      exact ⟨ret_bool (by rw [← HL.out, lv_neg (by omega)]), rfl⟩

theorem fstTo_le (l : List RR) (q : Nat) : fstTo l q ≤ q := by
  unfold fstTo fstL
  have := List.length_filter_le (firstB l) (List.range q)
  simpa using this

set_option maxHeartbeats 2000000 in
set_option maxRecDepth 100000 in
theorem bcounts_any (h : BRep own id w b m s rs vM) (ho : Ordered rs.rights) (hm : rs.rights.length ≤ 4611686018427387904) :
    Calls Try.prog 33 #[.pointer (some ⟨b, 0, none⟩)] w fun e w' => e = .returned (.tuple #[.int .i64 (cnt rs.rights), .int .i64 (fstTo rs.rights rs.rights.length)]) ∧ w' = w := by
  have k4 := h.c4
  obtain ⟨ao, cap, hv, hcase⟩ := h.row.shape'
  rw [hv] at k4
  have Hv : Hid (vM = .slice ao rs.rights.length cap) := hv
  clear hv
  go_enter Try.func33, Try.ntmps33
  go_wp2_with fail
  go_loopg [4, 5, 6] rs.rights.length (fun k n f x wr => ∃ q : Nat, x = .int .i64 q ∧ q + k = rs.rights.length ∧ n = .int .i64 (cntTo rs.rights q) ∧ f = .int .i64 (fstTo rs.rights q) ∧ wr = w)
  case atStart => exact ⟨0, rfl, by omega, rfl, rfl, rfl⟩
  case round =>
    obtain ⟨q, rfl, hk, rfl, rfl, rfl⟩ := hrel
    have hle := cntTo_le rs.rights q
    have hlf := fstTo_le rs.rights q
    have HK : Hid (q + gk = rs.rights.length) := hk
    have hq : q ≤ rs.rights.length := by omega
    clear hk
    by_cases hlt : q < rs.rights.length
    · obtain ⟨r, hr⟩ : ∃ r, rs.rights[q]? = some r := ⟨rs.rights[q], by simp⟩
      obtain ⟨g, capr, hvr, _, c0, c1, _, _, _⟩ := h.right hr
      have HC : Hid (cntTo rs.rights (q + 1) = cntTo rs.rights q + if lv rs.rights q then 1 else 0) := cntTo_succ _ _
      have HF : Hid (fstTo rs.rights (q + 1) = fstTo rs.rights q + if lv rs.rights q && decide (r.frm < 0) then 1 else 0) := fstTo_succ hr
      rw [Hv.out] at hvr
      simp at hvr
      obtain ⟨rfl, rfl⟩ := hvr
      clear hr
      go_wp2_with fail
      refine (bliving_any h ho hm q (by omega) (by omega)).mono ?_
      rintro e w2 ⟨rfl, hw2⟩
      subst hw2
      cases hl : lv rs.rights q
      · go_wp2_with fail
        go_roundg (gk - 1)
        case measure => have := HK.out; omega
        case rel => exact ⟨q + 1, by go_num, by have := HK.out; omega, by rw [HC.out, hl]; rfl, by rw [HF.out, hl]; rfl, rfl⟩
      · by_cases hf : r.frm < 0
        · go_wp2_with fail
          go_roundg (gk - 1)
          case measure => have := HK.out; omega
          case rel => exact ⟨q + 1, by go_num, by have := HK.out; omega, by rw [HC.out, hl]; go_num, by rw [HF.out, hl, decide_eq_true hf]; go_num, rfl⟩
        · go_wp2_with fail
          go_roundg (gk - 1)
          case measure => have := HK.out; omega
          case rel => exact ⟨q + 1, by go_num, by have := HK.out; omega, by rw [HC.out, hl]; go_num, by rw [HF.out, hl, decide_eq_false (show ¬ r.frm < 0 by omega)]; rfl, rfl⟩
    · obtain rfl : q = rs.rights.length := by omega
      go_wp2_with fail
      go_ret2
      exact ⟨rfl, rfl⟩

/-- What an environment must be answered for that handle. -/
theorem may_cases (env : Nat) (he : env < rs.ne) (hd : Int) (h4 : rs.ne ≤ 4) :
    (rightE rs env hd = (-1, 2) ∧ alAt rs env = false) ∨
    (rightE rs env hd = (-1, 9) ∧ alAt rs env = true ∧ (hd < 1 ∨ (rs.rights.length : Int) < hd)) ∨
    (∃ (j : Nat) (r : RR), hd = j + 1 ∧ rs.rights[j]? = some r ∧ alAt rs env = true ∧ ((rightE rs env hd = (-1, 9) ∧ (r.env ≠ env ∨ (r.env = env ∧ lv rs.rights j = false))) ∨ (rightE rs env hd = ((j : Int), 0) ∧ r.env = env ∧ lv rs.rights j = true))) := by
  have hal : aliveB rs env = alAt rs env := by
    unfold aliveB alAt
    simp [he]
  unfold rightE rawE
  rw [hal]
  cases ha : alAt rs env
  · exact .inl ⟨by simp, rfl⟩
  · simp only [if_true, ne_eq, not_true_eq_false, if_false]
    by_cases h1 : 1 ≤ hd ∧ hd ≤ rs.rights.length
    · rw [if_pos h1]
      right; right
      obtain ⟨r, hr⟩ : ∃ r, rs.rights[(hd - 1).toNat]? = some r := ⟨rs.rights[(hd - 1).toNat]'(by omega), by simp⟩
      rw [hr]
      refine ⟨(hd - 1).toNat, r, by omega, hr, trivial, ?_⟩
      have hc : (((hd - 1).toNat : Nat) : Int) = hd - 1 := by omega
      rw [hc]
      by_cases hee : r.env = env
      · cases hl : lv rs.rights (hd - 1)
        · left; simp [hee]
        · right; simp [hee]
      · left; simp [hee]
    · rw [if_neg h1]
      right; left
      exact ⟨rfl, trivial, by omega⟩

set_option maxHeartbeats 2000000 in
set_option maxRecDepth 100000 in
theorem bmay_any (h : BRep own id w b m s rs vM) (ho : Ordered rs.rights) (hm : rs.rights.length ≤ 4611686018427387904) (env : Nat) (he : env < rs.ne) (h4 : rs.ne ≤ 4) (hd : Int) (hd0 : 0 ≤ hd) (hd1 : hd ≤ 9223372036854775807) :
    Calls Try.prog 35 #[.pointer (some ⟨b, 0, none⟩), .int .i64 env, .int .i64 hd] w fun e w' => e = .returned (.int .i64 (rightE rs env hd).2) ∧ w' = w := by
  have k4 := h.c4
  have ka := h.cal env (by omega)
  obtain ⟨ao, cap, hv, hcase⟩ := h.row.shape'
  rw [hv] at k4
  have Hv : Hid (vM = .slice ao rs.rights.length cap) := hv
  have hi0 : (0 : Int) ≤ (env : Int) := by omega
  have hi1 : (env : Int) < 4 := by omega
  clear hv
  rcases may_cases (rs := rs) env he hd h4 with ⟨hx, ha⟩ | ⟨hx, ha, hr⟩ | ⟨j, r, hdj, hr, ha, hc⟩
  · have HX : Hid (rightE rs env hd = (-1, 2)) := hx
    rw [ha] at ka
    clear hx ha
    go_enter Try.func35, Try.ntmps35
    go_wp2_with fail
    go_ret
    exact ⟨ret_int (by rw [HX.out]), rfl⟩
  · have HX : Hid (rightE rs env hd = (-1, 9)) := hx
    rw [ha] at ka
    clear hx ha
    rcases hr with hr | hr
    all_goals
      go_enter Try.func35, Try.ntmps35
      go_wp2_with fail
      go_ret
      exact ⟨ret_int (by rw [HX.out]), rfl⟩
  · rw [ha] at ka
    have hj := (List.getElem?_eq_some_iff.1 hr).1
    obtain ⟨g, capr, hvr, _, c0, c1, _, _, _⟩ := h.right hr
    rw [Hv.out] at hvr
    simp at hvr
    obtain ⟨rfl, rfl⟩ := hvr
    have hd1 : hd - 1 = (j : Int) := by omega
    have hd2 : 1 ≤ hd := by omega
    have hd3 : hd ≤ (rs.rights.length : Int) := by omega
    have hjj : (j : Int) < (rs.rights.length : Int) := by omega
    have hj0 : (0 : Int) ≤ (j : Int) := by omega
    clear ha hr hcase hdj
    rcases hc with ⟨hx, hc | ⟨hc, hl⟩⟩ | ⟨hx, hc, hl⟩
    · have HX : Hid (rightE rs env hd = (-1, 9)) := hx
      have hne : (r.env != (env : Int)) = true := by simpa using hc
      clear hx hc
      go_enter Try.func35, Try.ntmps35
      go_wp2_with fail
      go_ret
      exact ⟨ret_int (by rw [HX.out]), rfl⟩
    · have HX : Hid (rightE rs env hd = (-1, 9)) := hx
      have hne : (r.env != (env : Int)) = false := by simpa using hc
      have HL : Hid (lv rs.rights j = false) := hl
      clear hx hc hl
      go_enter Try.func35, Try.ntmps35
      go_wp2_with fail
      refine (bliving_any h ho hm j (by omega) (by omega)).mono ?_
      rintro e w2 ⟨rfl, hw2⟩
      subst hw2
      rw [HL.out]
      go_wp2_with fail
      go_ret
      exact ⟨ret_int (by rw [HX.out]), rfl⟩
    · have HX : Hid (rightE rs env hd = ((j : Int), 0)) := hx
      have hne : (r.env != (env : Int)) = false := by simpa using hc
      have HL : Hid (lv rs.rights j = true) := hl
      clear hx hc hl
      go_enter Try.func35, Try.ntmps35
      go_wp2_with fail
      refine (bliving_any h ho hm j (by omega) (by omega)).mono ?_
      rintro e w2 ⟨rfl, hw2⟩
      subst hw2
      rw [HL.out]
      go_wp2_with fail
      go_ret
      exact ⟨ret_int (by rw [HX.out]), rfl⟩
end
end Go.Proofs.Ytkonobbhohfjlaa
