import Derived.Test.YtinlkcmdbjcofaaM16
namespace Go.Proofs.Ytinlkcmdbjcofaa
open Go.RowKit
set_option linter.unusedVariables false
attribute [local go_sem ↓] Go.wp_at_zero Go.wp_at_succ

/-- Of the first q rights those of P are ended. -/
def endTo (P : Nat → Bool) (rs : RSt) (q : Nat) : RSt := { rs with rights := markAt (fun i => decide (i < q) && P i) rs.rights }

theorem endTo_zero (P : Nat → Bool) (rs : RSt) : endTo P rs 0 = rs := by
  unfold endTo
  have : markAt (fun i => decide (i < 0) && P i) rs.rights = rs.rights := by
    apply List.ext_getElem?
    intro i
    rw [markAt_get]
    simp
  rw [this]
theorem endTo_len (P : Nat → Bool) (rs : RSt) (q : Nat) : (endTo P rs q).rights.length = rs.rights.length := markAt_len _ _
theorem endTo_at (P : Nat → Bool) (rs : RSt) (q : Nat) : (endTo P rs q).rights[q]? = rs.rights[q]? := by
  unfold endTo
  simp only [markAt_get]
  simp
theorem endTo_yes {P : Nat → Bool} {rs : RSt} {q : Nat} {r : RR} (hr : rs.rights[q]? = some r) (h : P q = true) : endTo P rs (q + 1) = { endTo P rs q with rights := (endTo P rs q).rights.set q r.end } := by
  unfold endTo
  simp only
  congr 1
  apply List.ext_getElem?
  intro i
  have hq := (List.getElem?_eq_some_iff.1 hr).1
  rw [List.getElem?_set, markAt_get, markAt_get, markAt_len]
  by_cases e : q = i
  · subst e
    rw [if_pos rfl, if_pos hq, hr]
    simp [h]
  · rw [if_neg e]
    congr 1
    funext x
    have : decide (i < q + 1) = decide (i < q) := by rw [Bool.eq_iff_iff]; simp; omega
    rw [this]
theorem endTo_no {P : Nat → Bool} {rs : RSt} {q : Nat} (h : P q = false) : endTo P rs (q + 1) = endTo P rs q := by
  unfold endTo
  congr 2
  funext i
  by_cases e : i = q
  · subst e; simp [h]
  · have : decide (i < q + 1) = decide (i < q) := by rw [Bool.eq_iff_iff]; simp; omega
    rw [this]
theorem endTo_all (P : Nat → Bool) (rs : RSt) : (endTo P rs rs.rights.length).rights = markAt P rs.rights := by
  unfold endTo
  apply List.ext_getElem?
  intro i
  rw [markAt_get, markAt_get]
  cases hx : rs.rights[i]? with
  | none => rfl
  | some x =>
    have := (List.getElem?_eq_some_iff.1 hx).1
    simp [this]

section
variable {own own1 : Nat → Nat × Nat} {w w1 w2 : World} {b m s : Nat} {rs rs' : RSt} {t t' : RSt} {nk N : Nat} {vM : Value} {M : MT}

theorem BRep.congr {id : Nat} (h : BRep own id w b m s rs vM) (h1 : rs'.rights = rs.rights) (h2 : rs'.alive = rs.alive) (h3 : rs'.ne = rs.ne) (h4 : rs'.nf = rs.nf) : BRep own id w b m s rs' vM := by
  refine ⟨?_, by rw [h1]; exact h.row, h.tb, h.tM⟩
  have : bcells m s rs' vM = bcells m s rs vM := by unfold bcells alAt; rw [h2, h3, h4]
  rw [this]; exact h.blk

theorem flat_setG (xs : List RR) (i : Nat) (r : RR) (hr : xs[i]? = some r) : (xs.set i r.end).flatMap gcells = (xs.flatMap gcells).set (i * 4 + 3) (.bool true) := by
  have hi := (List.getElem?_eq_some_iff.1 hr).1
  apply List.ext_getElem?
  intro p
  have hl := flat_length gcells 4 (fun _ => rfl) xs
  rw [flat_at gcells 4 (by omega) (fun _ => rfl)]
  simp only [List.getElem?_set, hl]
  by_cases hp : p / 4 = i
  · rw [if_pos hp.symm, if_pos (by omega)]
    by_cases h5 : p % 4 = 3
    · rw [if_pos (by omega), if_pos (by omega), h5]; rfl
    · rw [if_neg (by omega), flat_at gcells 4 (by omega) (fun _ => rfl), hp, hr]
      have : p % 4 = 0 ∨ p % 4 = 1 ∨ p % 4 = 2 := by omega
      rcases this with h | h | h <;> rw [h] <;> rfl
  · rw [if_neg (fun e => hp e.symm), if_neg (by omega), flat_at gcells 4 (by omega) (fun _ => rfl)]

/-- A right of the book ends. -/
theorem BRep.setEnd {g cap i : Nat} {r : RR} (h : BRep own1 1 w b m s rs vM) (hv : vM = .slice (some ⟨g, 0, none⟩) rs.rights.length cap) (hr : rs.rights[i]? = some r) :
    BRep own1 1 (w.setCell ⟨g, i * 4 + 3, none⟩ (.bool true)) b m s { rs with rights := rs.rights.set i r.end } vM := by
  have hg : own1 g = (1, 1) := h.tM g (by rw [hv]; rfl)
  refine ⟨h.blk.other _ (fun e => by have := h.tb; simp at e; rw [e, hg] at this; simp at this), ?_, h.tb, h.tM⟩
  have h1 := h.row
  rw [hv] at h1 ⊢
  simp only [List.length_set]
  rw [flat_setG _ _ _ hr]
  exact h1.set _ _
theorem M_setG (P : Api M) {g j : Nat} {u : Value} (h : M own1 2 w m rs) (hg : own1 g = (1, 1)) : M own1 2 (w.setCell ⟨g, j, none⟩ u) m rs :=
  P.of h (fun _ _ => rfl) (fun x hx ht => Below.heap_setCell _ _ _ _ (fun e => by simp at e; rw [e, hg] at ht; simp at ht))

theorem finish_cases (hnk : NoK rs) (env : Nat) (hd : Int) :
    (∃ x, (rightE rs env hd).2 = x ∧ (x = 2 ∨ x = 9) ∧ dropR rs env hd = (x, rs) ∧ revokeR rs env hd = (x, rs)) ∨
    ∃ (j : Nat) (r : RR), hd = j + 1 ∧ rs.rights[j]? = some r ∧ (rightE rs env hd).2 = 0 ∧
      (∃ s', dropR rs env hd = (0, s') ∧ s'.rights = markAt (fun i => i == j) rs.rights ∧ s'.alive = rs.alive ∧ s'.ne = rs.ne ∧ s'.nf = rs.nf) ∧
      (∃ s', revokeR rs env hd = (0, s') ∧ s'.rights = markAt (fun i => (rs.rights[i]?.map fun r => r.frm == (j : Int)).getD false) rs.rights ∧ s'.alive = rs.alive ∧ s'.ne = rs.ne ∧ s'.nf = rs.nf) := by
  rcases rightE_cases2 hnk env hd with ⟨x, h1, h3⟩ | ⟨j, r, h1, hrr, hd1, hee, hl, ha⟩
  · left
    have : x ≠ 0 := by omega
    exact ⟨x, by rw [h1], h3, by unfold dropR; rw [h1]; simp [this], by unfold revokeR; rw [h1]; simp [this]⟩
  · right
    exact ⟨j, r, hd1, hrr, by rw [h1], ⟨sweepS { rs with rights := rs.rights.set j r.end }, by unfold dropR; rw [h1]; simp [hrr], mark_set _ _ _ hrr, rfl, rfl, rfl⟩, ⟨sweepS (endIf (fun r => r.frm == (j : Int)) rs), by unfold revokeR; rw [h1]; simp, mark_map _ _, rfl, rfl, rfl⟩⟩

set_option maxHeartbeats 4000000 in
set_option maxRecDepth 100000 in
theorem bdrop_any (P : Api M) (hp : M own 2 w m rs) (hb : BRep own 1 w b m s rs vM) (hs : SOk rs) (hH : HInv rs) (hf : RFix rs nk) (hN : rs.rights.length ≤ N) (hm : (N + 2) * 48 ≤ 140737488355328) (env : Nat) (he : env < rs.ne) (hd : Int) (hd0 : 0 ≤ hd) (hd1 : hd ≤ 9223372036854775807) :
    Calls Try.prog 19 #[.pointer (some ⟨b, 0, none⟩), .int .i64 env, .int .i64 hd, .bool true] w fun e w' => e = .returned (.bool true) ∧ BRes M own w w' b m s (dropR rs env hd).2 := by
  have hF : Few rs := by unfold Few; omega
  have h4 := hf.ne
  have c0 := hb.c0
  rcases finish_cases (rs := rs) hH.nok env hd with ⟨x, hx2, hx, hdr, -⟩ | ⟨j, r, hdj, hr, hx2, ⟨s', hdr, q1, q2, q3, q4⟩, -⟩
  · have HX : Hid (dropR rs env hd = (x, rs)) := hdr
    have HY : Hid ((rightE rs env hd).2 = x) := hx2
    clear hdr hx2
    rcases hx with rfl | rfl
    all_goals
      go_enter Try.func19, Try.ntmps19
      go_wp2_with fail
      refine (bmay_any hb hH.nok hs.inv.ord (by omega) env he h4 hd hd0 hd1).mono ?_
      rintro e w3 ⟨rfl, hw3⟩
      subst hw3
      rw [HY.out]
      go_wp2_with fail
      refine (P.drop hp hs hF env hd ⟨by omega, by omega⟩ ⟨by omega, hd1⟩).mono ?_
      rintro e w1 ⟨rfl, hn⟩
      rw [HX.out]
      obtain ⟨own1, hp1, hb1, ho1, ht1⟩ := book_mid hb hn
      go_wp2_with fail
      go_ret
      exact ⟨rfl, own1, vM, hp1, by rw [HX.out]; exact hb1, ho1, ht1⟩
  · have HX : Hid (dropR rs env hd = (0, s')) := hdr
    have HY : Hid ((rightE rs env hd).2 = 0) := hx2
    clear hdr hx2
    have hd2 : hd - 1 = (j : Int) := by omega
    have hjl := (List.getElem?_eq_some_iff.1 hr).1
    clear hdj
    go_enter Try.func19, Try.ntmps19
    go_wp2_with fail
    refine (bmay_any hb hH.nok hs.inv.ord (by omega) env he h4 hd hd0 hd1).mono ?_
    rintro e w3 ⟨rfl, hw3⟩
    subst hw3
    rw [HY.out]
    go_wp2_with fail
    refine (P.drop hp hs hF env hd ⟨by omega, by omega⟩ ⟨by omega, hd1⟩).mono ?_
    rintro e w1 ⟨rfl, hn⟩
    rw [HX.out]
    obtain ⟨own1, hp1, hb1, ho1, ht1⟩ := book_mid hb hn
    obtain ⟨ao, cap, hv, hcase⟩ := hb1.row.shape'
    have Hv : Hid (vM = .slice ao rs.rights.length cap) := hv
    clear hv
    go_wp2_with fail
    go_loopg [11] rs.rights.length (fun k x wr => ∃ q : Nat, x = .int .i64 q ∧ q + k = rs.rights.length ∧ M own1 2 wr m (dropR rs env hd).2 ∧ BRep own1 1 wr b m s (endTo (fun i => i == j) rs q) vM ∧ Touch w3.heap.size (fun x => (own x).1 = 1 ∨ (own x).1 = 2) w3 wr)
    case atStart => exact ⟨0, rfl, by omega, hp1, by rw [endTo_zero]; exact hb1, ht1⟩
    case round =>
      clear hp1 hb1 ht1
      obtain ⟨q, rfl, hk, hp1, hb1, ht1⟩ := hrel
      have HK : Hid (q + gk = rs.rights.length) := hk
      have hq : q ≤ rs.rights.length := by omega
      clear hk
      have k4 := hb1.c4
      rw [Hv.out] at k4
      by_cases hlt : q < rs.rights.length
      · obtain ⟨r2, hr2⟩ : ∃ r, rs.rights[q]? = some r := ⟨rs.rights[q], by simp⟩
        have hr3 : (endTo (fun i => i == j) rs q).rights[q]? = some r2 := by rw [endTo_at]; exact hr2
        obtain ⟨g, capr, hvr, hg, _, d1, _, d3, hfz⟩ := hb1.right hr3
        rw [Hv.out, endTo_len] at hvr
        simp at hvr
        obtain ⟨rfl, rfl⟩ := hvr
        have hi0 : (0 : Int) ≤ (q : Int) := by omega
        have hi1 : (q : Int) < (rs.rights.length : Int) := by omega
        have hfq := hfz (q * 4 + 3)
        have hne : g ≠ b := fun e => by have := hb1.tb; rw [← e, hg] at this; simp at this
        have hne' : b ≠ g := fun e => hne e.symm
        have hS : (own g).1 = 1 ∨ (own g).1 = 2 ∨ w3.heap.size ≤ g := by
          by_cases hh : g < w3.heap.size
          · left; rw [← ho1 g hh, hg]
          · right; right; omega
        by_cases hqj : q = j
        · subst hqj
          have hbe : ((q : Int) == (q : Int)) = true := by simp
          have HW : Hid (endTo (fun i => i == q) rs (q + 1) = { endTo (fun i => i == q) rs q with rights := (endTo (fun i => i == q) rs q).rights.set q r2.end }) := endTo_yes hr2 (by simp)
          have hp2 := M_setG P (j := q * 4 + 3) (u := .bool true) hp1 hg
          have hb2 := hb1.setEnd (cap := cap) (by rw [Hv.out, endTo_len]) hr3
          clear hr hr2 hr3 hcase hfz
          go_wp2_with fail
          go_roundg (gk - 1)
          case measure => have := HK.out; omega
          case rel => exact ⟨q + 1, by go_num, by have := HK.out; omega, hp2, by rw [HW.out]; exact hb2, ht1.setCell (p := ⟨g, q * 4 + 3, none⟩) (by rcases hS with h | h | h; exact .inl (.inl h); exact .inl (.inr h); exact .inr h) _⟩
        · have hbe : ((q : Int) == (j : Int)) = false := by simp; omega
          have HW : Hid (endTo (fun i => i == j) rs (q + 1) = endTo (fun i => i == j) rs q) := endTo_no (by simpa using hqj)
          clear hr hr2 hr3 hcase hfz hqj
          go_wp2_with fail
          go_roundg (gk - 1)
          case measure => have := HK.out; omega
          case rel => exact ⟨q + 1, by go_num, by have := HK.out; omega, hp1, by rw [HW.out]; exact hb1, ht1⟩
      · obtain rfl : q = rs.rights.length := by omega
        go_wp2_with fail
        go_ret
        exact ⟨rfl, own1, vM, hp1, by rw [HX.out]; exact hb1.congr (q1.trans (endTo_all _ _).symm) q2 q3 q4, ho1, ht1⟩

set_option maxHeartbeats 4000000 in
set_option maxRecDepth 100000 in
theorem brevoke_any (P : Api M) (hp : M own 2 w m rs) (hb : BRep own 1 w b m s rs vM) (hs : SOk rs) (hH : HInv rs) (hf : RFix rs nk) (hN : rs.rights.length ≤ N) (hm : (N + 2) * 48 ≤ 140737488355328) (env : Nat) (he : env < rs.ne) (hd : Int) (hd0 : 0 ≤ hd) (hd1 : hd ≤ 9223372036854775807) :
    Calls Try.prog 19 #[.pointer (some ⟨b, 0, none⟩), .int .i64 env, .int .i64 hd, .bool false] w fun e w' => e = .returned (.bool true) ∧ BRes M own w w' b m s (revokeR rs env hd).2 := by
  have hF : Few rs := by unfold Few; omega
  have h4 := hf.ne
  have c0 := hb.c0
  rcases finish_cases (rs := rs) hH.nok env hd with ⟨x, hx2, hx, -, hdr⟩ | ⟨j, r, hdj, hr, hx2, -, ⟨s', hdr, q1, q2, q3, q4⟩⟩
  · have HX : Hid (revokeR rs env hd = (x, rs)) := hdr
    have HY : Hid ((rightE rs env hd).2 = x) := hx2
    clear hdr hx2
    rcases hx with rfl | rfl
    all_goals
      go_enter Try.func19, Try.ntmps19
      go_wp2_with fail
      refine (bmay_any hb hH.nok hs.inv.ord (by omega) env he h4 hd hd0 hd1).mono ?_
      rintro e w3 ⟨rfl, hw3⟩
      subst hw3
      rw [HY.out]
      go_wp2_with fail
      refine (P.revoke hp hs hF env hd ⟨by omega, by omega⟩ ⟨by omega, hd1⟩).mono ?_
      rintro e w1 ⟨rfl, hn⟩
      rw [HX.out]
      obtain ⟨own1, hp1, hb1, ho1, ht1⟩ := book_mid hb hn
      go_wp2_with fail
      go_ret
      exact ⟨rfl, own1, vM, hp1, by rw [HX.out]; exact hb1, ho1, ht1⟩
  · have HX : Hid (revokeR rs env hd = (0, s')) := hdr
    have HY : Hid ((rightE rs env hd).2 = 0) := hx2
    clear hdr hx2
    have hd2 : hd - 1 = (j : Int) := by omega
    have hjl := (List.getElem?_eq_some_iff.1 hr).1
    clear hdj
    go_enter Try.func19, Try.ntmps19
    go_wp2_with fail
    refine (bmay_any hb hH.nok hs.inv.ord (by omega) env he h4 hd hd0 hd1).mono ?_
    rintro e w3 ⟨rfl, hw3⟩
    subst hw3
    rw [HY.out]
    go_wp2_with fail
    refine (P.revoke hp hs hF env hd ⟨by omega, by omega⟩ ⟨by omega, hd1⟩).mono ?_
    rintro e w1 ⟨rfl, hn⟩
    rw [HX.out]
    obtain ⟨own1, hp1, hb1, ho1, ht1⟩ := book_mid hb hn
    obtain ⟨ao, cap, hv, hcase⟩ := hb1.row.shape'
    have Hv : Hid (vM = .slice ao rs.rights.length cap) := hv
    clear hv
    go_wp2_with fail
    go_loopg [11] rs.rights.length (fun k x wr => ∃ q : Nat, x = .int .i64 q ∧ q + k = rs.rights.length ∧ M own1 2 wr m (revokeR rs env hd).2 ∧ BRep own1 1 wr b m s (endTo (fun i => (rs.rights[i]?.map fun r => r.frm == (j : Int)).getD false) rs q) vM ∧ Touch w3.heap.size (fun x => (own x).1 = 1 ∨ (own x).1 = 2) w3 wr)
    case atStart => exact ⟨0, rfl, by omega, hp1, by rw [endTo_zero]; exact hb1, ht1⟩
    case round =>
      clear hp1 hb1 ht1
      obtain ⟨q, rfl, hk, hp1, hb1, ht1⟩ := hrel
      have HK : Hid (q + gk = rs.rights.length) := hk
      have hq : q ≤ rs.rights.length := by omega
      clear hk
      have k4 := hb1.c4
      rw [Hv.out] at k4
      by_cases hlt : q < rs.rights.length
      · obtain ⟨r2, hr2⟩ : ∃ r, rs.rights[q]? = some r := ⟨rs.rights[q], by simp⟩
        have hr3 : (endTo (fun i => (rs.rights[i]?.map fun r => r.frm == (j : Int)).getD false) rs q).rights[q]? = some r2 := by rw [endTo_at]; exact hr2
        obtain ⟨g, capr, hvr, hg, _, d1, _, d3, hfz⟩ := hb1.right hr3
        rw [Hv.out, endTo_len] at hvr
        simp at hvr
        obtain ⟨rfl, rfl⟩ := hvr
        have hi0 : (0 : Int) ≤ (q : Int) := by omega
        have hi1 : (q : Int) < (rs.rights.length : Int) := by omega
        have hfq := hfz (q * 4 + 3)
        have hne : g ≠ b := fun e => by have := hb1.tb; rw [← e, hg] at this; simp at this
        have hne' : b ≠ g := fun e => hne e.symm
        have hS : (own g).1 = 1 ∨ (own g).1 = 2 ∨ w3.heap.size ≤ g := by
          by_cases hh : g < w3.heap.size
          · left; rw [← ho1 g hh, hg]
          · right; right; omega
        cases hqj : (r2.frm == (j : Int))
        · have HW : Hid (endTo (fun i => (rs.rights[i]?.map fun r => r.frm == (j : Int)).getD false) rs (q + 1) = endTo (fun i => (rs.rights[i]?.map fun r => r.frm == (j : Int)).getD false) rs q) := endTo_no (by simp [hr2, hqj])
          clear hr hr2 hr3 hcase hfz
          go_wp2_with fail
          go_roundg (gk - 1)
          case measure => have := HK.out; omega
          case rel => exact ⟨q + 1, by go_num, by have := HK.out; omega, hp1, by rw [HW.out]; exact hb1, ht1⟩
        · have HW : Hid (endTo (fun i => (rs.rights[i]?.map fun r => r.frm == (j : Int)).getD false) rs (q + 1) = { endTo (fun i => (rs.rights[i]?.map fun r => r.frm == (j : Int)).getD false) rs q with rights := (endTo (fun i => (rs.rights[i]?.map fun r => r.frm == (j : Int)).getD false) rs q).rights.set q r2.end }) := endTo_yes hr2 (by simp [hr2, hqj])
          have hp2 := M_setG P (j := q * 4 + 3) (u := .bool true) hp1 hg
          have hb2 := hb1.setEnd (cap := cap) (by rw [Hv.out, endTo_len]) hr3
          clear hr hr2 hr3 hcase hfz
          go_wp2_with fail
          go_roundg (gk - 1)
          case measure => have := HK.out; omega
          case rel => exact ⟨q + 1, by go_num, by have := HK.out; omega, hp2, by rw [HW.out]; exact hb2, ht1.setCell (p := ⟨g, q * 4 + 3, none⟩) (by rcases hS with h | h | h; exact .inl (.inl h); exact .inl (.inr h); exact .inr h) _⟩
      · obtain rfl : q = rs.rights.length := by omega
        go_wp2_with fail
        go_ret
        exact ⟨rfl, own1, vM, hp1, by rw [HX.out]; exact hb1.congr (q1.trans (endTo_all _ _).symm) q2 q3 q4, ho1, ht1⟩
end
end Go.Proofs.Ytinlkcmdbjcofaa

namespace Go.Proofs.Ytinlkcmdbjcofaa
open Go.RowKit
set_option linter.unusedVariables false
attribute [local go_sem ↓] Go.wp_at_zero Go.wp_at_succ

section
variable {own own1 : Nat → Nat × Nat} {w w1 w2 : World} {b m s : Nat} {rs rs' : RSt} {t t' : RSt} {nk N : Nat} {vM : Value} {M : MT}

theorem alAt_set (rs : RSt) (env : Nat) (v : Bool) (he : env < rs.alive.length) (j : Nat) : alAt { rs with alive := rs.alive.set env v } j = if env = j then v else alAt rs j := by
  unfold alAt
  simp only [List.getElem?_set]
  by_cases h : env = j
  · subst h; simp [he]
  · simp [h]

/-- An environment begins or ends in the book. -/
theorem BRep.setAl (h : BRep own1 1 w b m s rs vM) (env : Nat) (v : Bool) (he : env < rs.alive.length) (h4 : env < 4) :
    BRep own1 1 (w.setCell ⟨b, 5 + env, none⟩ (.bool v)) b m s { rs with alive := rs.alive.set env v } vM := by
  refine ⟨?_, h.row.other _ (fun e => by have := h.tM _ e; rw [h.tb] at this; simp at this), h.tb, h.tM⟩
  have hb := h.blk.set (5 + env) (.bool v)
  have : bcells m s { rs with alive := rs.alive.set env v } vM = (bcells m s rs vM).set (5 + env) (.bool v) := by
    unfold bcells
    rw [alAt_set _ _ _ he, alAt_set _ _ _ he, alAt_set _ _ _ he, alAt_set _ _ _ he]
    have : env = 0 ∨ env = 1 ∨ env = 2 ∨ env = 3 := by omega
    rcases this with rfl | rfl | rfl | rfl <;> rfl
  rw [this]; exact hb
theorem M_setB (P : Api M) (h : M own1 2 w m rs) (hg : own1 b = (1, 0)) {j : Nat} {u : Value} : M own1 2 (w.setCell ⟨b, j, none⟩ u) m rs :=
  P.of h (fun _ _ => rfl) (fun x hx ht => Below.heap_setCell _ _ _ _ (fun e => by simp at e; rw [e, hg] at ht; simp at ht))

theorem touchB (hb : BRep own 1 w b m s rs vM) (ho : ∀ x, x < w.heap.size → own1 x = own x) (hb1 : BRep own1 1 w1 b m s rs vM) : ((own b).1 = 1 ∨ (own b).1 = 2) ∨ w.heap.size ≤ b := .inl (.inl (by rw [hb.tb]))

theorem live_cases (hl : rs.alive.length = rs.ne) (env : Nat) (he : env < rs.ne) :
    (alAt rs env = true ∧ spawnR rs env = (3, rs) ∧ rs.alive.set env true = rs.alive ∧ ∃ s', killR rs env = (0, s') ∧ s'.rights = markAt (fun i => (rs.rights[i]?.map fun r => r.env == (env : Int)).getD false) rs.rights ∧ s'.alive = rs.alive.set env false ∧ s'.ne = rs.ne ∧ s'.nf = rs.nf) ∨
    (alAt rs env = false ∧ spawnR rs env = (0, { rs with alive := rs.alive.set env true }) ∧ killR rs env = (2, rs)) := by
  have hal : aliveB rs env = alAt rs env := by unfold aliveB alAt; simp [he]
  unfold spawnR killR
  rw [hal]
  have hn : ¬ ((env : Int) < 0 ∨ (rs.ne : Int) ≤ env) := by omega
  rw [if_neg hn]
  cases ha : alAt rs env
  · right; simp
  · left
    refine ⟨rfl, by simp, ?_, sweepS { endIf (fun r => r.env == (env : Int)) rs with alive := rs.alive.set env false, kept := rs.kept.set env none }, by simp, mark_map _ _, rfl, rfl, rfl⟩
    apply List.ext_getElem?
    intro i
    rw [List.getElem?_set]
    by_cases e : env = i
    · subst e
      rw [if_pos rfl, if_pos (by omega)]
      unfold alAt at ha
      cases hx : rs.alive[env]? with
      | none => rw [hx] at ha; simp at ha
      | some x => rw [hx] at ha; simp at ha; rw [ha]
    · rw [if_neg e]

set_option maxHeartbeats 2000000 in
set_option maxRecDepth 100000 in
theorem bspawn_any (P : Api M) (hp : M own 2 w m rs) (hb : BRep own 1 w b m s rs vM) (hs : SOk rs) (hf : RFix rs nk) (hN : rs.rights.length ≤ N) (hm : (N + 2) * 48 ≤ 140737488355328) (env : Nat) (he : env < rs.ne) :
    Calls Try.prog 20 #[.pointer (some ⟨b, 0, none⟩), .int .i64 env, .bool false] w fun e w' => e = .returned (.bool true) ∧ BRes M own w w' b m s (spawnR rs env).2 := by
  have hF : Few rs := by unfold Few; omega
  have h4 := hf.ne
  have c0 := hb.c0
  have hi0 : (0 : Int) ≤ (env : Int) := by omega
  have hi1 : (env : Int) < 4 := by omega
  go_enter Try.func20, Try.ntmps20
  go_wp2_with fail
  refine (P.spawn hp hs hF env ⟨by omega, by omega⟩).mono ?_
  rintro e w1 ⟨rfl, hn⟩
  obtain ⟨own1, hp1, hb1, ho1, ht1⟩ := book_mid hb hn
  have ka := hb1.cal env (by omega)
  have kf := hb1.blk.frozen (5 + env)
  have hp2 := M_setB P (j := 5 + env) (u := .bool true) hp1 hb1.tb
  have hb2 := hb1.setAl env true (by rw [hf.al]; exact he) (by omega)
  have ht2 := ht1.setCell (p := ⟨b, 5 + env, none⟩) (touchB hb ho1 hb1) (.bool true)
  rcases live_cases hf.al env he with ⟨ha, hx, hset, -⟩ | ⟨ha, hx, -⟩
  · have HX : Hid (spawnR rs env = (3, rs)) := hx
    rw [HX.out]
    rw [ha] at ka
    clear hx ha
    go_wp2_with fail
    go_ret
    exact ⟨rfl, own1, vM, hp2, by rw [HX.out]; exact hb2.congr rfl hset.symm rfl rfl, ho1, ht2⟩
  · have HX : Hid (spawnR rs env = (0, { rs with alive := rs.alive.set env true })) := hx
    rw [HX.out]
    rw [ha] at ka
    clear hx ha
    go_wp2_with fail
    go_ret
    exact ⟨rfl, own1, vM, hp2, by rw [HX.out]; exact hb2, ho1, ht2⟩

set_option maxHeartbeats 4000000 in
set_option maxRecDepth 100000 in
theorem bkill_any (P : Api M) (hp : M own 2 w m rs) (hb : BRep own 1 w b m s rs vM) (hs : SOk rs) (hf : RFix rs nk) (hN : rs.rights.length ≤ N) (hm : (N + 2) * 48 ≤ 140737488355328) (env : Nat) (he : env < rs.ne) :
    Calls Try.prog 20 #[.pointer (some ⟨b, 0, none⟩), .int .i64 env, .bool true] w fun e w' => e = .returned (.bool true) ∧ BRes M own w w' b m s (killR rs env).2 := by
  have hF : Few rs := by unfold Few; omega
  have h4 := hf.ne
  have c0 := hb.c0
  have hi0 : (0 : Int) ≤ (env : Int) := by omega
  have hi1 : (env : Int) < 4 := by omega
  go_enter Try.func20, Try.ntmps20
  go_wp2_with fail
  refine (P.kill hp hs hF env ⟨by omega, by omega⟩).mono ?_
  rintro e w1 ⟨rfl, hn⟩
  obtain ⟨own1, hp1, hb1, ho1, ht1⟩ := book_mid hb hn
  have ka := hb1.cal env (by omega)
  rcases live_cases hf.al env he with ⟨ha, -, -, s', hx, q1, q2, q3, q4⟩ | ⟨ha, -, hx⟩
  rotate_left
  · have HX : Hid (killR rs env = (2, rs)) := hx
    rw [HX.out]
    rw [ha] at ka
    clear hx ha
    go_wp2_with fail
    go_ret
    exact ⟨rfl, own1, vM, hp1, by rw [HX.out]; exact hb1, ho1, ht1⟩
  · have HX : Hid (killR rs env = (0, s')) := hx
    rw [HX.out]
    rw [ha] at ka
    have hbl := hb.blk.lt
    have hbt := hb.tb
    obtain ⟨ao, cap, hv, hcase⟩ := hb1.row.shape'
    have Hv : Hid (vM = .slice ao rs.rights.length cap) := hv
    clear hx ha hv c0
    go_wp2_with fail
    go_loopg [10] rs.rights.length (fun k x wr => ∃ q : Nat, x = .int .i64 q ∧ q + k = rs.rights.length ∧ M own1 2 wr m (killR rs env).2 ∧ BRep own1 1 wr b m s (endTo (fun i => (rs.rights[i]?.map fun r => r.env == (env : Int)).getD false) rs q) vM ∧ Touch w.heap.size (fun x => (own x).1 = 1 ∨ (own x).1 = 2) w wr)
    case atStart => exact ⟨0, rfl, by omega, hp1, by rw [endTo_zero]; exact hb1, ht1⟩
    case round =>
      clear hp1 hb1 ht1 ka
      obtain ⟨q, rfl, hk, hp1, hb1, ht1⟩ := hrel
      have HK : Hid (q + gk = rs.rights.length) := hk
      have hq : q ≤ rs.rights.length := by omega
      clear hk
      have k4 := hb1.c4
      rw [Hv.out] at k4
      by_cases hlt : q < rs.rights.length
      · obtain ⟨r2, hr2⟩ : ∃ r, rs.rights[q]? = some r := ⟨rs.rights[q], by simp⟩
        have hr3 : (endTo (fun i => (rs.rights[i]?.map fun r => r.env == (env : Int)).getD false) rs q).rights[q]? = some r2 := by rw [endTo_at]; exact hr2
        obtain ⟨g, capr, hvr, hg, d0, _, _, d3, hfz⟩ := hb1.right hr3
        rw [Hv.out, endTo_len] at hvr
        simp at hvr
        obtain ⟨rfl, rfl⟩ := hvr
        have hi2 : (0 : Int) ≤ (q : Int) := by omega
        have hi3 : (q : Int) < (rs.rights.length : Int) := by omega
        have hfq := hfz (q * 4 + 3)
        have hne : g ≠ b := fun e => by have := hb1.tb; rw [← e, hg] at this; simp at this
        have hne' : b ≠ g := fun e => hne e.symm
        have hS : (own g).1 = 1 ∨ (own g).1 = 2 ∨ w.heap.size ≤ g := by
          by_cases hh : g < w.heap.size
          · left; rw [← ho1 g hh, hg]
          · right; right; omega
        cases hqj : (r2.env == (env : Int))
        · have HW : Hid (endTo (fun i => (rs.rights[i]?.map fun r => r.env == (env : Int)).getD false) rs (q + 1) = endTo (fun i => (rs.rights[i]?.map fun r => r.env == (env : Int)).getD false) rs q) := endTo_no (by simp [hr2, hqj])
          clear hr2 hr3 hcase hfz
          go_wp2_with fail
          go_roundg (gk - 1)
          case measure => have := HK.out; omega
          case rel => exact ⟨q + 1, by go_num, by have := HK.out; omega, hp1, by rw [HW.out]; exact hb1, ht1⟩
        · have HW : Hid (endTo (fun i => (rs.rights[i]?.map fun r => r.env == (env : Int)).getD false) rs (q + 1) = { endTo (fun i => (rs.rights[i]?.map fun r => r.env == (env : Int)).getD false) rs q with rights := (endTo (fun i => (rs.rights[i]?.map fun r => r.env == (env : Int)).getD false) rs q).rights.set q r2.end }) := endTo_yes hr2 (by simp [hr2, hqj])
          have hp2 := M_setG P (j := q * 4 + 3) (u := .bool true) hp1 hg
          have hb2 := hb1.setEnd (cap := cap) (by rw [Hv.out, endTo_len]) hr3
          clear hr2 hr3 hcase hfz
          go_wp2_with fail
          go_roundg (gk - 1)
          case measure => have := HK.out; omega
          case rel => exact ⟨q + 1, by go_num, by have := HK.out; omega, hp2, by rw [HW.out]; exact hb2, ht1.setCell (p := ⟨g, q * 4 + 3, none⟩) (by rcases hS with h | h | h; exact .inl (.inl h); exact .inl (.inr h); exact .inr h) _⟩
      · obtain rfl : q = rs.rights.length := by omega
        have ka := hb1.cal env (by omega)
        have kf := hb1.blk.frozen (5 + env)
        have hp2 := M_setB P (j := 5 + env) (u := .bool false) hp1 hb1.tb
        have hb2 := hb1.setAl env false (by show env < rs.alive.length; rw [hf.al]; exact he) (by omega)
        have ht2 := ht1.setCell (p := ⟨b, 5 + env, none⟩) (.inl (.inl (by show (own b).1 = 1; rw [hbt]))) (.bool false)
        go_wp2_with fail
        go_ret
        exact ⟨rfl, own1, vM, hp2, by rw [HX.out]; exact hb2.congr (q1.trans (endTo_all _ _).symm) q2 q3 q4, ho1, ht2⟩
end
end Go.Proofs.Ytinlkcmdbjcofaa

/-
  Where a right stands in what Rights tells.
-/
namespace Go.Proofs.Ytinlkcmdbjcofaa
set_option linter.unusedVariables false

section
variable {rs : RSt} {env : Int}
theorem listTo_pre (rs : RSt) (env : Int) (q : Nat) : ∀ d, ∃ t, listTo rs env (q + d) = listTo rs env q ++ t := by
  intro d
  induction d with
  | zero => exact ⟨[], by simp⟩
  | succ d ih =>
    obtain ⟨t, ht⟩ := ih
    cases hr : rs.rights[q + d]? with
    | none =>
      refine ⟨t, ?_⟩
      rw [← ht]
      unfold listTo
      rw [show q + (d + 1) = (q + d) + 1 by omega, List.range_succ, List.filterMap_append]
      simp [hr]
    | some r =>
      rw [show q + (d + 1) = (q + d) + 1 by omega, listTo_succ rs env _ r hr, ht, List.append_assoc]
      exact ⟨_, rfl⟩

/-- Where a right that is alive stands in the list of its environment. -/
theorem listR_at {i : Nat} {r : RR} (hr : rs.rights[i]? = some r) (hl : lv rs.rights i = true) (he : r.env = env) : (listR rs env)[(listTo rs env i).length]? = some r := by
  have hi := (List.getElem?_eq_some_iff.1 hr).1
  obtain ⟨t, ht⟩ := listTo_pre rs env (i + 1) (rs.rights.length - (i + 1))
  rw [show i + 1 + (rs.rights.length - (i + 1)) = rs.rights.length by omega] at ht
  unfold listR
  rw [ht, listTo_succ rs env i r hr, hl]
  simp [he]
theorem listTo_lt {i : Nat} {r : RR} (hr : rs.rights[i]? = some r) (hl : lv rs.rights i = true) (he : r.env = env) : (listTo rs env i).length < (listR rs env).length := (List.getElem?_eq_some_iff.1 (listR_at hr hl he)).1

/-- Which right stands at place k of the list. -/
theorem listTo_find (rs : RSt) (env : Int) : ∀ (n k : Nat) (r : RR), (listTo rs env n)[k]? = some r → ∃ i, i < n ∧ rs.rights[i]? = some r ∧ lv rs.rights i = true ∧ r.env = env ∧ (listTo rs env i).length = k := by
  intro n
  induction n with
  | zero => intro k r h; simp [listTo] at h
  | succ n ih =>
    intro k r h
    cases hr : rs.rights[n]? with
    | none =>
      have : listTo rs env (n + 1) = listTo rs env n := by
        unfold listTo
        rw [List.range_succ, List.filterMap_append]
        simp [hr]
      rw [this] at h
      obtain ⟨i, h1, h2⟩ := ih k r h
      exact ⟨i, by omega, h2⟩
    | some x =>
      rw [listTo_succ rs env n x hr] at h
      cases hc : (lv rs.rights n && x.env == env) with
      | false =>
        rw [hc] at h
        simp at h
        obtain ⟨i, h1, h2⟩ := ih k r h
        exact ⟨i, by omega, h2⟩
      | true =>
        rw [hc] at h
        simp only [if_true] at h
        rcases getApp h with h | ⟨h1, h2⟩
        · obtain ⟨i, h1, h2⟩ := ih k r h
          exact ⟨i, by omega, h2⟩
        · subst h2
          simp at hc
          exact ⟨n, by omega, hr, hc.1, hc.2, h1.symm⟩

theorem listTo_mono {i j : Nat} {r : RR} (hij : i < j) (hr : rs.rights[i]? = some r) (hl : lv rs.rights i = true) (he : r.env = env) : (listTo rs env i).length < (listTo rs env j).length := by
  obtain ⟨t, ht⟩ := listTo_pre rs env (i + 1) (j - (i + 1))
  rw [show i + 1 + (j - (i + 1)) = j by omega] at ht
  rw [ht, listTo_succ rs env i r hr, hl]
  simp [he]
end

end Go.Proofs.Ytinlkcmdbjcofaa

namespace Go.Proofs.Ytinlkcmdbjcofaa
open Go.RowKit
set_option linter.unusedVariables false
attribute [local go_sem ↓] Go.wp_at_zero Go.wp_at_succ

section
variable {own own1 : Nat → Nat × Nat} {w w1 w2 : World} {b m s : Nat} {rs rs' : RSt} {t t' : RSt} {nk N : Nat} {vM : Value} {M : MT}

set_option maxHeartbeats 4000000 in
set_option maxRecDepth 100000 in
theorem btold_any (P : Api M) (hp : M own 2 w m rs) (hb : BRep own 1 w b m s rs vM) (hs : SOk rs) (hf : RFix rs nk) (hN : rs.rights.length ≤ N) (hm : (N + 2) * 48 ≤ 140737488355328) (env : Nat) (he : env < rs.ne) :
    Calls Try.prog 8 #[.pointer (some ⟨b, 0, none⟩), .int .i64 env] w fun e w' => e = .returned (.bool true) ∧ Below w.heap.size w w' := by
  have hF : Few rs := by unfold Few; omega
  have h4 := hf.ne
  have hnf := hf.nf
  have c0 := hb.c0
  have hi0 : (0 : Int) ≤ (env : Int) := by omega
  have hi1 : (env : Int) < 4 := by omega
  have hal : aliveB rs env = alAt rs env := by unfold aliveB alAt; simp [he]
  go_enter Try.func8, Try.ntmps8
  go_wp2_with fail
  refine (P.rights hp hs hF env ⟨by omega, by omega⟩).mono ?_
  rintro e w1 ⟨v, rfl, hb1, -, hrow⟩
  have hB := hb.below hb1
  have ka := hB.cal env (by omega)
  have hle := toldR_le rs env
  obtain ⟨ao, cap, hv, hcase⟩ := hrow.shape'
  subst hv
  cases ha : alAt rs env
  · have hL : toldR rs env = [] := by unfold toldR; rw [hal, ha]; rfl
    have hE : liveE rs env = 2 := by unfold liveE; rw [hal, ha]; rfl
    rw [hL] at *
    rw [hE]
    rw [ha] at ka
    clear hE hL
    go_wp2_with fail
    go_ret
    exact ⟨rfl, hb1⟩
  · have hL : toldR rs env = listR rs env := by unfold toldR; rw [hal, ha]; rfl
    have hE : liveE rs env = 0 := by unfold liveE; rw [hal, ha]; rfl
    rw [hL] at hrow hle hcase ⊢
    rw [hE]
    rw [ha] at ka
    obtain ⟨n, hn⟩ : ∃ n, (listR rs env).length = n := ⟨_, rfl⟩
    have HN : Hid ((listR rs env).length = n) := hn
    rw [hn] at hle hcase hrow ⊢
    clear hE hL hn
    have k1 := hB.c1
    have k4 := hB.c4
    obtain ⟨aoM, capM, hvM, hcM⟩ := hB.row.shape'
    rw [hvM] at k4
    have Hv : Hid (vM = .slice aoM rs.rights.length capM) := hvM
    clear hvM
    go_wp2_with fail
    go_loopg [7, 8] rs.rights.length (fun k kv x wr => ∃ q : Nat, x = .int .i64 q ∧ q + k = rs.rights.length ∧ kv = .int .i64 ((listTo rs env q).length : Nat) ∧ Below w1.heap.size w1 wr)
    case atStart => exact ⟨0, rfl, by omega, rfl, Below.refl _ _⟩
    case round =>
      obtain ⟨q, rfl, hk, rfl, hbl⟩ := hrel
      have HK : Hid (q + gk = rs.rights.length) := hk
      have hq : q ≤ rs.rights.length := by omega
      clear hk
      have hlq := listTo_le rs env q
      have hB2 := hB.below hbl
      have j1 := hB2.c1
      have j4 := hB2.c4
      rw [Hv.out] at j4
      have hrow2 := hrow.below hbl
      by_cases hlt : q < rs.rights.length
      · obtain ⟨r, hr⟩ : ∃ r, rs.rights[q]? = some r := ⟨rs.rights[q], by simp⟩
        obtain ⟨g, capr, hvr, _, d0, d1, d2, d3, _⟩ := hB2.right hr
        rw [Hv.out] at hvr
        simp at hvr
        obtain ⟨rfl, rfl⟩ := hvr
        have HS : Hid (listTo rs env (q + 1) = listTo rs env q ++ (if lv rs.rights q && r.env == (env : Int) then [r] else [])) := listTo_succ rs env q r hr
        have hq0 : (0 : Int) ≤ (q : Int) := by omega
        have hq1 : (q : Int) < (rs.rights.length : Int) := by omega
        go_wp2_with fail
        refine (bliving_any hB2 hs.inv.ord (by omega) q (by omega) (by omega)).mono ?_
        rintro e w3 ⟨rfl, hw3⟩
        subst hw3
        cases hl : lv rs.rights q
        · have HW : Hid (listTo rs env (q + 1) = listTo rs env q) := by have := HS.out; rw [hl] at this; simpa [Hid] using this
          clear hr HS
          go_wp2_with fail
          go_roundg (gk - 1)
          case measure => have := HK.out; omega
          case rel => exact ⟨q + 1, by go_num, by have := HK.out; omega, by rw [HW.out], hbl⟩
        · cases hee : (r.env == (env : Int))
          · have HW : Hid (listTo rs env (q + 1) = listTo rs env q) := by have := HS.out; rw [hl, hee] at this; simpa [Hid] using this
            have hne : (r.env != (env : Int)) = true := by simpa using hee
            clear hr HS
            go_wp2_with fail
            go_roundg (gk - 1)
            case measure => have := HK.out; omega
            case rel => exact ⟨q + 1, by go_num, by have := HK.out; omega, by rw [HW.out], hbl⟩
          · have HW : Hid (listTo rs env (q + 1) = listTo rs env q ++ [r]) := by have := HS.out; rw [hl, hee] at this; simpa [Hid] using this
            have hee' : r.env = env := by simpa using hee
            have hne : (r.env != (env : Int)) = false := by simpa using hee'
            have hat := listR_at hr hl hee'
            have hlt2 := listTo_lt hr hl hee'
            rw [HN.out] at hlt2
            obtain ⟨c, hcc⟩ : ∃ c, (listTo rs env q).length = c := ⟨_, rfl⟩
            have HC : Hid ((listTo rs env q).length = c) := hcc
            rw [hcc] at hat hlt2 hlq ⊢
            have hfr := hs.inv.fr q r hr
            have hhd := hs.inv.hnd q r hr
            rcases hcase with h0 | ⟨g2, rfl⟩
            · omega
            have cc : ∀ j, j < 4 → w3.cell? ⟨g2, c * 4 + j, none⟩ = (rcells r)[j]? := fun j hj => by rw [hrow2.cellAt' _ (by omega), flat_get rcells 4 (fun _ => rfl) (listR rs env) c j r hat hj]
            have u0 := (cc 0 (by omega)).trans (show _ = some (.int .i64 r.h) from rfl)
            have u1 := (cc 1 (by omega)).trans (show _ = some (.int .i64 r.env) from rfl)
            have u2 := (cc 2 (by omega)).trans (show _ = some (.int .i64 r.fr) from rfl)
            have u3 := (cc 3 (by omega)).trans (show _ = some (.bool r.wr) from rfl)
            rw [hhd] at u0
            simp only [Nat.add_zero] at u0
            have z0 : (((q : Int) + 1) != ((q : Int) + 1)) = false := by simp
            have z1 : (r.wr != r.wr) = false := by simp
            have z2 := hfr.1
            have z3 := hfr.2
            have hc0 : (0 : Int) ≤ (c : Int) := by omega
            have hc1 : (c : Int) < (n : Int) := by omega
            have y1 : decide ((n : Int) ≤ (c : Int)) = false := decide_eq_false (by omega)
            have y2 : decide (n ≤ c) = false := decide_eq_false (by omega)
            have y3 : decide (r.fr < 0) = false := decide_eq_false (by omega)
            have y4 : decide ((rs.nf : Int) ≤ r.fr) = false := decide_eq_false (by omega)
            clear hr HS hat cc hhd hfr hcc hcM hee hee' hrow hrow2
            go_wp2_with fail
            go_quiet (fail)
            go_wp2_with fail
            go_roundg (gk - 1)
            case measure => have := HK.out; omega
            case rel => exact ⟨q + 1, by go_num, by have := HK.out; omega, by rw [HW.out, List.length_append, HC.out]; go_num, below_drewN hbl _⟩
      · obtain rfl : q = rs.rights.length := by omega
        have hnn : (listTo rs env rs.rights.length).length = n := HN.out
        have hbe : ((n : Int) == (n : Int)) = true := by simp
        rw [hnn]
        clear hnn
        go_wp2_with fail
        go_ret
        exact ⟨rfl, hb1.trans (hbl.mono hb1.size)⟩
end
end Go.Proofs.Ytinlkcmdbjcofaa

/-
  'marks': every place is written, and sixteen behind the last.
-/
namespace Go.Proofs.Ytinlkcmdbjcofaa
open Go.RowKit
set_option linter.unusedVariables false

/-- A list of one kind while it is marked: v: the slice that is appended to; v0: the list itself; vM: the slices that came of it. -/
structure Grp (own : Nat → Nat × Nat) (w : World) (t tM : Nat × Nat) (e eS k : Nat) (c : List Value) (v v0 vM : Value) (a m : Nat) (xs : List Value) : Prop where
  row : Row w v e k a (List.replicate a c).flatten
  tg : Tg own v t
  s0 : SA own t w c k a v0
  more : Row w vM eS 1 m xs
  tgM : Tg own vM tM
  all : ∀ x, x ∈ xs → SA own t w c k a x

section
variable {own own' : Nat → Nat × Nat} {w w' : World} {t tM : Nat × Nat} {e eS k : Nat} {c : List Value} {v v0 vM : Value} {a m : Nat} {xs : List Value}

theorem Grp.of (h : Grp own w t tM e eS k c v v0 vM a m xs) (ho : ∀ b, b < w.heap.size → own' b = own b) (hs : w.heap.size ≤ w'.heap.size) (hk : ∀ b, b < w.heap.size → own b = t ∨ own b = tM → w'.heap[b]? = w.heap[b]?) : Grp own' w' t tM e eS k c v v0 vM a m xs := by
  have hc : ∀ b, b < w.heap.size → own b = t → ∀ j, j < a * k → w'.cell? ⟨b, j, none⟩ = w.cell? ⟨b, j, none⟩ := fun b hb ht j _ => World.cell?_of_block (a := ⟨b, j, none⟩) (hk b hb (.inl ht))
  exact ⟨h.row.kept h.tg (fun b hb ht => hk b hb (.inl ht)), h.tg.congr h.row ho, h.s0.of ho hs hc, h.more.kept h.tgM (fun b hb ht => hk b hb (.inr ht)), h.tgM.congr h.more ho, fun x hx => (h.all x hx).of ho hs hc⟩

theorem rep_flat (a : Nat) (c : List Value) (i j : Nat) (hi : i < a) (hj : j < c.length) : (List.replicate a c).flatten[i * c.length + j]? = c[j]? := by
  have := flat_get (fun x : List Value => if x.length = c.length then x else c) c.length (fun x => by split <;> simp_all) (List.replicate a c) i j c (by simp [hi]) hj
  simp only [if_true] at this
  rw [← this]
  congr 1
  rw [List.flatMap_def]
  congr 1
  simp

/-- One element more is appended. -/
theorem Grp.app {o1 : Obj} {g cap : Nat} (h : Grp own w t tM e eS k c v v0 vM a m xs) (hkc : c.length = k) (hne : t ≠ tM)
    (hown : w'.ownsRow 0 e k (.slice (some ⟨g, 0, none⟩) (a + 1) cap) (a + 1) ((List.replicate a c).flatten ++ c)) (hg : (w.alloc o1).grownBy w' v.ownBlock) (hat : v.ownBlock = some g ∨ g = w.heap.size + 1)
    (hold : ∀ b, v.ownBlock = some b → ∀ j, j < a * k → w'.cell? ⟨b, j, none⟩ = (w.alloc o1).cell? ⟨b, j, none⟩) :
    Grp (set1 own (w.heap.size + 1) t) w' t tM e eS k c (.slice (some ⟨g, 0, none⟩) (a + 1) cap) v0 vM (a + 1) m xs := by
  have ho : ∀ b, b < w.heap.size → set1 own (w.heap.size + 1) t b = own b := set1_old (by omega)
  have hs : w.heap.size ≤ w'.heap.size := by have := hg.size; simp at this; omega
  have hblk : ∀ b, b < w.heap.size → v.ownBlock ≠ some b → w'.heap[b]? = w.heap[b]? := fun b hb hn => by
    rw [hg.block b (by simp; omega) (fun e => hn e.symm), Below.heap_alloc _ _ _ hb]
  have hc : ∀ b, b < w.heap.size → own b = t → ∀ j, j < a * k → w'.cell? ⟨b, j, none⟩ = w.cell? ⟨b, j, none⟩ := fun b hb ht j hj => by
    by_cases hv : v.ownBlock = some b
    · rw [hold b hv j hj]
      exact World.cell?_of_block (a := ⟨b, j, none⟩) (Below.heap_alloc _ _ _ hb)
    · exact World.cell?_of_block (a := ⟨b, j, none⟩) (hblk b hb hv)
  refine ⟨?_, h.tg.app (fun b hb => by have := h.row.lt b hb; omega) hat, (h.s0.of ho hs hc).mono (by omega), h.more.kept h.tgM (fun b hb ht => hblk b hb (fun e => hne ((h.tg b e).symm.trans ht))), h.tgM.congr h.more ho, fun x hx => ((h.all x hx).of ho hs hc).mono (by omega)⟩
  have : (List.replicate (a + 1) c).flatten = (List.replicate a c).flatten ++ c := by rw [List.replicate_succ']; simp
  rw [this]
  exact hown

/-- The slice itself, all of whose elements are marked. -/
theorem Grp.self {g cap : Nat} (h : Grp own w t tM e eS k c (.slice (some ⟨g, 0, none⟩) a cap) v0 vM a m xs) (hkc : c.length = k) : SA own t w c k a (.slice (some ⟨g, 0, none⟩) a cap) := by
  refine ⟨_, a, cap, g, rfl, Nat.le_refl _, .inr ⟨rfl, h.tg g rfl, h.row.lt g rfl, fun i j hi hj => ?_⟩⟩
  have hlt : i * k + j < a * k := by
    have : (i + 1) * k ≤ a * k := Nat.mul_le_mul_right k (by omega)
    rw [Nat.add_mul] at this; omega
  rw [h.row.cellAt' _ hlt, ← hkc, rep_flat a c i j hi (by omega)]

/-- The slice goes into the list of those that came of it, which is stored into the struct at hb. -/
theorem Grp.push {o1 : Obj} {g cap gM capM hb j : Nat} {u : Value} (h : Grp own w t tM e eS k c (.slice (some ⟨g, 0, none⟩) a cap) v0 vM a m xs) (hkc : c.length = k) (hne : t ≠ tM) (hhb : own hb ≠ t) (hhb2 : own hb ≠ tM) (hhl : hb < w.heap.size)
    (hown : w'.ownsRow 0 eS 1 (.slice (some ⟨gM, 0, none⟩) (m + 1) capM) (m + 1) (xs ++ [.slice (some ⟨g, 0, none⟩) a cap])) (hg : (w.alloc o1).grownBy w' vM.ownBlock) (hat : vM.ownBlock = some gM ∨ gM = w.heap.size + 1) :
    Grp (set1 own (w.heap.size + 1) tM) (w'.setCell ⟨hb, j, none⟩ u) t tM e eS k c (.slice (some ⟨g, 0, none⟩) a cap) v0 (.slice (some ⟨gM, 0, none⟩) (m + 1) capM) a (m + 1) (xs ++ [.slice (some ⟨g, 0, none⟩) a cap]) := by
  have ho : ∀ b, b < w.heap.size → set1 own (w.heap.size + 1) tM b = own b := set1_old (by omega)
  have hs : w.heap.size ≤ (w'.setCell ⟨hb, j, none⟩ u).heap.size := by have := hg.size; simp at this ⊢; omega
  have hblk : ∀ b, b < w.heap.size → own b = t → (w'.setCell ⟨hb, j, none⟩ u).heap[b]? = w.heap[b]? := fun b hb' ht => by
    rw [Below.heap_setCell _ _ _ _ (fun e => hhb (by rw [← ht, e])), hg.block b (by simp; omega) (fun e => hne (ht.symm.trans (h.tgM b e.symm))), Below.heap_alloc _ _ _ hb']
  have hc : ∀ b, b < w.heap.size → own b = t → ∀ j', j' < a * k → (w'.setCell ⟨hb, j, none⟩ u).cell? ⟨b, j', none⟩ = w.cell? ⟨b, j', none⟩ := fun b hb' ht j' _ => World.cell?_of_block (a := ⟨b, j', none⟩) (hblk b hb' ht)
  refine ⟨h.row.kept h.tg hblk, h.tg.congr h.row ho, h.s0.of ho hs hc, ?_, h.tgM.app (fun b hb' => by have := h.more.lt b hb'; omega) hat, fun x hx => ?_⟩
  · refine Row.other (w := w') hown u (fun e => ?_)
    simp [Value.ownBlock] at e
    rcases hat with h1 | h1
    · exact hhb2 (by rw [← e]; exact h.tgM gM h1)
    · omega
  · rcases List.mem_append.1 hx with hx | hx
    · exact (h.all x hx).of ho hs hc
    · simp at hx
      subst hx
      exact (h.self hkc).of ho hs hc
end

section
variable {own own' : Nat → Nat × Nat} {id : Nat} {w w' : World} {hb br be : Nat} {n : Int} {vI vMI vR vMR vE vME v7 v8 v9 : Value} {a b c mi mr me : Nat} {xI xR xE : List Value}

end
end Go.Proofs.Ytinlkcmdbjcofaa

namespace Go.Proofs.Ytinlkcmdbjcofaa
open Go.RowKit
set_option linter.unusedVariables false
attribute [local go_sem ↓] Go.wp_at_zero Go.wp_at_succ

section
variable {own : Nat → Nat × Nat} {id : Nat} {w w' : World} {hb br be : Nat} {n : Int} {vI vR vE : Value} {nI nR nE : Nat} {lI lR lE : List Value}

end

/-- The first q elements are marked. -/
def mkTo (c : List Value) (k : Nat) (l : List Value) (q : Nat) : List Value := (List.replicate q c).flatten ++ l.drop (q * k)
theorem mkTo_zero (c : List Value) (k : Nat) (l : List Value) : mkTo c k l 0 = l := by simp [mkTo]
theorem mkTo_all (c : List Value) (k n : Nat) (l : List Value) (h : l.length = n * k) : mkTo c k l n = (List.replicate n c).flatten := by simp [mkTo, ← h]
theorem mkTo_len (c : List Value) (k q : Nat) (l : List Value) (hc : c.length = k) (h : q * k ≤ l.length) : (mkTo c k l q).length = l.length := by
  simp [mkTo, hc]; omega
theorem rep_len (c : List Value) (q : Nat) : (List.replicate q c).flatten.length = q * c.length := by simp
theorem mkTo1 (x : Value) (l : List Value) (q : Nat) (h : q < l.length) : (mkTo [x] 1 l q).set q x = mkTo [x] 1 l (q + 1) := by
  unfold mkTo
  rw [List.set_append_right _ _ (by rw [rep_len]; simp), List.replicate_succ', List.flatten_append, List.append_assoc, rep_len]
  congr 1
  simp only [List.length_singleton, Nat.mul_one, Nat.sub_self]
  rw [List.drop_eq_getElem_cons h]
  rfl
theorem drop4 {l : List Value} {q : Nat} (h : q * 4 + 4 ≤ l.length) : ∃ a b c d, l.drop (q * 4) = a :: b :: c :: d :: l.drop ((q + 1) * 4) := by
  refine ⟨l[q * 4], l[q * 4 + 1], l[q * 4 + 2], l[q * 4 + 3], ?_⟩
  rw [List.drop_eq_getElem_cons (by omega), List.drop_eq_getElem_cons (by omega), List.drop_eq_getElem_cons (by omega), List.drop_eq_getElem_cons (by omega)]
  rw [show (q + 1) * 4 = q * 4 + 1 + 1 + 1 + 1 by omega]
theorem drop5 {l : List Value} {q : Nat} (h : q * 5 + 5 ≤ l.length) : ∃ a b c d e, l.drop (q * 5) = a :: b :: c :: d :: e :: l.drop ((q + 1) * 5) := by
  refine ⟨l[q * 5], l[q * 5 + 1], l[q * 5 + 2], l[q * 5 + 3], l[q * 5 + 4], ?_⟩
  rw [List.drop_eq_getElem_cons (by omega), List.drop_eq_getElem_cons (by omega), List.drop_eq_getElem_cons (by omega), List.drop_eq_getElem_cons (by omega), List.drop_eq_getElem_cons (by omega)]
  rw [show (q + 1) * 5 = q * 5 + 1 + 1 + 1 + 1 + 1 by omega]
theorem mkTo4 (x0 x1 x2 x3 : Value) (l : List Value) (q : Nat) (h : q * 4 + 4 ≤ l.length) :
    ((((mkTo [x0, x1, x2, x3] 4 l q).set (q * 4) x0).set (q * 4 + 1) x1).set (q * 4 + 2) x2).set (q * 4 + 3) x3 = mkTo [x0, x1, x2, x3] 4 l (q + 1) := by
  unfold mkTo
  obtain ⟨a, b, c, d, hd⟩ := drop4 h
  rw [hd, List.replicate_succ', List.flatten_append]
  have hl := rep_len [x0, x1, x2, x3] q
  simp only [List.length_cons, List.length_nil, Nat.zero_add, Nat.reduceAdd] at hl
  rw [List.set_append_right _ _ (by omega), List.set_append_right _ _ (by omega), List.set_append_right _ _ (by omega), List.set_append_right _ _ (by omega), hl]
  simp
theorem mkTo5 (x0 x1 x2 x3 x4 : Value) (l : List Value) (q : Nat) (h : q * 5 + 5 ≤ l.length) :
    (((((mkTo [x0, x1, x2, x3, x4] 5 l q).set (q * 5) x0).set (q * 5 + 1) x1).set (q * 5 + 2) x2).set (q * 5 + 3) x3).set (q * 5 + 4) x4 = mkTo [x0, x1, x2, x3, x4] 5 l (q + 1) := by
  unfold mkTo
  obtain ⟨a, b, c, d, e, hd⟩ := drop5 h
  rw [hd, List.replicate_succ', List.flatten_append]
  have hl := rep_len [x0, x1, x2, x3, x4] q
  simp only [List.length_cons, List.length_nil, Nat.zero_add, Nat.reduceAdd] at hl
  rw [List.set_append_right _ _ (by omega), List.set_append_right _ _ (by omega), List.set_append_right _ _ (by omega), List.set_append_right _ _ (by omega), List.set_append_right _ _ (by omega), hl]
  simp

end Go.Proofs.Ytinlkcmdbjcofaa

namespace Go.Proofs.Ytinlkcmdbjcofaa
open Go.RowKit
set_option linter.unusedVariables false
attribute [local go_sem ↓] Go.wp_at_zero Go.wp_at_succ

theorem Try.infoI : (Try.prog.info? 3).map (fun i => (i.zero, i.size, i.bytes)) = some (some (.int .i64 0), 1, 8) := by kernel_rfl
theorem Try.infoE : (Try.prog.info? 47).map (fun i => (i.zero, i.size, i.bytes)) = some (some (.agg #[.bool false, .int .i64 0, .int .i64 0, .int .i64 0, .bool false]), 5, 40) := by kernel_rfl
theorem Try.infoSI : (Try.prog.info? 63).map (fun i => (i.zero, i.size, i.bytes)) = some (some (.slice none 0 0), 1, 24) := by kernel_rfl
theorem Try.infoSR : (Try.prog.info? 56).map (fun i => (i.zero, i.size, i.bytes)) = some (some (.slice none 0 0), 1, 24) := by kernel_rfl
theorem Try.infoSE : (Try.prog.info? 44).map (fun i => (i.zero, i.size, i.bytes)) = some (some (.slice none 0 0), 1, 24) := by kernel_rfl

theorem Row.put {w : World} {g e k n cap : Nat} {xs : List Value} (h : Row w (.slice (some ⟨g, 0, none⟩) n cap) e k n xs) {j : Nat} (hj : j < n * k) : (∃ cx, w.cell? ⟨g, j, none⟩ = some cx) ∧ w.frozen? ⟨g, j, none⟩ = false := by
  have hl := h.len
  refine ⟨⟨xs[j]'(by omega), ?_⟩, World.ownsRow.frozenAt h j⟩
  rw [h.cellAt' j hj]
  simp

theorem oneCell_mI (n : Int) : ∀ u ∈ mI n, u.oneCell' = true := by intro u hu; simp [mI] at hu; subst hu; rfl
theorem oneCell_mR (n : Int) : ∀ u ∈ mR n, u.oneCell' = true := by intro u hu; simp [mR] at hu; rcases hu with rfl | rfl | rfl | rfl <;> rfl
theorem oneCell_mE (n : Int) : ∀ u ∈ mE n, u.oneCell' = true := by intro u hu; simp [mE] at hu; rcases hu with rfl | rfl | rfl | rfl | rfl <;> rfl

theorem touchTag {own own2 : Nat → Nat × Nat} {id B j : Nat} {v : Value} (ho : ∀ b, b < B → own2 b = own b) (ht : Tg own2 v (id, j)) : ∀ k, v.ownBlock = some k → (own k).1 = id ∨ B ≤ k := fun k hk => by
  by_cases hh : k < B
  · exact .inl (by rw [← ho k hh, ht k hk])
  · exact .inr (by omega)
theorem set1_keep {own own2 : Nat → Nat × Nat} {B x : Nat} {t : Nat × Nat} (ho : ∀ b, b < B → own2 b = own b) (hx : B ≤ x) : ∀ b, b < B → set1 own2 x t b = own b := fun b hb => (set1_old hx b hb).trans (ho b hb)

theorem touchOf {own : Nat → Nat × Nat} {id g B : Nat} (h : g < B → (own g).1 = id) : (own g).1 = id ∨ B ≤ g := by
  by_cases hh : g < B
  · exact .inl (h hh)
  · exact .inr (by omega)

end Go.Proofs.Ytinlkcmdbjcofaa
