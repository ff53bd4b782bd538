import Derived.Test.YtkonobbhohfjlaaBookC
namespace Go.Proofs.Ytkonobbhohfjlaa
open Go.RowKit
set_option linter.unusedVariables false
attribute [local go_sem ↓] Go.wp_at_zero Go.wp_at_succ

/-- Of the first q rights those of P are ended. -/
def endTo (P : Nat → Bool) (rs : RSt) (q : Nat) : RSt := { rs with rights := markAt (fun i => decide (i < q) && P i) rs.rights }

theorem endTo_zero (P : Nat → Bool) (rs : RSt) : endTo P rs 0 = rs := by
  unfold endTo
  have : markAt (fun i => decide (i < 0) && P i) rs.rights = rs.rights := by
    apply List.ext_getElem?
    intro i
    rw [markAt_get]
    simp
  rw [this]
theorem endTo_len (P : Nat → Bool) (rs : RSt) (q : Nat) : (endTo P rs q).rights.length = rs.rights.length := markAt_len _ _
theorem endTo_at (P : Nat → Bool) (rs : RSt) (q : Nat) : (endTo P rs q).rights[q]? = rs.rights[q]? := by
  unfold endTo
  simp only [markAt_get]
  simp
theorem endTo_yes {P : Nat → Bool} {rs : RSt} {q : Nat} {r : RR} (hr : rs.rights[q]? = some r) (h : P q = true) : endTo P rs (q + 1) = { endTo P rs q with rights := (endTo P rs q).rights.set q r.end } := by
  unfold endTo
  simp only
  congr 1
  apply List.ext_getElem?
  intro i
  have hq := (List.getElem?_eq_some_iff.1 hr).1
  rw [List.getElem?_set, markAt_get, markAt_get, markAt_len]
  by_cases e : q = i
  · subst e
    rw [if_pos rfl, if_pos hq, hr]
    simp [h]
  · rw [if_neg e]
    congr 1
    funext x
    have : decide (i < q + 1) = decide (i < q) := by rw [Bool.eq_iff_iff]; simp; omega
    rw [this]
theorem endTo_no {P : Nat → Bool} {rs : RSt} {q : Nat} (h : P q = false) : endTo P rs (q + 1) = endTo P rs q := by
  unfold endTo
  congr 2
  funext i
  by_cases e : i = q
  · subst e; simp [h]
  · have : decide (i < q + 1) = decide (i < q) := by rw [Bool.eq_iff_iff]; simp; omega
    rw [this]
theorem endTo_all (P : Nat → Bool) (rs : RSt) : (endTo P rs rs.rights.length).rights = markAt P rs.rights := by
  unfold endTo
  apply List.ext_getElem?
  intro i
  rw [markAt_get, markAt_get]
  cases hx : rs.rights[i]? with
  | none => rfl
  | some x =>
    have := (List.getElem?_eq_some_iff.1 hx).1
    simp [this]

section
variable {own own1 : Nat → Nat × Nat} {w w1 w2 : World} {b m s : Nat} {rs rs' : RSt} {ps ps' : PSt} {nk N : Nat} {vE vF vL vM : Value}

theorem BRep.congr {id : Nat} (h : BRep own id w b m s rs vM) (h1 : rs'.rights = rs.rights) (h2 : rs'.alive = rs.alive) (h3 : rs'.ne = rs.ne) (h4 : rs'.nf = rs.nf) : BRep own id w b m s rs' vM := by
  refine ⟨?_, by rw [h1]; exact h.row, h.tb, h.tM⟩
  have : bcells m s rs' vM = bcells m s rs vM := by unfold bcells alAt; rw [h2, h3, h4]
  rw [this]; exact h.blk

theorem flat_setG (xs : List RR) (i : Nat) (r : RR) (hr : xs[i]? = some r) : (xs.set i r.end).flatMap gcells = (xs.flatMap gcells).set (i * 4 + 3) (.bool true) := by
  have hi := (List.getElem?_eq_some_iff.1 hr).1
  apply List.ext_getElem?
  intro p
  have hl := flat_length gcells 4 (fun _ => rfl) xs
  rw [flat_at gcells 4 (by omega) (fun _ => rfl)]
  simp only [List.getElem?_set, hl]
  by_cases hp : p / 4 = i
  · rw [if_pos hp.symm, if_pos (by omega)]
    by_cases h5 : p % 4 = 3
    · rw [if_pos (by omega), if_pos (by omega), h5]; rfl
    · rw [if_neg (by omega), flat_at gcells 4 (by omega) (fun _ => rfl), hp, hr]
      have : p % 4 = 0 ∨ p % 4 = 1 ∨ p % 4 = 2 := by omega
      rcases this with h | h | h <;> rw [h] <;> rfl
  · rw [if_neg (fun e => hp e.symm), if_neg (by omega), flat_at gcells 4 (by omega) (fun _ => rfl)]

/-- A right of the book ends. -/
theorem BRep.setEnd {g cap i : Nat} {r : RR} (h : BRep own1 1 w b m s rs vM) (hv : vM = .slice (some ⟨g, 0, none⟩) rs.rights.length cap) (hr : rs.rights[i]? = some r) :
    BRep own1 1 (w.setCell ⟨g, i * 4 + 3, none⟩ (.bool true)) b m s { rs with rights := rs.rights.set i r.end } vM := by
  have hg : own1 g = (1, 1) := h.tM g (by rw [hv]; rfl)
  refine ⟨h.blk.other _ (fun e => by have := h.tb; simp at e; rw [e, hg] at this; simp at this), ?_, h.tb, h.tM⟩
  have h1 := h.row
  rw [hv] at h1 ⊢
  simp only [List.length_set]
  rw [flat_setG _ _ _ hr]
  exact h1.set _ _
theorem PRep.setG {g j : Nat} {u : Value} (h : PRep own1 2 w m ps vE vF vL) (hg : own1 g = (1, 1)) : PRep own1 2 (w.setCell ⟨g, j, none⟩ u) m ps vE vF vL :=
  h.of (fun _ _ => rfl) (fun x hx ht => Below.heap_setCell _ _ _ _ (fun e => by simp at e; rw [e, hg] at ht; simp at ht))

theorem finish_cases (env : Nat) (hd : Int) :
    (∃ x, (rightE rs env hd).2 = x ∧ (x = 2 ∨ x = 9) ∧ dropR rs env hd = (x, rs) ∧ revokeR rs env hd = (x, rs)) ∨
    ∃ (j : Nat) (r : RR), hd = j + 1 ∧ rs.rights[j]? = some r ∧ (rightE rs env hd).2 = 0 ∧
      (∃ s', dropR rs env hd = (0, s') ∧ s'.rights = markAt (fun i => i == j) rs.rights ∧ s'.alive = rs.alive ∧ s'.ne = rs.ne ∧ s'.nf = rs.nf) ∧
      (∃ s', revokeR rs env hd = (0, s') ∧ s'.rights = markAt (fun i => (rs.rights[i]?.map fun r => r.frm == (j : Int)).getD false) rs.rights ∧ s'.alive = rs.alive ∧ s'.ne = rs.ne ∧ s'.nf = rs.nf) := by
  rcases rightE_cases rs env hd with ⟨x, h1, h3⟩ | ⟨j, r, h1, hrr, hd1, hee, hl, ha⟩
  · left
    have : x ≠ 0 := by omega
    exact ⟨x, by rw [h1], h3, by unfold dropR; rw [h1]; simp [this], by unfold revokeR; rw [h1]; simp [this]⟩
  · right
    exact ⟨j, r, hd1, hrr, by rw [h1], ⟨sweepS { rs with rights := rs.rights.set j r.end }, by unfold dropR; rw [h1]; simp [hrr], mark_set _ _ _ hrr, rfl, rfl, rfl⟩, ⟨sweepS (endIf (fun r => r.frm == (j : Int)) rs), by unfold revokeR; rw [h1]; simp, mark_map _ _, rfl, rfl, rfl⟩⟩

set_option maxHeartbeats 4000000 in
set_option maxRecDepth 100000 in
theorem bdrop_any (hp : PRep own 2 w m ps vE vF vL) (hb : BRep own 1 w b m s rs vM) (hs : Sim rs ps) (hf : RFix rs nk) (hN : rs.rights.length ≤ N) (hm : (N + 1) * 48 ≤ 140737488355328) (env : Nat) (he : env < rs.ne) (hd : Int) (hd0 : 0 ≤ hd) (hd1 : hd ≤ 9223372036854775807) :
    Calls Try.prog 20 #[.pointer (some ⟨b, 0, none⟩), .int .i64 env, .int .i64 hd, .bool true] w fun e w' => e = .returned (.bool true) ∧ BRes own w w' b m s (dropR rs env hd).2 (dropP ps env hd).2 := by
  have hwp := hf.pwf hs hN hm
  have h4 := hf.ne
  have c0 := hb.c0
  have HQ : Hid ((dropP ps env hd).1 = (dropR rs env hd).1) := (hs.drop env hd).1.symm
  rcases finish_cases (rs := rs) env hd with ⟨x, hx2, hx, hdr, -⟩ | ⟨j, r, hdj, hr, hx2, ⟨s', hdr, q1, q2, q3, q4⟩, -⟩
  · have HX : Hid (dropR rs env hd = (x, rs)) := hdr
    have HY : Hid ((rightE rs env hd).2 = x) := hx2
    clear hdr hx2
    rcases hx with rfl | rfl
    all_goals
      go_enter Try.func20, Try.ntmps20
      go_wp2_with fail
      refine (bmay_any hb hs.inv.ord (by omega) env he h4 hd hd0 hd1).mono ?_
      rintro e w3 ⟨rfl, hw3⟩
      subst hw3
      rw [HY.out]
      go_wp2_with fail
      refine (pdrop_any hp hwp env hd).mono ?_
      rintro e w1 ⟨rfl, hn⟩
      rw [HQ.out, HX.out]
      obtain ⟨own1, vE1, vF1, vL1, hp1, hb1, ho1, ht1⟩ := book_mid hb hn
      go_wp2_with fail
      go_ret
      exact ⟨rfl, own1, vE1, vF1, vL1, vM, hp1, by rw [HX.out]; exact hb1, ho1, ht1⟩
  · have HX : Hid (dropR rs env hd = (0, s')) := hdr
    have HY : Hid ((rightE rs env hd).2 = 0) := hx2
    clear hdr hx2
    have hd2 : hd - 1 = (j : Int) := by omega
    have hjl := (List.getElem?_eq_some_iff.1 hr).1
    clear hdj
    go_enter Try.func20, Try.ntmps20
    go_wp2_with fail
    refine (bmay_any hb hs.inv.ord (by omega) env he h4 hd hd0 hd1).mono ?_
    rintro e w3 ⟨rfl, hw3⟩
    subst hw3
    rw [HY.out]
    go_wp2_with fail
    refine (pdrop_any hp hwp env hd).mono ?_
    rintro e w1 ⟨rfl, hn⟩
    rw [HQ.out, HX.out]
    obtain ⟨own1, vE1, vF1, vL1, hp1, hb1, ho1, ht1⟩ := book_mid hb hn
    obtain ⟨ao, cap, hv, hcase⟩ := hb1.row.shape'
    have Hv : Hid (vM = .slice ao rs.rights.length cap) := hv
    clear hv
    go_wp2_with fail
    go_loopg [11] rs.rights.length (fun k x wr => ∃ q : Nat, x = .int .i64 q ∧ q + k = rs.rights.length ∧ PRep own1 2 wr m (dropP ps env hd).2 vE1 vF1 vL1 ∧ BRep own1 1 wr b m s (endTo (fun i => i == j) rs q) vM ∧ Touch w3.heap.size (fun x => (own x).1 = 1 ∨ (own x).1 = 2) w3 wr)
    case atStart => exact ⟨0, rfl, by omega, hp1, by rw [endTo_zero]; exact hb1, ht1⟩
    case round =>
      clear hp1 hb1 ht1
      obtain ⟨q, rfl, hk, hp1, hb1, ht1⟩ := hrel
      have HK : Hid (q + gk = rs.rights.length) := hk
      have hq : q ≤ rs.rights.length := by omega
      clear hk
      have k4 := hb1.c4
      rw [Hv.out] at k4
      by_cases hlt : q < rs.rights.length
      · obtain ⟨r2, hr2⟩ : ∃ r, rs.rights[q]? = some r := ⟨rs.rights[q], by simp⟩
        have hr3 : (endTo (fun i => i == j) rs q).rights[q]? = some r2 := by rw [endTo_at]; exact hr2
        obtain ⟨g, capr, hvr, hg, _, d1, _, d3, hfz⟩ := hb1.right hr3
        rw [Hv.out, endTo_len] at hvr
        simp at hvr
        obtain ⟨rfl, rfl⟩ := hvr
        have hi0 : (0 : Int) ≤ (q : Int) := by omega
        have hi1 : (q : Int) < (rs.rights.length : Int) := by omega
        have hfq := hfz (q * 4 + 3)
        have hne : g ≠ b := fun e => by have := hb1.tb; rw [← e, hg] at this; simp at this
        have hne' : b ≠ g := fun e => hne e.symm
        have hS : (own g).1 = 1 ∨ (own g).1 = 2 ∨ w3.heap.size ≤ g := by
          by_cases hh : g < w3.heap.size
          · left; rw [← ho1 g hh, hg]
          · right; right; omega
        by_cases hqj : q = j
        · subst hqj
          have hbe : ((q : Int) == (q : Int)) = true := by simp
          have HW : Hid (endTo (fun i => i == q) rs (q + 1) = { endTo (fun i => i == q) rs q with rights := (endTo (fun i => i == q) rs q).rights.set q r2.end }) := endTo_yes hr2 (by simp)
          have hp2 := hp1.setG (j := q * 4 + 3) (u := .bool true) hg
          have hb2 := hb1.setEnd (cap := cap) (by rw [Hv.out, endTo_len]) hr3
          clear hr hr2 hr3 hcase hfz
          go_wp2_with fail
          go_roundg (gk - 1)
          case measure => have := HK.out; omega
          case rel => exact ⟨q + 1, by go_num, by have := HK.out; omega, hp2, by rw [HW.out]; exact hb2, ht1.setCell (p := ⟨g, q * 4 + 3, none⟩) (by rcases hS with h | h | h; exact .inl (.inl h); exact .inl (.inr h); exact .inr h) _⟩
        · have hbe : ((q : Int) == (j : Int)) = false := by simp; omega
          have HW : Hid (endTo (fun i => i == j) rs (q + 1) = endTo (fun i => i == j) rs q) := endTo_no (by simpa using hqj)
          clear hr hr2 hr3 hcase hfz hqj
          go_wp2_with fail
          go_roundg (gk - 1)
          case measure => have := HK.out; omega
          case rel => exact ⟨q + 1, by go_num, by have := HK.out; omega, hp1, by rw [HW.out]; exact hb1, ht1⟩
      · obtain rfl : q = rs.rights.length := by omega
        go_wp2_with fail
        go_ret
        exact ⟨rfl, own1, vE1, vF1, vL1, vM, hp1, by rw [HX.out]; exact hb1.congr (q1.trans (endTo_all _ _).symm) q2 q3 q4, ho1, ht1⟩

set_option maxHeartbeats 4000000 in
set_option maxRecDepth 100000 in
theorem brevoke_any (hp : PRep own 2 w m ps vE vF vL) (hb : BRep own 1 w b m s rs vM) (hs : Sim rs ps) (hf : RFix rs nk) (hN : rs.rights.length ≤ N) (hm : (N + 1) * 48 ≤ 140737488355328) (env : Nat) (he : env < rs.ne) (hd : Int) (hd0 : 0 ≤ hd) (hd1 : hd ≤ 9223372036854775807) :
    Calls Try.prog 20 #[.pointer (some ⟨b, 0, none⟩), .int .i64 env, .int .i64 hd, .bool false] w fun e w' => e = .returned (.bool true) ∧ BRes own w w' b m s (revokeR rs env hd).2 (revokeP ps env hd).2 := by
  have hwp := hf.pwf hs hN hm
  have h4 := hf.ne
  have c0 := hb.c0
  have HQ : Hid ((revokeP ps env hd).1 = (revokeR rs env hd).1) := (hs.revoke env hd).1.symm
  rcases finish_cases (rs := rs) env hd with ⟨x, hx2, hx, -, hdr⟩ | ⟨j, r, hdj, hr, hx2, -, ⟨s', hdr, q1, q2, q3, q4⟩⟩
  · have HX : Hid (revokeR rs env hd = (x, rs)) := hdr
    have HY : Hid ((rightE rs env hd).2 = x) := hx2
    clear hdr hx2
    rcases hx with rfl | rfl
    all_goals
      go_enter Try.func20, Try.ntmps20
      go_wp2_with fail
      refine (bmay_any hb hs.inv.ord (by omega) env he h4 hd hd0 hd1).mono ?_
      rintro e w3 ⟨rfl, hw3⟩
      subst hw3
      rw [HY.out]
      go_wp2_with fail
      refine (prevoke_any hp hwp env hd).mono ?_
      rintro e w1 ⟨rfl, hn⟩
      rw [HQ.out, HX.out]
      obtain ⟨own1, vE1, vF1, vL1, hp1, hb1, ho1, ht1⟩ := book_mid hb hn
      go_wp2_with fail
      go_ret
      exact ⟨rfl, own1, vE1, vF1, vL1, vM, hp1, by rw [HX.out]; exact hb1, ho1, ht1⟩
  · have HX : Hid (revokeR rs env hd = (0, s')) := hdr
    have HY : Hid ((rightE rs env hd).2 = 0) := hx2
    clear hdr hx2
    have hd2 : hd - 1 = (j : Int) := by omega
    have hjl := (List.getElem?_eq_some_iff.1 hr).1
    clear hdj
    go_enter Try.func20, Try.ntmps20
    go_wp2_with fail
    refine (bmay_any hb hs.inv.ord (by omega) env he h4 hd hd0 hd1).mono ?_
    rintro e w3 ⟨rfl, hw3⟩
    subst hw3
    rw [HY.out]
    go_wp2_with fail
    refine (prevoke_any hp hwp env hd).mono ?_
    rintro e w1 ⟨rfl, hn⟩
    rw [HQ.out, HX.out]
    obtain ⟨own1, vE1, vF1, vL1, hp1, hb1, ho1, ht1⟩ := book_mid hb hn
    obtain ⟨ao, cap, hv, hcase⟩ := hb1.row.shape'
    have Hv : Hid (vM = .slice ao rs.rights.length cap) := hv
    clear hv
    go_wp2_with fail
    go_loopg [11] rs.rights.length (fun k x wr => ∃ q : Nat, x = .int .i64 q ∧ q + k = rs.rights.length ∧ PRep own1 2 wr m (revokeP ps env hd).2 vE1 vF1 vL1 ∧ BRep own1 1 wr b m s (endTo (fun i => (rs.rights[i]?.map fun r => r.frm == (j : Int)).getD false) rs q) vM ∧ Touch w3.heap.size (fun x => (own x).1 = 1 ∨ (own x).1 = 2) w3 wr)
    case atStart => exact ⟨0, rfl, by omega, hp1, by rw [endTo_zero]; exact hb1, ht1⟩
    case round =>
      clear hp1 hb1 ht1
      obtain ⟨q, rfl, hk, hp1, hb1, ht1⟩ := hrel
      have HK : Hid (q + gk = rs.rights.length) := hk
      have hq : q ≤ rs.rights.length := by omega
      clear hk
      have k4 := hb1.c4
      rw [Hv.out] at k4
      by_cases hlt : q < rs.rights.length
      · obtain ⟨r2, hr2⟩ : ∃ r, rs.rights[q]? = some r := ⟨rs.rights[q], by simp⟩
        have hr3 : (endTo (fun i => (rs.rights[i]?.map fun r => r.frm == (j : Int)).getD false) rs q).rights[q]? = some r2 := by rw [endTo_at]; exact hr2
        obtain ⟨g, capr, hvr, hg, _, d1, _, d3, hfz⟩ := hb1.right hr3
        rw [Hv.out, endTo_len] at hvr
        simp at hvr
        obtain ⟨rfl, rfl⟩ := hvr
        have hi0 : (0 : Int) ≤ (q : Int) := by omega
        have hi1 : (q : Int) < (rs.rights.length : Int) := by omega
        have hfq := hfz (q * 4 + 3)
        have hne : g ≠ b := fun e => by have := hb1.tb; rw [← e, hg] at this; simp at this
        have hne' : b ≠ g := fun e => hne e.symm
        have hS : (own g).1 = 1 ∨ (own g).1 = 2 ∨ w3.heap.size ≤ g := by
          by_cases hh : g < w3.heap.size
          · left; rw [← ho1 g hh, hg]
          · right; right; omega
        cases hqj : (r2.frm == (j : Int))
        · have HW : Hid (endTo (fun i => (rs.rights[i]?.map fun r => r.frm == (j : Int)).getD false) rs (q + 1) = endTo (fun i => (rs.rights[i]?.map fun r => r.frm == (j : Int)).getD false) rs q) := endTo_no (by simp [hr2, hqj])
          clear hr hr2 hr3 hcase hfz
          go_wp2_with fail
          go_roundg (gk - 1)
          case measure => have := HK.out; omega
          case rel => exact ⟨q + 1, by go_num, by have := HK.out; omega, hp1, by rw [HW.out]; exact hb1, ht1⟩
        · have HW : Hid (endTo (fun i => (rs.rights[i]?.map fun r => r.frm == (j : Int)).getD false) rs (q + 1) = { endTo (fun i => (rs.rights[i]?.map fun r => r.frm == (j : Int)).getD false) rs q with rights := (endTo (fun i => (rs.rights[i]?.map fun r => r.frm == (j : Int)).getD false) rs q).rights.set q r2.end }) := endTo_yes hr2 (by simp [hr2, hqj])
          have hp2 := hp1.setG (j := q * 4 + 3) (u := .bool true) hg
          have hb2 := hb1.setEnd (cap := cap) (by rw [Hv.out, endTo_len]) hr3
          clear hr hr2 hr3 hcase hfz
          go_wp2_with fail
          go_roundg (gk - 1)
          case measure => have := HK.out; omega
          case rel => exact ⟨q + 1, by go_num, by have := HK.out; omega, hp2, by rw [HW.out]; exact hb2, ht1.setCell (p := ⟨g, q * 4 + 3, none⟩) (by rcases hS with h | h | h; exact .inl (.inl h); exact .inl (.inr h); exact .inr h) _⟩
      · obtain rfl : q = rs.rights.length := by omega
        go_wp2_with fail
        go_ret
        exact ⟨rfl, own1, vE1, vF1, vL1, vM, hp1, by rw [HX.out]; exact hb1.congr (q1.trans (endTo_all _ _).symm) q2 q3 q4, ho1, ht1⟩
end
end Go.Proofs.Ytkonobbhohfjlaa
