import Derived.Test.YtkonobbhohfjlaaBookB
namespace Go.Proofs.Ytkonobbhohfjlaa
open Go.RowKit
set_option linter.unusedVariables false
attribute [local go_sem ↓] Go.wp_at_zero Go.wp_at_succ

section
variable {own : Nat → Nat × Nat} {w w1 w2 : World} {b m s : Nat} {rs : RSt} {ps ps' : PSt} {nk N : Nat} {vE vF vL vM : Value}

theorem derive_cases (env te : Nat) (he : env < rs.ne) (ht : te < rs.ne) (hd : Int) (wt : Bool) :
    (∃ x, (rightE rs env hd).2 = x ∧ (x = 2 ∨ x = 9) ∧ deriveR rs env hd te wt = ((0, x), rs)) ∨
    ∃ (j : Nat) (r : RR), hd = j + 1 ∧ rs.rights[j]? = some r ∧ (rightE rs env hd).2 = 0 ∧
      ((alAt rs te = false ∧ deriveR rs env hd te wt = ((0, 2), rs)) ∨ (alAt rs te = true ∧ wt = true ∧ r.wr = false ∧ deriveR rs env hd te wt = ((0, 10), rs)) ∨
       (alAt rs te = true ∧ (wt = false ∨ (wt = true ∧ r.wr = true)) ∧ 32 ≤ cnt rs.rights ∧ deriveR rs env hd te wt = ((0, 12), rs)) ∨
       (alAt rs te = true ∧ (wt = false ∨ (wt = true ∧ r.wr = true)) ∧ cnt rs.rights < 32 ∧ deriveR rs env hd te wt = (((rs.rights.length : Int) + 1, 0), addR rs te r.fr wt j))) := by
  have hal : aliveB rs te = alAt rs te := by unfold aliveB alAt; simp [ht]
  rcases rightE_cases rs env hd with ⟨x, h1, h3⟩ | ⟨j, r, h1, hrr, hd1, hee, hl, ha⟩
  · left
    refine ⟨x, by rw [h1], h3, ?_⟩
    unfold deriveR
    rw [h1]
    have : x ≠ 0 := by omega
    simp [this]
  · right
    refine ⟨j, r, hd1, hrr, by rw [h1], ?_⟩
    unfold deriveR rawE
    rw [h1, hal]
    simp only [ne_eq, not_true_eq_false, if_false, Int.toNat_natCast, hrr]
    cases alAt rs te
    · left; simp
    · right
      simp only [if_true, not_true_eq_false, if_false]
      cases wt <;> cases hw : r.wr
      · right
        by_cases hc : 32 ≤ cnt rs.rights
        · left; simp [hc]
        · right; simp [hc]; omega
      · right
        by_cases hc : 32 ≤ cnt rs.rights
        · left; simp [hc]
        · right; simp [hc]; omega
      · left; simp
      · right
        by_cases hc : 32 ≤ cnt rs.rights
        · left; simp [hc]
        · right; simp [hc]; omega

set_option maxHeartbeats 4000000 in
set_option maxRecDepth 100000 in
theorem bderive_any (hp : PRep own 2 w m ps vE vF vL) (hb : BRep own 1 w b m s rs vM) (hs : Sim rs ps) (hH : HInv rs) (hf : RFix rs nk) (hN : rs.rights.length ≤ N) (hm : (N + 1) * 48 ≤ 140737488355328) (env te : Nat) (he : env < rs.ne) (hto : te < rs.ne)
    (hd : Int) (hd0 : 0 ≤ hd) (hd1 : hd ≤ 9223372036854775807) (wt : Bool) :
    Calls Try.prog 19 #[.pointer (some ⟨b, 0, none⟩), .int .i64 env, .int .i64 hd, .int .i64 te, .bool wt] w fun e w' => e = .returned (.bool true) ∧ BRes own w w' b m s (deriveR rs env hd te wt).2 (deriveP ps env hd te wt).2 := by
  have hwp := hf.pwf hs hN hm
  have h4 := hf.ne
  have c0 := hb.c0
  obtain ⟨i0, i1, i2, i3, i4⟩ := info_parts Try.infoG
  have hi0 : (0 : Int) ≤ (te : Int) := by omega
  have hi1 : (te : Int) < 4 := by omega
  go_enter Try.func19, Try.ntmps19
  go_wp2_with fail
  refine (pderive_any hp hwp env hd te wt).mono ?_
  rintro e w1 ⟨rfl, hn⟩
  have HQ : Hid ((deriveP ps env hd te wt).1 = (deriveR rs env hd te wt).1) := (hs.derive env hd te wt).1.symm
  rw [HQ.out]
  obtain ⟨own1, vE1, vF1, vL1, hp1, hb1, ho1, ht1⟩ := book_mid hb hn
  have k4 := hb1.c4
  have ka := hb1.cal te (by omega)
  obtain ⟨ao, cap, hv, hcase⟩ := hb1.row.shape'
  rw [hv] at k4
  have Hv : Hid (vM = .slice ao rs.rights.length cap) := hv
  clear hv c0
  rcases derive_cases (rs := rs) env te he hto hd wt with ⟨x, hx2, hx, hdr⟩ | ⟨j, r, hdj, hr, hx2, hc⟩
  · have HX : Hid (deriveR rs env hd te wt = ((0, x), rs)) := hdr
    have HY : Hid ((rightE rs env hd).2 = x) := hx2
    rw [HX.out]
    clear hdr hx2
    rcases hx with rfl | rfl
    all_goals
      go_wp2_with fail
      refine (bcounts_any hb1 hs.inv.ord (by omega)).mono ?_
      rintro e w2 ⟨rfl, hw2⟩
      subst hw2
      go_wp2_with fail
      refine (bmay_any hb1 hs.inv.ord (by omega) env he h4 hd hd0 hd1).mono ?_
      rintro e w3 ⟨rfl, hw3⟩
      subst hw3
      rw [HY.out]
      go_wp2_with fail
      go_ret
      exact ⟨rfl, own1, vE1, vF1, vL1, vM, hp1, by rw [HX.out]; exact hb1, ho1, ht1⟩
  · have HY : Hid ((rightE rs env hd).2 = 0) := hx2
    have hj := (List.getElem?_eq_some_iff.1 hr).1
    obtain ⟨g, capr, hvr, _, _, _, c2, _, _⟩ := hb1.right hr
    rw [Hv.out] at hvr
    simp at hvr
    obtain ⟨rfl, rfl⟩ := hvr
    have hd2 : hd - 1 = (j : Int) := by omega
    have hjj : (j : Int) < (rs.rights.length : Int) := by omega
    have hj0 : (0 : Int) ≤ (j : Int) := by omega
    clear hr hcase hdj hx2
    rcases hc with ⟨ha, hx⟩ | ⟨ha, hw1, hw2, hx⟩ | ⟨ha, hw, hc, hx⟩ | ⟨ha, hw, hc, hx⟩
    · have HX : Hid (deriveR rs env hd te wt = ((0, 2), rs)) := hx
      rw [HX.out]
      rw [ha] at ka
      clear hx ha
      go_wp2_with fail
      refine (bcounts_any hb1 hs.inv.ord (by omega)).mono ?_
      rintro e w2 ⟨rfl, hw2⟩
      subst hw2
      go_wp2_with fail
      refine (bmay_any hb1 hs.inv.ord (by omega) env he h4 hd hd0 hd1).mono ?_
      rintro e w3 ⟨rfl, hw3⟩
      subst hw3
      rw [HY.out]
      go_wp2_with fail
      go_ret
      exact ⟨rfl, own1, vE1, vF1, vL1, vM, hp1, by rw [HX.out]; exact hb1, ho1, ht1⟩
    · have HX : Hid (deriveR rs env hd te wt = ((0, 10), rs)) := hx
      rw [HX.out]
      rw [ha] at ka
      rw [hw2] at c2
      subst hw1
      clear hx ha hw2
      go_wp2_with fail
      refine (bcounts_any hb1 hs.inv.ord (by omega)).mono ?_
      rintro e w2 ⟨rfl, hw2⟩
      subst hw2
      go_wp2_with fail
      refine (bmay_any hb1 hs.inv.ord (by omega) env he h4 hd hd0 hd1).mono ?_
      rintro e w3 ⟨rfl, hw3⟩
      subst hw3
      rw [HY.out]
      go_wp2_with fail
      go_ret
      exact ⟨rfl, own1, vE1, vF1, vL1, vM, hp1, by rw [HX.out]; exact hb1, ho1, ht1⟩
    · have HX : Hid (deriveR rs env hd te wt = ((0, 12), rs)) := hx
      rw [HX.out]
      rw [ha] at ka
      clear hx ha
      rcases hw with rfl | ⟨rfl, hw⟩
      all_goals
        try rw [hw] at c2
        go_wp2_with fail
        refine (bcounts_any hb1 hs.inv.ord (by omega)).mono ?_
        rintro e w2 ⟨rfl, hw2⟩
        subst hw2
        go_wp2_with fail
        refine (bmay_any hb1 hs.inv.ord (by omega) env he h4 hd hd0 hd1).mono ?_
        rintro e w3 ⟨rfl, hw3⟩
        subst hw3
        rw [HY.out]
        go_wp2_with fail
        go_ret
        exact ⟨rfl, own1, vE1, vF1, vL1, vM, hp1, by rw [HX.out]; exact hb1, ho1, ht1⟩
    · have HX : Hid (deriveR rs env hd te wt = (((rs.rights.length : Int) + 1, 0), addR rs te r.fr wt j)) := hx
      rw [HX.out]
      rw [ha] at ka
      clear hx ha
      have hR := hb1.row
      rw [Hv.out] at hR
      rcases hw with rfl | ⟨rfl, hw⟩
      · have hR2 := hR.alloc (.cells (gcells ⟨rs.rights.length + 1, te, r.fr, false, j, false⟩).toArray 62)
        go_wp2_with fail
        refine (bcounts_any hb1 hs.inv.ord (by omega)).mono ?_
        rintro e w2 ⟨rfl, hw2⟩
        subst hw2
        go_wp2_with fail
        refine (bmay_any hb1 hs.inv.ord (by omega) env he h4 hd hd0 hd1).mono ?_
        rintro e w3 ⟨rfl, hw3⟩
        subst hw3
        rw [HY.out]
        go_wp2_with (at_builtin; refine wpList_append_lies _ rfl (.tmp 78) (.tmp 84) 33 rfl 0 62 i0 _ 4 24 Try.underlying33 i1 i2 i3 i4 rfl (by decide) (.slice (some ⟨g, 0, none⟩) rs.rights.length cap) rs.rights.length _ rfl hR2 ⟨w3.heap.size, 0, none⟩ 1 1 (gcells ⟨rs.rights.length + 1, te, r.fr, false, j, false⟩) rfl rfl ?c1 ?c2 (by omega) ?b1 ?b2 (by omega) (w3.heap.size + 1) (by simp) ?nx)
        case c1 => exact World.news_of_block (B := w3.heap.size) (cs := (gcells ⟨rs.rights.length + 1, te, r.fr, false, j, false⟩).toArray) (t := 62) (fr := (0, 0)) (Blk.new _ _ _)
        case c2 => exact oneCell_g _
        case b1 => unfold maxLen; omega
        case b2 => omega
        intro g1 cp w4 hown hgrow hat hlt3
        have hbk := (hb1.blk.alloc (.cells (gcells ⟨rs.rights.length + 1, te, r.fr, false, j, false⟩).toArray 62)).grown hgrow (fun e => by have := hb1.tM b (by rw [Hv.out]; exact e); rw [hb1.tb] at this; simp at this)
        have e0 := (hbk.cell 4).trans (show _ = some vM from rfl)
        have e1 := hbk.frozen 4
        rw [Hv.out] at e0
        have hfin := book_add (s' := addR rs te r.fr false j) hp1 hb1 ho1 ht1 rfl rfl rfl rfl hown (by rw [Hv.out]; exact hgrow) (by rw [Hv.out]; exact hat)
        go_wp2_with fail
        go_ret
        exact ⟨rfl, by rw [HX.out]; exact hfin⟩
      · rw [hw] at c2
        have hR2 := hR.alloc (.cells (gcells ⟨rs.rights.length + 1, te, r.fr, true, j, false⟩).toArray 62)
        go_wp2_with fail
        refine (bcounts_any hb1 hs.inv.ord (by omega)).mono ?_
        rintro e w2 ⟨rfl, hw2⟩
        subst hw2
        go_wp2_with fail
        refine (bmay_any hb1 hs.inv.ord (by omega) env he h4 hd hd0 hd1).mono ?_
        rintro e w3 ⟨rfl, hw3⟩
        subst hw3
        rw [HY.out]
        go_wp2_with (at_builtin; refine wpList_append_lies _ rfl (.tmp 78) (.tmp 84) 33 rfl 0 62 i0 _ 4 24 Try.underlying33 i1 i2 i3 i4 rfl (by decide) (.slice (some ⟨g, 0, none⟩) rs.rights.length cap) rs.rights.length _ rfl hR2 ⟨w3.heap.size, 0, none⟩ 1 1 (gcells ⟨rs.rights.length + 1, te, r.fr, true, j, false⟩) rfl rfl ?c1t ?c2t (by omega) ?b1t ?b2t (by omega) (w3.heap.size + 1) (by simp) ?nxt)
        case c1t => exact World.news_of_block (B := w3.heap.size) (cs := (gcells ⟨rs.rights.length + 1, te, r.fr, true, j, false⟩).toArray) (t := 62) (fr := (0, 0)) (Blk.new _ _ _)
        case c2t => exact oneCell_g _
        case b1t => unfold maxLen; omega
        case b2t => omega
        intro g1 cp w4 hown hgrow hat hlt3
        have hbk := (hb1.blk.alloc (.cells (gcells ⟨rs.rights.length + 1, te, r.fr, true, j, false⟩).toArray 62)).grown hgrow (fun e => by have := hb1.tM b (by rw [Hv.out]; exact e); rw [hb1.tb] at this; simp at this)
        have e0 := (hbk.cell 4).trans (show _ = some vM from rfl)
        have e1 := hbk.frozen 4
        rw [Hv.out] at e0
        have hfin := book_add (s' := addR rs te r.fr true j) hp1 hb1 ho1 ht1 rfl rfl rfl rfl hown (by rw [Hv.out]; exact hgrow) (by rw [Hv.out]; exact hat)
        go_wp2_with fail
        go_ret
        exact ⟨rfl, by rw [HX.out]; exact hfin⟩
end
end Go.Proofs.Ytkonobbhohfjlaa
