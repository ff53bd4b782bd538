/-
  'framed': each first right that is alive has a frame of its own, each other one the frame of the one that it comes of.
-/
import Derived.Test.YtkonobbhohfjlaaBookG
namespace Go.Proofs.Ytkonobbhohfjlaa
open Go.RowKit
set_option linter.unusedVariables false
attribute [local go_sem ↓] Go.wp_at_zero Go.wp_at_succ

section
variable {own own1 : Nat → Nat × Nat} {w w1 w2 : World} {b m s : Nat} {rs rs' : RSt} {ps ps' : PSt} {nk N : Nat} {vE vF vL vM : Value}

theorem frA_live {i : Nat} {r : RR} (hr : rs.rights[i]? = some r) (hl : lv rs.rights i = true) : frA rs i = r.fr := by
  unfold frA; rw [hr]; simp [hl]

set_option maxHeartbeats 4000000 in
set_option maxRecDepth 100000 in
theorem bframed_any (hp : PRep own 2 w m ps vE vF vL) (hb : BRep own 1 w b m s rs vM) (hs : Sim rs ps) (hH : HInv rs) (hf : RFix rs nk) (hN : rs.rights.length ≤ N) (hm : (N + 1) * 48 ≤ 140737488355328) :
    Calls Try.prog 12 #[.pointer (some ⟨b, 0, none⟩)] w fun e w' => e = .returned (.bool true) ∧ Below w.heap.size w w' := by
  go_enter Try.func12, Try.ntmps12
  go_wp2_with fail
  refine (bframes_any hp hb hs hH hf hN hm).mono ?_
  rintro e w1 ⟨g, rfl, hb1, hgl, hbk1⟩
  have hB1 := hb.below hb1
  obtain ⟨n, hn⟩ : ∃ n, rs.rights.length = n := ⟨_, rfl⟩
  have HN : Hid (rs.rights.length = n) := hn
  obtain ⟨aoM, capM, hvM, hcM⟩ := hB1.row.shape'
  rw [hn] at hN hcM hbk1 ⊢
  have Hv : Hid (vM = .slice aoM rs.rights.length capM) := hvM
  clear hvM hn
  go_wp2_with fail
  go_loopg [4] n (fun k x wr => ∃ q : Nat, x = .int .i64 q ∧ q + k = n ∧ Below w1.heap.size w1 wr)
  case atStart => exact ⟨0, rfl, by omega, Below.refl _ _⟩
  case round =>
    obtain ⟨q, rfl, hk, hbl⟩ := hrel
    have HK : Hid (q + gk = n) := hk
    have hq : q ≤ n := by omega
    clear hk
    by_cases hlt : q < n
    · obtain ⟨r, hr⟩ : ∃ r, rs.rights[q]? = some r := ⟨rs.rights[q]'(by rw [HN.out]; exact hlt), by simp⟩
      have hB := hB1.below hbl
      have hbk := hbk1.below hbl hbk1.lt
      have j4 := hB.c4
      obtain ⟨gM, capr, hvr, _, d0, d1, d2, d3, _⟩ := hB.right hr
      have hvr' := hvr
      rw [Hv.out] at hvr
      simp at hvr
      obtain ⟨rfl, rfl⟩ := hvr
      rw [hvr', HN.out] at j4
      have hq0 : (0 : Int) ≤ (q : Int) := by omega
      have hq1 : (q : Int) < (n : Int) := by omega
      have hord := hs.inv.ord q r hr
      go_wp2_with fail
      refine (bliving_any hB hs.inv.ord (by rw [HN.out]; omega) q (by rw [HN.out]; omega) (by omega)).mono ?_
      rintro e w3 ⟨rfl, hw3⟩
      subst hw3
      cases hl : lv rs.rights q
      · clear hr hvr'
        go_wp2_with fail
        go_roundg (gk - 1)
        case measure => have := HK.out; omega
        case rel => exact ⟨q + 1, by go_num, by have := HK.out; omega, hbl⟩
      · have hfq := frA_live hr hl
        have hfr := hs.inv.fr q r hr
        have i0 := (hbk.cell q).trans (icells_get _ hlt)
        rw [hfq] at i0
        have y1 : decide (r.fr < 0) = false := decide_eq_false (by omega)
        by_cases h0 : 0 ≤ r.frm
        · obtain ⟨r', hr', hff⟩ := hH.same q r hr h0
          have hlp : lv rs.rights r.frm.toNat = true := by
            have := lv_step hs.inv.ord hr
            rw [hl] at this
            simp at this
            rw [Int.toNat_of_nonneg h0]
            exact this.2
          have hfp := frA_live hr' hlp
          obtain ⟨p, hpp⟩ : ∃ p : Nat, r.frm = p := ⟨r.frm.toNat, by omega⟩
          rw [hpp] at hfp hr' d1
          simp only [Int.toNat_natCast] at hfp hr'
          have hpl : p < n := by omega
          have ip := (hbk.cell p).trans (icells_get _ hpl)
          rw [hfp, hff] at ip
          have hp0 : (0 : Int) ≤ (p : Int) := by omega
          have hp1 : (p : Int) < (n : Int) := by omega
          have y3 : (r.fr != r.fr) = false := by simp
          have y4 : decide ((p : Int) < 0) = false := decide_eq_false (by omega)
          clear hr hvr' hr' hff hfp hfq hpp hlp hord
          go_wp2_with fail
          go_quiet (fail)
          go_wp2_with fail
          obtain ⟨wo, hwo⟩ : ∃ wo : World, wo = w3.drewN nq := ⟨_, rfl⟩
          have hbl' : Below w1.heap.size w1 wo := by rw [hwo]; exact below_drewN hbl _
          rw [← hwo]
          clear hwo hbl
          obtain ⟨go, rfl⟩ : ∃ go : Nat, go = gk := ⟨_, rfl⟩
          go_loopg [7] 0 (fun k x wr => x = .int .i64 0 ∧ wr = wo)
          case atStart => exact ⟨rfl, rfl⟩
          case round =>
            obtain ⟨rfl, rfl⟩ := hrel
            rcases Nat.eq_zero_or_pos q with rfl | hqp
            · go_wp2_with fail
              go_roundg (go - 1)
              case measure => have := HK.out; omega
              case rel => exact ⟨1, by go_num, by have := HK.out; omega, hbl'⟩
            · have hqp' : (0 : Int) < (q : Int) := by omega
              go_wp2_with fail
              go_roundg (go - 1)
              case measure => have := HK.out; omega
              case rel => exact ⟨q + 1, by go_num, by have := HK.out; omega, hbl'⟩
        · have hfm : r.frm = -1 := by omega
          rw [hfm] at d1
          have HR : Hid (rs.rights[q]? = some r ∧ lv rs.rights q = true ∧ r.frm < 0) := ⟨hr, hl, by omega⟩
          clear hvr' hfq hord hr hfm h0
          go_wp2_with fail
          go_quiet (fail)
          go_wp2_with fail
          obtain ⟨wo, hwo⟩ : ∃ wo : World, wo = w3.drewN nq := ⟨_, rfl⟩
          have hbl' : Below w1.heap.size w1 wo := by rw [hwo]; exact below_drewN hbl _
          rw [← hwo]
          clear hwo hbl hB hbk j4 d0 d1 d2 d3 i0
          obtain ⟨go, rfl⟩ : ∃ go : Nat, go = gk := ⟨_, rfl⟩
          go_loopg [7] q (fun k x wr => ∃ c : Nat, x = .int .i64 c ∧ c + k = q ∧ Below w1.heap.size w1 wr)
          case atStart => exact ⟨0, rfl, by omega, hbl'⟩
          case round =>
            clear hbl'
            obtain ⟨c, rfl, hk, hbl⟩ := hrel
            have HC : Hid (c + gk = q) := hk
            have hc : c ≤ q := by omega
            clear hk
            by_cases hct : c < q
            · obtain ⟨x, hx⟩ : ∃ x, rs.rights[c]? = some x := ⟨rs.rights[c]'(by rw [HN.out]; omega), by simp⟩
              have hB := hB1.below hbl
              have hbk := hbk1.below hbl hbk1.lt
              have j4 := hB.c4
              obtain ⟨gM', capr', hvr2, _, _, d1, _, _, _⟩ := hB.right hx
              have hvr3 := hvr2
              rw [Hv.out] at hvr2
              simp at hvr2
              obtain ⟨rfl, rfl⟩ := hvr2
              rw [hvr3, HN.out] at j4
              have hc0 : (0 : Int) ≤ (c : Int) := by omega
              have hc1 : (c : Int) < (n : Int) := by omega
              have hcq : (c : Int) < (q : Int) := by omega
              by_cases hxf : x.frm < 0
              · clear hvr3
                go_wp2_with fail
                refine (bliving_any hB hs.inv.ord (by rw [HN.out]; omega) c (by rw [HN.out]; omega) (by omega)).mono ?_
                rintro e w4 ⟨rfl, hw4⟩
                subst hw4
                cases hl2 : lv rs.rights c
                · clear hx
                  go_wp2_with fail
                  go_quiet (fail)
                  go_wp2_with fail
                  go_roundg (gk - 1)
                  case measure => have := HC.out; omega
                  case rel => exact ⟨c + 1, by go_num, by have := HC.out; omega, below_drewN hbl _⟩
                · have hne : x.fr ≠ r.fr := fun e => by
                    obtain ⟨z1, z2, z3⟩ := HR.out
                    have := hH.one c q x r hx z1 hl2 z2 hxf z3 e
                    omega
                  have i1 := (hbk.cell c).trans (icells_get _ (by omega))
                  rw [frA_live hx hl2] at i1
                  have i0 := (hbk.cell q).trans (icells_get _ hlt)
                  rw [frA_live HR.out.1 HR.out.2.1] at i0
                  have y6 : (x.fr == r.fr) = false := by simpa using hne
                  clear hx
                  go_wp2_with fail
                  go_quiet (fail)
                  go_wp2_with fail
                  go_roundg (gk - 1)
                  case measure => have := HC.out; omega
                  case rel => exact ⟨c + 1, by go_num, by have := HC.out; omega, below_drewN hbl _⟩
              · have y5 : decide (x.frm < 0) = false := decide_eq_false hxf
                clear hvr3 hx
                go_wp2_with fail
                go_quiet (fail)
                go_wp2_with fail
                go_roundg (gk - 1)
                case measure => have := HC.out; omega
                case rel => exact ⟨c + 1, by go_num, by have := HC.out; omega, below_drewN hbl _⟩
            · obtain rfl : c = q := by omega
              go_wp2_with fail
              go_roundg (go - 1)
              case measure => have := HK.out; omega
              case rel => exact ⟨c + 1, by go_num, by have := HK.out; omega, hbl⟩
    · obtain rfl : q = n := by omega
      go_wp2_with fail
      go_ret
      exact ⟨rfl, hb1.trans (hbl.mono hb1.size)⟩
end
end Go.Proofs.Ytkonobbhohfjlaa
