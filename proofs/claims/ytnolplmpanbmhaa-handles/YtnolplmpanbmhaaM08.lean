import Derived.Test.YtnolplmpanbmhaaM07
namespace Go.Proofs.Ytnolplmpanbmhaa
open Go.RowKit
set_option linter.unusedVariables false
attribute [local go_sem ↓] Go.wp_at_zero Go.wp_at_succ

/-- What a step of the book leaves: the program's machine bears 2, the book 1. -/
def BRes (M : MT) (own : Nat → Nat × Nat) (w w' : World) (b m s : Nat) (rs : RSt) : Prop :=
  ∃ (own' : Nat → Nat × Nat) (vM : Value), M own' 2 w' m rs ∧ BRep own' 1 w' b m s rs vM ∧ (∀ x, x < w.heap.size → own' x = own x) ∧ Touch w.heap.size (fun x => (own x).1 = 1 ∨ (own x).1 = 2) w w'

section
variable {own : Nat → Nat × Nat} {w w1 w2 : World} {b m s : Nat} {rs : RSt} {t t' : RSt} {nk N : Nat} {vM : Value} {M : MT}

/-- Behind the program's call: the book is as it was. -/
theorem book_mid (hb : BRep own 1 w b m s rs vM) (hn : MNext M own 2 w m w1 t') : ∃ (own1 : Nat → Nat × Nat), M own1 2 w1 m t' ∧ BRep own1 1 w1 b m s rs vM ∧ (∀ x, x < w.heap.size → own1 x = own x) ∧ Touch w.heap.size (fun x => (own x).1 = 1 ∨ (own x).1 = 2) w w1 := by
  obtain ⟨own1, h1, h2, h3⟩ := hn
  exact ⟨own1, h1, hb.of h2 (fun x hx ht => h3.block x hx (by rw [ht]; omega)), h2, h3.mono (Nat.le_refl _) (fun _ _ h => .inr h)⟩

theorem alloc_cases (hs : SOk rs) (hH : HInv rs) (env : Nat) (he : env < rs.ne) :
    (alAt rs env = false ∧ allocR rs env = ((0, 2), rs)) ∨ (alAt rs env = true ∧ (32 ≤ cnt rs.rights ∨ (cnt rs.rights < 32 ∧ rs.nf ≤ fstTo rs.rights rs.rights.length)) ∧ allocR rs env = ((0, 12), rs)) ∨
    (alAt rs env = true ∧ cnt rs.rights < 32 ∧ fstTo rs.rights rs.rights.length < rs.nf ∧ ∃ (s' : RSt) (f : Int), allocR rs env = (((rs.rights.length : Int) + 1, 0), s') ∧ s'.rights = rs.rights ++ [⟨rs.rights.length + 1, env, f, true, -1, false⟩] ∧ s'.alive = rs.alive ∧ s'.ne = rs.ne ∧ s'.nf = rs.nf) := by
  have hal : aliveB rs env = alAt rs env := by unfold aliveB alAt; simp [he]
  have hln := least_none hH hs.inv
  unfold allocR rawE firstS
  rw [hal]
  cases ha : alAt rs env
  · exact .inl ⟨rfl, by simp⟩
  · right
    simp only [if_true, ne_eq, not_true_eq_false, if_false]
    cases hl : leastFree rs with
    | none =>
      rw [hl] at hln
      have := hln.1 rfl
      exact .inl ⟨trivial, by omega, rfl⟩
    | some f =>
      rw [hl] at hln
      have hlt : fstTo rs.rights rs.rights.length < rs.nf := by
        by_cases h : rs.nf ≤ fstTo rs.rights rs.rights.length
        · exact absurd (hln.2 h) (by simp)
        · omega
      by_cases hc : cnt rs.rights < 32
      · right
        simp only [if_pos hc]
        exact ⟨trivial, hc, hlt, _, f, rfl, rfl, rfl, rfl, rfl⟩
      · left
        simp only [if_neg hc]
        exact ⟨trivial, .inl (by omega), trivial⟩

theorem Try.infoG : (Try.prog.info? 60).map (fun i => (i.zero, i.size, i.bytes)) = some (some (.agg #[.int .i64 0, .int .i64 0, .bool false, .bool false]), 4, 24) := by kernel_rfl
theorem oneCell_g (r : RR) : ∀ u ∈ gcells r, u.oneCell' = true := by
  intro u hu; simp [gcells] at hu; rcases hu with rfl | rfl | rfl | rfl <;> rfl

theorem set1_kept {own own2 : Nat → Nat × Nat} {B x : Nat} {t : Nat × Nat} (ho : ∀ b, b < B → own2 b = own b) (hx : B ≤ x) : ∀ b, b < B → set1 own2 x t b = own b := fun b hb => (set1_old hx b hb).trans (ho b hb)

/-- A right more in the book. -/
theorem book_add (P : Api M) {own1 : Nat → Nat × Nat} {s' : RSt} {r : RR} {o1 : Obj} {g cap : Nat} (hp : M own1 2 w1 m s') (hb : BRep own1 1 w1 b m s rs vM) (ho : ∀ x, x < w.heap.size → own1 x = own x) (ht : Touch w.heap.size (fun x => (own x).1 = 1 ∨ (own x).1 = 2) w w1)
    (hr : s'.rights = rs.rights ++ [r]) (ha : s'.alive = rs.alive) (hn : s'.ne = rs.ne) (hf : s'.nf = rs.nf)
    (hown : w2.ownsRow 0 60 4 (.slice (some ⟨g, 0, none⟩) (rs.rights.length + 1) cap) (rs.rights.length + 1) (rs.rights.flatMap gcells ++ gcells r)) (hg : (w1.alloc o1).grownBy w2 vM.ownBlock) (hat : vM.ownBlock = some g ∨ g = w1.heap.size + 1) :
    BRes M own w (w2.setCell ⟨b, 4, none⟩ (.slice (some ⟨g, 0, none⟩) (rs.rights.length + 1) cap)) b m s s' := by
  have hs1 := ht.size
  have hs2 := hg.size
  simp at hs2
  have hbl := hb.blk.lt
  have hW : ∀ x, x < w1.heap.size → own1 x ≠ (1, 0) → own1 x ≠ (1, 1) → (w2.setCell ⟨b, 4, none⟩ (.slice (some ⟨g, 0, none⟩) (rs.rights.length + 1) cap)).heap[x]? = w1.heap[x]? := fun x hx e1 e2 => by
    rw [Below.heap_setCell _ _ _ _ (fun e => e1 (by simp at e; rw [e]; exact hb.tb)), hg.block x (by simp; omega) (fun e => e2 (hb.tM x e.symm)), Below.heap_alloc _ _ _ hx]
  have hbk : Blk w2 b (bcells m s rs vM) 33 := (hb.blk.alloc o1).grown hg (fun e => by have := hb.tM _ e; rw [hb.tb] at this; simp at this)
  refine ⟨set1 own1 (w1.heap.size + 1) (1, 1), .slice (some ⟨g, 0, none⟩) (rs.rights.length + 1) cap, P.of hp (set1_old (by omega)) (fun x hx h2 => hW x hx (fun e => by rw [e] at h2; simp at h2) (fun e => by rw [e] at h2; simp at h2)), ⟨?_, ?_, (set1_old (by omega) b hbl).trans hb.tb, hb.tM.app (fun x hx => by have := hb.row.lt x hx; omega) hat⟩, set1_kept ho (by omega), ?_⟩
  · have := hbk.set 4 (.slice (some ⟨g, 0, none⟩) (rs.rights.length + 1) cap)
    have e : bcells m s s' (.slice (some ⟨g, 0, none⟩) (rs.rights.length + 1) cap) = (bcells m s rs vM).set 4 (.slice (some ⟨g, 0, none⟩) (rs.rights.length + 1) cap) := by
      unfold bcells alAt
      rw [ha, hn, hf]
      rfl
    rw [e]; exact this
  · rw [hr, List.length_append, List.flatMap_append]
    simp only [List.length_cons, List.length_nil, List.flatMap_cons, List.flatMap_nil, List.append_nil, Nat.zero_add]
    refine Row.other (w := w2) hown _ (fun e => ?_)
    simp [Value.ownBlock] at e
    rcases hat with h1 | h1
    · have := hb.tM g h1; rw [e, hb.tb] at this; simp at this
    · omega
  · refine ((ht.alloc hs1 o1).grown hg (by simp; omega) (fun k hk => ?_)).setCell (p := ⟨b, 4, none⟩) ?_ _
    · by_cases hl : k < w.heap.size
      · left; left; rw [← ho k hl, hb.tM k hk]
      · right; omega
    · by_cases hl : b < w.heap.size
      · left; left
        show (own b).1 = 1
        rw [← ho b hl, hb.tb]
      · right; show w.heap.size ≤ b; omega

set_option maxHeartbeats 2000000 in
set_option maxRecDepth 100000 in
theorem balloc_any (P : Api M) (hp : M own 2 w m rs) (hb : BRep own 1 w b m s rs vM) (hs : SOk rs) (hH : HInv rs) (hf : RFix rs nk) (hN : rs.rights.length ≤ N) (hm : (N + 2) * 48 ≤ 140737488355328) (env : Nat) (he : env < rs.ne) :
    Calls Try.prog 17 #[.pointer (some ⟨b, 0, none⟩), .int .i64 env] w fun e w' => e = .returned (.bool true) ∧ BRes M own w w' b m s (allocR rs env).2 := by
  have hF : Few rs := by unfold Few; omega
  have h4 := hf.ne
  have hnf := hf.nf
  have c0 := hb.c0
  obtain ⟨i0, i1, i2, i3, i4⟩ := info_parts Try.infoG
  have hi0 : (0 : Int) ≤ (env : Int) := by omega
  have hi1 : (env : Int) < 4 := by omega
  have hbc := hb
  go_enter Try.func17, Try.ntmps17
  go_wp2_with fail
  refine (P.alloc hp hs hF env ⟨by omega, by omega⟩).mono ?_
  rintro e w1 ⟨rfl, hn⟩
  obtain ⟨own1, hp1, hb1, ho1, ht1⟩ := book_mid hb hn
  have k1 := hb1.c1
  have k4 := hb1.c4
  have ka := hb1.cal env (by omega)
  obtain ⟨ao, cap, hv, hcase⟩ := hb1.row.shape'
  rw [hv] at k4
  have Hv : Hid (vM = .slice ao rs.rights.length cap) := hv
  clear hv c0
  rcases alloc_cases hs hH env he with ⟨ha, hx⟩ | ⟨ha, hc, hx⟩ | ⟨ha, hc1, hc2, s', f, hx, hr', ha', hn', hf'⟩
  · have HX : Hid (allocR rs env = ((0, 2), rs)) := hx
    rw [ha] at ka
    rw [HX.out]
    clear ha hx
    go_wp2_with fail
    refine (bcounts_any hb1 hs.inv.ord (by omega)).mono ?_
    rintro e w2 ⟨rfl, hw2⟩
    subst hw2
    go_wp2_with fail
    go_ret
    exact ⟨rfl, own1, vM, hp1, by rw [HX.out]; exact hb1, ho1, ht1⟩
  · have HX : Hid (allocR rs env = ((0, 12), rs)) := hx
    rw [ha] at ka
    rw [HX.out]
    clear ha hx
    rcases hc with hc | ⟨hc, hc2⟩
    all_goals
      go_wp2_with fail
      refine (bcounts_any hb1 hs.inv.ord (by omega)).mono ?_
      rintro e w2 ⟨rfl, hw2⟩
      subst hw2
      go_wp2_with fail
      go_ret
      exact ⟨rfl, own1, vM, hp1, by rw [HX.out]; exact hb1, ho1, ht1⟩
  · have HX : Hid (allocR rs env = (((rs.rights.length : Int) + 1, 0), s')) := hx
    rw [ha] at ka
    rw [HX.out]
    clear ha hx
    have hR := hb1.row
    rw [Hv.out] at hR
    have hR2 := hR.alloc (.cells (gcells ⟨rs.rights.length + 1, env, f, true, -1, false⟩).toArray 60)
    go_wp2_with fail
    refine (bcounts_any hb1 hs.inv.ord (by omega)).mono ?_
    rintro e w2 ⟨rfl, hw2⟩
    subst hw2
    go_wp2_with (at_builtin; refine wpList_append_lies _ rfl (.tmp 57) (.tmp 60) 30 rfl 0 60 i0 _ 4 24 Try.underlying30 i1 i2 i3 i4 rfl (by decide) (.slice ao rs.rights.length cap) rs.rights.length _ rfl hR2 ⟨w2.heap.size, 0, none⟩ 1 1 (gcells ⟨rs.rights.length + 1, env, f, true, -1, false⟩) rfl rfl ?c1 ?c2 (by omega) ?b1 ?b2 (by omega) (w2.heap.size + 1) (by simp) ?nx)
    case c1 => exact World.news_of_block (B := w2.heap.size) (cs := (gcells ⟨rs.rights.length + 1, env, f, true, -1, false⟩).toArray) (t := 60) (fr := (0, 0)) (Blk.new _ _ _)
    case c2 => exact oneCell_g _
    case b1 => unfold maxLen; omega
    case b2 => omega
    intro g cp w3 hown hgrow hat hlt3
    have hbk := (hb1.blk.alloc (.cells (gcells ⟨rs.rights.length + 1, env, f, true, -1, false⟩).toArray 60)).grown hgrow (fun e => by have := hb1.tM b (by rw [Hv.out]; exact e); rw [hb1.tb] at this; simp at this)
    have e0 := (hbk.cell 4).trans (show _ = some vM from rfl)
    have e1 := hbk.frozen 4
    rw [Hv.out] at e0
    have hfin := book_add P (by have := hp1; rw [HX.out] at this; exact this) hb1 ho1 ht1 hr' ha' hn' hf' hown (by rw [Hv.out]; exact hgrow) (by rw [Hv.out]; exact hat)
    go_wp2_with fail
    go_ret
    exact ⟨rfl, by rw [HX.out]; exact hfin⟩
end
end Go.Proofs.Ytnolplmpanbmhaa

namespace Go.Proofs.Ytnolplmpanbmhaa
open Go.RowKit
set_option linter.unusedVariables false
attribute [local go_sem ↓] Go.wp_at_zero Go.wp_at_succ

section
variable {own : Nat → Nat × Nat} {w w1 w2 : World} {b m s : Nat} {rs : RSt} {t t' : RSt} {nk N : Nat} {vM : Value} {M : MT}

theorem derive_cases (env te : Nat) (he : env < rs.ne) (ht : te < rs.ne) (hd : Int) (wt : Bool) :
    (∃ x, (rightE rs env hd).2 = x ∧ (x = 2 ∨ x = 9) ∧ deriveR rs env hd te wt = ((0, x), rs)) ∨
    ∃ (j : Nat) (r : RR), hd = j + 1 ∧ rs.rights[j]? = some r ∧ (rightE rs env hd).2 = 0 ∧
      ((alAt rs te = false ∧ deriveR rs env hd te wt = ((0, 2), rs)) ∨ (alAt rs te = true ∧ wt = true ∧ r.wr = false ∧ deriveR rs env hd te wt = ((0, 10), rs)) ∨
       (alAt rs te = true ∧ (wt = false ∨ (wt = true ∧ r.wr = true)) ∧ 32 ≤ cnt rs.rights ∧ deriveR rs env hd te wt = ((0, 12), rs)) ∨
       (alAt rs te = true ∧ (wt = false ∨ (wt = true ∧ r.wr = true)) ∧ cnt rs.rights < 32 ∧ deriveR rs env hd te wt = (((rs.rights.length : Int) + 1, 0), addR rs te r.fr wt j))) := by
  have hal : aliveB rs te = alAt rs te := by unfold aliveB alAt; simp [ht]
  rcases rightE_cases rs env hd with ⟨x, h1, h3⟩ | ⟨j, r, h1, hrr, hd1, hee, hl, ha⟩
  · left
    refine ⟨x, by rw [h1], h3, ?_⟩
    unfold deriveR
    rw [h1]
    have : x ≠ 0 := by omega
    simp [this]
  · right
    refine ⟨j, r, hd1, hrr, by rw [h1], ?_⟩
    unfold deriveR rawE
    rw [h1, hal]
    simp only [ne_eq, not_true_eq_false, if_false, Int.toNat_natCast, hrr]
    cases alAt rs te
    · left; simp
    · right
      simp only [if_true, not_true_eq_false, if_false]
      cases wt <;> cases hw : r.wr
      · right
        by_cases hc : 32 ≤ cnt rs.rights
        · left; simp [hc]
        · right; simp [hc]; omega
      · right
        by_cases hc : 32 ≤ cnt rs.rights
        · left; simp [hc]
        · right; simp [hc]; omega
      · left; simp
      · right
        by_cases hc : 32 ≤ cnt rs.rights
        · left; simp [hc]
        · right; simp [hc]; omega

set_option maxHeartbeats 4000000 in
set_option maxRecDepth 100000 in
theorem bderive_any (P : Api M) (hp : M own 2 w m rs) (hb : BRep own 1 w b m s rs vM) (hs : SOk rs) (hH : HInv rs) (hf : RFix rs nk) (hN : rs.rights.length ≤ N) (hm : (N + 2) * 48 ≤ 140737488355328) (env te : Nat) (he : env < rs.ne) (hto : te < rs.ne)
    (hd : Int) (hd0 : 0 ≤ hd) (hd1 : hd ≤ 9223372036854775807) (wt : Bool) :
    Calls Try.prog 18 #[.pointer (some ⟨b, 0, none⟩), .int .i64 env, .int .i64 hd, .int .i64 te, .bool wt] w fun e w' => e = .returned (.bool true) ∧ BRes M own w w' b m s (deriveR rs env hd te wt).2 := by
  have hF : Few rs := by unfold Few; omega
  have h4 := hf.ne
  have c0 := hb.c0
  obtain ⟨i0, i1, i2, i3, i4⟩ := info_parts Try.infoG
  have hi0 : (0 : Int) ≤ (te : Int) := by omega
  have hi1 : (te : Int) < 4 := by omega
  go_enter Try.func18, Try.ntmps18
  go_wp2_with fail
  refine (P.derive hp hs hF env hd te wt ⟨by omega, by omega⟩ ⟨by omega, hd1⟩ ⟨by omega, by omega⟩).mono ?_
  rintro e w1 ⟨rfl, hn⟩
  obtain ⟨own1, hp1, hb1, ho1, ht1⟩ := book_mid hb hn
  have k4 := hb1.c4
  have ka := hb1.cal te (by omega)
  obtain ⟨ao, cap, hv, hcase⟩ := hb1.row.shape'
  rw [hv] at k4
  have Hv : Hid (vM = .slice ao rs.rights.length cap) := hv
  clear hv c0
  rcases derive_cases (rs := rs) env te he hto hd wt with ⟨x, hx2, hx, hdr⟩ | ⟨j, r, hdj, hr, hx2, hc⟩
  · have HX : Hid (deriveR rs env hd te wt = ((0, x), rs)) := hdr
    have HY : Hid ((rightE rs env hd).2 = x) := hx2
    rw [HX.out]
    clear hdr hx2
    rcases hx with rfl | rfl
    all_goals
      go_wp2_with fail
      refine (bcounts_any hb1 hs.inv.ord (by omega)).mono ?_
      rintro e w2 ⟨rfl, hw2⟩
      subst hw2
      go_wp2_with fail
      refine (bmay_any hb1 hs.inv.ord (by omega) env he h4 hd hd0 hd1).mono ?_
      rintro e w3 ⟨rfl, hw3⟩
      subst hw3
      rw [HY.out]
      go_wp2_with fail
      go_ret
      exact ⟨rfl, own1, vM, hp1, by rw [HX.out]; exact hb1, ho1, ht1⟩
  · have HY : Hid ((rightE rs env hd).2 = 0) := hx2
    have hj := (List.getElem?_eq_some_iff.1 hr).1
    obtain ⟨g, capr, hvr, _, _, _, c2, _, _⟩ := hb1.right hr
    rw [Hv.out] at hvr
    simp at hvr
    obtain ⟨rfl, rfl⟩ := hvr
    have hd2 : hd - 1 = (j : Int) := by omega
    have hjj : (j : Int) < (rs.rights.length : Int) := by omega
    have hj0 : (0 : Int) ≤ (j : Int) := by omega
    clear hr hcase hdj hx2
    rcases hc with ⟨ha, hx⟩ | ⟨ha, hw1, hw2, hx⟩ | ⟨ha, hw, hc, hx⟩ | ⟨ha, hw, hc, hx⟩
    · have HX : Hid (deriveR rs env hd te wt = ((0, 2), rs)) := hx
      rw [HX.out]
      rw [ha] at ka
      clear hx ha
      go_wp2_with fail
      refine (bcounts_any hb1 hs.inv.ord (by omega)).mono ?_
      rintro e w2 ⟨rfl, hw2⟩
      subst hw2
      go_wp2_with fail
      refine (bmay_any hb1 hs.inv.ord (by omega) env he h4 hd hd0 hd1).mono ?_
      rintro e w3 ⟨rfl, hw3⟩
      subst hw3
      rw [HY.out]
      go_wp2_with fail
      go_ret
      exact ⟨rfl, own1, vM, hp1, by rw [HX.out]; exact hb1, ho1, ht1⟩
    · have HX : Hid (deriveR rs env hd te wt = ((0, 10), rs)) := hx
      rw [HX.out]
      rw [ha] at ka
      rw [hw2] at c2
      subst hw1
      clear hx ha hw2
      go_wp2_with fail
      refine (bcounts_any hb1 hs.inv.ord (by omega)).mono ?_
      rintro e w2 ⟨rfl, hw2⟩
      subst hw2
      go_wp2_with fail
      refine (bmay_any hb1 hs.inv.ord (by omega) env he h4 hd hd0 hd1).mono ?_
      rintro e w3 ⟨rfl, hw3⟩
      subst hw3
      rw [HY.out]
      go_wp2_with fail
      go_ret
      exact ⟨rfl, own1, vM, hp1, by rw [HX.out]; exact hb1, ho1, ht1⟩
    · have HX : Hid (deriveR rs env hd te wt = ((0, 12), rs)) := hx
      rw [HX.out]
      rw [ha] at ka
      clear hx ha
      rcases hw with rfl | ⟨rfl, hw⟩
      all_goals
        try rw [hw] at c2
        go_wp2_with fail
        refine (bcounts_any hb1 hs.inv.ord (by omega)).mono ?_
        rintro e w2 ⟨rfl, hw2⟩
        subst hw2
        go_wp2_with fail
        refine (bmay_any hb1 hs.inv.ord (by omega) env he h4 hd hd0 hd1).mono ?_
        rintro e w3 ⟨rfl, hw3⟩
        subst hw3
        rw [HY.out]
        go_wp2_with fail
        go_ret
        exact ⟨rfl, own1, vM, hp1, by rw [HX.out]; exact hb1, ho1, ht1⟩
    · have HX : Hid (deriveR rs env hd te wt = (((rs.rights.length : Int) + 1, 0), addR rs te r.fr wt j)) := hx
      rw [HX.out]
      rw [ha] at ka
      clear hx ha
      have hR := hb1.row
      rw [Hv.out] at hR
      rcases hw with rfl | ⟨rfl, hw⟩
      · have hR2 := hR.alloc (.cells (gcells ⟨rs.rights.length + 1, te, r.fr, false, j, false⟩).toArray 60)
        go_wp2_with fail
        refine (bcounts_any hb1 hs.inv.ord (by omega)).mono ?_
        rintro e w2 ⟨rfl, hw2⟩
        subst hw2
        go_wp2_with fail
        refine (bmay_any hb1 hs.inv.ord (by omega) env he h4 hd hd0 hd1).mono ?_
        rintro e w3 ⟨rfl, hw3⟩
        subst hw3
        rw [HY.out]
        go_wp2_with (at_builtin; refine wpList_append_lies _ rfl (.tmp 78) (.tmp 84) 30 rfl 0 60 i0 _ 4 24 Try.underlying30 i1 i2 i3 i4 rfl (by decide) (.slice (some ⟨g, 0, none⟩) rs.rights.length cap) rs.rights.length _ rfl hR2 ⟨w3.heap.size, 0, none⟩ 1 1 (gcells ⟨rs.rights.length + 1, te, r.fr, false, j, false⟩) rfl rfl ?c1 ?c2 (by omega) ?b1 ?b2 (by omega) (w3.heap.size + 1) (by simp) ?nx)
        case c1 => exact World.news_of_block (B := w3.heap.size) (cs := (gcells ⟨rs.rights.length + 1, te, r.fr, false, j, false⟩).toArray) (t := 60) (fr := (0, 0)) (Blk.new _ _ _)
        case c2 => exact oneCell_g _
        case b1 => unfold maxLen; omega
        case b2 => omega
        intro g1 cp w4 hown hgrow hat hlt3
        have hbk := (hb1.blk.alloc (.cells (gcells ⟨rs.rights.length + 1, te, r.fr, false, j, false⟩).toArray 60)).grown hgrow (fun e => by have := hb1.tM b (by rw [Hv.out]; exact e); rw [hb1.tb] at this; simp at this)
        have e0 := (hbk.cell 4).trans (show _ = some vM from rfl)
        have e1 := hbk.frozen 4
        rw [Hv.out] at e0
        have hfin := book_add P (s' := addR rs te r.fr false j) (by have := hp1; rw [HX.out] at this; exact this) hb1 ho1 ht1 rfl rfl rfl rfl hown (by rw [Hv.out]; exact hgrow) (by rw [Hv.out]; exact hat)
        go_wp2_with fail
        go_ret
        exact ⟨rfl, by rw [HX.out]; exact hfin⟩
      · rw [hw] at c2
        have hR2 := hR.alloc (.cells (gcells ⟨rs.rights.length + 1, te, r.fr, true, j, false⟩).toArray 60)
        go_wp2_with fail
        refine (bcounts_any hb1 hs.inv.ord (by omega)).mono ?_
        rintro e w2 ⟨rfl, hw2⟩
        subst hw2
        go_wp2_with fail
        refine (bmay_any hb1 hs.inv.ord (by omega) env he h4 hd hd0 hd1).mono ?_
        rintro e w3 ⟨rfl, hw3⟩
        subst hw3
        rw [HY.out]
        go_wp2_with (at_builtin; refine wpList_append_lies _ rfl (.tmp 78) (.tmp 84) 30 rfl 0 60 i0 _ 4 24 Try.underlying30 i1 i2 i3 i4 rfl (by decide) (.slice (some ⟨g, 0, none⟩) rs.rights.length cap) rs.rights.length _ rfl hR2 ⟨w3.heap.size, 0, none⟩ 1 1 (gcells ⟨rs.rights.length + 1, te, r.fr, true, j, false⟩) rfl rfl ?c1t ?c2t (by omega) ?b1t ?b2t (by omega) (w3.heap.size + 1) (by simp) ?nxt)
        case c1t => exact World.news_of_block (B := w3.heap.size) (cs := (gcells ⟨rs.rights.length + 1, te, r.fr, true, j, false⟩).toArray) (t := 60) (fr := (0, 0)) (Blk.new _ _ _)
        case c2t => exact oneCell_g _
        case b1t => unfold maxLen; omega
        case b2t => omega
        intro g1 cp w4 hown hgrow hat hlt3
        have hbk := (hb1.blk.alloc (.cells (gcells ⟨rs.rights.length + 1, te, r.fr, true, j, false⟩).toArray 60)).grown hgrow (fun e => by have := hb1.tM b (by rw [Hv.out]; exact e); rw [hb1.tb] at this; simp at this)
        have e0 := (hbk.cell 4).trans (show _ = some vM from rfl)
        have e1 := hbk.frozen 4
        rw [Hv.out] at e0
        have hfin := book_add P (s' := addR rs te r.fr true j) (by have := hp1; rw [HX.out] at this; exact this) hb1 ho1 ht1 rfl rfl rfl rfl hown (by rw [Hv.out]; exact hgrow) (by rw [Hv.out]; exact hat)
        go_wp2_with fail
        go_ret
        exact ⟨rfl, by rw [HX.out]; exact hfin⟩
end
end Go.Proofs.Ytnolplmpanbmhaa

namespace Go.Proofs.Ytnolplmpanbmhaa
open Go.RowKit
set_option linter.unusedVariables false
attribute [local go_sem ↓] Go.wp_at_zero Go.wp_at_succ

/-- Of the first q rights those of P are ended. -/
def endTo (P : Nat → Bool) (rs : RSt) (q : Nat) : RSt := { rs with rights := markAt (fun i => decide (i < q) && P i) rs.rights }

theorem endTo_zero (P : Nat → Bool) (rs : RSt) : endTo P rs 0 = rs := by
  unfold endTo
  have : markAt (fun i => decide (i < 0) && P i) rs.rights = rs.rights := by
    apply List.ext_getElem?
    intro i
    rw [markAt_get]
    simp
  rw [this]
theorem endTo_len (P : Nat → Bool) (rs : RSt) (q : Nat) : (endTo P rs q).rights.length = rs.rights.length := markAt_len _ _
theorem endTo_at (P : Nat → Bool) (rs : RSt) (q : Nat) : (endTo P rs q).rights[q]? = rs.rights[q]? := by
  unfold endTo
  simp only [markAt_get]
  simp
theorem endTo_yes {P : Nat → Bool} {rs : RSt} {q : Nat} {r : RR} (hr : rs.rights[q]? = some r) (h : P q = true) : endTo P rs (q + 1) = { endTo P rs q with rights := (endTo P rs q).rights.set q r.end } := by
  unfold endTo
  simp only
  congr 1
  apply List.ext_getElem?
  intro i
  have hq := (List.getElem?_eq_some_iff.1 hr).1
  rw [List.getElem?_set, markAt_get, markAt_get, markAt_len]
  by_cases e : q = i
  · subst e
    rw [if_pos rfl, if_pos hq, hr]
    simp [h]
  · rw [if_neg e]
    congr 1
    funext x
    have : decide (i < q + 1) = decide (i < q) := by rw [Bool.eq_iff_iff]; simp; omega
    rw [this]
theorem endTo_no {P : Nat → Bool} {rs : RSt} {q : Nat} (h : P q = false) : endTo P rs (q + 1) = endTo P rs q := by
  unfold endTo
  congr 2
  funext i
  by_cases e : i = q
  · subst e; simp [h]
  · have : decide (i < q + 1) = decide (i < q) := by rw [Bool.eq_iff_iff]; simp; omega
    rw [this]
theorem endTo_all (P : Nat → Bool) (rs : RSt) : (endTo P rs rs.rights.length).rights = markAt P rs.rights := by
  unfold endTo
  apply List.ext_getElem?
  intro i
  rw [markAt_get, markAt_get]
  cases hx : rs.rights[i]? with
  | none => rfl
  | some x =>
    have := (List.getElem?_eq_some_iff.1 hx).1
    simp [this]

section
variable {own own1 : Nat → Nat × Nat} {w w1 w2 : World} {b m s : Nat} {rs rs' : RSt} {t t' : RSt} {nk N : Nat} {vM : Value} {M : MT}

theorem BRep.congr {id : Nat} (h : BRep own id w b m s rs vM) (h1 : rs'.rights = rs.rights) (h2 : rs'.alive = rs.alive) (h3 : rs'.ne = rs.ne) (h4 : rs'.nf = rs.nf) : BRep own id w b m s rs' vM := by
  refine ⟨?_, by rw [h1]; exact h.row, h.tb, h.tM⟩
  have : bcells m s rs' vM = bcells m s rs vM := by unfold bcells alAt; rw [h2, h3, h4]
  rw [this]; exact h.blk

theorem flat_setG (xs : List RR) (i : Nat) (r : RR) (hr : xs[i]? = some r) : (xs.set i r.end).flatMap gcells = (xs.flatMap gcells).set (i * 4 + 3) (.bool true) := by
  have hi := (List.getElem?_eq_some_iff.1 hr).1
  apply List.ext_getElem?
  intro p
  have hl := flat_length gcells 4 (fun _ => rfl) xs
  rw [flat_at gcells 4 (by omega) (fun _ => rfl)]
  simp only [List.getElem?_set, hl]
  by_cases hp : p / 4 = i
  · rw [if_pos hp.symm, if_pos (by omega)]
    by_cases h5 : p % 4 = 3
    · rw [if_pos (by omega), if_pos (by omega), h5]; rfl
    · rw [if_neg (by omega), flat_at gcells 4 (by omega) (fun _ => rfl), hp, hr]
      have : p % 4 = 0 ∨ p % 4 = 1 ∨ p % 4 = 2 := by omega
      rcases this with h | h | h <;> rw [h] <;> rfl
  · rw [if_neg (fun e => hp e.symm), if_neg (by omega), flat_at gcells 4 (by omega) (fun _ => rfl)]

/-- A right of the book ends. -/
theorem BRep.setEnd {g cap i : Nat} {r : RR} (h : BRep own1 1 w b m s rs vM) (hv : vM = .slice (some ⟨g, 0, none⟩) rs.rights.length cap) (hr : rs.rights[i]? = some r) :
    BRep own1 1 (w.setCell ⟨g, i * 4 + 3, none⟩ (.bool true)) b m s { rs with rights := rs.rights.set i r.end } vM := by
  have hg : own1 g = (1, 1) := h.tM g (by rw [hv]; rfl)
  refine ⟨h.blk.other _ (fun e => by have := h.tb; simp at e; rw [e, hg] at this; simp at this), ?_, h.tb, h.tM⟩
  have h1 := h.row
  rw [hv] at h1 ⊢
  simp only [List.length_set]
  rw [flat_setG _ _ _ hr]
  exact h1.set _ _
theorem M_setG (P : Api M) {g j : Nat} {u : Value} (h : M own1 2 w m rs) (hg : own1 g = (1, 1)) : M own1 2 (w.setCell ⟨g, j, none⟩ u) m rs :=
  P.of h (fun _ _ => rfl) (fun x hx ht => Below.heap_setCell _ _ _ _ (fun e => by simp at e; rw [e, hg] at ht; simp at ht))

theorem finish_cases (env : Nat) (hd : Int) :
    (∃ x, (rightE rs env hd).2 = x ∧ (x = 2 ∨ x = 9) ∧ dropR rs env hd = (x, rs) ∧ revokeR rs env hd = (x, rs)) ∨
    ∃ (j : Nat) (r : RR), hd = j + 1 ∧ rs.rights[j]? = some r ∧ (rightE rs env hd).2 = 0 ∧
      (∃ s', dropR rs env hd = (0, s') ∧ s'.rights = markAt (fun i => i == j) rs.rights ∧ s'.alive = rs.alive ∧ s'.ne = rs.ne ∧ s'.nf = rs.nf) ∧
      (∃ s', revokeR rs env hd = (0, s') ∧ s'.rights = markAt (fun i => (rs.rights[i]?.map fun r => r.frm == (j : Int)).getD false) rs.rights ∧ s'.alive = rs.alive ∧ s'.ne = rs.ne ∧ s'.nf = rs.nf) := by
  rcases rightE_cases rs env hd with ⟨x, h1, h3⟩ | ⟨j, r, h1, hrr, hd1, hee, hl, ha⟩
  · left
    have : x ≠ 0 := by omega
    exact ⟨x, by rw [h1], h3, by unfold dropR; rw [h1]; simp [this], by unfold revokeR; rw [h1]; simp [this]⟩
  · right
    exact ⟨j, r, hd1, hrr, by rw [h1], ⟨sweepS { rs with rights := rs.rights.set j r.end }, by unfold dropR; rw [h1]; simp [hrr], mark_set _ _ _ hrr, rfl, rfl, rfl⟩, ⟨sweepS (endIf (fun r => r.frm == (j : Int)) rs), by unfold revokeR; rw [h1]; simp, mark_map _ _, rfl, rfl, rfl⟩⟩

set_option maxHeartbeats 4000000 in
set_option maxRecDepth 100000 in
theorem bdrop_any (P : Api M) (hp : M own 2 w m rs) (hb : BRep own 1 w b m s rs vM) (hs : SOk rs) (hf : RFix rs nk) (hN : rs.rights.length ≤ N) (hm : (N + 2) * 48 ≤ 140737488355328) (env : Nat) (he : env < rs.ne) (hd : Int) (hd0 : 0 ≤ hd) (hd1 : hd ≤ 9223372036854775807) :
    Calls Try.prog 19 #[.pointer (some ⟨b, 0, none⟩), .int .i64 env, .int .i64 hd, .bool true] w fun e w' => e = .returned (.bool true) ∧ BRes M own w w' b m s (dropR rs env hd).2 := by
  have hF : Few rs := by unfold Few; omega
  have h4 := hf.ne
  have c0 := hb.c0
  rcases finish_cases (rs := rs) env hd with ⟨x, hx2, hx, hdr, -⟩ | ⟨j, r, hdj, hr, hx2, ⟨s', hdr, q1, q2, q3, q4⟩, -⟩
  · have HX : Hid (dropR rs env hd = (x, rs)) := hdr
    have HY : Hid ((rightE rs env hd).2 = x) := hx2
    clear hdr hx2
    rcases hx with rfl | rfl
    all_goals
      go_enter Try.func19, Try.ntmps19
      go_wp2_with fail
      refine (bmay_any hb hs.inv.ord (by omega) env he h4 hd hd0 hd1).mono ?_
      rintro e w3 ⟨rfl, hw3⟩
      subst hw3
      rw [HY.out]
      go_wp2_with fail
      refine (P.drop hp hs hF env hd ⟨by omega, by omega⟩ ⟨by omega, hd1⟩).mono ?_
      rintro e w1 ⟨rfl, hn⟩
      rw [HX.out]
      obtain ⟨own1, hp1, hb1, ho1, ht1⟩ := book_mid hb hn
      go_wp2_with fail
      go_ret
      exact ⟨rfl, own1, vM, hp1, by rw [HX.out]; exact hb1, ho1, ht1⟩
  · have HX : Hid (dropR rs env hd = (0, s')) := hdr
    have HY : Hid ((rightE rs env hd).2 = 0) := hx2
    clear hdr hx2
    have hd2 : hd - 1 = (j : Int) := by omega
    have hjl := (List.getElem?_eq_some_iff.1 hr).1
    clear hdj
    go_enter Try.func19, Try.ntmps19
    go_wp2_with fail
    refine (bmay_any hb hs.inv.ord (by omega) env he h4 hd hd0 hd1).mono ?_
    rintro e w3 ⟨rfl, hw3⟩
    subst hw3
    rw [HY.out]
    go_wp2_with fail
    refine (P.drop hp hs hF env hd ⟨by omega, by omega⟩ ⟨by omega, hd1⟩).mono ?_
    rintro e w1 ⟨rfl, hn⟩
    rw [HX.out]
    obtain ⟨own1, hp1, hb1, ho1, ht1⟩ := book_mid hb hn
    obtain ⟨ao, cap, hv, hcase⟩ := hb1.row.shape'
    have Hv : Hid (vM = .slice ao rs.rights.length cap) := hv
    clear hv
    go_wp2_with fail
    go_loopg [11] rs.rights.length (fun k x wr => ∃ q : Nat, x = .int .i64 q ∧ q + k = rs.rights.length ∧ M own1 2 wr m (dropR rs env hd).2 ∧ BRep own1 1 wr b m s (endTo (fun i => i == j) rs q) vM ∧ Touch w3.heap.size (fun x => (own x).1 = 1 ∨ (own x).1 = 2) w3 wr)
    case atStart => exact ⟨0, rfl, by omega, hp1, by rw [endTo_zero]; exact hb1, ht1⟩
    case round =>
      clear hp1 hb1 ht1
      obtain ⟨q, rfl, hk, hp1, hb1, ht1⟩ := hrel
      have HK : Hid (q + gk = rs.rights.length) := hk
      have hq : q ≤ rs.rights.length := by omega
      clear hk
      have k4 := hb1.c4
      rw [Hv.out] at k4
      by_cases hlt : q < rs.rights.length
      · obtain ⟨r2, hr2⟩ : ∃ r, rs.rights[q]? = some r := ⟨rs.rights[q], by simp⟩
        have hr3 : (endTo (fun i => i == j) rs q).rights[q]? = some r2 := by rw [endTo_at]; exact hr2
        obtain ⟨g, capr, hvr, hg, _, d1, _, d3, hfz⟩ := hb1.right hr3
        rw [Hv.out, endTo_len] at hvr
        simp at hvr
        obtain ⟨rfl, rfl⟩ := hvr
        have hi0 : (0 : Int) ≤ (q : Int) := by omega
        have hi1 : (q : Int) < (rs.rights.length : Int) := by omega
        have hfq := hfz (q * 4 + 3)
        have hne : g ≠ b := fun e => by have := hb1.tb; rw [← e, hg] at this; simp at this
        have hne' : b ≠ g := fun e => hne e.symm
        have hS : (own g).1 = 1 ∨ (own g).1 = 2 ∨ w3.heap.size ≤ g := by
          by_cases hh : g < w3.heap.size
          · left; rw [← ho1 g hh, hg]
          · right; right; omega
        by_cases hqj : q = j
        · subst hqj
          have hbe : ((q : Int) == (q : Int)) = true := by simp
          have HW : Hid (endTo (fun i => i == q) rs (q + 1) = { endTo (fun i => i == q) rs q with rights := (endTo (fun i => i == q) rs q).rights.set q r2.end }) := endTo_yes hr2 (by simp)
          have hp2 := M_setG P (j := q * 4 + 3) (u := .bool true) hp1 hg
          have hb2 := hb1.setEnd (cap := cap) (by rw [Hv.out, endTo_len]) hr3
          clear hr hr2 hr3 hcase hfz
          go_wp2_with fail
          go_roundg (gk - 1)
          case measure => have := HK.out; omega
          case rel => exact ⟨q + 1, by go_num, by have := HK.out; omega, hp2, by rw [HW.out]; exact hb2, ht1.setCell (p := ⟨g, q * 4 + 3, none⟩) (by rcases hS with h | h | h; exact .inl (.inl h); exact .inl (.inr h); exact .inr h) _⟩
        · have hbe : ((q : Int) == (j : Int)) = false := by simp; omega
          have HW : Hid (endTo (fun i => i == j) rs (q + 1) = endTo (fun i => i == j) rs q) := endTo_no (by simpa using hqj)
          clear hr hr2 hr3 hcase hfz hqj
          go_wp2_with fail
          go_roundg (gk - 1)
          case measure => have := HK.out; omega
          case rel => exact ⟨q + 1, by go_num, by have := HK.out; omega, hp1, by rw [HW.out]; exact hb1, ht1⟩
      · obtain rfl : q = rs.rights.length := by omega
        go_wp2_with fail
        go_ret
        exact ⟨rfl, own1, vM, hp1, by rw [HX.out]; exact hb1.congr (q1.trans (endTo_all _ _).symm) q2 q3 q4, ho1, ht1⟩

set_option maxHeartbeats 4000000 in
set_option maxRecDepth 100000 in
theorem brevoke_any (P : Api M) (hp : M own 2 w m rs) (hb : BRep own 1 w b m s rs vM) (hs : SOk rs) (hf : RFix rs nk) (hN : rs.rights.length ≤ N) (hm : (N + 2) * 48 ≤ 140737488355328) (env : Nat) (he : env < rs.ne) (hd : Int) (hd0 : 0 ≤ hd) (hd1 : hd ≤ 9223372036854775807) :
    Calls Try.prog 19 #[.pointer (some ⟨b, 0, none⟩), .int .i64 env, .int .i64 hd, .bool false] w fun e w' => e = .returned (.bool true) ∧ BRes M own w w' b m s (revokeR rs env hd).2 := by
  have hF : Few rs := by unfold Few; omega
  have h4 := hf.ne
  have c0 := hb.c0
  rcases finish_cases (rs := rs) env hd with ⟨x, hx2, hx, -, hdr⟩ | ⟨j, r, hdj, hr, hx2, -, ⟨s', hdr, q1, q2, q3, q4⟩⟩
  · have HX : Hid (revokeR rs env hd = (x, rs)) := hdr
    have HY : Hid ((rightE rs env hd).2 = x) := hx2
    clear hdr hx2
    rcases hx with rfl | rfl
    all_goals
      go_enter Try.func19, Try.ntmps19
      go_wp2_with fail
      refine (bmay_any hb hs.inv.ord (by omega) env he h4 hd hd0 hd1).mono ?_
      rintro e w3 ⟨rfl, hw3⟩
      subst hw3
      rw [HY.out]
      go_wp2_with fail
      refine (P.revoke hp hs hF env hd ⟨by omega, by omega⟩ ⟨by omega, hd1⟩).mono ?_
      rintro e w1 ⟨rfl, hn⟩
      rw [HX.out]
      obtain ⟨own1, hp1, hb1, ho1, ht1⟩ := book_mid hb hn
      go_wp2_with fail
      go_ret
      exact ⟨rfl, own1, vM, hp1, by rw [HX.out]; exact hb1, ho1, ht1⟩
  · have HX : Hid (revokeR rs env hd = (0, s')) := hdr
    have HY : Hid ((rightE rs env hd).2 = 0) := hx2
    clear hdr hx2
    have hd2 : hd - 1 = (j : Int) := by omega
    have hjl := (List.getElem?_eq_some_iff.1 hr).1
    clear hdj
    go_enter Try.func19, Try.ntmps19
    go_wp2_with fail
    refine (bmay_any hb hs.inv.ord (by omega) env he h4 hd hd0 hd1).mono ?_
    rintro e w3 ⟨rfl, hw3⟩
    subst hw3
    rw [HY.out]
    go_wp2_with fail
    refine (P.revoke hp hs hF env hd ⟨by omega, by omega⟩ ⟨by omega, hd1⟩).mono ?_
    rintro e w1 ⟨rfl, hn⟩
    rw [HX.out]
    obtain ⟨own1, hp1, hb1, ho1, ht1⟩ := book_mid hb hn
    obtain ⟨ao, cap, hv, hcase⟩ := hb1.row.shape'
    have Hv : Hid (vM = .slice ao rs.rights.length cap) := hv
    clear hv
    go_wp2_with fail
    go_loopg [11] rs.rights.length (fun k x wr => ∃ q : Nat, x = .int .i64 q ∧ q + k = rs.rights.length ∧ M own1 2 wr m (revokeR rs env hd).2 ∧ BRep own1 1 wr b m s (endTo (fun i => (rs.rights[i]?.map fun r => r.frm == (j : Int)).getD false) rs q) vM ∧ Touch w3.heap.size (fun x => (own x).1 = 1 ∨ (own x).1 = 2) w3 wr)
    case atStart => exact ⟨0, rfl, by omega, hp1, by rw [endTo_zero]; exact hb1, ht1⟩
    case round =>
      clear hp1 hb1 ht1
      obtain ⟨q, rfl, hk, hp1, hb1, ht1⟩ := hrel
      have HK : Hid (q + gk = rs.rights.length) := hk
      have hq : q ≤ rs.rights.length := by omega
      clear hk
      have k4 := hb1.c4
      rw [Hv.out] at k4
      by_cases hlt : q < rs.rights.length
      · obtain ⟨r2, hr2⟩ : ∃ r, rs.rights[q]? = some r := ⟨rs.rights[q], by simp⟩
        have hr3 : (endTo (fun i => (rs.rights[i]?.map fun r => r.frm == (j : Int)).getD false) rs q).rights[q]? = some r2 := by rw [endTo_at]; exact hr2
        obtain ⟨g, capr, hvr, hg, _, d1, _, d3, hfz⟩ := hb1.right hr3
        rw [Hv.out, endTo_len] at hvr
        simp at hvr
        obtain ⟨rfl, rfl⟩ := hvr
        have hi0 : (0 : Int) ≤ (q : Int) := by omega
        have hi1 : (q : Int) < (rs.rights.length : Int) := by omega
        have hfq := hfz (q * 4 + 3)
        have hne : g ≠ b := fun e => by have := hb1.tb; rw [← e, hg] at this; simp at this
        have hne' : b ≠ g := fun e => hne e.symm
        have hS : (own g).1 = 1 ∨ (own g).1 = 2 ∨ w3.heap.size ≤ g := by
          by_cases hh : g < w3.heap.size
          · left; rw [← ho1 g hh, hg]
          · right; right; omega
        cases hqj : (r2.frm == (j : Int))
        · have HW : Hid (endTo (fun i => (rs.rights[i]?.map fun r => r.frm == (j : Int)).getD false) rs (q + 1) = endTo (fun i => (rs.rights[i]?.map fun r => r.frm == (j : Int)).getD false) rs q) := endTo_no (by simp [hr2, hqj])
          clear hr hr2 hr3 hcase hfz
          go_wp2_with fail
          go_roundg (gk - 1)
          case measure => have := HK.out; omega
          case rel => exact ⟨q + 1, by go_num, by have := HK.out; omega, hp1, by rw [HW.out]; exact hb1, ht1⟩
        · have HW : Hid (endTo (fun i => (rs.rights[i]?.map fun r => r.frm == (j : Int)).getD false) rs (q + 1) = { endTo (fun i => (rs.rights[i]?.map fun r => r.frm == (j : Int)).getD false) rs q with rights := (endTo (fun i => (rs.rights[i]?.map fun r => r.frm == (j : Int)).getD false) rs q).rights.set q r2.end }) := endTo_yes hr2 (by simp [hr2, hqj])
          have hp2 := M_setG P (j := q * 4 + 3) (u := .bool true) hp1 hg
          have hb2 := hb1.setEnd (cap := cap) (by rw [Hv.out, endTo_len]) hr3
          clear hr hr2 hr3 hcase hfz
          go_wp2_with fail
          go_roundg (gk - 1)
          case measure => have := HK.out; omega
          case rel => exact ⟨q + 1, by go_num, by have := HK.out; omega, hp2, by rw [HW.out]; exact hb2, ht1.setCell (p := ⟨g, q * 4 + 3, none⟩) (by rcases hS with h | h | h; exact .inl (.inl h); exact .inl (.inr h); exact .inr h) _⟩
      · obtain rfl : q = rs.rights.length := by omega
        go_wp2_with fail
        go_ret
        exact ⟨rfl, own1, vM, hp1, by rw [HX.out]; exact hb1.congr (q1.trans (endTo_all _ _).symm) q2 q3 q4, ho1, ht1⟩
end
end Go.Proofs.Ytnolplmpanbmhaa

namespace Go.Proofs.Ytnolplmpanbmhaa
open Go.RowKit
set_option linter.unusedVariables false
attribute [local go_sem ↓] Go.wp_at_zero Go.wp_at_succ

section
variable {own own1 : Nat → Nat × Nat} {w w1 w2 : World} {b m s : Nat} {rs rs' : RSt} {t t' : RSt} {nk N : Nat} {vM : Value} {M : MT}

theorem alAt_set (rs : RSt) (env : Nat) (v : Bool) (he : env < rs.alive.length) (j : Nat) : alAt { rs with alive := rs.alive.set env v } j = if env = j then v else alAt rs j := by
  unfold alAt
  simp only [List.getElem?_set]
  by_cases h : env = j
  · subst h; simp [he]
  · simp [h]

/-- An environment begins or ends in the book. -/
theorem BRep.setAl (h : BRep own1 1 w b m s rs vM) (env : Nat) (v : Bool) (he : env < rs.alive.length) (h4 : env < 4) :
    BRep own1 1 (w.setCell ⟨b, 5 + env, none⟩ (.bool v)) b m s { rs with alive := rs.alive.set env v } vM := by
  refine ⟨?_, h.row.other _ (fun e => by have := h.tM _ e; rw [h.tb] at this; simp at this), h.tb, h.tM⟩
  have hb := h.blk.set (5 + env) (.bool v)
  have : bcells m s { rs with alive := rs.alive.set env v } vM = (bcells m s rs vM).set (5 + env) (.bool v) := by
    unfold bcells
    rw [alAt_set _ _ _ he, alAt_set _ _ _ he, alAt_set _ _ _ he, alAt_set _ _ _ he]
    have : env = 0 ∨ env = 1 ∨ env = 2 ∨ env = 3 := by omega
    rcases this with rfl | rfl | rfl | rfl <;> rfl
  rw [this]; exact hb
theorem M_setB (P : Api M) (h : M own1 2 w m rs) (hg : own1 b = (1, 0)) {j : Nat} {u : Value} : M own1 2 (w.setCell ⟨b, j, none⟩ u) m rs :=
  P.of h (fun _ _ => rfl) (fun x hx ht => Below.heap_setCell _ _ _ _ (fun e => by simp at e; rw [e, hg] at ht; simp at ht))

theorem touchB (hb : BRep own 1 w b m s rs vM) (ho : ∀ x, x < w.heap.size → own1 x = own x) (hb1 : BRep own1 1 w1 b m s rs vM) : ((own b).1 = 1 ∨ (own b).1 = 2) ∨ w.heap.size ≤ b := .inl (.inl (by rw [hb.tb]))

theorem live_cases (hl : rs.alive.length = rs.ne) (env : Nat) (he : env < rs.ne) :
    (alAt rs env = true ∧ spawnR rs env = (3, rs) ∧ rs.alive.set env true = rs.alive ∧ ∃ s', killR rs env = (0, s') ∧ s'.rights = markAt (fun i => (rs.rights[i]?.map fun r => r.env == (env : Int)).getD false) rs.rights ∧ s'.alive = rs.alive.set env false ∧ s'.ne = rs.ne ∧ s'.nf = rs.nf) ∨
    (alAt rs env = false ∧ spawnR rs env = (0, { rs with alive := rs.alive.set env true }) ∧ killR rs env = (2, rs)) := by
  have hal : aliveB rs env = alAt rs env := by unfold aliveB alAt; simp [he]
  unfold spawnR killR
  rw [hal]
  have hn : ¬ ((env : Int) < 0 ∨ (rs.ne : Int) ≤ env) := by omega
  rw [if_neg hn]
  cases ha : alAt rs env
  · right; simp
  · left
    refine ⟨rfl, by simp, ?_, sweepS { endIf (fun r => r.env == (env : Int)) rs with alive := rs.alive.set env false }, by simp, mark_map _ _, rfl, rfl, rfl⟩
    apply List.ext_getElem?
    intro i
    rw [List.getElem?_set]
    by_cases e : env = i
    · subst e
      rw [if_pos rfl, if_pos (by omega)]
      unfold alAt at ha
      cases hx : rs.alive[env]? with
      | none => rw [hx] at ha; simp at ha
      | some x => rw [hx] at ha; simp at ha; rw [ha]
    · rw [if_neg e]

set_option maxHeartbeats 2000000 in
set_option maxRecDepth 100000 in
theorem bspawn_any (P : Api M) (hp : M own 2 w m rs) (hb : BRep own 1 w b m s rs vM) (hs : SOk rs) (hf : RFix rs nk) (hN : rs.rights.length ≤ N) (hm : (N + 2) * 48 ≤ 140737488355328) (env : Nat) (he : env < rs.ne) :
    Calls Try.prog 20 #[.pointer (some ⟨b, 0, none⟩), .int .i64 env, .bool false] w fun e w' => e = .returned (.bool true) ∧ BRes M own w w' b m s (spawnR rs env).2 := by
  have hF : Few rs := by unfold Few; omega
  have h4 := hf.ne
  have c0 := hb.c0
  have hi0 : (0 : Int) ≤ (env : Int) := by omega
  have hi1 : (env : Int) < 4 := by omega
  go_enter Try.func20, Try.ntmps20
  go_wp2_with fail
  refine (P.spawn hp hs hF env ⟨by omega, by omega⟩).mono ?_
  rintro e w1 ⟨rfl, hn⟩
  obtain ⟨own1, hp1, hb1, ho1, ht1⟩ := book_mid hb hn
  have ka := hb1.cal env (by omega)
  have kf := hb1.blk.frozen (5 + env)
  have hp2 := M_setB P (j := 5 + env) (u := .bool true) hp1 hb1.tb
  have hb2 := hb1.setAl env true (by rw [hf.al]; exact he) (by omega)
  have ht2 := ht1.setCell (p := ⟨b, 5 + env, none⟩) (touchB hb ho1 hb1) (.bool true)
  rcases live_cases hf.al env he with ⟨ha, hx, hset, -⟩ | ⟨ha, hx, -⟩
  · have HX : Hid (spawnR rs env = (3, rs)) := hx
    rw [HX.out]
    rw [ha] at ka
    clear hx ha
    go_wp2_with fail
    go_ret
    exact ⟨rfl, own1, vM, hp2, by rw [HX.out]; exact hb2.congr rfl hset.symm rfl rfl, ho1, ht2⟩
  · have HX : Hid (spawnR rs env = (0, { rs with alive := rs.alive.set env true })) := hx
    rw [HX.out]
    rw [ha] at ka
    clear hx ha
    go_wp2_with fail
    go_ret
    exact ⟨rfl, own1, vM, hp2, by rw [HX.out]; exact hb2, ho1, ht2⟩

set_option maxHeartbeats 4000000 in
set_option maxRecDepth 100000 in
theorem bkill_any (P : Api M) (hp : M own 2 w m rs) (hb : BRep own 1 w b m s rs vM) (hs : SOk rs) (hf : RFix rs nk) (hN : rs.rights.length ≤ N) (hm : (N + 2) * 48 ≤ 140737488355328) (env : Nat) (he : env < rs.ne) :
    Calls Try.prog 20 #[.pointer (some ⟨b, 0, none⟩), .int .i64 env, .bool true] w fun e w' => e = .returned (.bool true) ∧ BRes M own w w' b m s (killR rs env).2 := by
  have hF : Few rs := by unfold Few; omega
  have h4 := hf.ne
  have c0 := hb.c0
  have hi0 : (0 : Int) ≤ (env : Int) := by omega
  have hi1 : (env : Int) < 4 := by omega
  go_enter Try.func20, Try.ntmps20
  go_wp2_with fail
  refine (P.kill hp hs hF env ⟨by omega, by omega⟩).mono ?_
  rintro e w1 ⟨rfl, hn⟩
  obtain ⟨own1, hp1, hb1, ho1, ht1⟩ := book_mid hb hn
  have ka := hb1.cal env (by omega)
  rcases live_cases hf.al env he with ⟨ha, -, -, s', hx, q1, q2, q3, q4⟩ | ⟨ha, -, hx⟩
  rotate_left
  · have HX : Hid (killR rs env = (2, rs)) := hx
    rw [HX.out]
    rw [ha] at ka
    clear hx ha
    go_wp2_with fail
    go_ret
    exact ⟨rfl, own1, vM, hp1, by rw [HX.out]; exact hb1, ho1, ht1⟩
  · have HX : Hid (killR rs env = (0, s')) := hx
    rw [HX.out]
    rw [ha] at ka
    have hbl := hb.blk.lt
    have hbt := hb.tb
    obtain ⟨ao, cap, hv, hcase⟩ := hb1.row.shape'
    have Hv : Hid (vM = .slice ao rs.rights.length cap) := hv
    clear hx ha hv c0
    go_wp2_with fail
    go_loopg [10] rs.rights.length (fun k x wr => ∃ q : Nat, x = .int .i64 q ∧ q + k = rs.rights.length ∧ M own1 2 wr m (killR rs env).2 ∧ BRep own1 1 wr b m s (endTo (fun i => (rs.rights[i]?.map fun r => r.env == (env : Int)).getD false) rs q) vM ∧ Touch w.heap.size (fun x => (own x).1 = 1 ∨ (own x).1 = 2) w wr)
    case atStart => exact ⟨0, rfl, by omega, hp1, by rw [endTo_zero]; exact hb1, ht1⟩
    case round =>
      clear hp1 hb1 ht1 ka
      obtain ⟨q, rfl, hk, hp1, hb1, ht1⟩ := hrel
      have HK : Hid (q + gk = rs.rights.length) := hk
      have hq : q ≤ rs.rights.length := by omega
      clear hk
      have k4 := hb1.c4
      rw [Hv.out] at k4
      by_cases hlt : q < rs.rights.length
      · obtain ⟨r2, hr2⟩ : ∃ r, rs.rights[q]? = some r := ⟨rs.rights[q], by simp⟩
        have hr3 : (endTo (fun i => (rs.rights[i]?.map fun r => r.env == (env : Int)).getD false) rs q).rights[q]? = some r2 := by rw [endTo_at]; exact hr2
        obtain ⟨g, capr, hvr, hg, d0, _, _, d3, hfz⟩ := hb1.right hr3
        rw [Hv.out, endTo_len] at hvr
        simp at hvr
        obtain ⟨rfl, rfl⟩ := hvr
        have hi2 : (0 : Int) ≤ (q : Int) := by omega
        have hi3 : (q : Int) < (rs.rights.length : Int) := by omega
        have hfq := hfz (q * 4 + 3)
        have hne : g ≠ b := fun e => by have := hb1.tb; rw [← e, hg] at this; simp at this
        have hne' : b ≠ g := fun e => hne e.symm
        have hS : (own g).1 = 1 ∨ (own g).1 = 2 ∨ w.heap.size ≤ g := by
          by_cases hh : g < w.heap.size
          · left; rw [← ho1 g hh, hg]
          · right; right; omega
        cases hqj : (r2.env == (env : Int))
        · have HW : Hid (endTo (fun i => (rs.rights[i]?.map fun r => r.env == (env : Int)).getD false) rs (q + 1) = endTo (fun i => (rs.rights[i]?.map fun r => r.env == (env : Int)).getD false) rs q) := endTo_no (by simp [hr2, hqj])
          clear hr2 hr3 hcase hfz
          go_wp2_with fail
          go_roundg (gk - 1)
          case measure => have := HK.out; omega
          case rel => exact ⟨q + 1, by go_num, by have := HK.out; omega, hp1, by rw [HW.out]; exact hb1, ht1⟩
        · have HW : Hid (endTo (fun i => (rs.rights[i]?.map fun r => r.env == (env : Int)).getD false) rs (q + 1) = { endTo (fun i => (rs.rights[i]?.map fun r => r.env == (env : Int)).getD false) rs q with rights := (endTo (fun i => (rs.rights[i]?.map fun r => r.env == (env : Int)).getD false) rs q).rights.set q r2.end }) := endTo_yes hr2 (by simp [hr2, hqj])
          have hp2 := M_setG P (j := q * 4 + 3) (u := .bool true) hp1 hg
          have hb2 := hb1.setEnd (cap := cap) (by rw [Hv.out, endTo_len]) hr3
          clear hr2 hr3 hcase hfz
          go_wp2_with fail
          go_roundg (gk - 1)
          case measure => have := HK.out; omega
          case rel => exact ⟨q + 1, by go_num, by have := HK.out; omega, hp2, by rw [HW.out]; exact hb2, ht1.setCell (p := ⟨g, q * 4 + 3, none⟩) (by rcases hS with h | h | h; exact .inl (.inl h); exact .inl (.inr h); exact .inr h) _⟩
      · obtain rfl : q = rs.rights.length := by omega
        have ka := hb1.cal env (by omega)
        have kf := hb1.blk.frozen (5 + env)
        have hp2 := M_setB P (j := 5 + env) (u := .bool false) hp1 hb1.tb
        have hb2 := hb1.setAl env false (by show env < rs.alive.length; rw [hf.al]; exact he) (by omega)
        have ht2 := ht1.setCell (p := ⟨b, 5 + env, none⟩) (.inl (.inl (by show (own b).1 = 1; rw [hbt]))) (.bool false)
        go_wp2_with fail
        go_ret
        exact ⟨rfl, own1, vM, hp2, by rw [HX.out]; exact hb2.congr (q1.trans (endTo_all _ _).symm) q2 q3 q4, ho1, ht2⟩
end
end Go.Proofs.Ytnolplmpanbmhaa

/-
  Where a right stands in what Rights tells.
-/
namespace Go.Proofs.Ytnolplmpanbmhaa
set_option linter.unusedVariables false

section
variable {rs : RSt} {env : Int}
theorem listTo_pre (rs : RSt) (env : Int) (q : Nat) : ∀ d, ∃ t, listTo rs env (q + d) = listTo rs env q ++ t := by
  intro d
  induction d with
  | zero => exact ⟨[], by simp⟩
  | succ d ih =>
    obtain ⟨t, ht⟩ := ih
    cases hr : rs.rights[q + d]? with
    | none =>
      refine ⟨t, ?_⟩
      rw [← ht]
      unfold listTo
      rw [show q + (d + 1) = (q + d) + 1 by omega, List.range_succ, List.filterMap_append]
      simp [hr]
    | some r =>
      rw [show q + (d + 1) = (q + d) + 1 by omega, listTo_succ rs env _ r hr, ht, List.append_assoc]
      exact ⟨_, rfl⟩

/-- Where a right that is alive stands in the list of its environment. -/
theorem listR_at {i : Nat} {r : RR} (hr : rs.rights[i]? = some r) (hl : lv rs.rights i = true) (he : r.env = env) : (listR rs env)[(listTo rs env i).length]? = some r := by
  have hi := (List.getElem?_eq_some_iff.1 hr).1
  obtain ⟨t, ht⟩ := listTo_pre rs env (i + 1) (rs.rights.length - (i + 1))
  rw [show i + 1 + (rs.rights.length - (i + 1)) = rs.rights.length by omega] at ht
  unfold listR
  rw [ht, listTo_succ rs env i r hr, hl]
  simp [he]
theorem listTo_lt {i : Nat} {r : RR} (hr : rs.rights[i]? = some r) (hl : lv rs.rights i = true) (he : r.env = env) : (listTo rs env i).length < (listR rs env).length := (List.getElem?_eq_some_iff.1 (listR_at hr hl he)).1

/-- Which right stands at place k of the list. -/
theorem listTo_find (rs : RSt) (env : Int) : ∀ (n k : Nat) (r : RR), (listTo rs env n)[k]? = some r → ∃ i, i < n ∧ rs.rights[i]? = some r ∧ lv rs.rights i = true ∧ r.env = env ∧ (listTo rs env i).length = k := by
  intro n
  induction n with
  | zero => intro k r h; simp [listTo] at h
  | succ n ih =>
    intro k r h
    cases hr : rs.rights[n]? with
    | none =>
      have : listTo rs env (n + 1) = listTo rs env n := by
        unfold listTo
        rw [List.range_succ, List.filterMap_append]
        simp [hr]
      rw [this] at h
      obtain ⟨i, h1, h2⟩ := ih k r h
      exact ⟨i, by omega, h2⟩
    | some x =>
      rw [listTo_succ rs env n x hr] at h
      cases hc : (lv rs.rights n && x.env == env) with
      | false =>
        rw [hc] at h
        simp at h
        obtain ⟨i, h1, h2⟩ := ih k r h
        exact ⟨i, by omega, h2⟩
      | true =>
        rw [hc] at h
        simp only [if_true] at h
        rcases getApp h with h | ⟨h1, h2⟩
        · obtain ⟨i, h1, h2⟩ := ih k r h
          exact ⟨i, by omega, h2⟩
        · subst h2
          simp at hc
          exact ⟨n, by omega, hr, hc.1, hc.2, h1.symm⟩

theorem listTo_mono {i j : Nat} {r : RR} (hij : i < j) (hr : rs.rights[i]? = some r) (hl : lv rs.rights i = true) (he : r.env = env) : (listTo rs env i).length < (listTo rs env j).length := by
  obtain ⟨t, ht⟩ := listTo_pre rs env (i + 1) (j - (i + 1))
  rw [show i + 1 + (j - (i + 1)) = j by omega] at ht
  rw [ht, listTo_succ rs env i r hr, hl]
  simp [he]
end

end Go.Proofs.Ytnolplmpanbmhaa

namespace Go.Proofs.Ytnolplmpanbmhaa
open Go.RowKit
set_option linter.unusedVariables false
attribute [local go_sem ↓] Go.wp_at_zero Go.wp_at_succ

section
variable {own own1 : Nat → Nat × Nat} {w w1 w2 : World} {b m s : Nat} {rs rs' : RSt} {t t' : RSt} {nk N : Nat} {vM : Value} {M : MT}

set_option maxHeartbeats 4000000 in
set_option maxRecDepth 100000 in
theorem btold_any (P : Api M) (hp : M own 2 w m rs) (hb : BRep own 1 w b m s rs vM) (hs : SOk rs) (hf : RFix rs nk) (hN : rs.rights.length ≤ N) (hm : (N + 2) * 48 ≤ 140737488355328) (env : Nat) (he : env < rs.ne) :
    Calls Try.prog 8 #[.pointer (some ⟨b, 0, none⟩), .int .i64 env] w fun e w' => e = .returned (.bool true) ∧ Below w.heap.size w w' := by
  have hF : Few rs := by unfold Few; omega
  have h4 := hf.ne
  have hnf := hf.nf
  have c0 := hb.c0
  have hi0 : (0 : Int) ≤ (env : Int) := by omega
  have hi1 : (env : Int) < 4 := by omega
  have hal : aliveB rs env = alAt rs env := by unfold aliveB alAt; simp [he]
  go_enter Try.func8, Try.ntmps8
  go_wp2_with fail
  refine (P.rights hp hs hF env ⟨by omega, by omega⟩).mono ?_
  rintro e w1 ⟨v, rfl, hb1, -, hrow⟩
  have hB := hb.below hb1
  have ka := hB.cal env (by omega)
  have hle := toldR_le rs env
  obtain ⟨ao, cap, hv, hcase⟩ := hrow.shape'
  subst hv
  cases ha : alAt rs env
  · have hL : toldR rs env = [] := by unfold toldR; rw [hal, ha]; rfl
    have hE : rawE rs env = 2 := by unfold rawE; rw [hal, ha]; rfl
    rw [hL] at *
    rw [hE]
    rw [ha] at ka
    clear hE hL
    go_wp2_with fail
    go_ret
    exact ⟨rfl, hb1⟩
  · have hL : toldR rs env = listR rs env := by unfold toldR; rw [hal, ha]; rfl
    have hE : rawE rs env = 0 := by unfold rawE; rw [hal, ha]; rfl
    rw [hL] at hrow hle hcase ⊢
    rw [hE]
    rw [ha] at ka
    obtain ⟨n, hn⟩ : ∃ n, (listR rs env).length = n := ⟨_, rfl⟩
    have HN : Hid ((listR rs env).length = n) := hn
    rw [hn] at hle hcase hrow ⊢
    clear hE hL hn
    have k1 := hB.c1
    have k4 := hB.c4
    obtain ⟨aoM, capM, hvM, hcM⟩ := hB.row.shape'
    rw [hvM] at k4
    have Hv : Hid (vM = .slice aoM rs.rights.length capM) := hvM
    clear hvM
    go_wp2_with fail
    go_loopg [7, 8] rs.rights.length (fun k kv x wr => ∃ q : Nat, x = .int .i64 q ∧ q + k = rs.rights.length ∧ kv = .int .i64 ((listTo rs env q).length : Nat) ∧ Below w1.heap.size w1 wr)
    case atStart => exact ⟨0, rfl, by omega, rfl, Below.refl _ _⟩
    case round =>
      obtain ⟨q, rfl, hk, rfl, hbl⟩ := hrel
      have HK : Hid (q + gk = rs.rights.length) := hk
      have hq : q ≤ rs.rights.length := by omega
      clear hk
      have hlq := listTo_le rs env q
      have hB2 := hB.below hbl
      have j1 := hB2.c1
      have j4 := hB2.c4
      rw [Hv.out] at j4
      have hrow2 := hrow.below hbl
      by_cases hlt : q < rs.rights.length
      · obtain ⟨r, hr⟩ : ∃ r, rs.rights[q]? = some r := ⟨rs.rights[q], by simp⟩
        obtain ⟨g, capr, hvr, _, d0, d1, d2, d3, _⟩ := hB2.right hr
        rw [Hv.out] at hvr
        simp at hvr
        obtain ⟨rfl, rfl⟩ := hvr
        have HS : Hid (listTo rs env (q + 1) = listTo rs env q ++ (if lv rs.rights q && r.env == (env : Int) then [r] else [])) := listTo_succ rs env q r hr
        have hq0 : (0 : Int) ≤ (q : Int) := by omega
        have hq1 : (q : Int) < (rs.rights.length : Int) := by omega
        go_wp2_with fail
        refine (bliving_any hB2 hs.inv.ord (by omega) q (by omega) (by omega)).mono ?_
        rintro e w3 ⟨rfl, hw3⟩
        subst hw3
        cases hl : lv rs.rights q
        · have HW : Hid (listTo rs env (q + 1) = listTo rs env q) := by have := HS.out; rw [hl] at this; simpa [Hid] using this
          clear hr HS
          go_wp2_with fail
          go_roundg (gk - 1)
          case measure => have := HK.out; omega
          case rel => exact ⟨q + 1, by go_num, by have := HK.out; omega, by rw [HW.out], hbl⟩
        · cases hee : (r.env == (env : Int))
          · have HW : Hid (listTo rs env (q + 1) = listTo rs env q) := by have := HS.out; rw [hl, hee] at this; simpa [Hid] using this
            have hne : (r.env != (env : Int)) = true := by simpa using hee
            clear hr HS
            go_wp2_with fail
            go_roundg (gk - 1)
            case measure => have := HK.out; omega
            case rel => exact ⟨q + 1, by go_num, by have := HK.out; omega, by rw [HW.out], hbl⟩
          · have HW : Hid (listTo rs env (q + 1) = listTo rs env q ++ [r]) := by have := HS.out; rw [hl, hee] at this; simpa [Hid] using this
            have hee' : r.env = env := by simpa using hee
            have hne : (r.env != (env : Int)) = false := by simpa using hee'
            have hat := listR_at hr hl hee'
            have hlt2 := listTo_lt hr hl hee'
            rw [HN.out] at hlt2
            obtain ⟨c, hcc⟩ : ∃ c, (listTo rs env q).length = c := ⟨_, rfl⟩
            have HC : Hid ((listTo rs env q).length = c) := hcc
            rw [hcc] at hat hlt2 hlq ⊢
            have hfr := hs.inv.fr q r hr
            have hhd := hs.inv.hnd q r hr
            rcases hcase with h0 | ⟨g2, rfl⟩
            · omega
            have cc : ∀ j, j < 4 → w3.cell? ⟨g2, c * 4 + j, none⟩ = (rcells r)[j]? := fun j hj => by rw [hrow2.cellAt' _ (by omega), flat_get rcells 4 (fun _ => rfl) (listR rs env) c j r hat hj]
            have u0 := (cc 0 (by omega)).trans (show _ = some (.int .i64 r.h) from rfl)
            have u1 := (cc 1 (by omega)).trans (show _ = some (.int .i64 r.env) from rfl)
            have u2 := (cc 2 (by omega)).trans (show _ = some (.int .i64 r.fr) from rfl)
            have u3 := (cc 3 (by omega)).trans (show _ = some (.bool r.wr) from rfl)
            rw [hhd] at u0
            simp only [Nat.add_zero] at u0
            have z0 : (((q : Int) + 1) != ((q : Int) + 1)) = false := by simp
            have z1 : (r.wr != r.wr) = false := by simp
            have z2 := hfr.1
            have z3 := hfr.2
            have hc0 : (0 : Int) ≤ (c : Int) := by omega
            have hc1 : (c : Int) < (n : Int) := by omega
            have y1 : decide ((n : Int) ≤ (c : Int)) = false := decide_eq_false (by omega)
            have y2 : decide (n ≤ c) = false := decide_eq_false (by omega)
            have y3 : decide (r.fr < 0) = false := decide_eq_false (by omega)
            have y4 : decide ((rs.nf : Int) ≤ r.fr) = false := decide_eq_false (by omega)
            clear hr HS hat cc hhd hfr hcc hcM hee hee' hrow hrow2
            go_wp2_with fail
            go_quiet (fail)
            go_wp2_with fail
            go_roundg (gk - 1)
            case measure => have := HK.out; omega
            case rel => exact ⟨q + 1, by go_num, by have := HK.out; omega, by rw [HW.out, List.length_append, HC.out]; go_num, below_drewN hbl _⟩
      · obtain rfl : q = rs.rights.length := by omega
        have hnn : (listTo rs env rs.rights.length).length = n := HN.out
        have hbe : ((n : Int) == (n : Int)) = true := by simp
        rw [hnn]
        clear hnn
        go_wp2_with fail
        go_ret
        exact ⟨rfl, hb1.trans (hbl.mono hb1.size)⟩
end
end Go.Proofs.Ytnolplmpanbmhaa
