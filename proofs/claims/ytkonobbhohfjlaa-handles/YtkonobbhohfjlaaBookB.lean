import Derived.Test.YtkonobbhohfjlaaBook
namespace Go.Proofs.Ytkonobbhohfjlaa
open Go.RowKit
set_option linter.unusedVariables false
attribute [local go_sem ↓] Go.wp_at_zero Go.wp_at_succ

/-- What a step of the book leaves: the program's machine bears 2, the book 1. -/
def BRes (own : Nat → Nat × Nat) (w w' : World) (b m s : Nat) (rs : RSt) (ps : PSt) : Prop :=
  ∃ (own' : Nat → Nat × Nat) (vE vF vL vM : Value), PRep own' 2 w' m ps vE vF vL ∧ BRep own' 1 w' b m s rs vM ∧ (∀ x, x < w.heap.size → own' x = own x) ∧ Touch w.heap.size (fun x => (own x).1 = 1 ∨ (own x).1 = 2) w w'

section
variable {own : Nat → Nat × Nat} {w w1 w2 : World} {b m s : Nat} {rs : RSt} {ps ps' : PSt} {nk N : Nat} {vE vF vL vM : Value}

/-- Behind the program's call: the book is as it was. -/
theorem book_mid (hb : BRep own 1 w b m s rs vM) (hn : PNext own 2 w m w1 ps') : ∃ (own1 : Nat → Nat × Nat) (vE vF vL : Value), PRep own1 2 w1 m ps' vE vF vL ∧ BRep own1 1 w1 b m s rs vM ∧ (∀ x, x < w.heap.size → own1 x = own x) ∧ Touch w.heap.size (fun x => (own x).1 = 1 ∨ (own x).1 = 2) w w1 := by
  obtain ⟨own1, vE, vF, vL, h1, h2, h3⟩ := hn
  exact ⟨own1, vE, vF, vL, h1, hb.of h2 (fun x hx ht => h3.block x hx (by rw [ht]; omega)), h2, h3.mono (Nat.le_refl _) (fun _ _ h => .inr h)⟩

theorem alloc_cases (hs : Sim rs ps) (hH : HInv rs) (env : Nat) (he : env < rs.ne) :
    (alAt rs env = false ∧ allocR rs env = ((0, 2), rs)) ∨ (alAt rs env = true ∧ (32 ≤ cnt rs.rights ∨ (cnt rs.rights < 32 ∧ rs.nf ≤ fstTo rs.rights rs.rights.length)) ∧ allocR rs env = ((0, 12), rs)) ∨
    (alAt rs env = true ∧ cnt rs.rights < 32 ∧ fstTo rs.rights rs.rights.length < rs.nf ∧ ∃ (s' : RSt) (f : Int), allocR rs env = (((rs.rights.length : Int) + 1, 0), s') ∧ s'.rights = rs.rights ++ [⟨rs.rights.length + 1, env, f, true, -1, false⟩] ∧ s'.alive = rs.alive ∧ s'.ne = rs.ne ∧ s'.nf = rs.nf) := by
  have hal : aliveB rs env = alAt rs env := by unfold aliveB alAt; simp [he]
  have hln := least_none hH hs.inv
  unfold allocR rawE firstS
  rw [hal]
  cases ha : alAt rs env
  · exact .inl ⟨rfl, by simp⟩
  · right
    simp only [if_true, ne_eq, not_true_eq_false, if_false]
    cases hl : leastFree rs with
    | none =>
      rw [hl] at hln
      have := hln.1 rfl
      exact .inl ⟨trivial, by omega, rfl⟩
    | some f =>
      rw [hl] at hln
      have hlt : fstTo rs.rights rs.rights.length < rs.nf := by
        by_cases h : rs.nf ≤ fstTo rs.rights rs.rights.length
        · exact absurd (hln.2 h) (by simp)
        · omega
      by_cases hc : cnt rs.rights < 32
      · right
        simp only [if_pos hc]
        exact ⟨trivial, hc, hlt, _, f, rfl, rfl, rfl, rfl, rfl⟩
      · left
        simp only [if_neg hc]
        exact ⟨trivial, .inl (by omega), trivial⟩

theorem Try.infoG : (Try.prog.info? 62).map (fun i => (i.zero, i.size, i.bytes)) = some (some (.agg #[.int .i64 0, .int .i64 0, .bool false, .bool false]), 4, 24) := by kernel_rfl
theorem oneCell_g (r : RR) : ∀ u ∈ gcells r, u.oneCell' = true := by
  intro u hu; simp [gcells] at hu; rcases hu with rfl | rfl | rfl | rfl <;> rfl

/-- A right more in the book. -/
theorem book_add {own1 : Nat → Nat × Nat} {s' : RSt} {r : RR} {o1 : Obj} {g cap : Nat} (hp : PRep own1 2 w1 m ps' vE vF vL) (hb : BRep own1 1 w1 b m s rs vM) (ho : ∀ x, x < w.heap.size → own1 x = own x) (ht : Touch w.heap.size (fun x => (own x).1 = 1 ∨ (own x).1 = 2) w w1)
    (hr : s'.rights = rs.rights ++ [r]) (ha : s'.alive = rs.alive) (hn : s'.ne = rs.ne) (hf : s'.nf = rs.nf)
    (hown : w2.ownsRow 0 62 4 (.slice (some ⟨g, 0, none⟩) (rs.rights.length + 1) cap) (rs.rights.length + 1) (rs.rights.flatMap gcells ++ gcells r)) (hg : (w1.alloc o1).grownBy w2 vM.ownBlock) (hat : vM.ownBlock = some g ∨ g = w1.heap.size + 1) :
    BRes own w (w2.setCell ⟨b, 4, none⟩ (.slice (some ⟨g, 0, none⟩) (rs.rights.length + 1) cap)) b m s s' ps' := by
  have hs1 := ht.size
  have hs2 := hg.size
  simp at hs2
  have hbl := hb.blk.lt
  have hW : ∀ x, x < w1.heap.size → own1 x ≠ (1, 0) → own1 x ≠ (1, 1) → (w2.setCell ⟨b, 4, none⟩ (.slice (some ⟨g, 0, none⟩) (rs.rights.length + 1) cap)).heap[x]? = w1.heap[x]? := fun x hx e1 e2 => by
    rw [Below.heap_setCell _ _ _ _ (fun e => e1 (by simp at e; rw [e]; exact hb.tb)), hg.block x (by simp; omega) (fun e => e2 (hb.tM x e.symm)), Below.heap_alloc _ _ _ hx]
  have hbk : Blk w2 b (bcells m s rs vM) 36 := (hb.blk.alloc o1).grown hg (fun e => by have := hb.tM _ e; rw [hb.tb] at this; simp at this)
  refine ⟨set1 own1 (w1.heap.size + 1) (1, 1), vE, vF, vL, .slice (some ⟨g, 0, none⟩) (rs.rights.length + 1) cap, hp.of (set1_old (by omega)) (fun x hx h2 => hW x hx (fun e => by rw [e] at h2; simp at h2) (fun e => by rw [e] at h2; simp at h2)), ⟨?_, ?_, (set1_old (by omega) b hbl).trans hb.tb, hb.tM.app (fun x hx => by have := hb.row.lt x hx; omega) hat⟩, set1_keep ho (by omega), ?_⟩
  · have := hbk.set 4 (.slice (some ⟨g, 0, none⟩) (rs.rights.length + 1) cap)
    have e : bcells m s s' (.slice (some ⟨g, 0, none⟩) (rs.rights.length + 1) cap) = (bcells m s rs vM).set 4 (.slice (some ⟨g, 0, none⟩) (rs.rights.length + 1) cap) := by
      unfold bcells alAt
      rw [ha, hn, hf]
      rfl
    rw [e]; exact this
  · rw [hr, List.length_append, List.flatMap_append]
    simp only [List.length_cons, List.length_nil, List.flatMap_cons, List.flatMap_nil, List.append_nil, Nat.zero_add]
    refine Row.other (w := w2) hown _ (fun e => ?_)
    simp [Value.ownBlock] at e
    rcases hat with h1 | h1
    · have := hb.tM g h1; rw [e, hb.tb] at this; simp at this
    · omega
  · refine ((ht.alloc hs1 o1).grown hg (by simp; omega) (fun k hk => ?_)).setCell (p := ⟨b, 4, none⟩) ?_ _
    · by_cases hl : k < w.heap.size
      · left; left; rw [← ho k hl, hb.tM k hk]
      · right; omega
    · by_cases hl : b < w.heap.size
      · left; left
        show (own b).1 = 1
        rw [← ho b hl, hb.tb]
      · right; show w.heap.size ≤ b; omega

set_option maxHeartbeats 2000000 in
set_option maxRecDepth 100000 in
theorem balloc_any (hp : PRep own 2 w m ps vE vF vL) (hb : BRep own 1 w b m s rs vM) (hs : Sim rs ps) (hH : HInv rs) (hf : RFix rs nk) (hN : rs.rights.length ≤ N) (hm : (N + 1) * 48 ≤ 140737488355328) (env : Nat) (he : env < rs.ne) :
    Calls Try.prog 18 #[.pointer (some ⟨b, 0, none⟩), .int .i64 env] w fun e w' => e = .returned (.bool true) ∧ BRes own w w' b m s (allocR rs env).2 (allocP ps env).2 := by
  have hwp := hf.pwf hs hN hm
  have h4 := hf.ne
  have hnf := hf.nf
  have c0 := hb.c0
  obtain ⟨i0, i1, i2, i3, i4⟩ := info_parts Try.infoG
  have hi0 : (0 : Int) ≤ (env : Int) := by omega
  have hi1 : (env : Int) < 4 := by omega
  have hbc := hb
  go_enter Try.func18, Try.ntmps18
  go_wp2_with fail
  refine (palloc_any hp hwp env).mono ?_
  rintro e w1 ⟨rfl, hn⟩
  have HQ : Hid ((allocP ps env).1 = (allocR rs env).1) := (hs.alloc env).1.symm
  rw [HQ.out]
  obtain ⟨own1, vE1, vF1, vL1, hp1, hb1, ho1, ht1⟩ := book_mid hb hn
  have k1 := hb1.c1
  have k4 := hb1.c4
  have ka := hb1.cal env (by omega)
  obtain ⟨ao, cap, hv, hcase⟩ := hb1.row.shape'
  rw [hv] at k4
  have Hv : Hid (vM = .slice ao rs.rights.length cap) := hv
  clear hv c0
  rcases alloc_cases hs hH env he with ⟨ha, hx⟩ | ⟨ha, hc, hx⟩ | ⟨ha, hc1, hc2, s', f, hx, hr', ha', hn', hf'⟩
  · have HX : Hid (allocR rs env = ((0, 2), rs)) := hx
    rw [ha] at ka
    rw [HX.out]
    clear ha hx
    go_wp2_with fail
    refine (bcounts_any hb1 hs.inv.ord (by omega)).mono ?_
    rintro e w2 ⟨rfl, hw2⟩
    subst hw2
    go_wp2_with fail
    go_ret
    exact ⟨rfl, own1, vE1, vF1, vL1, vM, hp1, by rw [HX.out]; exact hb1, ho1, ht1⟩
  · have HX : Hid (allocR rs env = ((0, 12), rs)) := hx
    rw [ha] at ka
    rw [HX.out]
    clear ha hx
    rcases hc with hc | ⟨hc, hc2⟩
    all_goals
      go_wp2_with fail
      refine (bcounts_any hb1 hs.inv.ord (by omega)).mono ?_
      rintro e w2 ⟨rfl, hw2⟩
      subst hw2
      go_wp2_with fail
      go_ret
      exact ⟨rfl, own1, vE1, vF1, vL1, vM, hp1, by rw [HX.out]; exact hb1, ho1, ht1⟩
  · have HX : Hid (allocR rs env = (((rs.rights.length : Int) + 1, 0), s')) := hx
    rw [ha] at ka
    rw [HX.out]
    clear ha hx
    have hR := hb1.row
    rw [Hv.out] at hR
    have hR2 := hR.alloc (.cells (gcells ⟨rs.rights.length + 1, env, f, true, -1, false⟩).toArray 62)
    go_wp2_with fail
    refine (bcounts_any hb1 hs.inv.ord (by omega)).mono ?_
    rintro e w2 ⟨rfl, hw2⟩
    subst hw2
    go_wp2_with (at_builtin; refine wpList_append_lies _ rfl (.tmp 57) (.tmp 60) 33 rfl 0 62 i0 _ 4 24 Try.underlying33 i1 i2 i3 i4 rfl (by decide) (.slice ao rs.rights.length cap) rs.rights.length _ rfl hR2 ⟨w2.heap.size, 0, none⟩ 1 1 (gcells ⟨rs.rights.length + 1, env, f, true, -1, false⟩) rfl rfl ?c1 ?c2 (by omega) ?b1 ?b2 (by omega) (w2.heap.size + 1) (by simp) ?nx)
    case c1 => exact World.news_of_block (B := w2.heap.size) (cs := (gcells ⟨rs.rights.length + 1, env, f, true, -1, false⟩).toArray) (t := 62) (fr := (0, 0)) (Blk.new _ _ _)
    case c2 => exact oneCell_g _
    case b1 => unfold maxLen; omega
    case b2 => omega
    intro g cp w3 hown hgrow hat hlt3
    have hbk := (hb1.blk.alloc (.cells (gcells ⟨rs.rights.length + 1, env, f, true, -1, false⟩).toArray 62)).grown hgrow (fun e => by have := hb1.tM b (by rw [Hv.out]; exact e); rw [hb1.tb] at this; simp at this)
    have e0 := (hbk.cell 4).trans (show _ = some vM from rfl)
    have e1 := hbk.frozen 4
    rw [Hv.out] at e0
    have hfin := book_add hp1 hb1 ho1 ht1 hr' ha' hn' hf' hown (by rw [Hv.out]; exact hgrow) (by rw [Hv.out]; exact hat)
    go_wp2_with fail
    go_ret
    exact ⟨rfl, by rw [HX.out]; exact hfin⟩
end
end Go.Proofs.Ytkonobbhohfjlaa
