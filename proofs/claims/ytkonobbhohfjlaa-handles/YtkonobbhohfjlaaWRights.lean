import Derived.Test.YtkonobbhohfjlaaPairs
import Derived.Test.YtkonobbhohfjlaaStep
namespace Go.Proofs.Ytkonobbhohfjlaa
open Go.RowKit
set_option linter.unusedVariables false
attribute [local go_sem ↓] Go.wp_at_zero Go.wp_at_succ

def boxed (w : World) (p r : Nat) (o : LOp) : World := (w.alloc (.cells #[.pointer (some ⟨p, 0, none⟩), .pointer (some ⟨r, 0, none⟩)] 71)).alloc (.cells #[.int .i64 o.K, .int .i64 o.M, .int .i64 o.A, .int .i64 o.B, .int .i64 o.C, .int .i64 o.D, .bool o.F] 50)

theorem boxed_size (w : World) (p r : Nat) (o : LOp) : (boxed w p r o).heap.size = w.heap.size + 2 := by simp [boxed]
theorem boxed_below (w : World) (p r : Nat) (o : LOp) : Below w.heap.size w (boxed w p r o) := ((Below.refl _ _).alloc (Nat.le_refl _) _).alloc (by simp) _
theorem boxed_x (w : World) (p r : Nat) (o : LOp) : Blk (boxed w p r o) w.heap.size (pairCells (p, r)) 71 := (Blk.new w (pairCells (p, r)) _).alloc _
theorem boxed_o (w : World) (p r : Nat) (o : LOp) : Blk (boxed w p r o) (w.heap.size + 1) o.cells 50 := Blk.at (w.alloc (.cells (pairCells (p, r)).toArray 71)) o.cells 50 _ (by simp)

/-- What a call on a pair leaves. -/
def PairRes (own : Nat → Nat × Nat) (ip ir : Nat) (w w' : World) (p r : Nat) (rs : RSt) (ps : PSt) (nk : Nat) : Prop :=
  ∃ (own' : Nat → Nat × Nat) (vE vF vL vR vB vS vA vK : Value) (bs : List Nat), PRep own' ip w' p ps vE vF vL ∧ RefRep own' ir w' r rs nk vR vB vS vA vK bs ∧ (∀ b, b < w.heap.size → own' b = own b) ∧
    (∀ b, w.heap.size ≤ b → (own' b).1 = 0 ∨ (own' b).1 = ip ∨ (own' b).1 = ir) ∧ Touch w.heap.size (fun b => (own b).1 = ip ∨ (own b).1 = ir) w w'

section
variable {own : Nat → Nat × Nat} {ip ir bw p r : Nat} {w w1 w2 : World} {rs rs' : RSt} {ps ps' : PSt} {nk : Nat} {vE vF vL vR vB vS vA vK : Value} {bs : List Nat} {o : LOp}

theorem pair_mid (hr : RefRep own ir w r rs nk vR vB vS vA vK bs) (hne : ip ≠ ir) (h0 : ∀ b, w.heap.size ≤ b → (own b).1 = 0) (hp0 : ip ≠ 0) (hn : PNext own ip (boxed w p r o) p w1 ps') :
    ∃ (own1 : Nat → Nat × Nat) (vE vF vL : Value), PRep own1 ip w1 p ps' vE vF vL ∧ RefRep own1 ir w1 r rs nk vR vB vS vA vK bs ∧ Blk w1 w.heap.size (pairCells (p, r)) 71 ∧ Blk w1 (w.heap.size + 1) o.cells 50 ∧
      (∀ b, b < w.heap.size → own1 b = own b) ∧ Touch w.heap.size (fun b => (own b).1 = ip) w w1 := by
  obtain ⟨own1, vE, vF, vL, h1, h2, h3⟩ := hn
  have hz := boxed_size w p r o
  refine ⟨own1, vE, vF, vL, h1, ?_, ?_, ?_, fun b hb => h2 b (by omega), (Touch.of_below (boxed_below w p r o) _).trans (h3.mono (by omega) (fun _ _ h => h))⟩
  · exact (hr.below (boxed_below w p r o)).of h2 (fun b hb ht => h3.block b hb (by rw [ht]; exact fun e => hne e.symm))
  · exact (boxed_x w p r o).of (h3.block _ (by omega) (by rw [h0 _ (by omega)]; exact fun e => hp0 e.symm))
  · exact (boxed_o w p r o).of (h3.block _ (by omega) (by rw [h0 _ (by omega)]; exact fun e => hp0 e.symm))

theorem pair_fin {own1 : Nat → Nat × Nat} (hp : PRep own1 ip w1 p ps' vE vF vL) (hne : ip ≠ ir) (ho : ∀ b, b < w.heap.size → own1 b = own b) (ht : Touch w.heap.size (fun b => (own b).1 = ip) w w1) (hn : RefNext own1 ir w1 r nk w2 rs') :
    PairRes own ip ir w w2 p r rs' ps' nk := by
  obtain ⟨own2, vR, vB, vS, vA, vK, bs, h1, h2, h3⟩ := hn
  have hs := ht.size
  have hp2 := hp.of h2 (fun b hb ht => h3.block b hb (by rw [ht]; exact hne))
  have hag : ∀ b, b < w.heap.size → own2 b = own b := fun b hb => (h2 b (by omega)).trans (ho b hb)
  obtain ⟨own', e1, e2, e3⟩ : ∃ own' : Nat → Nat × Nat, (∀ b, b < w.heap.size → own' b = own b) ∧ (∀ b, w.heap.size ≤ b → (own' b).1 = 0 ∨ (own' b).1 = ip ∨ (own' b).1 = ir) ∧ ∀ b, (own2 b).1 = ip ∨ (own2 b).1 = ir → own' b = own2 b := by
    refine ⟨fun b => if b < w.heap.size then own b else if (own2 b).1 = ip ∨ (own2 b).1 = ir then own2 b else (0, 0), fun b hb => if_pos hb, fun b hb => ?_, fun b hb => ?_⟩
    · simp only [if_neg (show ¬ b < w.heap.size by omega)]
      split
      · rename_i h; exact .inr h
      · exact .inl rfl
    · by_cases hl : b < w.heap.size
      · simp only [if_pos hl]; exact (hag b hl).symm
      · simp only [if_neg hl, if_pos hb]
  refine ⟨own', _, _, _, _, _, _, _, _, _, hp2.retag (fun b _ h => e3 b (.inl h)), h1.retag (fun b _ h => e3 b (.inr h)), e1, e2, ?_⟩
  exact (ht.mono (Nat.le_refl _) (fun _ _ h => .inl h)).trans (h3.mono hs (fun k hk h => .inr (by rw [ho k hk] at h; exact h)))

set_option maxHeartbeats 2000000 in
set_option maxRecDepth 100000 in
theorem rights_alloc (o : LOp) (hK : o.K = 2)
    (hp : PRep own ip w p ps vE vF vL) (hr : RefRep own ir w r rs nk vR vB vS vA vK bs) (hs : Sim rs ps) (hwp : PWf ps) (hwr : RWf rs nk) (hne : ip ≠ ir) (h0 : ∀ b, w.heap.size ≤ b → (own b).1 = 0) (hp0 : ip ≠ 0) :
    Calls Try.prog 27 #[.pointer (some ⟨bw, 0, none⟩), .agg #[.pointer (some ⟨p, 0, none⟩), .pointer (some ⟨r, 0, none⟩)], .agg #[.int .i64 o.K, .int .i64 o.M, .int .i64 o.A, .int .i64 o.B, .int .i64 o.C, .int .i64 o.D, .bool o.F]] w
      fun e w' => e = .returned (.bool true) ∧ PairRes own ip ir w w' p r (allocR rs o.A).2 (allocP ps o.A).2 nk := by
  have e2 : (o.K == 2) = true := by simp [hK]
  clear hK
  have HQ : Hid ((allocR rs o.A).1 = (allocP ps o.A).1) := (hs.alloc o.A).1
  have q1 : ((allocP ps o.A).1.1 == (allocP ps o.A).1.1) = true := by simp
  have q2 : ((allocP ps o.A).1.2 == (allocP ps o.A).1.2) = true := by simp
  go_enter Try.func27, Try.ntmps27
  go_wp2_with fail
  refine (palloc_any (w := boxed w p r o) (hp.below (boxed_below w p r o)) hwp o.A).mono ?_
  rintro e w1 ⟨rfl, hn⟩
  obtain ⟨own1, vE1, vF1, vL1, hp1, hr1, hx, hy, ho1, ht1⟩ := pair_mid hr hne h0 hp0 hn
  have x1 := hx.cell 1
  have y2 := hy.cell 2
  simp only [pairCells, ptr, LOp.cells, List.getElem?_cons_succ, List.getElem?_cons_zero] at x1 y2
  go_wp2_with fail
  refine (ralloc_any hr1 hwr o.A).mono ?_
  rintro e w2 ⟨rfl, hn2⟩
  rw [HQ.out]
  go_wp2_with fail
  go_ret
  exact ⟨rfl, pair_fin hp1 hne ho1 ht1 hn2⟩
set_option maxHeartbeats 2000000 in
set_option maxRecDepth 100000 in
theorem rights_derive (o : LOp) (hK : o.K = 3) (hB : -9223372036854775808 ≤ o.B)
    (hp : PRep own ip w p ps vE vF vL) (hr : RefRep own ir w r rs nk vR vB vS vA vK bs) (hs : Sim rs ps) (hwp : PWf ps) (hwr : RWf rs nk) (hne : ip ≠ ir) (h0 : ∀ b, w.heap.size ≤ b → (own b).1 = 0) (hp0 : ip ≠ 0) :
    Calls Try.prog 27 #[.pointer (some ⟨bw, 0, none⟩), .agg #[.pointer (some ⟨p, 0, none⟩), .pointer (some ⟨r, 0, none⟩)], .agg #[.int .i64 o.K, .int .i64 o.M, .int .i64 o.A, .int .i64 o.B, .int .i64 o.C, .int .i64 o.D, .bool o.F]] w
      fun e w' => e = .returned (.bool true) ∧ PairRes own ip ir w w' p r (deriveR rs o.A o.B o.C o.F).2 (deriveP ps o.A o.B o.C o.F).2 nk := by
  have e2 : (o.K == 2) = false := by simp [hK]
  have e3 : (o.K == 3) = true := by simp [hK]
  clear hK
  have HQ : Hid ((deriveR rs o.A o.B o.C o.F).1 = (deriveP ps o.A o.B o.C o.F).1) := (hs.derive o.A o.B o.C o.F).1
  have q1 : ((deriveP ps o.A o.B o.C o.F).1.1 == (deriveP ps o.A o.B o.C o.F).1.1) = true := by simp
  have q2 : ((deriveP ps o.A o.B o.C o.F).1.2 == (deriveP ps o.A o.B o.C o.F).1.2) = true := by simp
  go_enter Try.func27, Try.ntmps27
  go_wp2_with fail
  refine (pderive_any (w := boxed w p r o) (hp.below (boxed_below w p r o)) hwp o.A o.B o.C o.F).mono ?_
  rintro e w1 ⟨rfl, hn⟩
  obtain ⟨own1, vE1, vF1, vL1, hp1, hr1, hx, hy, ho1, ht1⟩ := pair_mid hr hne h0 hp0 hn
  have x1 := hx.cell 1
  have y2 := hy.cell 2
  have y3 := hy.cell 3
  have y4 := hy.cell 4
  have y6 := hy.cell 6
  simp only [pairCells, ptr, LOp.cells, List.getElem?_cons_succ, List.getElem?_cons_zero] at x1 y2 y3 y4 y6
  go_wp2_with fail
  refine (rderive_any hr1 hwr o.A o.B o.C o.F hB).mono ?_
  rintro e w2 ⟨rfl, hn2⟩
  rw [HQ.out]
  go_wp2_with fail
  go_ret
  exact ⟨rfl, pair_fin hp1 hne ho1 ht1 hn2⟩

set_option maxHeartbeats 2000000 in
set_option maxRecDepth 100000 in
theorem rights_revoke (o : LOp) (hK : o.K = 4) (hB : -9223372036854775808 ≤ o.B)
    (hp : PRep own ip w p ps vE vF vL) (hr : RefRep own ir w r rs nk vR vB vS vA vK bs) (hs : Sim rs ps) (hwp : PWf ps) (hwr : RWf rs nk) (hne : ip ≠ ir) (h0 : ∀ b, w.heap.size ≤ b → (own b).1 = 0) (hp0 : ip ≠ 0) :
    Calls Try.prog 27 #[.pointer (some ⟨bw, 0, none⟩), .agg #[.pointer (some ⟨p, 0, none⟩), .pointer (some ⟨r, 0, none⟩)], .agg #[.int .i64 o.K, .int .i64 o.M, .int .i64 o.A, .int .i64 o.B, .int .i64 o.C, .int .i64 o.D, .bool o.F]] w
      fun e w' => e = .returned (.bool true) ∧ PairRes own ip ir w w' p r (revokeR rs o.A o.B).2 (revokeP ps o.A o.B).2 nk := by
  have e2 : (o.K == 2) = false := by simp [hK]
  have e3 : (o.K == 3) = false := by simp [hK]
  have e4 : (o.K == 4) = true := by simp [hK]
  clear hK
  have HQ : Hid ((revokeR rs o.A o.B).1 = (revokeP ps o.A o.B).1) := (hs.revoke o.A o.B).1
  have q1 : ((revokeP ps o.A o.B).1 == (revokeP ps o.A o.B).1) = true := by simp
  go_enter Try.func27, Try.ntmps27
  go_wp2_with fail
  refine (prevoke_any (w := boxed w p r o) (hp.below (boxed_below w p r o)) hwp o.A o.B).mono ?_
  rintro e w1 ⟨rfl, hn⟩
  obtain ⟨own1, vE1, vF1, vL1, hp1, hr1, hx, hy, ho1, ht1⟩ := pair_mid hr hne h0 hp0 hn
  have x1 := hx.cell 1
  have y2 := hy.cell 2
  have y3 := hy.cell 3
  simp only [pairCells, ptr, LOp.cells, List.getElem?_cons_succ, List.getElem?_cons_zero] at x1 y2 y3
  go_wp2_with fail
  refine (rrevoke_any hr1 hwr o.A o.B hB).mono ?_
  rintro e w2 ⟨rfl, hn2⟩
  rw [HQ.out]
  go_wp2_with fail
  go_ret
  exact ⟨rfl, pair_fin hp1 hne ho1 ht1 hn2⟩

set_option maxHeartbeats 2000000 in
set_option maxRecDepth 100000 in
theorem rights_drop (o : LOp) (hK : o.K = 5) (hB : -9223372036854775808 ≤ o.B)
    (hp : PRep own ip w p ps vE vF vL) (hr : RefRep own ir w r rs nk vR vB vS vA vK bs) (hs : Sim rs ps) (hwp : PWf ps) (hwr : RWf rs nk) (hne : ip ≠ ir) (h0 : ∀ b, w.heap.size ≤ b → (own b).1 = 0) (hp0 : ip ≠ 0) :
    Calls Try.prog 27 #[.pointer (some ⟨bw, 0, none⟩), .agg #[.pointer (some ⟨p, 0, none⟩), .pointer (some ⟨r, 0, none⟩)], .agg #[.int .i64 o.K, .int .i64 o.M, .int .i64 o.A, .int .i64 o.B, .int .i64 o.C, .int .i64 o.D, .bool o.F]] w
      fun e w' => e = .returned (.bool true) ∧ PairRes own ip ir w w' p r (dropR rs o.A o.B).2 (dropP ps o.A o.B).2 nk := by
  have e2 : (o.K == 2) = false := by simp [hK]
  have e3 : (o.K == 3) = false := by simp [hK]
  have e4 : (o.K == 4) = false := by simp [hK]
  have e5 : (o.K == 5) = true := by simp [hK]
  clear hK
  have HQ : Hid ((dropR rs o.A o.B).1 = (dropP ps o.A o.B).1) := (hs.drop o.A o.B).1
  have q1 : ((dropP ps o.A o.B).1 == (dropP ps o.A o.B).1) = true := by simp
  go_enter Try.func27, Try.ntmps27
  go_wp2_with fail
  refine (pdrop_any (w := boxed w p r o) (hp.below (boxed_below w p r o)) hwp o.A o.B).mono ?_
  rintro e w1 ⟨rfl, hn⟩
  obtain ⟨own1, vE1, vF1, vL1, hp1, hr1, hx, hy, ho1, ht1⟩ := pair_mid hr hne h0 hp0 hn
  have x1 := hx.cell 1
  have y2 := hy.cell 2
  have y3 := hy.cell 3
  simp only [pairCells, ptr, LOp.cells, List.getElem?_cons_succ, List.getElem?_cons_zero] at x1 y2 y3
  go_wp2_with fail
  refine (rdrop_any hr1 hwr o.A o.B hB).mono ?_
  rintro e w2 ⟨rfl, hn2⟩
  rw [HQ.out]
  go_wp2_with fail
  go_ret
  exact ⟨rfl, pair_fin hp1 hne ho1 ht1 hn2⟩

set_option maxHeartbeats 2000000 in
set_option maxRecDepth 100000 in
theorem rights_kill (o : LOp) (hK : o.K = 7)
    (hp : PRep own ip w p ps vE vF vL) (hr : RefRep own ir w r rs nk vR vB vS vA vK bs) (hs : Sim rs ps) (hwp : PWf ps) (hwr : RWf rs nk) (hne : ip ≠ ir) (h0 : ∀ b, w.heap.size ≤ b → (own b).1 = 0) (hp0 : ip ≠ 0) :
    Calls Try.prog 27 #[.pointer (some ⟨bw, 0, none⟩), .agg #[.pointer (some ⟨p, 0, none⟩), .pointer (some ⟨r, 0, none⟩)], .agg #[.int .i64 o.K, .int .i64 o.M, .int .i64 o.A, .int .i64 o.B, .int .i64 o.C, .int .i64 o.D, .bool o.F]] w
      fun e w' => e = .returned (.bool true) ∧ PairRes own ip ir w w' p r (killR rs o.A).2 (killP ps o.A).2 nk := by
  have e2 : (o.K == 2) = false := by simp [hK]
  have e3 : (o.K == 3) = false := by simp [hK]
  have e4 : (o.K == 4) = false := by simp [hK]
  have e5 : (o.K == 5) = false := by simp [hK]
  have e7 : (o.K == 7) = true := by simp [hK]
  clear hK
  have HQ : Hid ((killR rs o.A).1 = (killP ps o.A).1) := (hs.kill o.A).1
  have q1 : ((killP ps o.A).1 == (killP ps o.A).1) = true := by simp
  go_enter Try.func27, Try.ntmps27
  go_wp2_with fail
  refine (pkill_any (w := boxed w p r o) (hp.below (boxed_below w p r o)) hwp o.A).mono ?_
  rintro e w1 ⟨rfl, hn⟩
  obtain ⟨own1, vE1, vF1, vL1, hp1, hr1, hx, hy, ho1, ht1⟩ := pair_mid hr hne h0 hp0 hn
  have x1 := hx.cell 1
  have y2 := hy.cell 2
  simp only [pairCells, ptr, LOp.cells, List.getElem?_cons_succ, List.getElem?_cons_zero] at x1 y2
  go_wp2_with fail
  refine (rkill_any hr1 hwr o.A).mono ?_
  rintro e w2 ⟨rfl, hn2⟩
  rw [HQ.out]
  go_wp2_with fail
  go_ret
  exact ⟨rfl, pair_fin hp1 hne ho1 ht1 hn2⟩

set_option maxHeartbeats 2000000 in
set_option maxRecDepth 100000 in
theorem rights_spawn (o : LOp) (hK : o.K = 8)
    (hp : PRep own ip w p ps vE vF vL) (hr : RefRep own ir w r rs nk vR vB vS vA vK bs) (hs : Sim rs ps) (hwp : PWf ps) (hwr : RWf rs nk) (hne : ip ≠ ir) (h0 : ∀ b, w.heap.size ≤ b → (own b).1 = 0) (hp0 : ip ≠ 0) :
    Calls Try.prog 27 #[.pointer (some ⟨bw, 0, none⟩), .agg #[.pointer (some ⟨p, 0, none⟩), .pointer (some ⟨r, 0, none⟩)], .agg #[.int .i64 o.K, .int .i64 o.M, .int .i64 o.A, .int .i64 o.B, .int .i64 o.C, .int .i64 o.D, .bool o.F]] w
      fun e w' => e = .returned (.bool true) ∧ PairRes own ip ir w w' p r (spawnR rs o.A).2 (spawnP ps o.A).2 nk := by
  have e2 : (o.K == 2) = false := by simp [hK]
  have e3 : (o.K == 3) = false := by simp [hK]
  have e4 : (o.K == 4) = false := by simp [hK]
  have e5 : (o.K == 5) = false := by simp [hK]
  have e7 : (o.K == 7) = false := by simp [hK]
  have e8 : (o.K == 8) = true := by simp [hK]
  clear hK
  have HQ : Hid ((spawnR rs o.A).1 = (spawnP ps o.A).1) := (hs.spawn o.A).1
  have q1 : ((spawnP ps o.A).1 == (spawnP ps o.A).1) = true := by simp
  go_enter Try.func27, Try.ntmps27
  go_wp2_with fail
  refine (pspawn_any (w := boxed w p r o) (hp.below (boxed_below w p r o)) hwp o.A).mono ?_
  rintro e w1 ⟨rfl, hn⟩
  obtain ⟨own1, vE1, vF1, vL1, hp1, hr1, hx, hy, ho1, ht1⟩ := pair_mid hr hne h0 hp0 hn
  have x1 := hx.cell 1
  have y2 := hy.cell 2
  simp only [pairCells, ptr, LOp.cells, List.getElem?_cons_succ, List.getElem?_cons_zero] at x1 y2
  go_wp2_with fail
  refine (rspawn_any hr1 hwr o.A).mono ?_
  rintro e w2 ⟨rfl, hn2⟩
  rw [HQ.out]
  go_wp2_with fail
  go_ret
  exact ⟨rfl, pair_fin hp1 hne ho1 ht1 hn2⟩
end
end Go.Proofs.Ytkonobbhohfjlaa
