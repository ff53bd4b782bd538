import Derived.Below
import Derived.ChangeOld
import Derived.Deep.Slices
import Derived.OpenShut
import Derived.ProofKit
import Derived.ShutString
import Derived.SizedLaws
import Derived.Test.YtinlkcmdbjcofaaGreatM27
import Derived.Test.YtinlkcmdbjcofaaGreatRows
/-
  'memory': the calls of kept memories, the program's beside the document's.
-/
namespace Go.Proofs.YtinlkcmdbjcofaaGreat
open Go.RowKit
set_option linter.unusedVariables false
attribute [local go_sem ↓] Go.wp_at_zero Go.wp_at_succ

section
variable {M : MT} {own : Nat → Nat × Nat} {ip ir bw p r : Nat} {w w1 w2 : World} {rs rs' s' : RSt} {nk : Nat} {vR vB vS vA vK : Value} {bs : List Nat} {o : LOp}
theorem SOk.klenI {s : RSt} (h : SOk s) (hF : FewU s) (env : Int) : ∀ k, keptO s env = some k → KLen k := fun k hO => by
  have hg : s.kept[env.toNat]? = some (some k) := keptO_get (i := env.toNat) (by unfold keptO at hO ⊢; simp only [Int.toNat_natCast]; exact hO)
  exact (h.kok.k1 _ k hg).len.full (Nat.le_refl _) (hF _ k hg)

set_option maxHeartbeats 2000000 in
set_option maxRecDepth 100000 in
theorem memory_keep (A : Api M) (o : LOp) (hok : o.is64) (hK : o.K = 14) (hs : SOk rs) (hN : Few rs) (hU : FewU rs) (hp : M own ip w p rs) (hr : RefRep own ir w r rs rs.ne vR vB vS vA vK bs) (hne : ip ≠ ir) (h0 : ∀ b, w.heap.size ≤ b → (own b).1 = 0) (hp0 : ip ≠ 0) :
    Calls Tryz.prog 22 #[.pointer (some ⟨bw, 0, none⟩), .agg #[.pointer (some ⟨p, 0, none⟩), .pointer (some ⟨r, 0, none⟩)], .agg #[.int .i64 o.K, .int .i64 o.M, .int .i64 o.A, .int .i64 o.B, .int .i64 o.C, .int .i64 o.D, .bool o.F]] w
      fun e w' => e = .returned (.bool true) ∧ PairRes M own ip ir w w' p r (keepR rs o.A o.B o.C).2 rs.ne := by
  have e14 : (o.K == 14) = true := by simp [hK]
  have e15 : (o.K == 15) = false := by simp [hK]
  have e16 : (o.K == 16) = false := by simp [hK]
  have e17 : (o.K == 17) = false := by simp [hK]
  have e18 : (o.K == 18) = false := by simp [hK]
  have e19 : (o.K == 19) = false := by simp [hK]
  have e20 : (o.K == 20) = false := by simp [hK]
  clear hK
  have hwr := hs.rwf (by unfold Few at hN; omega)
  have q1 : ((keepR rs o.A o.B o.C).1 == (keepR rs o.A o.B o.C).1) = true := by simp
  go_enter Tryz.func22, Tryz.ntmps22
  go_wp2_with fail
  refine (A.keep (w := boxed w p r o) (A.below hp (boxed_below w p r o)) hs hN hU o.A o.B o.C hok.2.2.1 hok.2.2.2.1 hok.2.2.2.2.1).mono ?_
  rintro e w1 ⟨rfl, hn⟩
  obtain ⟨own1, hp1, hr1, hx, hy, ho1, ht1⟩ := pair_mid hr hne h0 hp0 hn
  have x1 := hx.cell 1
  have y2 := hy.cell 2
  have y3 := hy.cell 3
  have y4 := hy.cell 4
  simp only [pairCells, ptr, LOp.cells, List.getElem?_cons_succ, List.getElem?_cons_zero] at x1 y2 y3 y4
  go_wp2_with fail
  refine (rkeep_any hr1 hwr o.A o.B o.C).mono ?_
  rintro e w2 ⟨rfl, hn2⟩
  go_wp2_with fail
  go_ret
  exact ⟨rfl, pair_fin A hp1 hne ho1 ht1 hn2⟩

set_option maxHeartbeats 2000000 in
set_option maxRecDepth 100000 in
theorem memory_read (A : Api M) (o : LOp) (hok : o.is64) (hK : o.K = 15) (hs : SOk rs) (hN : Few rs) (hU : FewU rs) (hp : M own ip w p rs) (hr : RefRep own ir w r rs rs.ne vR vB vS vA vK bs) (hne : ip ≠ ir) (h0 : ∀ b, w.heap.size ≤ b → (own b).1 = 0) (hp0 : ip ≠ 0) :
    Calls Tryz.prog 22 #[.pointer (some ⟨bw, 0, none⟩), .agg #[.pointer (some ⟨p, 0, none⟩), .pointer (some ⟨r, 0, none⟩)], .agg #[.int .i64 o.K, .int .i64 o.M, .int .i64 o.A, .int .i64 o.B, .int .i64 o.C, .int .i64 o.D, .bool o.F]] w
      fun e w' => e = .returned (.bool true) ∧ PairRes M own ip ir w w' p r (readR rs o.A o.B).2 rs.ne := by
  have e14 : (o.K == 14) = false := by simp [hK]
  have e15 : (o.K == 15) = true := by simp [hK]
  have e16 : (o.K == 16) = false := by simp [hK]
  have e17 : (o.K == 17) = false := by simp [hK]
  have e18 : (o.K == 18) = false := by simp [hK]
  have e19 : (o.K == 19) = false := by simp [hK]
  have e20 : (o.K == 20) = false := by simp [hK]
  clear hK
  have hwr := hs.rwf (by unfold Few at hN; omega)
  have q1 : ((readR rs o.A o.B).1.1 == (readR rs o.A o.B).1.1) = true := by simp
  have q2 : ((readR rs o.A o.B).1.2 == (readR rs o.A o.B).1.2) = true := by simp
  go_enter Tryz.func22, Tryz.ntmps22
  go_wp2_with fail
  refine (A.read (w := boxed w p r o) (A.below hp (boxed_below w p r o)) hs hN hU o.A o.B hok.2.2.1 hok.2.2.2.1).mono ?_
  rintro e w1 ⟨rfl, hn⟩
  obtain ⟨own1, hp1, hr1, hx, hy, ho1, ht1⟩ := pair_mid hr hne h0 hp0 hn
  have x1 := hx.cell 1
  have y2 := hy.cell 2
  have y3 := hy.cell 3
  simp only [pairCells, ptr, LOp.cells, List.getElem?_cons_succ, List.getElem?_cons_zero] at x1 y2 y3
  go_wp2_with fail
  refine (rread_any hr1 hwr hs hU o.A o.B).mono ?_
  rintro e w2 ⟨rfl, hn2⟩
  go_wp2_with fail
  go_ret
  exact ⟨rfl, pair_fin A hp1 hne ho1 ht1 hn2⟩

set_option maxHeartbeats 2000000 in
set_option maxRecDepth 100000 in
theorem memory_write (A : Api M) (o : LOp) (hok : o.is64) (hK : o.K = 16) (hs : SOk rs) (hN : Few rs) (hU : FewU rs) (hp : M own ip w p rs) (hr : RefRep own ir w r rs rs.ne vR vB vS vA vK bs) (hne : ip ≠ ir) (h0 : ∀ b, w.heap.size ≤ b → (own b).1 = 0) (hp0 : ip ≠ 0) :
    Calls Tryz.prog 22 #[.pointer (some ⟨bw, 0, none⟩), .agg #[.pointer (some ⟨p, 0, none⟩), .pointer (some ⟨r, 0, none⟩)], .agg #[.int .i64 o.K, .int .i64 o.M, .int .i64 o.A, .int .i64 o.B, .int .i64 o.C, .int .i64 o.D, .bool o.F]] w
      fun e w' => e = .returned (.bool true) ∧ PairRes M own ip ir w w' p r (writeR rs o.A o.B o.C).2 rs.ne := by
  have e14 : (o.K == 14) = false := by simp [hK]
  have e15 : (o.K == 15) = false := by simp [hK]
  have e16 : (o.K == 16) = true := by simp [hK]
  have e17 : (o.K == 17) = false := by simp [hK]
  have e18 : (o.K == 18) = false := by simp [hK]
  have e19 : (o.K == 19) = false := by simp [hK]
  have e20 : (o.K == 20) = false := by simp [hK]
  clear hK
  have hwr := hs.rwf (by unfold Few at hN; omega)
  have q1 : ((writeR rs o.A o.B o.C).1 == (writeR rs o.A o.B o.C).1) = true := by simp
  go_enter Tryz.func22, Tryz.ntmps22
  go_wp2_with fail
  refine (A.write (w := boxed w p r o) (A.below hp (boxed_below w p r o)) hs hN hU o.A o.B o.C hok.2.2.1 hok.2.2.2.1 hok.2.2.2.2.1).mono ?_
  rintro e w1 ⟨rfl, hn⟩
  obtain ⟨own1, hp1, hr1, hx, hy, ho1, ht1⟩ := pair_mid hr hne h0 hp0 hn
  have x1 := hx.cell 1
  have y2 := hy.cell 2
  have y3 := hy.cell 3
  have y4 := hy.cell 4
  simp only [pairCells, ptr, LOp.cells, List.getElem?_cons_succ, List.getElem?_cons_zero] at x1 y2 y3 y4
  go_wp2_with fail
  refine (rwrite_any hr1 hwr hs hU o.A o.B o.C).mono ?_
  rintro e w2 ⟨rfl, hn2⟩
  go_wp2_with fail
  go_ret
  exact ⟨rfl, pair_fin A hp1 hne ho1 ht1 hn2⟩

set_option maxHeartbeats 2000000 in
set_option maxRecDepth 100000 in
theorem memory_clean (A : Api M) (o : LOp) (hok : o.is64) (hK : o.K = 19) (hs : SOk rs) (hN : Few rs) (hU : FewU rs) (hp : M own ip w p rs) (hr : RefRep own ir w r rs rs.ne vR vB vS vA vK bs) (hne : ip ≠ ir) (h0 : ∀ b, w.heap.size ≤ b → (own b).1 = 0) (hp0 : ip ≠ 0) :
    Calls Tryz.prog 22 #[.pointer (some ⟨bw, 0, none⟩), .agg #[.pointer (some ⟨p, 0, none⟩), .pointer (some ⟨r, 0, none⟩)], .agg #[.int .i64 o.K, .int .i64 o.M, .int .i64 o.A, .int .i64 o.B, .int .i64 o.C, .int .i64 o.D, .bool o.F]] w
      fun e w' => e = .returned (.bool true) ∧ PairRes M own ip ir w w' p r (cleanR rs o.A).2 rs.ne := by
  have e14 : (o.K == 14) = false := by simp [hK]
  have e15 : (o.K == 15) = false := by simp [hK]
  have e16 : (o.K == 16) = false := by simp [hK]
  have e17 : (o.K == 17) = false := by simp [hK]
  have e18 : (o.K == 18) = false := by simp [hK]
  have e19 : (o.K == 19) = true := by simp [hK]
  have e20 : (o.K == 20) = false := by simp [hK]
  clear hK
  have hwr := hs.rwf (by unfold Few at hN; omega)
  have q1 : ((cleanR rs o.A).1 == (cleanR rs o.A).1) = true := by simp
  go_enter Tryz.func22, Tryz.ntmps22
  go_wp2_with fail
  refine (A.clean (w := boxed w p r o) (A.below hp (boxed_below w p r o)) hs hN hU o.A hok.2.2.1).mono ?_
  rintro e w1 ⟨rfl, hn⟩
  obtain ⟨own1, hp1, hr1, hx, hy, ho1, ht1⟩ := pair_mid hr hne h0 hp0 hn
  have x1 := hx.cell 1
  have y2 := hy.cell 2
  simp only [pairCells, ptr, LOp.cells, List.getElem?_cons_succ, List.getElem?_cons_zero] at x1 y2
  go_wp2_with fail
  refine (rclean_any hr1 hwr o.A (hs.klenI hU o.A)).mono ?_
  rintro e w2 ⟨rfl, hn2⟩
  go_wp2_with fail
  go_ret
  exact ⟨rfl, pair_fin A hp1 hne ho1 ht1 hn2⟩

set_option maxHeartbeats 2000000 in
set_option maxRecDepth 100000 in
theorem memory_squeeze (A : Api M) (o : LOp) (hok : o.is64) (hK : o.K = 20) (hs : SOk rs) (hN : Few rs) (hU : FewU rs) (hp : M own ip w p rs) (hr : RefRep own ir w r rs rs.ne vR vB vS vA vK bs) (hne : ip ≠ ir) (h0 : ∀ b, w.heap.size ≤ b → (own b).1 = 0) (hp0 : ip ≠ 0) :
    Calls Tryz.prog 22 #[.pointer (some ⟨bw, 0, none⟩), .agg #[.pointer (some ⟨p, 0, none⟩), .pointer (some ⟨r, 0, none⟩)], .agg #[.int .i64 o.K, .int .i64 o.M, .int .i64 o.A, .int .i64 o.B, .int .i64 o.C, .int .i64 o.D, .bool o.F]] w
      fun e w' => e = .returned (.bool true) ∧ PairRes M own ip ir w w' p r (squeezeR rs o.A o.B).2 rs.ne := by
  have e14 : (o.K == 14) = false := by simp [hK]
  have e15 : (o.K == 15) = false := by simp [hK]
  have e16 : (o.K == 16) = false := by simp [hK]
  have e17 : (o.K == 17) = false := by simp [hK]
  have e18 : (o.K == 18) = false := by simp [hK]
  have e19 : (o.K == 19) = false := by simp [hK]
  have e20 : (o.K == 20) = true := by simp [hK]
  clear hK
  have hwr := hs.rwf (by unfold Few at hN; omega)
  have q1 : ((squeezeR rs o.A o.B).1 == (squeezeR rs o.A o.B).1) = true := by simp
  go_enter Tryz.func22, Tryz.ntmps22
  go_wp2_with fail
  refine (A.squeeze (w := boxed w p r o) (A.below hp (boxed_below w p r o)) hs hN hU o.A o.B hok.2.2.1 hok.2.2.2.1).mono ?_
  rintro e w1 ⟨rfl, hn⟩
  obtain ⟨own1, hp1, hr1, hx, hy, ho1, ht1⟩ := pair_mid hr hne h0 hp0 hn
  have x1 := hx.cell 1
  have y2 := hy.cell 2
  have y3 := hy.cell 3
  simp only [pairCells, ptr, LOp.cells, List.getElem?_cons_succ, List.getElem?_cons_zero] at x1 y2 y3
  go_wp2_with fail
  refine (rsqueeze_any hr1 hwr hs hU o.A o.B).mono ?_
  rintro e w2 ⟨rfl, hn2⟩
  go_wp2_with fail
  go_ret
  exact ⟨rfl, pair_fin A hp1 hne ho1 ht1 hn2⟩

set_option maxHeartbeats 2000000 in
set_option maxRecDepth 100000 in
theorem memory_counts (A : Api M) (o : LOp) (hok : o.is64) (hK : o.K = 17) (hs : SOk rs) (hN : Few rs) (hU : FewU rs) (hp : M own ip w p rs) (hr : RefRep own ir w r rs rs.ne vR vB vS vA vK bs) (hne : ip ≠ ir) (h0 : ∀ b, w.heap.size ≤ b → (own b).1 = 0) (hp0 : ip ≠ 0) :
    Calls Tryz.prog 22 #[.pointer (some ⟨bw, 0, none⟩), .agg #[.pointer (some ⟨p, 0, none⟩), .pointer (some ⟨r, 0, none⟩)], .agg #[.int .i64 o.K, .int .i64 o.M, .int .i64 o.A, .int .i64 o.B, .int .i64 o.C, .int .i64 o.D, .bool o.F]] w
      fun e w' => e = .returned (.bool true) ∧ PairRes M own ip ir w w' p r rs rs.ne := by
  have e14 : (o.K == 14) = false := by simp [hK]
  have e15 : (o.K == 15) = false := by simp [hK]
  have e16 : (o.K == 16) = false := by simp [hK]
  have e17 : (o.K == 17) = true := by simp [hK]
  have e18 : (o.K == 18) = false := by simp [hK]
  have e19 : (o.K == 19) = false := by simp [hK]
  have e20 : (o.K == 20) = false := by simp [hK]
  clear hK
  have hwr := hs.rwf (by unfold Few at hN; omega)
  go_enter Tryz.func22, Tryz.ntmps22
  go_wp2_with fail
  refine (A.counts (w := boxed w p r o) (A.below hp (boxed_below w p r o)) hs hN hU o.A hok.2.2.1).mono ?_
  rintro e w1 ⟨rfl, hn⟩
  obtain ⟨own1, hp1, hr1, hx, hy, ho1, ht1⟩ := pair_mid hr hne h0 hp0 hn
  have x1 := hx.cell 1
  have y2 := hy.cell 2
  simp only [pairCells, ptr, LOp.cells, List.getElem?_cons_succ, List.getElem?_cons_zero] at x1 y2
  obtain ⟨⟨⟨c1, c2, c3, c4⟩, ce⟩, hce⟩ : ∃ c, countsR rs o.A = c := ⟨_, rfl⟩
  have HCE : Hid (countsR rs o.A = ((c1, c2, c3, c4), ce)) := hce
  rw [hce]
  clear hce
  have hxl := hx.lt
  have hyl := hy.lt
  have hba : Below w1.heap.size w1 (w1.alloc (.cells #[.int .i64 c1, .int .i64 c2, .int .i64 c3, .int .i64 c4] 97)) := (Below.refl _ _).alloc (Nat.le_refl _) _
  have hr2 := hr1.below hba
  go_wp2_with fail
  refine (rcounts_any hr2 hwr o.A (hs.klenI hU o.A)).mono ?_
  rintro e w2 ⟨rfl, hb2⟩
  rw [HCE.out]
  have hbk := (Blk.new w1 [.int .i64 c1, .int .i64 c2, .int .i64 c3, .int .i64 c4] 97)
  have hbk2 := hbk.below hb2 hbk.lt
  have f0 := hbk2.cell 0
  have f1 := hbk2.cell 1
  have f2 := hbk2.cell 2
  have f3 := hbk2.cell 3
  simp at f0 f1 f2 f3
  have fl := hbk2.lt
  have q1 : (c1 == c1) = true := by simp
  have q2 : (c2 == c2) = true := by simp
  have q3 : (c3 == c3) = true := by simp
  have q4 : (c4 == c4) = true := by simp
  have q5 : (ce == ce) = true := by simp
  have hb3 : Below w1.heap.size w1 w2 := hba.trans (hb2.mono (by simp))
  go_wp2_with fail
  go_ret
  exact ⟨rfl, pair_fin A hp1 hne ho1 ht1 (RefNext.of_below hr1 (hb3.alloc hb3.size _))⟩

set_option maxHeartbeats 1000000 in
set_option maxRecDepth 100000 in
theorem sameInts_any {w : World} {va vb : Value} {rs : List Int} (ha : Row w va 3 1 rs.length (rs.map (.int .i64))) (hb : Row w vb 3 1 rs.length (rs.map (.int .i64))) (hm : rs.length ≤ 4611686018427387904) :
    Calls Tryz.prog 62 #[va, vb] w fun e w' => e = .returned (.bool true) ∧ Below w.heap.size w w' := by
  obtain ⟨ao, cap, hv, hca⟩ := ha.shape'
  obtain ⟨bo, cap2, hv2, hcb⟩ := hb.shape'
  subst hv hv2
  have hne : ((rs.length : Int) != (rs.length : Int)) = false := by simp
  go_enter Tryz.func62, Tryz.ntmps62
  go_wp2_with fail
  go_loopg [5] rs.length (fun k x wr => ∃ q : Nat, x = .int .i64 q ∧ q + k = rs.length ∧ Below w.heap.size w wr)
  case atStart => exact ⟨0, rfl, by omega, Below.refl _ _⟩
  case round =>
    obtain ⟨q, rfl, hk, hbl⟩ := hrel
    have HK : Hid (q + gk = rs.length) := hk
    have hq : q ≤ rs.length := by omega
    clear hk
    by_cases hlt : q < rs.length
    · rcases hca with h0 | ⟨g, rfl⟩
      · omega
      rcases hcb with h0 | ⟨g2, rfl⟩
      · omega
      have ha' := ha.below hbl
      have hb' := hb.below hbl
      obtain ⟨r, hr⟩ : ∃ r, rs[q]? = some r := ⟨rs[q], by simp⟩
      have c0 : wr.cell? ⟨g, q, none⟩ = some (.int .i64 r) := by rw [ha'.cellAt' _ (by omega), List.getElem?_map, hr]; rfl
      have d0 : wr.cell? ⟨g2, q, none⟩ = some (.int .i64 r) := by rw [hb'.cellAt' _ (by omega), List.getElem?_map, hr]; rfl
      have hi0 : (0 : Int) ≤ (q : Int) := by omega
      have hi1 : (q : Int) < (rs.length : Int) := by omega
      have hrr : (r != r) = false := by simp
      clear hr ha' hb'
      go_wp2_with fail
      go_quiet (fail)
      go_wp2_with fail
      go_roundg (gk - 1)
      case measure => have := HK.out; omega
      case rel => exact ⟨q + 1, by go_num, by have := HK.out; omega, below_drewN hbl _⟩
    · go_wp2_with fail
      go_ret
      exact ⟨rfl, hbl⟩

theorem hold_startI (own : Nat → Nat × Nat) (ih : Nat) {w w3 : World} {v : Value} {n : Nat} {xs : List Value} (hb : w.heap.size ≤ w3.heap.size) (hrow : Row w3 v 3 1 n xs) (hn : ∀ x, v.ownBlock = some x → w.heap.size ≤ x) :
    ∃ own3 : Nat → Nat × Nat, (∀ b, b < w.heap.size → own3 b = own b) ∧ (∀ b, w.heap.size ≤ b → (own3 b).1 = 0 ∨ (own3 b).1 = ih) ∧
      HoldNew own3 ih (w3.alloc (.cells #[v, .slice none 0 0, .slice none 0 0, .slice none 0 0, .slice none 0 0, .slice none 0 0, .int .i64 0] 88)) w3.heap.size 0 v (.slice none 0 0) (.slice none 0 0) n 0 0 xs [] [] := by
  have hlt := hrow.lt
  refine ⟨fun b => if b < w.heap.size then own b else if b = w3.heap.size then (ih, 0) else if v.ownBlock = some b then (ih, 1) else (0, 0), fun b hb => if_pos hb, fun b hb => ?_,
    Blk.new w3 [_, _, _, _, _, _, _] _, hrow.alloc _, Row.nil _ _ _, Row.nil _ _ _, ?_, ?_, Tg.nil _ _, Tg.nil _ _⟩
  · simp only [if_neg (show ¬ b < w.heap.size by omega)]
    split
    · exact .inr rfl
    · split
      · exact .inr rfl
      · exact .inl rfl
  · simp only [if_neg (show ¬ w3.heap.size < w.heap.size by omega), if_true]
  · intro b hb'
    have h1 := hn b hb'
    have h2 := hlt b hb'
    simp only [if_neg (show ¬ b < w.heap.size by omega), if_neg (show ¬ b = w3.heap.size by omega), hb', if_true]
theorem dirtyR_le (s : RSt) (env : Int) : (dirtyR s env).1.length ≤ 16 := by
  unfold dirtyR
  split
  · simp
  · split
    · simp
    · exact dirtyTo_le _ 16

set_option maxHeartbeats 2000000 in
set_option maxRecDepth 100000 in
theorem memory_dirty (A : Api M) (o : LOp) (hok : o.is64) (hK : o.K = 18) {ih : Nat} {vP vH : Value} {hbs : List Nat}
    (hs : SOk rs) (hF : Few rs) (hU : FewU rs) (hp : M own ip w p rs) (hr : RefRep own ir w r rs rs.ne vR vB vS vA vK bs) (h0 : ∀ b, w.heap.size ≤ b → (own b).1 = 0)
    (hw : Blk w bw [vP, vH] 29) (hH : Row w vH 46 1 hbs.length (hbs.map hptr)) (hlen : (hbs.length + 1) * 8 ≤ 140737488355328)
    (tw : own bw = (1, 0)) (tH : Tg own vH (1, 2)) (hih : ∀ b, (own b).1 ≠ ih) (hih1 : ih ≠ 1) (hih0 : ih ≠ 0) :
    Calls Tryz.prog 22 #[.pointer (some ⟨bw, 0, none⟩), .agg #[.pointer (some ⟨p, 0, none⟩), .pointer (some ⟨r, 0, none⟩)], .agg #[.int .i64 o.K, .int .i64 o.M, .int .i64 o.A, .int .i64 o.B, .int .i64 o.C, .int .i64 o.D, .bool o.F]] w
      fun e w' => e = .returned (.bool true) ∧ ListRes own ih bw w w' vP vH hbs := by
  have e14 : (o.K == 14) = false := by simp [hK]
  have e15 : (o.K == 15) = false := by simp [hK]
  have e16 : (o.K == 16) = false := by simp [hK]
  have e17 : (o.K == 17) = false := by simp [hK]
  have e18 : (o.K == 18) = true := by simp [hK]
  have e19 : (o.K == 19) = false := by simp [hK]
  have e20 : (o.K == 20) = false := by simp [hK]
  clear hK
  have hwr := hs.rwf (by unfold Few at hF; omega)
  have hz := boxed_size w p r o
  have hlt := dirtyR_le rs o.A
  go_enter Tryz.func22, Tryz.ntmps22
  go_wp2_with fail
  refine (A.dirty (w := boxed w p r o) (A.below hp (boxed_below w p r o)) hs hF hU o.A hok.2.2.1).mono ?_
  rintro e w1 ⟨v, rfl, hb1, hn1, hrow1⟩
  have hx := (boxed_x w p r o).below hb1 (by omega)
  have hy := (boxed_o w p r o).below hb1 (by omega)
  have x1 := hx.cell 1
  have y2 := hy.cell 2
  simp only [pairCells, ptr, LOp.cells, List.getElem?_cons_succ, List.getElem?_cons_zero] at x1 y2
  go_wp2_with fail
  refine (rdirty_any (hr.below ((boxed_below w p r o).trans (hb1.mono (by omega)))) hwr o.A (hs.klenI hU o.A)).mono ?_
  rintro e w2 ⟨v2, rfl, hb2, hn2, hrow2⟩
  go_wp2_with fail
  refine (sameInts_any (hrow1.below hb2) hrow2 (by omega)).mono ?_
  rintro e w3 ⟨rfl, hb3⟩
  have hrow3 := (hrow1.below hb2).below hb3
  have hb23 : Below w1.heap.size w1 w3 := hb2.trans (hb3.mono hb2.size)
  have hbw3 : Below w.heap.size w w3 := (boxed_below w p r o).trans ((hb1.mono (by omega)).trans (hb23.mono (by have := hb1.size; omega)))
  have hs3 : w.heap.size + 2 ≤ w3.heap.size := by have h1 := hb1.size; have h2 := hb23.size; omega
  obtain ⟨ao, cap, hv, _⟩ := hrow3.shape'
  obtain ⟨n, hnn⟩ : ∃ n, (dirtyR rs o.A).1.length = n := ⟨_, rfl⟩
  rw [hnn] at hv hrow3 hlt
  subst hv
  clear x1 y2 hx hy hrow1 hrow2 hn2 hb2 hb3 hb1 hb23 hnn
  go_wp2_with fail
  obtain ⟨own3, ho3, hz3, hnew⟩ := hold_startI own ih (w := w) (by omega) hrow3 (fun x hx => by have := hn1 x hx; omega)
  have hbW := hbw3.alloc (by omega) (.cells #[.slice ao n cap, .slice none 0 0, .slice none 0 0, .slice none 0 0, .slice none 0 0, .slice none 0 0, .int .i64 0] 88)
  have hwl := hw.lt
  refine (keep_any hnew (by omega) (by omega) (by omega) (hw.below hbW hwl) (hH.of fun b hb => hbW.block b (hH.lt b hb)) hlen (by rw [ho3 bw hwl, tw]; exact fun e => hih1 e.symm) (fun b hb => ?_)).mono ?_
  · have hbl := hH.lt b hb
    rw [ho3 b hbl, tH b hb]
    exact ⟨fun e => hih1 e.symm, fun e => by have := tH b hb; rw [e, tw] at this; simp at this⟩
  rintro e w4 ⟨rfl, own4, g, capg, m, ho4, ht4, hw4, hH4, hg4, hok4⟩
  have q1 : ((dirtyR rs o.A).2 == (dirtyR rs o.A).2) = true := by simp
  go_wp2_with fail
  go_ret
  exact ⟨rfl, list_fin hbW ho3 ho4 hih hih1 hih0 hwl hH.lt tH ht4 hw4 hH4 hg4 hok4⟩
end
end Go.Proofs.YtinlkcmdbjcofaaGreat

/-
  A script of calls that came in: its calls as plain data.
-/
namespace Go.Proofs.YtinlkcmdbjcofaaGreat
open Go.ChangeShapes Go.WideShapes Go.ChangeAt Go.RowKit Go.Deep
set_option linter.unusedVariables false

theorem Tryz.own : ownKnob Tryz.prog.godebug = none := by kernel_rfl
theorem Tryz.laidOut : laidOutB Tryz.prog = true := by kernel_rfl
theorem Tryz.cellsOp : Tryz.prog.cellsOf 32 = 7 := by kernel_rfl
theorem Tryz.cellsInt : Tryz.prog.cellsOf 3 = 1 := by kernel_rfl
theorem Tryz.cellsBool : Tryz.prog.cellsOf 4 = 1 := by kernel_rfl
theorem Tryz.bytesOp : Tryz.prog.bytesOf 32 = 56 := by kernel_rfl

def Inr (n : Int) : Prop := -9223372036854775808 ≤ n ∧ n ≤ 9223372036854775807
theorem inr_of {n : Int} (h : (Lit.int .i64 n).wf = true) : Inr n := by
  have h1 : decide (IntKind.i64.min ≤ n) = true ∧ decide (n ≤ IntKind.i64.max) = true := by simpa [Lit.wf] using h
  have a := of_decide_eq_true h1.1
  have b := of_decide_eq_true h1.2
  have e1 : IntKind.i64.min = -9223372036854775808 := by decide
  have e2 : IntKind.i64.max = 9223372036854775807 := by decide
  rw [e1] at a
  rw [e2] at b
  exact ⟨a, b⟩
/-- The call's numbers are ints. -/
def LOp.ok (o : LOp) : Prop := Inr o.K ∧ Inr o.M ∧ Inr o.A ∧ Inr o.B ∧ Inr o.C ∧ Inr o.D

theorem list7 {α : Type} {l : List α} (h : l.length = 7) : ∃ a b c d e f g, l = [a, b, c, d, e, f, g] := by
  match l, h with
  | [a, b, c, d, e, f, g], _ => exact ⟨a, b, c, d, e, f, g, rfl⟩

theorem some_get {α : Type} {l : List α} {i n : Nat} (h : l.length = n) (hi : i < n) : ∃ y, l[i]? = some y := ⟨l[i]'(by omega), by simp⟩

set_option maxRecDepth 100000 in
/-- One call, read as data. -/
theorem open_op {H : Type} {enc : TypeId × Value → H} {w : World} {n : Nat} {cs : List Value} {x : DataW H × List MemPlace}
    (h : DataW.trod enc Tryz.prog w 0 (fun _ => true) true n 32 cs = some x) : ∃ o : LOp, cs = o.cells ∧ o.ok := by
  obtain ⟨xs, m, _, _, hl, hxl, hf⟩ := DataW.trod_struct Tryz.underlying32 h
  rw [Tryz.cellsOp] at hl
  have hxl7 : xs.length = 7 := hxl
  obtain ⟨c0, c1, c2, c3, c4, c5, c6, rfl⟩ := list7 hl
  obtain ⟨y0, e0⟩ := some_get hxl7 (show 0 < 7 by omega)
  obtain ⟨y1, e1⟩ := some_get hxl7 (show 1 < 7 by omega)
  obtain ⟨y2, e2⟩ := some_get hxl7 (show 2 < 7 by omega)
  obtain ⟨y3, e3⟩ := some_get hxl7 (show 3 < 7 by omega)
  obtain ⟨y4, e4⟩ := some_get hxl7 (show 4 < 7 by omega)
  obtain ⟨y5, e5⟩ := some_get hxl7 (show 5 < 7 by omega)
  obtain ⟨y6, e6⟩ := some_get hxl7 (show 6 < 7 by omega)
  have f0 := (hf 0 _ rfl).trans e0
  have f1 := (hf 1 _ rfl).trans e1
  have f2 := (hf 2 _ rfl).trans e2
  have f3 := (hf 3 _ rfl).trans e3
  have f4 := (hf 4 _ rfl).trans e4
  have f5 := (hf 5 _ rfl).trans e5
  have f6 := (hf 6 _ rfl).trans e6
  obtain ⟨a0, g0, _, z0⟩ := DataW.trod_int Tryz.underlying3 f0
  obtain ⟨a1, g1, _, z1⟩ := DataW.trod_int Tryz.underlying3 f1
  obtain ⟨a2, g2, _, z2⟩ := DataW.trod_int Tryz.underlying3 f2
  obtain ⟨a3, g3, _, z3⟩ := DataW.trod_int Tryz.underlying3 f3
  obtain ⟨a4, g4, _, z4⟩ := DataW.trod_int Tryz.underlying3 f4
  obtain ⟨a5, g5, _, z5⟩ := DataW.trod_int Tryz.underlying3 f5
  obtain ⟨a6, g6, _⟩ := DataW.trod_bool Tryz.underlying4 f6
  simp [Tryz.cellsInt, Tryz.cellsBool] at g0 g1 g2 g3 g4 g5 g6
  exact ⟨⟨a0, a1, a2, a3, a4, a5, a6⟩, by simp [LOp.cells, g0, g1, g2, g3, g4, g5, g6], inr_of z0, inr_of z1, inr_of z2, inr_of z3, inr_of z4, inr_of z5⟩

/-- A whole script. -/
theorem open_ops {H : Type} {enc : TypeId × Value → H} {w : World} {fuel : Nat} {ao : Option Addr} {len cap : Nat} {x : DataW H × List MemPlace}
    (h : DataW.trod enc Tryz.prog w 0 (fun _ => true) true fuel 22 [.slice ao len cap] = some x) :
    ∃ ops : List LOp, ops.length = len ∧ ((len = 0) ∨ ∃ b off, ao = some ⟨b, off, none⟩ ∧ b < w.heap.size ∧ ∀ (i : Nat) (o : LOp), ops[i]? = some o → ∀ (j : Nat) (v : Value), o.cells[j]? = some v → w.cell? ⟨b, off + i * 7 + j, none⟩ = some v) ∧
      (len = 0 ∨ ∃ elems spare, x.1 = .slice elems spare ∧ elems.length = len) ∧ ∀ (i : Nat) (o : LOp), ops[i]? = some o → o.ok := by
  rcases open_slice Tryz.underlying22 h with ⟨hcs, _⟩ | ⟨a, l, c, m, n, D, Pl, hcs, _, hl, hm, hmm, rfl, hx⟩
  · simp at hcs
    obtain ⟨rfl, rfl, rfl⟩ := hcs
    exact ⟨[], rfl, .inl rfl, .inl rfl, fun i o h => by simp at h⟩
  · simp at hcs
    obtain ⟨rfl, rfl, rfl⟩ := hcs
    simp only [if_true] at hmm
    subst hmm
    rw [Tryz.cellsOp] at hx
    have hops : ∀ i, i < len → ∃ o : LOp, w.cells? 0 (a.add (i * 7)) 7 = some o.cells ∧ o.ok := fun i hi => by
      obtain ⟨cs', h1, h2⟩ := hx i (by omega)
      obtain ⟨o, rfl, hok⟩ := open_op h2
      exact ⟨o, h1, hok⟩
    obtain ⟨f, hf⟩ : ∃ f : Nat → LOp, ∀ i, i < len → w.cells? 0 (a.add (i * 7)) 7 = some (f i).cells ∧ (f i).ok := by
      classical
      exact ⟨fun i => if hi : i < len then Classical.choose (hops i hi) else ⟨0, 0, 0, 0, 0, 0, false⟩, fun i hi => by simp only [dif_pos hi]; exact Classical.choose_spec (hops i hi)⟩
    have hokk : ∀ (i : Nat) (o : LOp), ((List.range len).map f)[i]? = some o → o.ok := fun i o ho => by
      have hi : i < len := by have := (List.getElem?_eq_some_iff.1 ho).1; simpa using this
      have ho' : o = f i := by simp [List.getElem?_map, List.getElem?_range hi] at ho; exact ho.symm
      rw [ho']; exact (hf i hi).2
    refine ⟨(List.range len).map f, by simp, ?_, .inr ⟨_, _, rfl, by simp⟩, hokk⟩
    by_cases h0 : len = 0
    · exact .inl h0
    · right
      have hc0 := (World.cells?_some (hf 0 (by omega)).1).2.2 0 (by omega)
      obtain ⟨b, off, spot⟩ := a
      have hc0' : w.cell? ⟨b, off, spot⟩ = some (.int .i64 (f 0).K) := by simpa [Addr.add, LOp.cells] using hc0
      have hspot : spot = none := World.cell?_spot hc0'
      subst hspot
      refine ⟨b, off, rfl, World.block_lt_of_cell? _ _ hc0', ?_⟩
      intro i o ho j v hv
      have hi : i < len := by have := (List.getElem?_eq_some_iff.1 ho).1; simpa using this
      have ho' : o = f i := by simp [List.getElem?_map, List.getElem?_range hi] at ho; exact ho.symm
      subst ho'
      have hj : j < 7 := by have := (List.getElem?_eq_some_iff.1 hv).1; simpa [LOp.cells] using this
      have := (World.cells?_some (hf i hi).1).2.2 j hj
      rw [add_add, add_plain, hv] at this
      rw [← this, Nat.add_assoc]

end Go.Proofs.YtinlkcmdbjcofaaGreat

namespace Go.Proofs.YtinlkcmdbjcofaaGreat
open Go.RowKit
set_option linter.unusedVariables false

section
variable {M : MT} {bw i : Nat} {w w' : World} {own : Nat → Nat × Nat} {ps : List (Nat × Nat)} {hbs : List Nat} {vP vH : Value}

theorem GI.ihh (h : GI M bw i w own ps hbs vP vH) (b : Nat) : (own b).1 ≠ 3 * hbs.length + 4 := fun e => by
  rcases h.ids b with h | ⟨k, hk, h⟩ | ⟨j, hj, h⟩ <;> omega

/-- A call of the kinds 2 to 8 on machine k. -/
theorem GI.rights (P : Api M) (h : GI M bw i w own ps hbs vP vH) (hl1 : 1 ≤ ps.length) (o : LOp) (hk1 : 2 ≤ o.K) (hk2 : o.K ≤ 8) (hok : o.is64) (hi : (i + 2) * 48 ≤ 140737488355328) {k p r : Nat} (hk : ps[k]? = some (p, r)) :
    Calls Tryz.prog 20 #[.pointer (some ⟨bw, 0, none⟩), .agg #[.pointer (some ⟨p, 0, none⟩), .pointer (some ⟨r, 0, none⟩)], .agg #[.int .i64 o.K, .int .i64 o.M, .int .i64 o.A, .int .i64 o.B, .int .i64 o.C, .int .i64 o.D, .bool o.F]] w
      fun e w' => e = .returned (.bool true) ∧ GNext M bw i (fun b => (own b).1 ≠ 0) w w' := by
  obtain ⟨rs, vR, vB, vS, vA, vK, bs, h1, h2, h3, h5⟩ := h.pr k p r hk
  have hF : Few rs := by have := h5.1; unfold Few; omega
  have fin : ∀ {rs' : RSt} {w' : World}, PairRes M own (3 * k + 2) (3 * k + 3) w w' p r rs' rs.ne → SOk rs' → Grows rs rs' → Sz rs' (i + 1) → GNext M bw i (fun b => (own b).1 ≠ 0) w w' := fun hn hs ⟨a1, a2, a3, a4, a5, a6⟩ hz => h.pair P hk hn hs a2.symm hz
  have hc : o.K = 2 ∨ o.K = 3 ∨ o.K = 4 ∨ o.K = 5 ∨ o.K = 6 ∨ o.K = 7 ∨ o.K = 8 := by omega
  rcases hc with hc | hc | hc | hc | hc | hc | hc
  · refine (rights_alloc P o hok hc h3 hF h1 h2 (by omega) h.top (by omega)).mono ?_
    rintro e w' ⟨rfl, hn⟩
    exact ⟨rfl, fin hn (h3.alloc o.A) (allocR_grows o.A) (h5.alloc o.A)⟩
  · refine (rights_derive P o hok hc h3 hF h1 h2 (by omega) h.top (by omega)).mono ?_
    rintro e w' ⟨rfl, hn⟩
    exact ⟨rfl, fin hn (h3.derive o.A o.B o.C o.F) (deriveR_grows o.A o.B o.C o.F) (h5.derive o.A o.B o.C o.F)⟩
  · refine (rights_revoke P o hok hc h3 hF h1 h2 (by omega) h.top (by omega)).mono ?_
    rintro e w' ⟨rfl, hn⟩
    exact ⟨rfl, fin hn (h3.revoke o.A o.B) (revokeR_grows o.A o.B) (h5.revoke o.A o.B)⟩
  · refine (rights_drop P o hok hc h3 hF h1 h2 (by omega) h.top (by omega)).mono ?_
    rintro e w' ⟨rfl, hn⟩
    exact ⟨rfl, fin hn (h3.drop o.A o.B) (dropR_grows o.A o.B) (h5.drop o.A o.B)⟩
  · refine (rights_list P o hok hc (ih := 3 * hbs.length + 4) h3 hF h1 h2 h.top h.blk h.rH (by have := h.l3; omega) h.tw h.tH h.ihh (by omega) (by omega)).mono ?_
    rintro e w' ⟨rfl, hn⟩
    exact ⟨rfl, h.list P hl1 hn⟩
  · refine (rights_kill P o hok hc h3 hF h1 h2 (by omega) h.top (by omega)).mono ?_
    rintro e w' ⟨rfl, hn⟩
    exact ⟨rfl, fin hn (h3.kill o.A) (killR_grows o.A) (h5.kill o.A)⟩
  · refine (rights_spawn P o hok hc h3 hF h1 h2 (by omega) h.top (by omega)).mono ?_
    rintro e w' ⟨rfl, hn⟩
    exact ⟨rfl, fin hn (h3.spawn o.A) (spawnR_grows o.A) (h5.spawn o.A)⟩

/-- A call of the kinds 9 to 13. -/
theorem GI.table (P : Api M) (h : GI M bw i w own ps hbs vP vH) (hl1 : 1 ≤ ps.length) (o : LOp) (hk1 : 9 ≤ o.K) (hk2 : o.K ≤ 13) (hok : o.is64) (hi : (i + 2) * 48 ≤ 140737488355328) {k p r : Nat} (hk : ps[k]? = some (p, r)) :
    Calls Tryz.prog 21 #[.pointer (some ⟨bw, 0, none⟩), .agg #[.pointer (some ⟨p, 0, none⟩), .pointer (some ⟨r, 0, none⟩)], .agg #[.int .i64 o.K, .int .i64 o.M, .int .i64 o.A, .int .i64 o.B, .int .i64 o.C, .int .i64 o.D, .bool o.F]] w
      fun e w' => e = .returned (.bool true) ∧ GNext M bw i (fun b => (own b).1 ≠ 0) w w' := by
  obtain ⟨rs, vR, vB, vS, vA, vK, bs, h1, h2, h3, h5⟩ := h.pr k p r hk
  have hF : Few rs := by have := h5.1; unfold Few; omega
  have fin : ∀ {rs' : RSt} {w' : World}, PairRes M own (3 * k + 2) (3 * k + 3) w w' p r rs' rs.ne → SOk rs' → Grows rs rs' → Sz rs' (i + 1) → GNext M bw i (fun b => (own b).1 ≠ 0) w w' := fun hn hs ⟨a1, a2, a3, a4, a5, a6⟩ hz => h.pair P hk hn hs a2.symm hz
  have hc : o.K = 9 ∨ o.K = 10 ∨ o.K = 11 ∨ o.K = 12 ∨ o.K = 13 := by omega
  rcases hc with hc | hc | hc | hc | hc
  · refine (table_map P o hok hc h3 hF h1 h2 (by omega) h.top (by omega)).mono ?_
    rintro e w' ⟨rfl, hn⟩
    exact ⟨rfl, fin hn (h3.map o.A o.B o.C o.F o.D) (mapR_grows o.A o.B o.C o.F o.D) (h5.map o.A o.B o.C o.F o.D)⟩
  · refine (table_unmap P o hok hc h3 hF h1 h2 (by omega) h.top (by omega)).mono ?_
    rintro e w' ⟨rfl, hn⟩
    exact ⟨rfl, fin hn (h3.unmap o.A o.B) (unmapR_grows o.A o.B) (h5.unmap o.A o.B)⟩
  · refine (table_load P o hok hc h3 hF h1 h2 (by omega) h.top (by omega)).mono ?_
    rintro e w' ⟨rfl, hn⟩
    exact ⟨rfl, fin hn h3 (Grows.refl rs) (h5.mono (by omega))⟩
  · refine (table_store P o hok hc h3 hF h1 h2 (by omega) h.top (by omega)).mono ?_
    rintro e w' ⟨rfl, hn⟩
    exact ⟨rfl, fin hn (h3.store o.A o.B o.C o.D) (storeR_grows o.A o.B o.C o.D) (h5.store o.A o.B o.C o.D)⟩
  · refine (table_list P o hok hc (ih := 3 * hbs.length + 4) h3 hF h1 h2 h.top h.blk h.rH (by have := h.l3; omega) h.tw h.tH h.ihh (by omega) (by omega)).mono ?_
    rintro e w' ⟨rfl, hn⟩
    exact ⟨rfl, h.list P hl1 hn⟩

/-- A call of the kinds 14 to 20. -/
theorem GI.memory (P : Api M) (h : GI M bw i w own ps hbs vP vH) (hl1 : 1 ≤ ps.length) (o : LOp) (hk1 : 14 ≤ o.K) (hk2 : o.K ≤ 20) (hok : o.is64) (hi : (i + 2) * 48 ≤ 140737488355328) {k p r : Nat} (hk : ps[k]? = some (p, r)) :
    Calls Tryz.prog 22 #[.pointer (some ⟨bw, 0, none⟩), .agg #[.pointer (some ⟨p, 0, none⟩), .pointer (some ⟨r, 0, none⟩)], .agg #[.int .i64 o.K, .int .i64 o.M, .int .i64 o.A, .int .i64 o.B, .int .i64 o.C, .int .i64 o.D, .bool o.F]] w
      fun e w' => e = .returned (.bool true) ∧ GNext M bw i (fun b => (own b).1 ≠ 0) w w' := by
  obtain ⟨rs, vR, vB, vS, vA, vK, bs, h1, h2, h3, h5⟩ := h.pr k p r hk
  have hF : Few rs := by have := h5.1; unfold Few; omega
  have hU : FewU rs := h5.fewU hi
  have fin : ∀ {rs' : RSt} {w' : World}, PairRes M own (3 * k + 2) (3 * k + 3) w w' p r rs' rs.ne → SOk rs' ∧ Grows rs rs' ∧ Sz rs' (i + 1) → GNext M bw i (fun b => (own b).1 ≠ 0) w w' := fun hn ⟨hs, ⟨a1, a2, a3, a4, a5, a6⟩, hz⟩ => h.pair P hk hn hs a2.symm hz
  have hc : o.K = 14 ∨ o.K = 15 ∨ o.K = 16 ∨ o.K = 17 ∨ o.K = 18 ∨ o.K = 19 ∨ o.K = 20 := by omega
  rcases hc with hc | hc | hc | hc | hc | hc | hc
  · refine (memory_keep P o hok hc h3 hF hU h1 h2 (by omega) h.top (by omega)).mono ?_
    rintro e w' ⟨rfl, hn⟩
    exact ⟨rfl, fin hn (keep_ok h3 h5 o.A o.B o.C)⟩
  · refine (memory_read P o hok hc h3 hF hU h1 h2 (by omega) h.top (by omega)).mono ?_
    rintro e w' ⟨rfl, hn⟩
    exact ⟨rfl, fin hn (read_ok h3 h5 o.A o.B)⟩
  · refine (memory_write P o hok hc h3 hF hU h1 h2 (by omega) h.top (by omega)).mono ?_
    rintro e w' ⟨rfl, hn⟩
    exact ⟨rfl, fin hn (write_ok h3 h5 o.A o.B o.C)⟩
  · refine (memory_counts P o hok hc h3 hF hU h1 h2 (by omega) h.top (by omega)).mono ?_
    rintro e w' ⟨rfl, hn⟩
    exact ⟨rfl, fin hn ⟨h3, Grows.refl rs, h5.mono (by omega)⟩⟩
  · refine (memory_dirty P o hok hc (ih := 3 * hbs.length + 4) h3 hF hU h1 h2 h.top h.blk h.rH (by have := h.l3; omega) h.tw h.tH h.ihh (by omega) (by omega)).mono ?_
    rintro e w' ⟨rfl, hn⟩
    exact ⟨rfl, h.list P hl1 hn⟩
  · refine (memory_clean P o hok hc h3 hF hU h1 h2 (by omega) h.top (by omega)).mono ?_
    rintro e w' ⟨rfl, hn⟩
    exact ⟨rfl, fin hn (clean_ok h3 h5 o.A)⟩
  · refine (memory_squeeze P o hok hc h3 hF hU h1 h2 (by omega) h.top (by omega)).mono ?_
    rintro e w' ⟨rfl, hn⟩
    exact ⟨rfl, fin hn (squeeze_ok h3 h5 o.A o.B)⟩

theorem GNext.below {S : Nat → Prop} {w1 : World} (hb : Below w.heap.size w w1) (h : GNext M bw i S w1 w') : GNext M bw i S w w' := by
  obtain ⟨S', h1, h2, h3⟩ := h
  have := hb.size
  exact ⟨S', h1, (Touch.of_below hb _).trans (h2.mono (by omega) (fun _ _ h => h)), fun k hk => by rcases h3 k hk with h | h; exact Or.inl h; exact Or.inr (by omega)⟩
end

theorem g_playable {M : MT} (P : Api M) (w0 : World) (ops : List LOp) (lo hi most : Int) (hlen : (ops.length + 2) * 48 ≤ 140737488355328) (hok : ∀ (i : Nat) (o : LOp), ops[i]? = some o → o.ok) : Playable w0 ops lo hi most (fun i w S => GInv M w0.heap.size i w S ∧ i ≤ ops.length) where
  lt := by
    rintro i w S ⟨⟨own, ps, hbs, vP, vH, h, _, rfl⟩, _⟩ k hk
    exact h.lt k hk
  alloc := by
    rintro i w S o ⟨⟨own, ps, hbs, vP, vH, h, h1, rfl⟩, hi⟩
    exact ⟨⟨own, ps, hbs, vP, vH, h.below P ((Below.refl _ _).alloc (Nat.le_refl _) o), h1, rfl⟩, hi⟩
  begins := by
    obtain ⟨own, ho⟩ : ∃ own : Nat → Nat × Nat, own = fun b => if b = w0.heap.size then (1, 0) else (0, 0) := ⟨_, rfl⟩
    have o1 : own w0.heap.size = (1, 0) := by rw [ho]; exact if_pos rfl
    have o2 : ∀ b, b ≠ w0.heap.size → own b = (0, 0) := fun b hb => by rw [ho]; exact if_neg hb
    clear ho
    have hg : GI M w0.heap.size 0 (w0.alloc (.cells #[.slice none 0 0, .slice none 0 0] 29)) own [] [] (.slice none 0 0) (.slice none 0 0) :=
      ⟨Blk.new w0 [_, _] _, Row.nil _ _ _, Row.nil _ _ _, o1, Tg.nil _ _, Tg.nil _ _, fun k p r h => by simp at h, fun j hb h => by simp at h, by simp, by simp, fun b hb => by simp at hb; rw [o2 b (by omega)], fun b hb => by rw [o2 b (by omega)],
        fun b => by by_cases hb : b = w0.heap.size; · subst hb; rw [o1]; left; simp
                    · rw [o2 b hb]; left; simp⟩
    refine (wbegin_yes P own 3 w0.heap.size (.slice none 0 0) (.slice none 0 0) [] 0 0 3 2 3 0 false (w0.alloc (.cells #[.slice none 0 0, .slice none 0 0] 29)) (by decide) (by omega) (by omega) (by omega) (by omega)
      (fun b _ => by by_cases hb : b = w0.heap.size; · subst hb; rw [o1]; simp
                     · rw [o2 b hb]; simp) (Blk.new w0 _ _) (Row.nil _ _ _) (by simp) (by simp [Value.ownBlock])).mono ?_
    rintro en w' ⟨rfl, own', g, cap, p, r, vR, vB, vS, vA, vK, bs, h1, h2, h3, h4, h5, h6, h7, h8⟩
    obtain ⟨S', k1, k2, k3⟩ := hg.begin P (i' := 0) (by omega) (by simp) (by omega) (by omega) (by omega) (by omega) h1 h2 h3 h4 h5 h6 h7 h8
    refine ⟨rfl, S', ⟨k1, by omega⟩, ((Below.refl _ _).alloc (Nat.le_refl _) _).trans ((k2.mono (B' := w0.heap.size) (S' := fun _ => False) (by simp) (fun k hk h => h (by rw [o2 k (by omega)]))).below (by simp)), fun k hk => ?_⟩
    rcases k3 k hk with h | h
    · by_cases hb : k = w0.heap.size
      · omega
      · rw [o2 k hb] at h; exact absurd rfl h
    · simp at h; omega
  steps := by
    intro i w S o ho hm hg hS
    have hi : i < ops.length := (List.getElem?_eq_some_iff.1 ho).1
    have hO : o.is64 := hok i o ho
    obtain ⟨⟨own, ps, hbs, vP, vH, h, h1, rfl⟩, _⟩ := hg
    have l2 := h.l2
    by_cases hK : o.K = 1
    · refine (step_begin w0.heap.size o w (by simp [hK]) (fun ok w' => ok = true ∧ GNext M w0.heap.size i (fun b => (own b).1 ≠ 0) w w') ?_).mono ?_
      · intro w1 hb1
        have h' := h.below P hb1
        cases hmm : mayB o.A o.B o.C with
        | false =>
          refine (wbegin_no P w0.heap.size o.K o.M o.A o.B o.C o.D o.F w1 hmm).mono ?_
          rintro e w' ⟨rfl, hb⟩
          exact ⟨true, rfl, rfl, GNext.below hb1 ⟨_, ⟨own, ps, hbs, vP, vH, (GI.mono P (h'.below P hb)), h1, rfl⟩, Touch.of_below hb _, fun k hk => .inl hk⟩⟩
        | true =>
          obtain ⟨f, s, e, ea, eb, ec, q1, q2, q3, q4, q5, q6⟩ := mayB_nat hmm
          rw [ea, eb, ec] at hmm ⊢
          refine (wbegin_yes P own (3 * ps.length + 3) w0.heap.size vP vH ps o.K o.M f s e o.D o.F w1 hmm q2 q4 q6 q5 (fun b _ ee => ?_) h'.blk h'.rP (by omega) (fun ee => ?_)).mono ?_
          · rcases h.ids b with h | ⟨k, hk, h⟩ | ⟨j, hj, h⟩ <;> omega
          · have := h.tP _ ee; rw [h.tw] at this; simp at this
          rintro en w' ⟨rfl, own', g, cap, p, r, vR, vB, vS, vA, vK, bs, h1', h2, h3, h4, h5, h6, h7, h8⟩
          exact ⟨true, rfl, rfl, GNext.below hb1 (h'.begin P (i' := i + 1) (by omega) (by omega) q2 q3 q4 q6 h1' h2 h3 h4 h5 h6 h7 h8)⟩
      · rintro e w' ⟨ok, rfl, hr, S', k1, k2, k3⟩
        exact ⟨ok, rfl, fun _ => hr, S', ⟨k1, by omega⟩, k2, k3⟩
    · obtain ⟨⟨p, r⟩, hpr⟩ : ∃ x, ps[mach o.M ps.length]? = some x := ⟨ps[mach o.M ps.length]'(mach_lt _ _ (by omega)), by simp⟩
      by_cases hK14 : 14 ≤ o.K ∧ o.K ≤ 20
      · refine (step_memory w0.heap.size vP vH ps o w (by omega) (by simp [hK]) h.blk h.rP (by omega) (by omega) p r hpr (fun ok w' => ok = true ∧ GNext M w0.heap.size i (fun b => (own b).1 ≠ 0) w w') ?_).mono ?_
        · intro w1 hb1
          refine ((h.below P hb1).memory P h1 o hK14.1 hK14.2 hO (by omega) hpr).mono ?_
          rintro e w2 ⟨rfl, hn⟩
          exact ⟨true, rfl, rfl, GNext.below hb1 hn⟩
        · rintro e w' ⟨ok, rfl, hr, S', k1, k2, k3⟩
          exact ⟨ok, rfl, fun _ => hr, S', ⟨k1, by omega⟩, k2, k3⟩
      by_cases hK9 : 9 ≤ o.K ∧ o.K ≤ 13
      · refine (step_table w0.heap.size vP vH ps o w hK9 (by simp [hK]) h.blk h.rP (by omega) (by omega) p r hpr (fun ok w' => ok = true ∧ GNext M w0.heap.size i (fun b => (own b).1 ≠ 0) w w') ?_).mono ?_
        · intro w1 hb1
          refine ((h.below P hb1).table P h1 o hK9.1 hK9.2 hO (by omega) hpr).mono ?_
          rintro e w2 ⟨rfl, hn⟩
          exact ⟨true, rfl, rfl, GNext.below hb1 hn⟩
        · rintro e w' ⟨ok, rfl, hr, S', k1, k2, k3⟩
          exact ⟨ok, rfl, fun _ => hr, S', ⟨k1, by omega⟩, k2, k3⟩
      by_cases hK2 : 2 ≤ o.K ∧ o.K ≤ 8
      · refine (step_rights w0.heap.size vP vH ps o w hK2 (by simp [hK]) h.blk h.rP (by omega) (by omega) p r hpr (fun ok w' => ok = true ∧ GNext M w0.heap.size i (fun b => (own b).1 ≠ 0) w w') ?_).mono ?_
        · intro w1 hb1
          refine ((h.below P hb1).rights P h1 o hK2.1 hK2.2 hO (by omega) hpr).mono ?_
          rintro e w2 ⟨rfl, hn⟩
          exact ⟨true, rfl, rfl, GNext.below hb1 hn⟩
        · rintro e w' ⟨ok, rfl, hr, S', k1, k2, k3⟩
          exact ⟨ok, rfl, fun _ => hr, S', ⟨k1, by omega⟩, k2, k3⟩
      · refine (step_memory w0.heap.size vP vH ps o w (by omega) (by simp [hK]) h.blk h.rP (by omega) (by omega) p r hpr (fun ok w' => ok = true ∧ Below w.heap.size w w') ?_).mono ?_
        · intro w1 hb1
          refine (memory_none w0.heap.size p r o w1 (by omega)).mono ?_
          rintro e w2 ⟨rfl, hb2⟩
          have := hb1.size
          exact ⟨true, rfl, rfl, hb1.trans (hb2.mono (by omega))⟩
        · rintro e w' ⟨ok, rfl, hr, hb⟩
          exact ⟨ok, rfl, fun _ => hr, _, ⟨⟨own, ps, hbs, vP, vH, (GI.mono P (h.below P hb)), h1, rfl⟩, by omega⟩, Touch.of_below hb _, fun k hk => .inl hk⟩
  skips := by
    rintro i w S o ho hm ⟨⟨own, ps, hbs, vP, vH, h, h1, rfl⟩, _⟩
    exact ⟨⟨own, ps, hbs, vP, vH, GI.mono P h, h1, rfl⟩, (List.getElem?_eq_some_iff.1 ho).1⟩
  looks := by
    intro i w S hg
    have hg' := hg
    obtain ⟨⟨own, ps, hbs, vP, vH, h, h1, rfl⟩, hi⟩ := hg'
    refine (looks_any (own := own) h.blk h.rH (by have := h.l3; omega) (fun j b hb => by obtain ⟨n, a, hh⟩ := h.hd j b hb; exact ⟨_, n, a, hh⟩)).mono ?_
    rintro e w' ⟨rfl, rfl⟩
    exact ⟨rfl, Below.refl _ _, hg⟩
end Go.Proofs.YtinlkcmdbjcofaaGreat
