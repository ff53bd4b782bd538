import Derived.Test.YtinlkcmdbjcofaaGreatM25
/-
  The document's Read and Write (a kept memory's).
-/
namespace Go.Proofs.YtinlkcmdbjcofaaGreat
open Go.RowKit
set_option linter.unusedVariables false
attribute [local go_sem ↓] Go.wp_at_zero Go.wp_at_succ

section
variable {own : Nat → Nat × Nat} {id : Nat} {w : World} {m : Nat} {s : RSt} {nk : Nat} {vR vB vS vA vK : Value} {bs : List Nat} {k : KSt}

theorem SOk.klen (h : SOk s) (hF : FewU s) {j : Nat} (hO : keptO s j = some k) : KLen k := (h.kok.k1 j k (keptO_get hO)).len.full (Nat.le_refl _) (hF j k (keptO_get hO))
theorem RefRep.ptr (h : RefRep own id w m s nk vR vB vS vA vK bs) {j : Nat} (hj : j < nk) (hO : keptO s j = some k) : ∃ b, KPtr vK nk w j b := by
  obtain ⟨g, cap, b, hv, -, hc, -⟩ := h.keptPut hj hO
  exact ⟨b, g, cap, hv, hc⟩

set_option maxHeartbeats 4000000 in
set_option maxRecDepth 100000 in
theorem rread_any (h : RefRep own id w m s nk vR vB vS vA vK bs) (hw : RWf s nk) (hS : SOk s) (hF : FewU s) (env a : Int) :
    Calls Tryz.prog 55 #[.pointer (some ⟨m, 0, none⟩), .int .i64 env, .int .i64 a] w fun e w' => e = .returned (.tuple #[.int .i64 (readR s env a).1.1, .int .i64 (readR s env a).1.2]) ∧ RefNext own id w m nk w' (readR s env a).2 := by
  rcases heldE_cases s env with ⟨y, hr, hy⟩ | ⟨j, k, hr, rfl, hj, hO⟩
  · have hy0 : (y != 0) = true := by rcases hy with rfl | rfl <;> rfl
    have HA : Hid (readR s env a = ((0, y), s)) := by rcases hy with rfl | rfl <;> simp [Hid, readR, hr]
    clear hy
    go_enter Tryz.func55, Tryz.ntmps55
    go_wp2_with fail
    refine (held_any h hw.al hw.ne hw.nk env).mono ?_
    rintro e w2 ⟨rfl, hw2⟩
    subst hw2
    rw [hr]
    clear hr
    go_wp2_with fail
    exact bodyPost_ret (v := .tuple #[.int .i64 0, .int .i64 y]) (by simp [results, Tryz.results55, go_sem]) rfl ⟨by rw [HA.out], by rw [HA.out]; exact RefNext.refl h⟩
  · by_cases hrg : a < 0 ∨ 63 < a
    · have HA : Hid (readR s j a = ((0, 6), s)) := by simp [Hid, readR, hr, hrg]
      go_enter Tryz.func55, Tryz.ntmps55
      go_wp2_with fail
      refine (held_any h hw.al hw.ne hw.nk j).mono ?_
      rintro e w2 ⟨rfl, hw2⟩
      subst hw2
      rw [hr]
      clear hr
      rcases hrg with h0 | h0
      · go_wp2_with fail
        exact bodyPost_ret (v := .tuple #[.int .i64 0, .int .i64 6]) (by simp [results, Tryz.results55, go_sem]) rfl ⟨by rw [HA.out], by rw [HA.out]; exact RefNext.refl h⟩
      · have h1 : ¬ a < 0 := by omega
        go_wp2_with fail
        exact bodyPost_ret (v := .tuple #[.int .i64 0, .int .i64 6]) (by simp [results, Tryz.results55, go_sem]) rfl ⟨by rw [HA.out], by rw [HA.out]; exact RefNext.refl h⟩
    · obtain ⟨A, rfl⟩ : ∃ A : Nat, a = A := ⟨a.toNat, by omega⟩
      have hA : A < 64 := by omega
      have hl := hS.klen hF hO
      obtain ⟨b, hP⟩ := h.ptr (by rw [hw.nk]; exact hj) hO
      have e4 : ((A : Int) / 4).toNat = A / 4 := by omega
      have HAn : Hid (accessS s k j (A / 4) false = none → readR s j A = ((0, 12), s)) := fun hc => by
        unfold readR
        rw [hr, hO, e4]
        simp only [ne_eq, not_true_eq_false, if_false, if_neg hrg, Int.toNat_natCast, hc]
      have HAs : Hid (∀ s1, accessS s k j (A / 4) false = some s1 → readR s j A = (((k.bytes[A]?).getD 0, 0), s1)) := fun s1 hc => by
        unfold readR
        rw [hr, hO, e4]
        simp only [ne_eq, not_true_eq_false, if_false, if_neg hrg, Int.toNat_natCast, hc]
      have hA2 : (A : Int).tdiv 4 = ((A / 4 : Nat) : Int) := by rw [Int.tdiv_eq_ediv_of_nonneg (by omega)]; omega
      have h0 : ¬ (A : Int) < 0 := by omega
      have h1 : ¬ 63 < (A : Int) := by omega
      have HKB : Hid (∀ s1, accessS s k j (A / 4) false = some s1 → ∃ k1, keptO s1 j = some k1 ∧ k1.bytes = k.bytes) := fun s1 hs => by
        obtain ⟨-, -, k', a3, -, a5, -⟩ := access_ok hS (keptO_get hO) (by omega) hs
        exact ⟨k', keptO_setK a3 (kept_lt (keptO_get hO)), a5⟩
      have lb := hl.by_
      have hjl : (j : Int) < (nk : Int) := by rw [hw.nk]; omega
      have hj0 : (0 : Int) ≤ (j : Int) := by omega
      go_enter Tryz.func55, Tryz.ntmps55
      go_wp2_with fail
      refine (held_any h hw.al hw.ne hw.nk j).mono ?_
      rintro e w2 ⟨rfl, hw2⟩
      subst hw2
      rw [hr]
      clear hr hrg
      go_wp2_with fail
      refine (raccess_rd h hw hS (by rw [hw.nk]; exact hj) (page := A / 4) (by omega) hO hP hl).mono ?_
      rintro e w3 ⟨own3, vR3, vB3, bs3, s3, hR3, hP3, ho3, hT3, hc⟩
      rcases hc with ⟨hc, rfl, rfl⟩ | ⟨hc, rfl⟩
      · have HB := HAn.out hc
        have HB : Hid (readR s3 j A = ((0, 12), s3)) := HB
        clear hc HAn HAs HKB
        go_wp2_with fail
        exact bodyPost_ret (v := .tuple #[.int .i64 0, .int .i64 12]) (by simp [results, Tryz.results55, go_sem]) rfl ⟨by rw [HB.out], by rw [HB.out]; exact ⟨own3, _, _, _, _, _, _, hR3, ho3, hT3⟩⟩
      · obtain ⟨k3, hO3, hb3⟩ := HKB.out s3 hc
        obtain ⟨x, hx⟩ : ∃ x, k.bytes[A]? = some x := ⟨k.bytes[A]'(by omega), by simp⟩
        have HB : Hid (readR s j A = ((x, 0), s3)) := by unfold Hid; rw [HAs.out s3 hc, hx]; rfl
        obtain ⟨g, cap, b3, hv, hg, c0, hK, -⟩ := hR3.keptPut (by rw [hw.nk]; exact hj) hO3
        have k8 := hR3.blk.cell 8
        simp at k8
        rw [hv] at k8
        obtain ⟨vB', vU, vI, vY, vC, vD, vO, hk⟩ := hK
        have q2 := hk.blk.cell 2
        simp [KSt.cells] at q2
        obtain ⟨gB, capB, hvB, hcB, -⟩ := hk.rB.form (by rw [hb3]; omega)
        rw [hvB] at q2
        have cB : w3.cell? ⟨gB, A, none⟩ = some (.int .i64 x) := by rw [hcB _ (by rw [hb3]; omega), List.getElem?_map, hb3, hx]; rfl
        have hlb : (A : Int) < (k3.bytes.length : Int) := by rw [hb3]; omega
        have hA0 : (0 : Int) ≤ (A : Int) := by omega
        clear hc HAn HAs HKB hx hv hvB hcB hO3
        go_wp2_with fail
        exact bodyPost_ret (v := .tuple #[.int .i64 x, .int .i64 0]) (by simp [results, Tryz.results55, go_sem]) rfl ⟨by rw [HB.out], by rw [HB.out]; exact ⟨own3, _, _, _, _, _, _, hR3, ho3, hT3⟩⟩
set_option maxHeartbeats 4000000 in
set_option maxRecDepth 100000 in
theorem rwrite_any (h : RefRep own id w m s nk vR vB vS vA vK bs) (hw : RWf s nk) (hS : SOk s) (hF : FewU s) (env a v : Int) :
    Calls Tryz.prog 57 #[.pointer (some ⟨m, 0, none⟩), .int .i64 env, .int .i64 a, .int .i64 v] w fun e w' => e = .returned (.int .i64 (writeR s env a v).1) ∧ RefNext own id w m nk w' (writeR s env a v).2 := by
  rcases heldE_cases s env with ⟨y, hr, hy⟩ | ⟨j, k, hr, rfl, hj, hO⟩
  · have hy0 : (y != 0) = true := by rcases hy with rfl | rfl <;> rfl
    have HA : Hid (writeR s env a v = (y, s)) := by rcases hy with rfl | rfl <;> simp [Hid, writeR, hr]
    clear hy
    go_enter Tryz.func57, Tryz.ntmps57
    go_wp2_with fail
    refine (held_any h hw.al hw.ne hw.nk env).mono ?_
    rintro e w2 ⟨rfl, hw2⟩
    subst hw2
    rw [hr]
    clear hr
    go_wp2_with fail
    go_ret
    exact ⟨ret_int' (by rw [HA.out]), by rw [HA.out]; exact RefNext.refl h⟩
  · by_cases hrg : a < 0 ∨ 63 < a ∨ v < 0 ∨ 255 < v
    · have HA : Hid (writeR s j a v = (6, s)) := by simp [Hid, writeR, hr, hrg]
      go_enter Tryz.func57, Tryz.ntmps57
      go_wp2_with fail
      refine (held_any h hw.al hw.ne hw.nk j).mono ?_
      rintro e w2 ⟨rfl, hw2⟩
      subst hw2
      rw [hr]
      clear hr
      by_cases h0 : a < 0
      · clear hrg
        go_wp2_with fail
        go_ret
        exact ⟨ret_int' (by rw [HA.out]), by rw [HA.out]; exact RefNext.refl h⟩
      · by_cases h1 : 63 < a
        · clear hrg
          go_wp2_with fail
          go_ret
          exact ⟨ret_int' (by rw [HA.out]), by rw [HA.out]; exact RefNext.refl h⟩
        · by_cases h2 : v < 0
          · clear hrg
            go_wp2_with fail
            go_ret
            exact ⟨ret_int' (by rw [HA.out]), by rw [HA.out]; exact RefNext.refl h⟩
          · have h3 : 255 < v := by omega
            clear hrg
            go_wp2_with fail
            go_ret
            exact ⟨ret_int' (by rw [HA.out]), by rw [HA.out]; exact RefNext.refl h⟩
    · obtain ⟨A, rfl⟩ : ∃ A : Nat, a = A := ⟨a.toNat, by omega⟩
      have hA : A < 64 := by omega
      have hl := hS.klen hF hO
      obtain ⟨b, hP⟩ := h.ptr (by rw [hw.nk]; exact hj) hO
      have e4 : ((A : Int) / 4).toNat = A / 4 := by omega
      have HAn : Hid (accessS s k j (A / 4) true = none → writeR s j A v = (12, s)) := fun hc => by
        unfold writeR
        rw [hr, hO, e4]
        simp only [ne_eq, not_true_eq_false, if_false, if_neg hrg, Int.toNat_natCast, hc]
      have HAs : Hid (∀ s1 k1, accessS s k j (A / 4) true = some s1 → keptO s1 j = some k1 → writeR s j A v = (0, putK s1 j { k1 with bytes := k1.bytes.set A v })) := fun s1 k1 hc hk1 => by
        unfold writeR
        rw [hr, hO, e4]
        simp only [ne_eq, not_true_eq_false, if_false, if_neg hrg, Int.toNat_natCast, hc, hk1]
      have hA2 : (A : Int).tdiv 4 = ((A / 4 : Nat) : Int) := by rw [Int.tdiv_eq_ediv_of_nonneg (by omega)]; omega
      have h0 : ¬ (A : Int) < 0 := by omega
      have h1 : ¬ 63 < (A : Int) := by omega
      have h2 : ¬ v < 0 := by omega
      have h3 : ¬ 255 < v := by omega
      have HKB : Hid (∀ s1, accessS s k j (A / 4) true = some s1 → ∃ k1, keptO s1 j = some k1 ∧ k1.bytes = k.bytes) := fun s1 hs => by
        obtain ⟨-, -, k', a3, -, a5, -⟩ := access_ok hS (keptO_get hO) (by omega) hs
        exact ⟨k', keptO_setK a3 (kept_lt (keptO_get hO)), a5⟩
      have lb := hl.by_
      have hjl : (j : Int) < (nk : Int) := by rw [hw.nk]; omega
      have hj0 : (0 : Int) ≤ (j : Int) := by omega
      go_enter Tryz.func57, Tryz.ntmps57
      go_wp2_with fail
      refine (held_any h hw.al hw.ne hw.nk j).mono ?_
      rintro e w2 ⟨rfl, hw2⟩
      subst hw2
      rw [hr]
      clear hr hrg
      go_wp2_with fail
      refine (raccess_wr h hw hS (by rw [hw.nk]; exact hj) (page := A / 4) (by omega) hO hP hl).mono ?_
      rintro e w3 ⟨own3, vR3, vB3, bs3, s3, hR3, hP3, ho3, hT3, hc⟩
      rcases hc with ⟨hc, rfl, rfl⟩ | ⟨hc, rfl⟩
      · have HB := HAn.out hc
        have HB : Hid (writeR s3 j A v = (12, s3)) := HB
        clear hc HAn HAs HKB
        go_wp2_with fail
        go_ret
        exact ⟨ret_int' (by rw [HB.out]), by rw [HB.out]; exact ⟨own3, _, _, _, _, _, _, hR3, ho3, hT3⟩⟩
      · obtain ⟨k3, hO3, hb3⟩ := HKB.out s3 hc
        obtain ⟨x, hx⟩ : ∃ x, k.bytes[A]? = some x := ⟨k.bytes[A]'(by omega), by simp⟩
        have HB : Hid (writeR s j A v = (0, putK s3 j { k3 with bytes := k3.bytes.set A v })) := HAs.out s3 k3 hc hO3
        obtain ⟨g, cap, b3, hv, hg, c0, hK, put⟩ := hR3.keptPut (by rw [hw.nk]; exact hj) hO3
        have k8 := hR3.blk.cell 8
        simp at k8
        rw [hv] at k8
        obtain ⟨vB', vU, vI, vY, vC, vD, vO, hk⟩ := hK
        have q2 := hk.blk.cell 2
        simp [KSt.cells] at q2
        obtain ⟨gB, capB, hvB, hcB, hfB⟩ := hk.rB.form (by rw [hb3]; omega)
        rw [hvB] at q2
        have cB : w3.cell? ⟨gB, A, none⟩ = some (.int .i64 x) := by rw [hcB _ (by rw [hb3]; omega), List.getElem?_map, hb3, hx]; rfl
        have zB := hfB A
        have hlb : (A : Int) < (k3.bytes.length : Int) := by rw [hb3]; omega
        have hA0 : (0 : Int) ≤ (A : Int) := by omega
        have tB : own3 gB = (id, kt j 1) := hk.tB gB (by rw [hvB]; rfl)
        have hkn := hk.setKByte hvB A v
        have hW : ∀ z, z < w3.heap.size → (∀ t, t < 16 → own3 z ≠ (id, kt j t)) → (w3.setCell ⟨gB, A, none⟩ (.int .i64 v)).heap[z]? = w3.heap[z]? := fun z hz hne => Below.heap_setCell _ _ _ _ (fun e => hne 1 (by omega) (by simp at e; rw [e]; exact tB))
        have hRn := put own3 _ _ (fun _ _ => rfl) hW ⟨_, _, _, _, _, _, _, hkn⟩
        have hin : (own gB).1 = id ∨ w2.heap.size ≤ gB := by
          rcases Nat.lt_or_ge gB w2.heap.size with h1 | h1
          · left; rw [← ho3 gB h1, tB]
          · exact .inr h1
        have hTn := hT3.setCell (p := ⟨gB, A, none⟩) hin (.int .i64 v)
        clear hc HAn HAs HKB hx hv hvB hcB hO3 hfB put hkn hW
        go_wp2_with fail
        go_ret
        exact ⟨ret_int' (by rw [HB.out]), by rw [HB.out]; exact ⟨own3, _, _, _, _, _, _, hRn, ho3, hTn⟩⟩
end
end Go.Proofs.YtinlkcmdbjcofaaGreat

/-
  What is laid behind the rows of a kept memory.
-/
namespace Go.Proofs.YtinlkcmdbjcofaaGreat
open Go.RowKit
set_option linter.unusedVariables false

section
variable {own own' : Nat → Nat × Nat} {id i : Nat} {w w1 : World} {b g cap : Nat} {k : KSt} {vB vU vI vY vC vD vO : Value}

/-- A right more, by page. -/
theorem KRep.appHnd (h : KRep own id i w b k vB vU vI vY vC vD vO) {p : Int} (hown : w1.ownsRow 0 3 1 (.slice (some ⟨g, 0, none⟩) (k.hnd.length + 1) cap) (k.hnd.length + 1) (k.hnd.map (.int .i64) ++ [.int .i64 p]))
    (hg : (w.alloc (.cells ([.int .i64 p] : List Value).toArray 3)).grownBy w1 vY.ownBlock) (hat : vY.ownBlock = some g ∨ g = w.heap.size + 1) :
    KRep (set1 own (w.heap.size + 1) (id, kt i 4)) id i (w1.setCell ⟨b, 5, none⟩ (.slice (some ⟨g, 0, none⟩) (k.hnd.length + 1) cap)) b { k with hnd := k.hnd ++ [p] } vB vU vI (.slice (some ⟨g, 0, none⟩) (k.hnd.length + 1) cap) vC vD vO ∧ (∀ x, x < w.heap.size → own x ≠ (id, kt i 0) → own x ≠ (id, kt i 4) → (w1.setCell ⟨b, 5, none⟩ (.slice (some ⟨g, 0, none⟩) (k.hnd.length + 1) cap)).heap[x]? = w.heap[x]?) ∧ Blk w1 b (k.cells vB vU vI vY vC vD vO) 133 := by
  have hblt := h.blk.lt
  have ho : ∀ x, x < w.heap.size → set1 own (w.heap.size + 1) (id, kt i 4) x = own x := set1_old (by omega)
  have hW1 : ∀ x, x < w.heap.size → own x ≠ (id, kt i 4) → w1.heap[x]? = w.heap[x]? := fun x hx hn =>
    (hg.block x (by simp; omega) (fun e => hn (h.tY x e.symm))).trans (Below.heap_alloc w _ x hx)
  have hW : ∀ x, x < w.heap.size → own x ≠ (id, kt i 0) → own x ≠ (id, kt i 4) → (w1.setCell ⟨b, 5, none⟩ (.slice (some ⟨g, 0, none⟩) (k.hnd.length + 1) cap)).heap[x]? = w.heap[x]? := fun x hx h0 h3 =>
    (Below.heap_setCell _ _ _ _ (fun e => h0 (by simp at e; rw [e]; exact h.tm))).trans (hW1 x hx h3)
  have hr : ∀ {v : Value} {e c n t : Nat} {xs : List Value}, Row w v e c n xs → Tg own v (id, kt i t) → t ≠ 0 → t ≠ 4 → Row (w1.setCell ⟨b, 5, none⟩ (.slice (some ⟨g, 0, none⟩) (k.hnd.length + 1) cap)) v e c n xs := fun hr ht h0 h3 =>
    hr.kept ht (fun x hx e => hW x hx (by rw [e]; intro e2; simp only [Prod.mk.injEq, true_and] at e2; exact kt_ne h0 e2) (by rw [e]; intro e2; simp only [Prod.mk.injEq, true_and] at e2; exact kt_ne h3 e2))
  have hbk : Blk w1 b (k.cells vB vU vI vY vC vD vO) 133 := h.blk.of (hW1 b hblt (by rw [h.tm]; intro e2; simp only [Prod.mk.injEq, true_and] at e2; exact kt_ne (by omega) e2))
  have hgb : g ≠ b := fun e => by
    rcases hat with h1 | h1
    · have := h.tY g h1
      rw [e, h.tm] at this
      simp only [Prod.mk.injEq, true_and] at this
      exact kt_ne (by omega) this
    · omega
  refine ⟨⟨hbk.set 5 _, hr h.rB h.tB (by omega) (by omega), hr h.rU h.tU (by omega) (by omega), hr h.rI h.tI (by omega) (by omega), ?_, hr h.rC h.tC (by omega) (by omega), hr h.rD h.tD (by omega) (by omega), hr h.rO h.tO (by omega) (by omega), (ho b hblt).trans h.tm, h.tB.congr h.rB ho, h.tU.congr h.rU ho, h.tI.congr h.rI ho, ?_, h.tC.congr h.rC ho, h.tD.congr h.rD ho, h.tO.congr h.rO ho⟩, hW, hbk⟩
  · have h1 : Row w1 (.slice (some ⟨g, 0, none⟩) (k.hnd.length + 1) cap) 3 1 (k.hnd.length + 1) (k.hnd.map (.int .i64) ++ [.int .i64 p]) := hown
    have h2 := h1.other (a := ⟨b, 5, none⟩) (.slice (some ⟨g, 0, none⟩) (k.hnd.length + 1) cap) (fun e => hgb (by simpa [Value.ownBlock] using e))
    simpa using h2
  · exact h.tY.app (fun x hx => by have := h.rY.lt x hx; omega) hat
/-- A mark more: changed. -/
theorem KRep.appChg (h : KRep own id i w b k vB vU vI vY vC vD vO) {p : Bool} (hown : w1.ownsRow 0 4 1 (.slice (some ⟨g, 0, none⟩) (k.chg.length + 1) cap) (k.chg.length + 1) (k.chg.map .bool ++ [.bool p]))
    (hg : (w.alloc (.cells ([.bool p] : List Value).toArray 4)).grownBy w1 vC.ownBlock) (hat : vC.ownBlock = some g ∨ g = w.heap.size + 1) :
    KRep (set1 own (w.heap.size + 1) (id, kt i 5)) id i (w1.setCell ⟨b, 6, none⟩ (.slice (some ⟨g, 0, none⟩) (k.chg.length + 1) cap)) b { k with chg := k.chg ++ [p] } vB vU vI vY (.slice (some ⟨g, 0, none⟩) (k.chg.length + 1) cap) vD vO ∧ (∀ x, x < w.heap.size → own x ≠ (id, kt i 0) → own x ≠ (id, kt i 5) → (w1.setCell ⟨b, 6, none⟩ (.slice (some ⟨g, 0, none⟩) (k.chg.length + 1) cap)).heap[x]? = w.heap[x]?) ∧ Blk w1 b (k.cells vB vU vI vY vC vD vO) 133 := by
  have hblt := h.blk.lt
  have ho : ∀ x, x < w.heap.size → set1 own (w.heap.size + 1) (id, kt i 5) x = own x := set1_old (by omega)
  have hW1 : ∀ x, x < w.heap.size → own x ≠ (id, kt i 5) → w1.heap[x]? = w.heap[x]? := fun x hx hn =>
    (hg.block x (by simp; omega) (fun e => hn (h.tC x e.symm))).trans (Below.heap_alloc w _ x hx)
  have hW : ∀ x, x < w.heap.size → own x ≠ (id, kt i 0) → own x ≠ (id, kt i 5) → (w1.setCell ⟨b, 6, none⟩ (.slice (some ⟨g, 0, none⟩) (k.chg.length + 1) cap)).heap[x]? = w.heap[x]? := fun x hx h0 h3 =>
    (Below.heap_setCell _ _ _ _ (fun e => h0 (by simp at e; rw [e]; exact h.tm))).trans (hW1 x hx h3)
  have hr : ∀ {v : Value} {e c n t : Nat} {xs : List Value}, Row w v e c n xs → Tg own v (id, kt i t) → t ≠ 0 → t ≠ 5 → Row (w1.setCell ⟨b, 6, none⟩ (.slice (some ⟨g, 0, none⟩) (k.chg.length + 1) cap)) v e c n xs := fun hr ht h0 h3 =>
    hr.kept ht (fun x hx e => hW x hx (by rw [e]; intro e2; simp only [Prod.mk.injEq, true_and] at e2; exact kt_ne h0 e2) (by rw [e]; intro e2; simp only [Prod.mk.injEq, true_and] at e2; exact kt_ne h3 e2))
  have hbk : Blk w1 b (k.cells vB vU vI vY vC vD vO) 133 := h.blk.of (hW1 b hblt (by rw [h.tm]; intro e2; simp only [Prod.mk.injEq, true_and] at e2; exact kt_ne (by omega) e2))
  have hgb : g ≠ b := fun e => by
    rcases hat with h1 | h1
    · have := h.tC g h1
      rw [e, h.tm] at this
      simp only [Prod.mk.injEq, true_and] at this
      exact kt_ne (by omega) this
    · omega
  refine ⟨⟨hbk.set 6 _, hr h.rB h.tB (by omega) (by omega), hr h.rU h.tU (by omega) (by omega), hr h.rI h.tI (by omega) (by omega), hr h.rY h.tY (by omega) (by omega), ?_, hr h.rD h.tD (by omega) (by omega), hr h.rO h.tO (by omega) (by omega), (ho b hblt).trans h.tm, h.tB.congr h.rB ho, h.tU.congr h.rU ho, h.tI.congr h.rI ho, h.tY.congr h.rY ho, ?_, h.tD.congr h.rD ho, h.tO.congr h.rO ho⟩, hW, hbk⟩
  · have h1 : Row w1 (.slice (some ⟨g, 0, none⟩) (k.chg.length + 1) cap) 4 1 (k.chg.length + 1) (k.chg.map .bool ++ [.bool p]) := hown
    have h2 := h1.other (a := ⟨b, 6, none⟩) (.slice (some ⟨g, 0, none⟩) (k.chg.length + 1) cap) (fun e => hgb (by simpa [Value.ownBlock] using e))
    simpa using h2
  · exact h.tC.app (fun x hx => by have := h.rC.lt x hx; omega) hat
/-- A mark more: dirty. -/
theorem KRep.appDty (h : KRep own id i w b k vB vU vI vY vC vD vO) {p : Bool} (hown : w1.ownsRow 0 4 1 (.slice (some ⟨g, 0, none⟩) (k.dty.length + 1) cap) (k.dty.length + 1) (k.dty.map .bool ++ [.bool p]))
    (hg : (w.alloc (.cells ([.bool p] : List Value).toArray 4)).grownBy w1 vD.ownBlock) (hat : vD.ownBlock = some g ∨ g = w.heap.size + 1) :
    KRep (set1 own (w.heap.size + 1) (id, kt i 6)) id i (w1.setCell ⟨b, 7, none⟩ (.slice (some ⟨g, 0, none⟩) (k.dty.length + 1) cap)) b { k with dty := k.dty ++ [p] } vB vU vI vY vC (.slice (some ⟨g, 0, none⟩) (k.dty.length + 1) cap) vO ∧ (∀ x, x < w.heap.size → own x ≠ (id, kt i 0) → own x ≠ (id, kt i 6) → (w1.setCell ⟨b, 7, none⟩ (.slice (some ⟨g, 0, none⟩) (k.dty.length + 1) cap)).heap[x]? = w.heap[x]?) ∧ Blk w1 b (k.cells vB vU vI vY vC vD vO) 133 := by
  have hblt := h.blk.lt
  have ho : ∀ x, x < w.heap.size → set1 own (w.heap.size + 1) (id, kt i 6) x = own x := set1_old (by omega)
  have hW1 : ∀ x, x < w.heap.size → own x ≠ (id, kt i 6) → w1.heap[x]? = w.heap[x]? := fun x hx hn =>
    (hg.block x (by simp; omega) (fun e => hn (h.tD x e.symm))).trans (Below.heap_alloc w _ x hx)
  have hW : ∀ x, x < w.heap.size → own x ≠ (id, kt i 0) → own x ≠ (id, kt i 6) → (w1.setCell ⟨b, 7, none⟩ (.slice (some ⟨g, 0, none⟩) (k.dty.length + 1) cap)).heap[x]? = w.heap[x]? := fun x hx h0 h3 =>
    (Below.heap_setCell _ _ _ _ (fun e => h0 (by simp at e; rw [e]; exact h.tm))).trans (hW1 x hx h3)
  have hr : ∀ {v : Value} {e c n t : Nat} {xs : List Value}, Row w v e c n xs → Tg own v (id, kt i t) → t ≠ 0 → t ≠ 6 → Row (w1.setCell ⟨b, 7, none⟩ (.slice (some ⟨g, 0, none⟩) (k.dty.length + 1) cap)) v e c n xs := fun hr ht h0 h3 =>
    hr.kept ht (fun x hx e => hW x hx (by rw [e]; intro e2; simp only [Prod.mk.injEq, true_and] at e2; exact kt_ne h0 e2) (by rw [e]; intro e2; simp only [Prod.mk.injEq, true_and] at e2; exact kt_ne h3 e2))
  have hbk : Blk w1 b (k.cells vB vU vI vY vC vD vO) 133 := h.blk.of (hW1 b hblt (by rw [h.tm]; intro e2; simp only [Prod.mk.injEq, true_and] at e2; exact kt_ne (by omega) e2))
  have hgb : g ≠ b := fun e => by
    rcases hat with h1 | h1
    · have := h.tD g h1
      rw [e, h.tm] at this
      simp only [Prod.mk.injEq, true_and] at this
      exact kt_ne (by omega) this
    · omega
  refine ⟨⟨hbk.set 7 _, hr h.rB h.tB (by omega) (by omega), hr h.rU h.tU (by omega) (by omega), hr h.rI h.tI (by omega) (by omega), hr h.rY h.tY (by omega) (by omega), hr h.rC h.tC (by omega) (by omega), ?_, hr h.rO h.tO (by omega) (by omega), (ho b hblt).trans h.tm, h.tB.congr h.rB ho, h.tU.congr h.rU ho, h.tI.congr h.rI ho, h.tY.congr h.rY ho, h.tC.congr h.rC ho, ?_, h.tO.congr h.rO ho⟩, hW, hbk⟩
  · have h1 : Row w1 (.slice (some ⟨g, 0, none⟩) (k.dty.length + 1) cap) 4 1 (k.dty.length + 1) (k.dty.map .bool ++ [.bool p]) := hown
    have h2 := h1.other (a := ⟨b, 7, none⟩) (.slice (some ⟨g, 0, none⟩) (k.dty.length + 1) cap) (fun e => hgb (by simpa [Value.ownBlock] using e))
    simpa using h2
  · exact h.tD.app (fun x hx => by have := h.rD.lt x hx; omega) hat
/-- A mark more: gone out. -/
theorem KRep.appOut (h : KRep own id i w b k vB vU vI vY vC vD vO) {p : Bool} (hown : w1.ownsRow 0 4 1 (.slice (some ⟨g, 0, none⟩) (k.out.length + 1) cap) (k.out.length + 1) (k.out.map .bool ++ [.bool p]))
    (hg : (w.alloc (.cells ([.bool p] : List Value).toArray 4)).grownBy w1 vO.ownBlock) (hat : vO.ownBlock = some g ∨ g = w.heap.size + 1) :
    KRep (set1 own (w.heap.size + 1) (id, kt i 7)) id i (w1.setCell ⟨b, 8, none⟩ (.slice (some ⟨g, 0, none⟩) (k.out.length + 1) cap)) b { k with out := k.out ++ [p] } vB vU vI vY vC vD (.slice (some ⟨g, 0, none⟩) (k.out.length + 1) cap) ∧ (∀ x, x < w.heap.size → own x ≠ (id, kt i 0) → own x ≠ (id, kt i 7) → (w1.setCell ⟨b, 8, none⟩ (.slice (some ⟨g, 0, none⟩) (k.out.length + 1) cap)).heap[x]? = w.heap[x]?) ∧ Blk w1 b (k.cells vB vU vI vY vC vD vO) 133 := by
  have hblt := h.blk.lt
  have ho : ∀ x, x < w.heap.size → set1 own (w.heap.size + 1) (id, kt i 7) x = own x := set1_old (by omega)
  have hW1 : ∀ x, x < w.heap.size → own x ≠ (id, kt i 7) → w1.heap[x]? = w.heap[x]? := fun x hx hn =>
    (hg.block x (by simp; omega) (fun e => hn (h.tO x e.symm))).trans (Below.heap_alloc w _ x hx)
  have hW : ∀ x, x < w.heap.size → own x ≠ (id, kt i 0) → own x ≠ (id, kt i 7) → (w1.setCell ⟨b, 8, none⟩ (.slice (some ⟨g, 0, none⟩) (k.out.length + 1) cap)).heap[x]? = w.heap[x]? := fun x hx h0 h3 =>
    (Below.heap_setCell _ _ _ _ (fun e => h0 (by simp at e; rw [e]; exact h.tm))).trans (hW1 x hx h3)
  have hr : ∀ {v : Value} {e c n t : Nat} {xs : List Value}, Row w v e c n xs → Tg own v (id, kt i t) → t ≠ 0 → t ≠ 7 → Row (w1.setCell ⟨b, 8, none⟩ (.slice (some ⟨g, 0, none⟩) (k.out.length + 1) cap)) v e c n xs := fun hr ht h0 h3 =>
    hr.kept ht (fun x hx e => hW x hx (by rw [e]; intro e2; simp only [Prod.mk.injEq, true_and] at e2; exact kt_ne h0 e2) (by rw [e]; intro e2; simp only [Prod.mk.injEq, true_and] at e2; exact kt_ne h3 e2))
  have hbk : Blk w1 b (k.cells vB vU vI vY vC vD vO) 133 := h.blk.of (hW1 b hblt (by rw [h.tm]; intro e2; simp only [Prod.mk.injEq, true_and] at e2; exact kt_ne (by omega) e2))
  have hgb : g ≠ b := fun e => by
    rcases hat with h1 | h1
    · have := h.tO g h1
      rw [e, h.tm] at this
      simp only [Prod.mk.injEq, true_and] at this
      exact kt_ne (by omega) this
    · omega
  refine ⟨⟨hbk.set 8 _, hr h.rB h.tB (by omega) (by omega), hr h.rU h.tU (by omega) (by omega), hr h.rI h.tI (by omega) (by omega), hr h.rY h.tY (by omega) (by omega), hr h.rC h.tC (by omega) (by omega), hr h.rD h.tD (by omega) (by omega), ?_, (ho b hblt).trans h.tm, h.tB.congr h.rB ho, h.tU.congr h.rU ho, h.tI.congr h.rI ho, h.tY.congr h.rY ho, h.tC.congr h.rC ho, h.tD.congr h.rD ho, ?_⟩, hW, hbk⟩
  · have h1 : Row w1 (.slice (some ⟨g, 0, none⟩) (k.out.length + 1) cap) 4 1 (k.out.length + 1) (k.out.map .bool ++ [.bool p]) := hown
    have h2 := h1.other (a := ⟨b, 8, none⟩) (.slice (some ⟨g, 0, none⟩) (k.out.length + 1) cap) (fun e => hgb (by simpa [Value.ownBlock] using e))
    simpa using h2
  · exact h.tO.app (fun x hx => by have := h.rO.lt x hx; omega) hat
/-- Four bytes more. -/
theorem KRep.appBytes (h : KRep own id i w b k vB vU vI vY vC vD vO) (hown : w1.ownsRow 0 3 1 (.slice (some ⟨g, 0, none⟩) (k.bytes.length + 4) cap) (k.bytes.length + 4) (k.bytes.map (.int .i64) ++ [.int .i64 0, .int .i64 0, .int .i64 0, .int .i64 0]))
    (hg : (w.alloc (.cells ([.int .i64 0, .int .i64 0, .int .i64 0, .int .i64 0] : List Value).toArray 3)).grownBy w1 vB.ownBlock) (hat : vB.ownBlock = some g ∨ g = w.heap.size + 1) :
    KRep (set1 own (w.heap.size + 1) (id, kt i 1)) id i (w1.setCell ⟨b, 2, none⟩ (.slice (some ⟨g, 0, none⟩) (k.bytes.length + 4) cap)) b { k with bytes := k.bytes ++ [0, 0, 0, 0] } (.slice (some ⟨g, 0, none⟩) (k.bytes.length + 4) cap) vU vI vY vC vD vO ∧ (∀ x, x < w.heap.size → own x ≠ (id, kt i 0) → own x ≠ (id, kt i 1) → (w1.setCell ⟨b, 2, none⟩ (.slice (some ⟨g, 0, none⟩) (k.bytes.length + 4) cap)).heap[x]? = w.heap[x]?) ∧ Blk w1 b (k.cells vB vU vI vY vC vD vO) 133 := by
  have hblt := h.blk.lt
  have ho : ∀ x, x < w.heap.size → set1 own (w.heap.size + 1) (id, kt i 1) x = own x := set1_old (by omega)
  have hW1 : ∀ x, x < w.heap.size → own x ≠ (id, kt i 1) → w1.heap[x]? = w.heap[x]? := fun x hx hn =>
    (hg.block x (by simp; omega) (fun e => hn (h.tB x e.symm))).trans (Below.heap_alloc w _ x hx)
  have hW : ∀ x, x < w.heap.size → own x ≠ (id, kt i 0) → own x ≠ (id, kt i 1) → (w1.setCell ⟨b, 2, none⟩ (.slice (some ⟨g, 0, none⟩) (k.bytes.length + 4) cap)).heap[x]? = w.heap[x]? := fun x hx h0 h3 =>
    (Below.heap_setCell _ _ _ _ (fun e => h0 (by simp at e; rw [e]; exact h.tm))).trans (hW1 x hx h3)
  have hr : ∀ {v : Value} {e c n t : Nat} {xs : List Value}, Row w v e c n xs → Tg own v (id, kt i t) → t ≠ 0 → t ≠ 1 → Row (w1.setCell ⟨b, 2, none⟩ (.slice (some ⟨g, 0, none⟩) (k.bytes.length + 4) cap)) v e c n xs := fun hr ht h0 h3 =>
    hr.kept ht (fun x hx e => hW x hx (by rw [e]; intro e2; simp only [Prod.mk.injEq, true_and] at e2; exact kt_ne h0 e2) (by rw [e]; intro e2; simp only [Prod.mk.injEq, true_and] at e2; exact kt_ne h3 e2))
  have hbk : Blk w1 b (k.cells vB vU vI vY vC vD vO) 133 := h.blk.of (hW1 b hblt (by rw [h.tm]; intro e2; simp only [Prod.mk.injEq, true_and] at e2; exact kt_ne (by omega) e2))
  have hgb : g ≠ b := fun e => by
    rcases hat with h1 | h1
    · have := h.tB g h1
      rw [e, h.tm] at this
      simp only [Prod.mk.injEq, true_and] at this
      exact kt_ne (by omega) this
    · omega
  refine ⟨⟨hbk.set 2 _, ?_, hr h.rU h.tU (by omega) (by omega), hr h.rI h.tI (by omega) (by omega), hr h.rY h.tY (by omega) (by omega), hr h.rC h.tC (by omega) (by omega), hr h.rD h.tD (by omega) (by omega), hr h.rO h.tO (by omega) (by omega), (ho b hblt).trans h.tm, ?_, h.tU.congr h.rU ho, h.tI.congr h.rI ho, h.tY.congr h.rY ho, h.tC.congr h.rC ho, h.tD.congr h.rD ho, h.tO.congr h.rO ho⟩, hW, hbk⟩
  · have h1 : Row w1 (.slice (some ⟨g, 0, none⟩) (k.bytes.length + 4) cap) 3 1 (k.bytes.length + 4) (k.bytes.map (.int .i64) ++ [.int .i64 0, .int .i64 0, .int .i64 0, .int .i64 0]) := hown
    have h2 := h1.other (a := ⟨b, 2, none⟩) (.slice (some ⟨g, 0, none⟩) (k.bytes.length + 4) cap) (fun e => hgb (by simpa [Value.ownBlock] using e))
    simpa using h2
  · exact h.tB.app (fun x hx => by have := h.rB.lt x hx; omega) hat
end
end Go.Proofs.YtinlkcmdbjcofaaGreat
