import Derived.Below
import Derived.ChangeOld
import Derived.Deep.Slices
import Derived.OpenShut
import Derived.ProofKit
import Derived.ShutString
import Derived.SizedLaws
import Derived.Test.YtnolplmpanbmhaaGreatM11
import Derived.Test.YtnolplmpanbmhaaGreatRows
namespace Go.Proofs.YtnolplmpanbmhaaGreat
open Go.RowKit
set_option linter.unusedVariables false
attribute [local go_sem ↓] Go.wp_at_zero Go.wp_at_succ

set_option maxHeartbeats 1000000 in
theorem wbegin_no {M : MT} (P : Api M) (bw : Nat) (K X A B C D : Int) (F : Bool) (w : World) (h : mayB A B C = false) :
    Calls Tryz.prog 10 #[.pointer (some ⟨bw, 0, none⟩), .agg #[.int .i64 K, .int .i64 X, .int .i64 A, .int .i64 B, .int .i64 C, .int .i64 D, .bool F]] w fun e w' => e = .returned (.bool true) ∧ Below w.heap.size w w' := by
  go_enter Tryz.func10, Tryz.ntmps10
  go_wp2_with fail
  refine (P.new_no _ _ _ _ h).mono ?_
  rintro e w1 ⟨rfl, hb1⟩
  have hbox := ((Blk.at (w.alloc (.cells #[.int .i64 K, .int .i64 X, .int .i64 A, .int .i64 B, .int .i64 C, .int .i64 D, .bool F] 32)) [.int .i64 A, .int .i64 B, .int .i64 C] 35 (w.heap.size + 1) (by simp))).below hb1 (by simp)
  have q0 := hbox.cell 0
  have q1 := hbox.cell 1
  have q2 := hbox.cell 2
  simp at q0 q1 q2
  go_wp2_with fail
  refine (may_any _ _ _ _).mono ?_
  rintro e w2 ⟨rfl, hb2⟩
  rw [h]
  go_wp2_with fail
  go_ret
  exact ⟨rfl, (((Below.refl _ _).alloc (Nat.le_refl _) _).alloc (by simp) _).trans ((hb1.mono (by simp; omega)).trans (hb2.mono (by have := hb1.size; simp at this; omega)))⟩

/-- A new machine: f says which blocks are its own. -/
def NewF (M : MT) (w w' : World) (p : Nat) (f : Nat → Option Nat) (s : RSt) : Prop :=
  (∀ b j, f b = some j → w.heap.size ≤ b ∧ b < w'.heap.size) ∧ ∀ (own : Nat → Nat × Nat) (id : Nat), (∀ b j, f b = some j → own b = (id, j)) → M own id w' p s
theorem NewF.of {M : MT} (P : Api M) {w w2 W : World} {p : Nat} {f : Nat → Option Nat} {s : RSt} (h : NewF M w w2 p f s) (hk : ∀ k, w.heap.size ≤ k → k < w2.heap.size → W.heap[k]? = w2.heap[k]?) (hs : w2.heap.size ≤ W.heap.size) : NewF M w W p f s := by
  refine ⟨fun b j hb => ⟨(h.1 b j hb).1, Nat.lt_of_lt_of_le (h.1 b j hb).2 hs⟩, fun own id ho => ?_⟩
  obtain ⟨own0, h0⟩ : ∃ own0 : Nat → Nat × Nat, own0 = fun b => match f b with | some j => (id, j) | none => (id + 1, 0) := ⟨_, rfl⟩
  have h1 : ∀ b j, f b = some j → own0 b = (id, j) := fun b j hb => by rw [h0]; simp only [hb]
  have h2 : ∀ b, (own0 b).1 = id → ∃ j, f b = some j := fun b hb => by
    rw [h0] at hb
    cases hf : f b with
    | none => simp only [hf] at hb; omega
    | some j => exact ⟨j, rfl⟩
  have m1 := h.2 own0 id h1
  have m2 := P.of (own' := own0) (w' := W) m1 (fun _ _ => rfl) (fun b hb ht => by
    obtain ⟨j, hj⟩ := h2 b ht
    exact hk b (h.1 b j hj).1 hb)
  exact P.retag m2 (fun b _ ht => by
    obtain ⟨j, hj⟩ := h2 b ht
    rw [ho b j hj, h1 b j hj])
theorem NewF.low {M : MT} {w0 w W : World} {p : Nat} {f : Nat → Option Nat} {s : RSt} (h : NewF M w W p f s) (hl : w0.heap.size ≤ w.heap.size) : NewF M w0 W p f s :=
  ⟨fun b j hb => ⟨Nat.le_trans hl (h.1 b j hb).1, (h.1 b j hb).2⟩, h.2⟩

theorem wbegin_end {M : MT} (P : Api M) {f : Nat → Option Nat} {own own2 own3 : Nat → Nat × Nat} {id bw : Nat} {vP vH vP' : Value} {ps : List (Nat × Nat)} {a b c : Nat} {w w2 w3 w4 : World} {p r g1 cap1 : Nat} {vR vB vS vA vK : Value} {bs : List Nat}
    (hbw2 : Below w.heap.size w w2) (hb3 : Below w2.heap.size w2 w3) (hrep : RefRep own3 id w3 r (RSt.fresh a b c) c vR vB vS vA vK bs) (hag : ∀ b, b < w2.heap.size → own3 b = own2 b)
    (hag2 : ∀ b, b < w.heap.size → own2 b = own b) (hid2 : ∀ x, x < w2.heap.size → (own2 x).1 ≠ id) (hlt : bw < w.heap.size) (hPlt : ∀ k, vP.ownBlock = some k → k < w.heap.size) (Hv : vP = vP')
    (hown : w4.ownsRow 0 44 2 (.slice (some ⟨g1, 0, none⟩) (ps.length + 1) cap1) (ps.length + 1) (ps.flatMap pairCells ++ pairCells (p, r)))
    (hgrow : (w3.alloc (.cells (pairCells (p, r)).toArray 44)).grownBy w4 vP'.ownBlock) (hat : vP'.ownBlock = some g1 ∨ g1 = w3.heap.size + 1)
    (hw4 : Blk w4 bw [vP, vH] 29) (hnm2 : NewF M w w2 p f (RSt.fresh a b c)) (hne : vP.ownBlock ≠ some bw) :
      ∃ (own' : Nat → Nat × Nat) (g cap p r : Nat) (vR vB vS vA vK : Value) (bs : List Nat), (∀ b, b < w.heap.size → own' b = own b) ∧ Touch w.heap.size (fun x => x = bw ∨ vP.ownBlock = some x) w (w4.setCell ⟨bw, 0, none⟩ (.slice (some ⟨g1, 0, none⟩) (ps.length + 1) cap1)) ∧
        Blk (w4.setCell ⟨bw, 0, none⟩ (.slice (some ⟨g1, 0, none⟩) (ps.length + 1) cap1)) bw [.slice (some ⟨g, 0, none⟩) (ps.length + 1) cap, vH] 29 ∧ Row (w4.setCell ⟨bw, 0, none⟩ (.slice (some ⟨g1, 0, none⟩) (ps.length + 1) cap1)) (.slice (some ⟨g, 0, none⟩) (ps.length + 1) cap) 44 2 (ps.length + 1) ((ps ++ [(p, r)]).flatMap pairCells) ∧
        (vP.ownBlock = some g ∨ w.heap.size ≤ g) ∧ RefRep own' id (w4.setCell ⟨bw, 0, none⟩ (.slice (some ⟨g1, 0, none⟩) (ps.length + 1) cap1)) r (RSt.fresh a b c) c vR vB vS vA vK bs ∧
        (∃ f : Nat → Option Nat, NewF M w (w4.setCell ⟨bw, 0, none⟩ (.slice (some ⟨g1, 0, none⟩) (ps.length + 1) cap1)) p f (RSt.fresh a b c) ∧ ∀ k j, f k = some j → (own' k).1 ≠ id ∧ k ≠ g) ∧ (vP.ownBlock = some g ∨ (own' g).1 ≠ id) := by
  subst Hv
  have hs2 := hbw2.size
  have hs3 := hb3.size
  have hs4 := hgrow.size
  simp at hs4
  have hW : ∀ k, k < w3.heap.size → k ≠ bw → vP.ownBlock ≠ some k → (w4.setCell ⟨bw, 0, none⟩ (.slice (some ⟨g1, 0, none⟩) (ps.length + 1) cap1)).heap[k]? = w3.heap[k]? := by
    intro k hk h1 h2
    rw [Below.heap_setCell _ _ _ _ (by simpa using h1), hgrow.block k (by simp; omega) (fun e => h2 e.symm), Below.heap_alloc _ _ _ hk]
  have hq : ∀ x, x < w3.heap.size → (fun b => if b < w3.heap.size then own3 b else (id + 1, 0)) x = own3 x := fun x hx => if_pos hx
  refine ⟨fun b => if b < w3.heap.size then own3 b else (id + 1, 0), g1, cap1, p, r, vR, vB, vS, vA, vK, bs, fun x hx => (hq x (by omega)).trans ((hag x (by omega)).trans (hag2 x hx)), ?_, hw4.set 0 _, ?_, ?_, ?_, ⟨f, hnm2.of P (fun k h1 h2 => (hW k (by omega) (by omega) (fun e => by have := hPlt k e; omega)).trans (hb3.block k h2)) (by simp [World.setCell]; omega), fun k j hf => ⟨?_, ?_⟩⟩, ?_⟩
  · exact (((((Touch.of_below hbw2 _).trans (Touch.of_below (hb3.mono (by omega)) _)).alloc (by omega) _).grown hgrow (by simp; omega) (fun k hk => .inl (.inr hk))).setCell (.inl (.inl rfl)) _)
  · have : Row w4 (.slice (some ⟨g1, 0, none⟩) (ps.length + 1) cap1) 44 2 (ps.length + 1) ((ps ++ [(p, r)]).flatMap pairCells) := by
      rw [List.flatMap_append]; simp only [List.flatMap_cons, List.flatMap_nil, List.append_nil]; exact hown
    refine this.other _ (fun e => ?_)
    simp [Value.ownBlock] at e
    rcases hat with h | h
    · exact hne (by rw [h, e])
    · omega
  · rcases hat with h | h
    · exact .inl h
    · exact .inr (by omega)
  · refine hrep.of hq fun x hx ht => hW x hx (fun e => ?_) (fun e => ?_)
    · subst e
      rw [hag x (by omega)] at ht; exact hid2 x (by omega) ht
    · have := hPlt x e
      rw [hag x (by omega)] at ht; exact hid2 x (by omega) ht
  · have h2 := (hnm2.1 k j hf).2
    rw [hq k (by omega), hag k h2]; exact hid2 k h2
  · intro e
    have h1 := hnm2.1 k j hf
    rcases hat with h | h
    · have := hPlt _ h; omega
    · omega
  · rcases hat with h | h
    · exact .inl h
    · right
      simp only [if_neg (show ¬ g1 < w3.heap.size by omega)]
      omega

set_option maxHeartbeats 4000000 in
set_option maxRecDepth 100000 in
theorem wbegin_yes {M : MT} (P : Api M) (own : Nat → Nat × Nat) (id bw : Nat) (vP vH : Value) (ps : List (Nat × Nat)) (K X : Int) (a b c : Nat) (D : Int) (F : Bool) (w : World) (h : mayB a b c = true)
    (ha : a ≤ 16) (hb : b ≤ 8) (hc : c ≤ 4) (hc1 : 1 ≤ c) (hid : ∀ b, b < w.heap.size → (own b).1 ≠ id)
    (hw : Blk w bw [vP, vH] 29) (hP : Row w vP 44 2 ps.length (ps.flatMap pairCells)) (hn : (ps.length + 1) * 16 ≤ 140737488355328) (hne : vP.ownBlock ≠ some bw) :
    Calls Tryz.prog 10 #[.pointer (some ⟨bw, 0, none⟩), .agg #[.int .i64 K, .int .i64 X, .int .i64 a, .int .i64 b, .int .i64 c, .int .i64 D, .bool F]] w fun e w' => e = .returned (.bool true) ∧
      ∃ (own' : Nat → Nat × Nat) (g cap p r : Nat) (vR vB vS vA vK : Value) (bs : List Nat), (∀ b, b < w.heap.size → own' b = own b) ∧ Touch w.heap.size (fun x => x = bw ∨ vP.ownBlock = some x) w w' ∧
        Blk w' bw [.slice (some ⟨g, 0, none⟩) (ps.length + 1) cap, vH] 29 ∧ Row w' (.slice (some ⟨g, 0, none⟩) (ps.length + 1) cap) 44 2 (ps.length + 1) ((ps ++ [(p, r)]).flatMap pairCells) ∧
        (vP.ownBlock = some g ∨ w.heap.size ≤ g) ∧ RefRep own' id w' r (RSt.fresh a b c) c vR vB vS vA vK bs ∧
        (∃ f : Nat → Option Nat, NewF M w w' p f (RSt.fresh a b c) ∧ ∀ k j, f k = some j → (own' k).1 ≠ id ∧ k ≠ g) ∧ (vP.ownBlock = some g ∨ (own' g).1 ≠ id) := by
  obtain ⟨i0, hi, hz0, hz1, hz2⟩ := info_parts Tryz.infoPair
  obtain ⟨ao, cap, g, hv, hao, _, _, hmx⟩ := hP.view
  have k0 := hw.cell 0
  have k1 := hw.frozen 0
  simp at k0
  rw [hv] at k0
  have hwlt := hw.lt
  have Hv : Hid (vP = .slice ao ps.length cap) := hv
  clear hv hao
  go_enter Tryz.func10, Tryz.ntmps10
  go_wp2_with fail
  refine (P.new_yes _ _ _ _ h).mono ?_
  rintro e w1 ⟨p, f, rfl, hb1, hnm⟩
  have hbox := ((Blk.at (w.alloc (.cells #[.int .i64 K, .int .i64 X, .int .i64 a, .int .i64 b, .int .i64 c, .int .i64 D, .bool F] 32)) [.int .i64 a, .int .i64 b, .int .i64 c] 35 (w.heap.size + 1) (by simp))).below hb1 (by simp)
  have hbw1 : Below w.heap.size w w1 := (((Below.refl _ _).alloc (Nat.le_refl _) _).alloc (by simp) _).trans (hb1.mono (by simp; omega))
  have q0 := hbox.cell 0
  have q1 := hbox.cell 1
  have q2 := hbox.cell 2
  simp at q0 q1 q2
  go_wp2_with fail
  refine (may_any _ _ _ _).mono ?_
  rintro e w2 ⟨rfl, hb2⟩
  rw [h]
  have hbox2 := hbox.below hb2 hbox.lt
  have hs12 := hb2.size
  have hs1 := hb1.size
  simp at hs1
  have hbw2 : Below w.heap.size w w2 := hbw1.trans (hb2.mono (by omega))
  have j0 := (hw.below hbw2 hwlt).cell 0
  have j1 := (hw.below hbw2 hwlt).frozen 0
  simp at j0
  rw [Hv.out] at j0
  have s0 := hbox2.cell 0
  have s1 := hbox2.cell 1
  have s2 := hbox2.cell 2
  simp at s0 s1 s2
  clear q0 q1 q2 k0 k1
  obtain ⟨own2, hid2, hag2⟩ : ∃ own2 : Nat → Nat × Nat, (∀ x, x < w2.heap.size → (own2 x).1 ≠ id) ∧ ∀ x, x < w.heap.size → own2 x = own x := by
    refine ⟨fun x => if x < w.heap.size then own x else (id + 1, 0), fun x _ => ?_, fun x hx => by simp [hx]⟩
    by_cases hx : x < w.heap.size
    · simpa [hx] using hid x hx
    · simp [hx]
  have hP2 : Row w2 (.slice ao ps.length cap) 44 2 ps.length (ps.flatMap pairCells) := by rw [← Hv.out]; exact hP.of fun b hbb => hbw2.block b (hP.lt b hbb)
  have hne2 : (Value.slice ao ps.length cap).ownBlock ≠ some bw := by rw [← Hv.out]; exact hne
  have hw2 := hw.below hbw2 hwlt
  have hz22 : w.heap.size + 2 ≤ w2.heap.size := by omega
  have hl2 : bw < w2.heap.size := by omega
  have hne3 : (Value.slice ao ps.length cap).ownBlock ≠ some (w.heap.size + 1) := by rw [← Hv.out]; intro e; have := hP.lt _ e; omega
  have hPlt := hP.lt
  have hnm2 : NewF M w w2 p f (RSt.fresh a b c) := NewF.low (NewF.of P hnm (fun k _ h2 => hb2.block k h2) (by omega)) (by simp; omega)
  clear hb1 hb2 hbox hbw1 hs12 hs1 hP hw hid hnm
  go_wp2_with fail
  go_region_law
    ((first
      | (refine step_call (by rfl) 15 (.tmp 43) 35 (by rfl) Tryz.func15 Tryz.nameBegin (by rfl) (.agg #[.int .i64 a, .int .i64 b, .int .i64 c]) (by rfl) ?_; refine (begin_any own2 id a b c _ ha hb hc ?_).mono ?_; exact hid2; rintro e w3 ⟨own3, r, vR, vB, vS, vA, vK, bs, rfl, hb3, hrep, hag⟩
         have t0 : w3.cell? ⟨bw, 0, none⟩ = some (.slice ao ps.length cap) := (hb3.cell (p := ⟨bw, 0, none⟩) hl2).trans j0
         have t1 : w3.cell? ⟨w.heap.size + 1, 0, none⟩ = some (.int .i64 a) := (hb3.cell (p := ⟨w.heap.size + 1, 0, none⟩) (by simp; omega)).trans s0
         have t2 : w3.cell? ⟨w.heap.size + 1, 1, none⟩ = some (.int .i64 b) := (hb3.cell (p := ⟨w.heap.size + 1, 1, none⟩) (by simp; omega)).trans s1
         have t3 : w3.cell? ⟨w.heap.size + 1, 2, none⟩ = some (.int .i64 c) := (hb3.cell (p := ⟨w.heap.size + 1, 2, none⟩) (by simp; omega)).trans s2
         have hP3 := (hP2.drew.below hb3).alloc (.cells (pairCells (p, r)).toArray 44)
         have hsz3 : w2.heap.size ≤ w3.heap.size := hb3.size
         have hw3 := hw2.drew.below hb3 hl2
         have hl3 : bw < w3.heap.size := by omega
         have hx3 := hbox2.drew.below hb3 hbox2.lt)
      | (refine step_append_lies _ (by rfl) (.tmp 41) (.tmp 46) 26 (by rfl) 0 44 i0 _ 2 16 Tryz.underlying26 hi hz0 hz1 hz2 rfl (by decide) (.slice ao ps.length cap) ps.length _ (by rfl) hP3 ⟨w3.heap.size, 0, none⟩ 1 1 (pairCells (p, r)) (by rfl) rfl (World.news_of_block (Blk.new w3 (pairCells (p, r)) _)) (oneCell_pair _) (by omega) (by unfold maxLen; omega) hn (by omega) (w3.heap.size + 1) (by simp) ?_
         intro g1 cap1 w4 hown hgrow hat hlt
         have hw4 := (hw3.alloc (.cells (pairCells (p, r)).toArray 44)).grown hgrow hne2
         have u0 := hw4.cell 0
         have u1 := hw4.frozen 0
         simp at u0
         rw [Hv.out] at u0
         have hx4 := (hx3.alloc (.cells (pairCells (p, r)).toArray 44)).grown hgrow hne3
         have u2 := hx4.cell 0
         have u3 := hx4.cell 1
         have u4 := hx4.cell 2
         simp at u2 u3 u4)))
  all_goals
    go_wp2
    go_ret
  all_goals exact ⟨rfl, wbegin_end P (w2 := w2.drew) hbw2.drew hb3 hrep hag hag2 hid2 hwlt hPlt Hv.out hown hgrow hat hw4 (NewF.of P hnm2 (W := w2.drew) (fun k _ _ => rfl) (Nat.le_refl _)) hne⟩
end Go.Proofs.YtnolplmpanbmhaaGreat

/-
  The invariant of the laws that play a script against the document's machine.
-/
namespace Go.Proofs.YtnolplmpanbmhaaGreat
open Go.RowKit
set_option linter.unusedVariables false

/-- A machine of the program and one of the document that are alike. -/
def PairAt (M : MT) (own : Nat → Nat × Nat) (ip ir : Nat) (w : World) (p r N : Nat) : Prop :=
  ∃ (rs : RSt) (vR vB vS vA vK : Value) (bs : List Nat), M own ip w p rs ∧ RefRep own ir w r rs rs.ne vR vB vS vA vK bs ∧ SOk rs ∧ rs.rights.length ≤ N
section
variable {M : MT} {own own' : Nat → Nat × Nat} {w w' : World}
theorem PairAt.of {ip ir p r N N' : Nat} (h : PairAt M own ip ir w p r N) (P : Api M) (ho : ∀ b, b < w.heap.size → own' b = own b) (hb : ∀ b, b < w.heap.size → (own b).1 = ip ∨ (own b).1 = ir → w'.heap[b]? = w.heap[b]?) (hN : N ≤ N') : PairAt M own' ip ir w' p r N' := by
  obtain ⟨rs, vR, vB, vS, vA, vK, bs, h1, h2, h3, h5⟩ := h
  exact ⟨rs, vR, vB, vS, vA, vK, bs, P.of h1 ho (fun b hl ht => hb b hl (.inl ht)), h2.of ho (fun b hl ht => hb b hl (.inr ht)), h3, by omega⟩
end

/-- The world's struct and its two rows bear 1; machine k of the program 3k + 2, the document's 3k + 3; the list j that came out 3j + 4; nobody's is 0. -/
structure GI (M : MT) (bw i : Nat) (w : World) (own : Nat → Nat × Nat) (ps : List (Nat × Nat)) (hbs : List Nat) (vP vH : Value) : Prop where
  blk : Blk w bw [vP, vH] 29
  rP : Row w vP 44 2 ps.length (ps.flatMap pairCells)
  rH : Row w vH 46 1 hbs.length (hbs.map hptr)
  tw : own bw = (1, 0)
  tP : Tg own vP (1, 1)
  tH : Tg own vH (1, 2)
  pr : ∀ (k p r : Nat), ps[k]? = some (p, r) → PairAt M own (3 * k + 2) (3 * k + 3) w p r i
  hd : ∀ (j hb : Nat), hbs[j]? = some hb → ∃ n a, HoldOK own (3 * j + 4) w hb n a
  l2 : ps.length ≤ i + 1
  l3 : hbs.length ≤ i
  top : ∀ b, w.heap.size ≤ b → (own b).1 = 0
  bot : ∀ b, b < bw → (own b).1 = 0
  ids : ∀ b, (own b).1 ≤ 1 ∨ (∃ k, k < ps.length ∧ ((own b).1 = 3 * k + 2 ∨ (own b).1 = 3 * k + 3)) ∨ ∃ j, j < hbs.length ∧ (own b).1 = 3 * j + 4

section
variable {M : MT} {bw i : Nat} {w w' : World} {own : Nat → Nat × Nat} {ps : List (Nat × Nat)} {hbs : List Nat} {vP vH : Value}

theorem GI.below (P : Api M) (h : GI M bw i w own ps hbs vP vH) (hb : Below w.heap.size w w') : GI M bw i w' own ps hbs vP vH :=
  ⟨h.blk.below hb h.blk.lt, h.rP.below hb, h.rH.below hb, h.tw, h.tP, h.tH, fun k p r hk => (h.pr k p r hk).of P (fun _ _ => rfl) (fun b hl _ => hb.block b hl) (Nat.le_refl _), fun j hb' hj => by
    obtain ⟨n, a, hh⟩ := h.hd j hb' hj
    exact ⟨n, a, hh.of (fun _ _ => rfl) hb.size (fun b hl _ => hb.block b hl)⟩, h.l2, h.l3, fun b hl => h.top b (Nat.le_trans hb.size hl), h.bot, h.ids⟩
theorem GI.mono (P : Api M) (h : GI M bw i w own ps hbs vP vH) : GI M bw (i + 1) w own ps hbs vP vH :=
  ⟨h.blk, h.rP, h.rH, h.tw, h.tP, h.tH, fun k p r hk => (h.pr k p r hk).of P (fun _ _ => rfl) (fun _ _ _ => rfl) (by omega), h.hd, by have := h.l2; omega, by have := h.l3; omega, h.top, h.bot, h.ids⟩
end

def GInv (M : MT) (bw i : Nat) (w : World) (S : Nat → Prop) : Prop := ∃ own ps hbs vP vH, GI M bw i w own ps hbs vP vH ∧ 1 ≤ ps.length ∧ S = fun b => (own b).1 ≠ 0

/-- What a step leaves. -/
def GNext (M : MT) (bw i : Nat) (S : Nat → Prop) (w w' : World) : Prop := ∃ S', GInv M bw (i + 1) w' S' ∧ Touch w.heap.size S w w' ∧ ∀ k, S' k → S k ∨ w.heap.size ≤ k

section
variable {M : MT} {bw i : Nat} {w w' : World} {own : Nat → Nat × Nat} {ps : List (Nat × Nat)} {hbs : List Nat} {vP vH : Value}

theorem GI.lt (h : GI M bw i w own ps hbs vP vH) (k : Nat) (hk : (own k).1 ≠ 0) : k < w.heap.size := by
  by_cases hl : k < w.heap.size
  · exact hl
  · exact absurd (h.top k (by omega)) hk

/-- One pair has turned. -/
theorem GI.pair (P : Api M) (h : GI M bw i w own ps hbs vP vH) {k p r nk : Nat} (hk : ps[k]? = some (p, r)) {rs : RSt} (hn : PairRes M own (3 * k + 2) (3 * k + 3) w w' p r rs nk) (hs : SOk rs) (hf : nk = rs.ne) (hl : rs.rights.length ≤ i + 1) :
    GNext M bw i (fun b => (own b).1 ≠ 0) w w' := by
  subst hf
  obtain ⟨own1, vR, vB, vS, vA, vK, bs, h1, h2, h3, h4, h5⟩ := hn
  have hsz := h5.size
  have hkl := (List.getElem?_eq_some_iff.1 hk).1
  obtain ⟨own2, g1, g2, g3⟩ : ∃ own2 : Nat → Nat × Nat, (∀ b, b < w'.heap.size → own2 b = own1 b) ∧ (∀ b, w'.heap.size ≤ b → own2 b = (0, 0)) ∧ ∀ b, b < w.heap.size → own2 b = own b :=
    ⟨fun b => if b < w'.heap.size then own1 b else (0, 0), fun b hb => if_pos hb, fun b hb => if_neg (by omega), fun b hb => (if_pos (show b < w'.heap.size by omega)).trans (h3 b hb)⟩
  have hblk : ∀ b, b < w.heap.size → (own b).1 ≠ 3 * k + 2 → (own b).1 ≠ 3 * k + 3 → w'.heap[b]? = w.heap[b]? := fun b hb e1 e2 => h5.block b hb (fun e => e.elim e1 e2)
  have hbwl := h.blk.lt
  refine ⟨_, ⟨own2, ps, hbs, vP, vH, ⟨h.blk.of (hblk bw hbwl (by rw [h.tw]; simp) (by rw [h.tw]; simp)), h.rP.kept h.tP (fun b hb ht => hblk b hb (by rw [ht]; simp) (by rw [ht]; simp)), h.rH.kept h.tH (fun b hb ht => hblk b hb (by rw [ht]; simp) (by rw [ht]; simp)),
    (g3 bw hbwl).trans h.tw, h.tP.congr h.rP g3, h.tH.congr h.rH g3, ?_, ?_, by have := h.l2; omega, by have := h.l3; omega, fun b hb => by rw [g2 b hb], ?_, ?_⟩, by omega, rfl⟩, ?_, ?_⟩
  · intro k' p' r' hk'
    by_cases e : k' = k
    · subst e
      rw [hk] at hk'
      simp at hk'
      obtain ⟨rfl, rfl⟩ := hk'
      exact ⟨rs, vR, vB, vS, vA, vK, bs, P.retag h1 (fun b hb _ => g1 b hb), h2.retag (fun b hb _ => g1 b hb), hs, hl⟩
    · exact (h.pr k' p' r' hk').of P g3 (fun b hb ht => hblk b hb (by omega) (by omega)) (by omega)
  · intro j hb hj
    obtain ⟨n, a, hh⟩ := h.hd j hb hj
    exact ⟨n, a, hh.of g3 hsz (fun b hl ht => hblk b hl (by omega) (by omega))⟩
  · intro b hb
    rw [g3 b (by omega)]
    exact h.bot b hb
  · intro b
    by_cases hb : b < w.heap.size
    · rw [g3 b hb]; exact h.ids b
    · by_cases hb' : b < w'.heap.size
      · rw [g1 b hb']
        rcases h4 b (by omega) with e | e | e
        · left; omega
        · exact .inr (.inl ⟨k, hkl, .inl e⟩)
        · exact .inr (.inl ⟨k, hkl, .inr e⟩)
      · rw [g2 b (by omega)]; left; simp
  · exact h5.mono (Nat.le_refl _) (fun b _ e => by rcases e with e | e <;> omega)
  · intro b hb
    by_cases hl : b < w.heap.size
    · rw [g3 b hl] at hb; exact .inl hb
    · exact .inr (by omega)

/-- A list more. -/
theorem GI.list (P : Api M) (h : GI M bw i w own ps hbs vP vH) (hl1 : 1 ≤ ps.length) (hn : ListRes own (3 * hbs.length + 4) bw w w' vP vH hbs) : GNext M bw i (fun b => (own b).1 ≠ 0) w w' := by
  obtain ⟨own1, g, cap, hb, a, m, h1, h2, h3, h4, h5, h6, h7⟩ := hn
  have hsz := h3.size
  obtain ⟨own2, g1, g2, g3⟩ : ∃ own2 : Nat → Nat × Nat, (∀ b, b < w'.heap.size → own2 b = own1 b) ∧ (∀ b, w'.heap.size ≤ b → own2 b = (0, 0)) ∧ ∀ b, b < w.heap.size → own2 b = own b :=
    ⟨fun b => if b < w'.heap.size then own1 b else (0, 0), fun b hb => if_pos hb, fun b hb => if_neg (by omega), fun b hb => (if_pos (show b < w'.heap.size by omega)).trans (h1 b hb)⟩
  have hblk : ∀ b, b < w.heap.size → own b ≠ (1, 0) → own b ≠ (1, 2) → w'.heap[b]? = w.heap[b]? := fun b hb e1 e2 => h3.block b hb (fun e => e.elim (fun e => e1 (by rw [e]; exact h.tw)) (fun e => e2 (h.tH b e)))
  have hid : ∀ b, b < w.heap.size → 2 ≤ (own b).1 → w'.heap[b]? = w.heap[b]? := fun b hb e => hblk b hb (fun e1 => by rw [e1] at e; simp at e) (fun e1 => by rw [e1] at e; simp at e)
  have hbwl := h.blk.lt
  have hgl : g < w'.heap.size := h5.lt g rfl
  refine ⟨_, ⟨own2, ps, hbs ++ [hb], vP, _, ⟨h4, h.rP.kept h.tP (fun b hb ht => hblk b hb (by rw [ht]; simp) (by rw [ht]; simp)), by simpa using h5,
    (g3 bw hbwl).trans h.tw, h.tP.congr h.rP g3, Tg.mk ((g1 g hgl).trans h6), ?_, ?_, by have := h.l2; omega, by have := h.l3; simp; omega, fun b hb => by rw [g2 b hb], ?_, ?_⟩, hl1, rfl⟩, ?_, ?_⟩
  · intro k' p' r' hk'
    exact (h.pr k' p' r' hk').of P g3 (fun b hb ht => hid b hb (by omega)) (by omega)
  · intro j hb' hj
    by_cases hjl : j < hbs.length
    · rw [List.getElem?_append_left hjl] at hj
      obtain ⟨n, a, hh⟩ := h.hd j hb' hj
      exact ⟨n, a, hh.of g3 hsz (fun b hl ht => hid b hl (by omega))⟩
    · rw [List.getElem?_append_right (by omega)] at hj
      have hj0 : j - hbs.length = 0 := by have := (List.getElem?_eq_some_iff.1 hj).1; simp at this; omega
      rw [hj0] at hj
      simp at hj
      subst hj
      obtain rfl : j = hbs.length := by omega
      exact ⟨m, a, h7.retag (fun b hb _ => g1 b hb)⟩
  · intro b hb
    rw [g3 b (by omega)]
    exact h.bot b hb
  · intro b
    by_cases hb : b < w.heap.size
    · rw [g3 b hb]
      rcases h.ids b with e | e | ⟨j, hj, e⟩
      · exact .inl e
      · exact .inr (.inl e)
      · exact .inr (.inr ⟨j, by simp; omega, e⟩)
    · by_cases hb' : b < w'.heap.size
      · rw [g1 b hb']
        rcases h2 b (by omega) with e | e | e
        · left; omega
        · left; omega
        · exact .inr (.inr ⟨hbs.length, by simp, e⟩)
      · rw [g2 b (by omega)]; left; simp
  · exact h3.mono (Nat.le_refl _) (fun b _ e => by
      rcases e with e | e
      · rw [e, h.tw]; simp
      · rw [h.tH b e]; simp)
  · intro b hb
    by_cases hl : b < w.heap.size
    · rw [g3 b hl] at hb; exact .inl hb
    · exact .inr (by omega)

/-- A pair more. -/
theorem GI.begin (P : Api M) (h : GI M bw i w own ps hbs vP vH) {i' : Nat} (hi : i ≤ i') (hl : ps.length ≤ i') {own1 : Nat → Nat × Nat} {g cap p r a b c : Nat} {vR vB vS vA vK : Value} {bs : List Nat} (ha : a ≤ 16) (hb : b ≤ 8) (hc : c ≤ 4) (h1 : ∀ b, b < w.heap.size → own1 b = own b)
    (h2 : Touch w.heap.size (fun x => x = bw ∨ vP.ownBlock = some x) w w') (h3 : Blk w' bw [.slice (some ⟨g, 0, none⟩) (ps.length + 1) cap, vH] 29)
    (h4 : Row w' (.slice (some ⟨g, 0, none⟩) (ps.length + 1) cap) 44 2 (ps.length + 1) ((ps ++ [(p, r)]).flatMap pairCells)) (h5 : vP.ownBlock = some g ∨ w.heap.size ≤ g)
    (h6 : RefRep own1 (3 * ps.length + 3) w' r (RSt.fresh a b c) c vR vB vS vA vK bs) (h7 : ∃ f : Nat → Option Nat, NewF M w w' p f (RSt.fresh a b c) ∧ ∀ k j, f k = some j → (own1 k).1 ≠ 3 * ps.length + 3 ∧ k ≠ g) (h8 : vP.ownBlock = some g ∨ (own1 g).1 ≠ 3 * ps.length + 3) :
    ∃ S', GInv M bw i' w' S' ∧ Touch w.heap.size (fun b => (own b).1 ≠ 0) w w' ∧ ∀ k, S' k → (own k).1 ≠ 0 ∨ w.heap.size ≤ k := by
  obtain ⟨f, hnf, hB⟩ := h7
  have hsz := h2.size
  have hgl : g < w'.heap.size := h4.lt g rfl
  have hno : ∀ b, (own b).1 ≠ 3 * ps.length + 3 := fun b e => by
    rcases h.ids b with h | ⟨k, hk, h⟩ | ⟨j, hj, h⟩ <;> omega
  obtain ⟨own2, hw⟩ : ∃ own2 : Nat → Nat × Nat, own2 = fun x => if x < w.heap.size then own x else if w'.heap.size ≤ x then (0, 0) else if x = g then (1, 1) else match f x with | some j => (3 * ps.length + 2, j) | none => if (own1 x).1 = 3 * ps.length + 3 then own1 x else (0, 0) := ⟨_, rfl⟩
  have g3 : ∀ x, x < w.heap.size → own2 x = own x := fun x hx => by rw [hw]; exact if_pos hx
  have gp : ∀ b j, f b = some j → own2 b = (3 * ps.length + 2, j) := fun b j hb => by
    have n := hnf.1 b j hb
    have q := hB b j hb
    rw [hw]
    simp only [if_neg (show ¬ b < w.heap.size by omega), if_neg (show ¬ w'.heap.size ≤ b by omega), if_neg q.2, hb]
  have gg : own2 g = (1, 1) := by
    rcases h5 with h5 | h5
    · rw [g3 g (h.rP.lt g h5)]; exact h.tP g h5
    · rw [hw]
      simp only [if_neg (show ¬ g < w.heap.size by omega), if_neg (show ¬ w'.heap.size ≤ g by omega), if_true]
  have gr : ∀ x, x < w'.heap.size → (own1 x).1 = 3 * ps.length + 3 → own2 x = own1 x := fun x hx ht => by
    by_cases hl : x < w.heap.size
    · rw [h1 x hl] at ht; exact absurd ht (hno x)
    · have e1 : x ≠ g := fun ee => by
        subst ee
        rcases h8 with h8 | h8
        · have := h.rP.lt x h8; omega
        · exact h8 ht
      have e2 : f x = none := by
        cases hf : f x with
        | none => rfl
        | some j => exact absurd ht (hB x j hf).1
      rw [hw]
      simp only [if_neg hl, if_neg (show ¬ w'.heap.size ≤ x by omega), if_neg e1, e2, if_pos ht]
  have g2 : ∀ x, w'.heap.size ≤ x → (own2 x).1 = 0 := fun x hx => by
    rw [hw]
    simp only [if_neg (show ¬ x < w.heap.size by omega), if_pos hx]
  have gid : ∀ x, w.heap.size ≤ x → (own2 x).1 ≤ 1 ∨ (own2 x).1 = 3 * ps.length + 2 ∨ (own2 x).1 = 3 * ps.length + 3 := fun x hx => by
    rw [hw]
    simp only [if_neg (show ¬ x < w.heap.size by omega)]
    split
    · left; simp
    · split
      · left; simp
      · split
        · exact .inr (.inl rfl)
        · split
          · right; right; assumption
          · left; simp
  clear hw
  have hblk : ∀ x, x < w.heap.size → own x ≠ (1, 0) → own x ≠ (1, 1) → w'.heap[x]? = w.heap[x]? := fun x hx e1 e2 => h2.block x hx (fun e => e.elim (fun e => e1 (by rw [e]; exact h.tw)) (fun e => e2 (h.tP x e)))
  have hid : ∀ x, x < w.heap.size → 2 ≤ (own x).1 → w'.heap[x]? = w.heap[x]? := fun x hx e => hblk x hx (fun e1 => by rw [e1] at e; simp at e) (fun e1 => by rw [e1] at e; simp at e)
  have hbwl := h.blk.lt
  refine ⟨_, ⟨own2, ps ++ [(p, r)], hbs, _, vH, ⟨h3, by simpa using h4, h.rH.kept h.tH (fun b hb ht => hblk b hb (by rw [ht]; simp) (by rw [ht]; simp)),
    (g3 bw hbwl).trans h.tw, Tg.mk gg, h.tH.congr h.rH g3, ?_, ?_, by simp; omega, by have := h.l3; omega, g2, ?_, ?_⟩, by simp, rfl⟩, ?_, ?_⟩
  · intro k' p' r' hk'
    by_cases hjl : k' < ps.length
    · rw [List.getElem?_append_left hjl] at hk'
      exact (h.pr k' p' r' hk').of P g3 (fun b hb ht => hid b hb (by omega)) hi
    · rw [List.getElem?_append_right (by omega)] at hk'
      have hj0 : k' - ps.length = 0 := by have := (List.getElem?_eq_some_iff.1 hk').1; simp at this; omega
      rw [hj0] at hk'
      simp at hk'
      obtain ⟨rfl, rfl⟩ := hk'
      obtain rfl : k' = ps.length := by omega
      exact ⟨RSt.fresh a b c, vR, vB, vS, vA, vK, bs, hnf.2 own2 _ gp, h6.retag gr, sok_fresh ha hb hc, by simp [RSt.fresh]⟩
  · intro j hb' hj
    obtain ⟨n, a, hh⟩ := h.hd j hb' hj
    exact ⟨n, a, hh.of g3 hsz (fun b hl ht => hid b hl (by omega))⟩
  · intro x hx
    rw [g3 x (by omega)]
    exact h.bot x hx
  · intro x
    by_cases hx : x < w.heap.size
    · rw [g3 x hx]
      rcases h.ids x with e | ⟨k, hk, e⟩ | e
      · exact .inl e
      · exact .inr (.inl ⟨k, by simp; omega, e⟩)
      · exact .inr (.inr e)
    · rcases gid x (by omega) with e | e | e
      · exact .inl e
      · exact .inr (.inl ⟨ps.length, by simp, .inl e⟩)
      · exact .inr (.inl ⟨ps.length, by simp, .inr e⟩)
  · exact h2.mono (Nat.le_refl _) (fun x _ e => by
      rcases e with e | e
      · rw [e, h.tw]; simp
      · rw [h.tP x e]; simp)
  · intro x hx
    by_cases hl : x < w.heap.size
    · rw [g3 x hl] at hx; exact .inl hx
    · exact .inr (by omega)
end
end Go.Proofs.YtnolplmpanbmhaaGreat

/-
  A script of calls that came in: its calls as plain data.
-/
namespace Go.Proofs.YtnolplmpanbmhaaGreat
open Go.ChangeShapes Go.WideShapes Go.ChangeAt Go.RowKit Go.Deep
set_option linter.unusedVariables false

theorem Tryz.own : ownKnob Tryz.prog.godebug = none := by kernel_rfl
theorem Tryz.laidOut : laidOutB Tryz.prog = true := by kernel_rfl
theorem Tryz.cellsOp : Tryz.prog.cellsOf 32 = 7 := by kernel_rfl
theorem Tryz.cellsInt : Tryz.prog.cellsOf 3 = 1 := by kernel_rfl
theorem Tryz.cellsBool : Tryz.prog.cellsOf 4 = 1 := by kernel_rfl
theorem Tryz.bytesOp : Tryz.prog.bytesOf 32 = 56 := by kernel_rfl

def Inr (n : Int) : Prop := -9223372036854775808 ≤ n ∧ n ≤ 9223372036854775807
theorem inr_of {n : Int} (h : (Lit.int .i64 n).wf = true) : Inr n := by
  have h1 : decide (IntKind.i64.min ≤ n) = true ∧ decide (n ≤ IntKind.i64.max) = true := by simpa [Lit.wf] using h
  have a := of_decide_eq_true h1.1
  have b := of_decide_eq_true h1.2
  have e1 : IntKind.i64.min = -9223372036854775808 := by decide
  have e2 : IntKind.i64.max = 9223372036854775807 := by decide
  rw [e1] at a
  rw [e2] at b
  exact ⟨a, b⟩
/-- The call's numbers are ints. -/
def LOp.ok (o : LOp) : Prop := Inr o.K ∧ Inr o.M ∧ Inr o.A ∧ Inr o.B ∧ Inr o.C ∧ Inr o.D

theorem list7 {α : Type} {l : List α} (h : l.length = 7) : ∃ a b c d e f g, l = [a, b, c, d, e, f, g] := by
  match l, h with
  | [a, b, c, d, e, f, g], _ => exact ⟨a, b, c, d, e, f, g, rfl⟩

theorem some_get {α : Type} {l : List α} {i n : Nat} (h : l.length = n) (hi : i < n) : ∃ y, l[i]? = some y := ⟨l[i]'(by omega), by simp⟩

set_option maxRecDepth 100000 in
/-- One call, read as data. -/
theorem open_op {H : Type} {enc : TypeId × Value → H} {w : World} {n : Nat} {cs : List Value} {x : DataW H × List MemPlace}
    (h : DataW.trod enc Tryz.prog w 0 (fun _ => true) true n 32 cs = some x) : ∃ o : LOp, cs = o.cells ∧ o.ok := by
  obtain ⟨xs, m, _, _, hl, hxl, hf⟩ := DataW.trod_struct Tryz.underlying32 h
  rw [Tryz.cellsOp] at hl
  have hxl7 : xs.length = 7 := hxl
  obtain ⟨c0, c1, c2, c3, c4, c5, c6, rfl⟩ := list7 hl
  obtain ⟨y0, e0⟩ := some_get hxl7 (show 0 < 7 by omega)
  obtain ⟨y1, e1⟩ := some_get hxl7 (show 1 < 7 by omega)
  obtain ⟨y2, e2⟩ := some_get hxl7 (show 2 < 7 by omega)
  obtain ⟨y3, e3⟩ := some_get hxl7 (show 3 < 7 by omega)
  obtain ⟨y4, e4⟩ := some_get hxl7 (show 4 < 7 by omega)
  obtain ⟨y5, e5⟩ := some_get hxl7 (show 5 < 7 by omega)
  obtain ⟨y6, e6⟩ := some_get hxl7 (show 6 < 7 by omega)
  have f0 := (hf 0 _ rfl).trans e0
  have f1 := (hf 1 _ rfl).trans e1
  have f2 := (hf 2 _ rfl).trans e2
  have f3 := (hf 3 _ rfl).trans e3
  have f4 := (hf 4 _ rfl).trans e4
  have f5 := (hf 5 _ rfl).trans e5
  have f6 := (hf 6 _ rfl).trans e6
  obtain ⟨a0, g0, _, z0⟩ := DataW.trod_int Tryz.underlying3 f0
  obtain ⟨a1, g1, _, z1⟩ := DataW.trod_int Tryz.underlying3 f1
  obtain ⟨a2, g2, _, z2⟩ := DataW.trod_int Tryz.underlying3 f2
  obtain ⟨a3, g3, _, z3⟩ := DataW.trod_int Tryz.underlying3 f3
  obtain ⟨a4, g4, _, z4⟩ := DataW.trod_int Tryz.underlying3 f4
  obtain ⟨a5, g5, _, z5⟩ := DataW.trod_int Tryz.underlying3 f5
  obtain ⟨a6, g6, _⟩ := DataW.trod_bool Tryz.underlying4 f6
  simp [Tryz.cellsInt, Tryz.cellsBool] at g0 g1 g2 g3 g4 g5 g6
  exact ⟨⟨a0, a1, a2, a3, a4, a5, a6⟩, by simp [LOp.cells, g0, g1, g2, g3, g4, g5, g6], inr_of z0, inr_of z1, inr_of z2, inr_of z3, inr_of z4, inr_of z5⟩

/-- A whole script. -/
theorem open_ops {H : Type} {enc : TypeId × Value → H} {w : World} {fuel : Nat} {ao : Option Addr} {len cap : Nat} {x : DataW H × List MemPlace}
    (h : DataW.trod enc Tryz.prog w 0 (fun _ => true) true fuel 22 [.slice ao len cap] = some x) :
    ∃ ops : List LOp, ops.length = len ∧ ((len = 0) ∨ ∃ b off, ao = some ⟨b, off, none⟩ ∧ b < w.heap.size ∧ ∀ (i : Nat) (o : LOp), ops[i]? = some o → ∀ (j : Nat) (v : Value), o.cells[j]? = some v → w.cell? ⟨b, off + i * 7 + j, none⟩ = some v) ∧
      (len = 0 ∨ ∃ elems spare, x.1 = .slice elems spare ∧ elems.length = len) ∧ ∀ (i : Nat) (o : LOp), ops[i]? = some o → o.ok := by
  rcases open_slice Tryz.underlying22 h with ⟨hcs, _⟩ | ⟨a, l, c, m, n, D, Pl, hcs, _, hl, hm, hmm, rfl, hx⟩
  · simp at hcs
    obtain ⟨rfl, rfl, rfl⟩ := hcs
    exact ⟨[], rfl, .inl rfl, .inl rfl, fun i o h => by simp at h⟩
  · simp at hcs
    obtain ⟨rfl, rfl, rfl⟩ := hcs
    simp only [if_true] at hmm
    subst hmm
    rw [Tryz.cellsOp] at hx
    have hops : ∀ i, i < len → ∃ o : LOp, w.cells? 0 (a.add (i * 7)) 7 = some o.cells ∧ o.ok := fun i hi => by
      obtain ⟨cs', h1, h2⟩ := hx i (by omega)
      obtain ⟨o, rfl, hok⟩ := open_op h2
      exact ⟨o, h1, hok⟩
    obtain ⟨f, hf⟩ : ∃ f : Nat → LOp, ∀ i, i < len → w.cells? 0 (a.add (i * 7)) 7 = some (f i).cells ∧ (f i).ok := by
      classical
      exact ⟨fun i => if hi : i < len then Classical.choose (hops i hi) else ⟨0, 0, 0, 0, 0, 0, false⟩, fun i hi => by simp only [dif_pos hi]; exact Classical.choose_spec (hops i hi)⟩
    have hokk : ∀ (i : Nat) (o : LOp), ((List.range len).map f)[i]? = some o → o.ok := fun i o ho => by
      have hi : i < len := by have := (List.getElem?_eq_some_iff.1 ho).1; simpa using this
      have ho' : o = f i := by simp [List.getElem?_map, List.getElem?_range hi] at ho; exact ho.symm
      rw [ho']; exact (hf i hi).2
    refine ⟨(List.range len).map f, by simp, ?_, .inr ⟨_, _, rfl, by simp⟩, hokk⟩
    by_cases h0 : len = 0
    · exact .inl h0
    · right
      have hc0 := (World.cells?_some (hf 0 (by omega)).1).2.2 0 (by omega)
      obtain ⟨b, off, spot⟩ := a
      have hc0' : w.cell? ⟨b, off, spot⟩ = some (.int .i64 (f 0).K) := by simpa [Addr.add, LOp.cells] using hc0
      have hspot : spot = none := World.cell?_spot hc0'
      subst hspot
      refine ⟨b, off, rfl, World.block_lt_of_cell? _ _ hc0', ?_⟩
      intro i o ho j v hv
      have hi : i < len := by have := (List.getElem?_eq_some_iff.1 ho).1; simpa using this
      have ho' : o = f i := by simp [List.getElem?_map, List.getElem?_range hi] at ho; exact ho.symm
      subst ho'
      have hj : j < 7 := by have := (List.getElem?_eq_some_iff.1 hv).1; simpa [LOp.cells] using this
      have := (World.cells?_some (hf i hi).1).2.2 j hj
      rw [add_add, add_plain, hv] at this
      rw [← this, Nat.add_assoc]

end Go.Proofs.YtnolplmpanbmhaaGreat

namespace Go.Proofs.YtnolplmpanbmhaaGreat
open Go.RowKit
set_option linter.unusedVariables false

section
variable {M : MT} {bw i : Nat} {w w' : World} {own : Nat → Nat × Nat} {ps : List (Nat × Nat)} {hbs : List Nat} {vP vH : Value}

theorem GI.ihh (h : GI M bw i w own ps hbs vP vH) (b : Nat) : (own b).1 ≠ 3 * hbs.length + 4 := fun e => by
  rcases h.ids b with h | ⟨k, hk, h⟩ | ⟨j, hj, h⟩ <;> omega

/-- A call of the kinds 2 to 8 on machine k. -/
theorem GI.rights (P : Api M) (h : GI M bw i w own ps hbs vP vH) (hl1 : 1 ≤ ps.length) (o : LOp) (hk1 : 2 ≤ o.K) (hk2 : o.K ≤ 8) (hok : o.is64) (hi : (i + 2) * 48 ≤ 140737488355328) {k p r : Nat} (hk : ps[k]? = some (p, r)) :
    Calls Tryz.prog 16 #[.pointer (some ⟨bw, 0, none⟩), .agg #[.pointer (some ⟨p, 0, none⟩), .pointer (some ⟨r, 0, none⟩)], .agg #[.int .i64 o.K, .int .i64 o.M, .int .i64 o.A, .int .i64 o.B, .int .i64 o.C, .int .i64 o.D, .bool o.F]] w
      fun e w' => e = .returned (.bool true) ∧ GNext M bw i (fun b => (own b).1 ≠ 0) w w' := by
  obtain ⟨rs, vR, vB, vS, vA, vK, bs, h1, h2, h3, h5⟩ := h.pr k p r hk
  have hF : Few rs := by unfold Few; omega
  have fin : ∀ {rs' : RSt} {w' : World}, PairRes M own (3 * k + 2) (3 * k + 3) w w' p r rs' rs.ne → SOk rs' → Grows rs rs' → GNext M bw i (fun b => (own b).1 ≠ 0) w w' := fun hn hs ⟨a1, a2, a3, a4, a5, a6⟩ => h.pair P hk hn hs a2.symm (by omega)
  have hc : o.K = 2 ∨ o.K = 3 ∨ o.K = 4 ∨ o.K = 5 ∨ o.K = 6 ∨ o.K = 7 ∨ o.K = 8 := by omega
  rcases hc with hc | hc | hc | hc | hc | hc | hc
  · refine (rights_alloc P o hok hc h3 hF h1 h2 (by omega) h.top (by omega)).mono ?_
    rintro e w' ⟨rfl, hn⟩
    exact ⟨rfl, fin hn (h3.alloc o.A) (allocR_grows o.A)⟩
  · refine (rights_derive P o hok hc h3 hF h1 h2 (by omega) h.top (by omega)).mono ?_
    rintro e w' ⟨rfl, hn⟩
    exact ⟨rfl, fin hn (h3.derive o.A o.B o.C o.F) (deriveR_grows o.A o.B o.C o.F)⟩
  · refine (rights_revoke P o hok hc h3 hF h1 h2 (by omega) h.top (by omega)).mono ?_
    rintro e w' ⟨rfl, hn⟩
    exact ⟨rfl, fin hn (h3.revoke o.A o.B) (revokeR_grows o.A o.B)⟩
  · refine (rights_drop P o hok hc h3 hF h1 h2 (by omega) h.top (by omega)).mono ?_
    rintro e w' ⟨rfl, hn⟩
    exact ⟨rfl, fin hn (h3.drop o.A o.B) (dropR_grows o.A o.B)⟩
  · refine (rights_list P o hok hc (ih := 3 * hbs.length + 4) h3 hF h1 h2 h.top h.blk h.rH (by have := h.l3; omega) h.tw h.tH h.ihh (by omega) (by omega)).mono ?_
    rintro e w' ⟨rfl, hn⟩
    exact ⟨rfl, h.list P hl1 hn⟩
  · refine (rights_kill P o hok hc h3 hF h1 h2 (by omega) h.top (by omega)).mono ?_
    rintro e w' ⟨rfl, hn⟩
    exact ⟨rfl, fin hn (h3.kill o.A) (killR_grows o.A)⟩
  · refine (rights_spawn P o hok hc h3 hF h1 h2 (by omega) h.top (by omega)).mono ?_
    rintro e w' ⟨rfl, hn⟩
    exact ⟨rfl, fin hn (h3.spawn o.A) (spawnR_grows o.A)⟩

/-- A call of the kinds 9 to 13. -/
theorem GI.table (P : Api M) (h : GI M bw i w own ps hbs vP vH) (hl1 : 1 ≤ ps.length) (o : LOp) (hk1 : 9 ≤ o.K) (hk2 : o.K ≤ 13) (hok : o.is64) (hi : (i + 2) * 48 ≤ 140737488355328) {k p r : Nat} (hk : ps[k]? = some (p, r)) :
    Calls Tryz.prog 17 #[.pointer (some ⟨bw, 0, none⟩), .agg #[.pointer (some ⟨p, 0, none⟩), .pointer (some ⟨r, 0, none⟩)], .agg #[.int .i64 o.K, .int .i64 o.M, .int .i64 o.A, .int .i64 o.B, .int .i64 o.C, .int .i64 o.D, .bool o.F]] w
      fun e w' => e = .returned (.bool true) ∧ GNext M bw i (fun b => (own b).1 ≠ 0) w w' := by
  obtain ⟨rs, vR, vB, vS, vA, vK, bs, h1, h2, h3, h5⟩ := h.pr k p r hk
  have hF : Few rs := by unfold Few; omega
  have fin : ∀ {rs' : RSt} {w' : World}, PairRes M own (3 * k + 2) (3 * k + 3) w w' p r rs' rs.ne → SOk rs' → Grows rs rs' → GNext M bw i (fun b => (own b).1 ≠ 0) w w' := fun hn hs ⟨a1, a2, a3, a4, a5, a6⟩ => h.pair P hk hn hs a2.symm (by omega)
  have hc : o.K = 9 ∨ o.K = 10 ∨ o.K = 11 ∨ o.K = 12 ∨ o.K = 13 := by omega
  rcases hc with hc | hc | hc | hc | hc
  · refine (table_map P o hok hc h3 hF h1 h2 (by omega) h.top (by omega)).mono ?_
    rintro e w' ⟨rfl, hn⟩
    exact ⟨rfl, fin hn (h3.map o.A o.B o.C o.F o.D) (mapR_grows o.A o.B o.C o.F o.D)⟩
  · refine (table_unmap P o hok hc h3 hF h1 h2 (by omega) h.top (by omega)).mono ?_
    rintro e w' ⟨rfl, hn⟩
    exact ⟨rfl, fin hn (h3.unmap o.A o.B) (unmapR_grows o.A o.B)⟩
  · refine (table_load P o hok hc h3 hF h1 h2 (by omega) h.top (by omega)).mono ?_
    rintro e w' ⟨rfl, hn⟩
    exact ⟨rfl, fin hn h3 (Grows.refl rs)⟩
  · refine (table_store P o hok hc h3 hF h1 h2 (by omega) h.top (by omega)).mono ?_
    rintro e w' ⟨rfl, hn⟩
    exact ⟨rfl, fin hn (h3.store o.A o.B o.C o.D) (storeR_grows o.A o.B o.C o.D)⟩
  · refine (table_list P o hok hc (ih := 3 * hbs.length + 4) h3 hF h1 h2 h.top h.blk h.rH (by have := h.l3; omega) h.tw h.tH h.ihh (by omega) (by omega)).mono ?_
    rintro e w' ⟨rfl, hn⟩
    exact ⟨rfl, h.list P hl1 hn⟩

theorem GNext.below {S : Nat → Prop} {w1 : World} (hb : Below w.heap.size w w1) (h : GNext M bw i S w1 w') : GNext M bw i S w w' := by
  obtain ⟨S', h1, h2, h3⟩ := h
  have := hb.size
  exact ⟨S', h1, (Touch.of_below hb _).trans (h2.mono (by omega) (fun _ _ h => h)), fun k hk => (h3 k hk).imp (fun h => h) (by omega)⟩
end

theorem g_playable {M : MT} (P : Api M) (w0 : World) (ops : List LOp) (lo hi most : Int) (hmost : most ≤ 13) (hlen : (ops.length + 2) * 48 ≤ 140737488355328) (hok : ∀ (i : Nat) (o : LOp), ops[i]? = some o → o.ok) : Playable w0 ops lo hi most (fun i w S => GInv M w0.heap.size i w S ∧ i ≤ ops.length) where
  lt := by
    rintro i w S ⟨⟨own, ps, hbs, vP, vH, h, _, rfl⟩, _⟩ k hk
    exact h.lt k hk
  alloc := by
    rintro i w S o ⟨⟨own, ps, hbs, vP, vH, h, h1, rfl⟩, hi⟩
    exact ⟨⟨own, ps, hbs, vP, vH, h.below P ((Below.refl _ _).alloc (Nat.le_refl _) o), h1, rfl⟩, hi⟩
  begins := by
    obtain ⟨own, ho⟩ : ∃ own : Nat → Nat × Nat, own = fun b => if b = w0.heap.size then (1, 0) else (0, 0) := ⟨_, rfl⟩
    have o1 : own w0.heap.size = (1, 0) := by rw [ho]; exact if_pos rfl
    have o2 : ∀ b, b ≠ w0.heap.size → own b = (0, 0) := fun b hb => by rw [ho]; exact if_neg hb
    clear ho
    have hg : GI M w0.heap.size 0 (w0.alloc (.cells #[.slice none 0 0, .slice none 0 0] 29)) own [] [] (.slice none 0 0) (.slice none 0 0) :=
      ⟨Blk.new w0 [_, _] _, Row.nil _ _ _, Row.nil _ _ _, o1, Tg.nil _ _, Tg.nil _ _, fun k p r h => by simp at h, fun j hb h => by simp at h, by simp, by simp, fun b hb => by simp at hb; rw [o2 b (by omega)], fun b hb => by rw [o2 b (by omega)],
        fun b => by by_cases hb : b = w0.heap.size; · subst hb; rw [o1]; left; simp
                    · rw [o2 b hb]; left; simp⟩
    refine (wbegin_yes P own 3 w0.heap.size (.slice none 0 0) (.slice none 0 0) [] 0 0 3 2 3 0 false (w0.alloc (.cells #[.slice none 0 0, .slice none 0 0] 29)) (by decide) (by omega) (by omega) (by omega) (by omega)
      (fun b _ => by by_cases hb : b = w0.heap.size; · subst hb; rw [o1]; simp
                     · rw [o2 b hb]; simp) (Blk.new w0 _ _) (Row.nil _ _ _) (by simp) (by simp [Value.ownBlock])).mono ?_
    rintro en w' ⟨rfl, own', g, cap, p, r, vR, vB, vS, vA, vK, bs, h1, h2, h3, h4, h5, h6, h7, h8⟩
    obtain ⟨S', k1, k2, k3⟩ := hg.begin P (i' := 0) (by omega) (by simp) (by omega) (by omega) (by omega) h1 h2 h3 h4 h5 h6 h7 h8
    refine ⟨rfl, S', ⟨k1, by omega⟩, ((Below.refl _ _).alloc (Nat.le_refl _) _).trans ((k2.mono (B' := w0.heap.size) (S' := fun _ => False) (by simp) (fun k hk h => h (by rw [o2 k (by omega)]))).below (by simp)), fun k hk => ?_⟩
    rcases k3 k hk with h | h
    · by_cases hb : k = w0.heap.size
      · omega
      · rw [o2 k hb] at h; exact absurd rfl h
    · simp at h; omega
  steps := by
    intro i w S o ho hm hg hS
    have hi : i < ops.length := (List.getElem?_eq_some_iff.1 ho).1
    have hO : o.is64 := hok i o ho
    obtain ⟨⟨own, ps, hbs, vP, vH, h, h1, rfl⟩, _⟩ := hg
    have l2 := h.l2
    by_cases hK : o.K = 1
    · refine (step_begin w0.heap.size o w (by simp [hK]) (fun ok w' => ok = true ∧ GNext M w0.heap.size i (fun b => (own b).1 ≠ 0) w w') ?_).mono ?_
      · intro w1 hb1
        have h' := h.below P hb1
        cases hmm : mayB o.A o.B o.C with
        | false =>
          refine (wbegin_no P w0.heap.size o.K o.M o.A o.B o.C o.D o.F w1 hmm).mono ?_
          rintro e w' ⟨rfl, hb⟩
          exact ⟨true, rfl, rfl, GNext.below hb1 ⟨_, ⟨own, ps, hbs, vP, vH, (GI.mono P (h'.below P hb)), h1, rfl⟩, Touch.of_below hb _, fun k hk => .inl hk⟩⟩
        | true =>
          obtain ⟨f, s, e, ea, eb, ec, q1, q2, q3, q4, q5, q6⟩ := mayB_nat hmm
          rw [ea, eb, ec] at hmm ⊢
          refine (wbegin_yes P own (3 * ps.length + 3) w0.heap.size vP vH ps o.K o.M f s e o.D o.F w1 hmm q2 q4 q6 q5 (fun b _ ee => ?_) h'.blk h'.rP (by omega) (fun ee => ?_)).mono ?_
          · rcases h.ids b with h | ⟨k, hk, h⟩ | ⟨j, hj, h⟩ <;> omega
          · have := h.tP _ ee; rw [h.tw] at this; simp at this
          rintro en w' ⟨rfl, own', g, cap, p, r, vR, vB, vS, vA, vK, bs, h1', h2, h3, h4, h5, h6, h7, h8⟩
          exact ⟨true, rfl, rfl, GNext.below hb1 (h'.begin P (i' := i + 1) (by omega) (by omega) q2 q4 q6 h1' h2 h3 h4 h5 h6 h7 h8)⟩
      · rintro e w' ⟨ok, rfl, hr, S', k1, k2, k3⟩
        exact ⟨ok, rfl, fun _ => hr, S', ⟨k1, by omega⟩, k2, k3⟩
    · obtain ⟨⟨p, r⟩, hpr⟩ : ∃ x, ps[mach o.M ps.length]? = some x := ⟨ps[mach o.M ps.length]'(mach_lt _ _ (by omega)), by simp⟩
      by_cases hK9 : 9 ≤ o.K
      · refine (step_table w0.heap.size vP vH ps o w ⟨hK9, by omega⟩ (by simp [hK]) h.blk h.rP (by omega) (by omega) p r hpr (fun ok w' => ok = true ∧ GNext M w0.heap.size i (fun b => (own b).1 ≠ 0) w w') ?_).mono ?_
        · intro w1 hb1
          refine ((h.below P hb1).table P h1 o hK9 (by omega) hO (by omega) hpr).mono ?_
          rintro e w2 ⟨rfl, hn⟩
          exact ⟨true, rfl, rfl, GNext.below hb1 hn⟩
        · rintro e w' ⟨ok, rfl, hr, S', k1, k2, k3⟩
          exact ⟨ok, rfl, fun _ => hr, S', ⟨k1, by omega⟩, k2, k3⟩
      by_cases hK2 : 2 ≤ o.K
      · refine (step_rights w0.heap.size vP vH ps o w ⟨hK2, by omega⟩ (by simp [hK]) h.blk h.rP (by omega) (by omega) p r hpr (fun ok w' => ok = true ∧ GNext M w0.heap.size i (fun b => (own b).1 ≠ 0) w w') ?_).mono ?_
        · intro w1 hb1
          refine ((h.below P hb1).rights P h1 o hK2 (by omega) hO (by omega) hpr).mono ?_
          rintro e w2 ⟨rfl, hn⟩
          exact ⟨true, rfl, rfl, GNext.below hb1 hn⟩
        · rintro e w' ⟨ok, rfl, hr, S', k1, k2, k3⟩
          exact ⟨ok, rfl, fun _ => hr, S', ⟨k1, by omega⟩, k2, k3⟩
      · refine (step_memory w0.heap.size vP vH ps o w (by omega) (by simp [hK]) h.blk h.rP (by omega) (by omega) p r hpr (fun ok w' => ok = true ∧ Below w.heap.size w w') ?_).mono ?_
        · intro w1 hb1
          refine (memory_none w0.heap.size p r o w1 (by omega)).mono ?_
          rintro e w2 ⟨rfl, hb2⟩
          have := hb1.size
          exact ⟨true, rfl, rfl, hb1.trans (hb2.mono (by omega))⟩
        · rintro e w' ⟨ok, rfl, hr, hb⟩
          exact ⟨ok, rfl, fun _ => hr, _, ⟨⟨own, ps, hbs, vP, vH, (GI.mono P (h.below P hb)), h1, rfl⟩, by omega⟩, Touch.of_below hb _, fun k hk => .inl hk⟩
  skips := by
    rintro i w S o ho hm ⟨⟨own, ps, hbs, vP, vH, h, h1, rfl⟩, _⟩
    exact ⟨⟨own, ps, hbs, vP, vH, GI.mono P h, h1, rfl⟩, (List.getElem?_eq_some_iff.1 ho).1⟩
  looks := by
    intro i w S hg
    have hg' := hg
    obtain ⟨⟨own, ps, hbs, vP, vH, h, h1, rfl⟩, hi⟩ := hg'
    refine (looks_any (own := own) h.blk h.rH (by have := h.l3; omega) (fun j b hb => by obtain ⟨n, a, hh⟩ := h.hd j b hb; exact ⟨_, n, a, hh⟩)).mono ?_
    rintro e w' ⟨rfl, rfl⟩
    exact ⟨rfl, Below.refl _ _, hg⟩
end Go.Proofs.YtnolplmpanbmhaaGreat

namespace Go.Proofs.YtnolplmpanbmhaaGreat.maps
open Go.ChangeShapes Go.WideShapes Go.ChangeAt Go.RowKit
set_option linter.unusedVariables false

set_option maxHeartbeats 1000000 in
/-- The law's own text: it hands the script to 'plays'. -/
theorem law (ao : Option Addr) (len cap : Nat) (w : World) (h : Calls Tryz.prog 9 #[.slice ao len cap, .int .i64 9, .int .i64 10, .int .i64 13] w fun e w' => e = .returned (.bool true) ∧ Below w.heap.size w w') :
    Calls Tryz.prog 6 #[.slice ao len cap] w fun e w' => e = .returned (.bool true) ∧ Below w.heap.size w w' := by
  go_enter Tryz.func6, Tryz.ntmps6
  go_wp2_with fail
  refine h.mono ?_
  rintro e w1 ⟨rfl, hb⟩
  go_wp2_with fail
  go_ret
  exact ⟨rfl, hb⟩

theorem walk (ao : Option Addr) (len cap : Nat) (w : World) (ops : List LOp) (hl : ops.length = len) (hok : ∀ (i : Nat) (o : LOp), ops[i]? = some o → o.ok) (hsz : (len + 2) * 48 ≤ 140737488355328)
    (ho : (len = 0) ∨ ∃ b off, ao = some ⟨b, off, none⟩ ∧ b < w.heap.size ∧ ∀ (i : Nat) (o : LOp), ops[i]? = some o → ∀ (j : Nat) (v : Value), o.cells[j]? = some v → w.cell? ⟨b, off + i * 7 + j, none⟩ = some v) :
    Calls Tryz.prog 6 #[.slice ao len cap] w fun e w' => e = .returned (.bool true) ∧ Below w.heap.size w w' := by
  refine law ao len cap w ?_
  rcases ho with h0 | ⟨b, off, rfl, hb, hc⟩
  · subst h0
    obtain rfl : ops = [] := List.eq_nil_of_length_eq_zero hl
    exact plays_nil w ao cap 9 10 13 _ (g_playable api w [] 9 10 13 (by omega) (by simp) hok)
  · exact plays_pos w b off len cap ops 9 10 13 _ (g_playable api w ops 9 10 13 (by omega) (by omega) hok) hl (by omega) hb hc

set_option maxRecDepth 100000 in
theorem lifted (os : Os) (started : os.Started) (H : Type) (enc : TypeId × Value → H) :
    ReturnsInHanded {} Tryz.checked os 6 .any (Rows.mapsSpec.pre6 enc Tryz.prog Tryz.f6 Rows.mapsRow.domain false) (Rows.mapsSpec.post enc Tryz.prog Tryz.f6 false true false false) := by
  refine returnsInHanded_of_change_sized (C := Tryz.checked) Tryz.own started (by kernel_rfl) Tryz.func6
    (ChangeSpec.witness6 (enc := enc) (C := Tryz.checked) false ⟨#[], #[.slice none 0 0], []⟩ 8 (by kernel_rfl) (by kernel_rfl) (by kernel_rfl) (by kernel_rfl)) ?_
  intro W base args ds gs before hval0 hW hcnd hsz _
  have hval : ∀ (j : Nat) t v, Tryz.f6.params[j]? = some t → args[j]? = some v → Value.okWide Tryz.prog W .any base t v := hval0
  have hW' := hW
  obtain ⟨p, q, hA0, hV, rfl, hfz, hnd⟩ := hW
  have hA : DataW.TrodAll enc Tryz.prog W 0 (fun _ => true) true Tryz.f6.params.toList args.toList ds p := hA0
  rw [Tryz.params6] at hA hval
  obtain ⟨v0, vs0, d0, ds0, p0, q0, hargs, rfl, rfl, h0, r0⟩ := trodAll_cons hA
  obtain ⟨rfl, rfl, rfl⟩ := trodAll_nil r0
  obtain rfl : args = #[v0] := by cases args; simp_all
  obtain ⟨rfl, rfl⟩ := trodVars_none hV
  obtain ⟨a0, len0, cap0, rfl⟩ := okWide_slice Tryz.underlying22 (hval 0 22 v0 rfl rfl)
  have k0 := h0
  have lt0 : ∀ x ∈ p0, x.block < W.heap.size := by obtain ⟨m, hm⟩ := k0; exact DataW.trod_lt m _ _ _ hm
  obtain ⟨fuel, hf⟩ := h0
  obtain ⟨ops, hl, hops, hdat, hok⟩ := open_ops (by simpa [Value.cells] using hf)
  have hb16 : (len0 + 2) * 48 ≤ 140737488355328 := by
    rcases hdat with h | ⟨elems, spare, hd, he⟩
    · subst h; omega
    · simp only at hd
      subst hd
      have : (elems.length + spare.length) * Tryz.prog.bytesOf 32 ≤ reachBytes := sized_slice hsz (j := 0) (t := 22) (e := 32) rfl rfl Tryz.underlying22
      rw [Tryz.bytesOp] at this
      simp only [reachBytes] at this
      omega
  clear hA0 hval0
  refine (walk a0 len0 cap0 W ops hl hok hb16 hops).mono fun e W' ⟨he, bel⟩ => ?_
  subst he
  exact ⟨_, rfl, _, _, _, [], _, [], hW', trodAll_mk1 (shut_bool Tryz.underlying4 _), (trodAll_cons_mk (Below.trod Tryz.laidOut (by kernel_rfl) (of_decide_eq_true (by kernel_rfl)) k0 bel lt0) trodAll_mk0), rfl, bel.frame _, fun h => by cases h⟩

theorem over : Rows.mapsRow.holds Tryz.pinned (OpenSpec.ofChange Rows.mapsSpec) :=
  OpenClaim.holds_of_wide 6 Tryz.f6 rfl rfl rfl rfl rfl rfl rfl ⟨rfl, rfl, rfl, rfl, rfl⟩ rfl rfl rfl rfl rfl (by kernel_rfl) Tryz.func6 (by kernel_rfl)
    (of_decide_eq_true (by kernel_rfl)) (by unfold Func.isWrapper; first | (rw [if_pos (by decide +kernel)]; kernel_rfl) | (rw [if_neg (by decide +kernel)]; exact ⟨rfl, rfl⟩))
    (fun os started H enc _ => lifted os started H enc)

end Go.Proofs.YtnolplmpanbmhaaGreat.maps

namespace Go.Proofs.YtnolplmpanbmhaaGreat
theorem maps_holds : Rows.MapsSaid := maps.over
end Go.Proofs.YtnolplmpanbmhaaGreat
