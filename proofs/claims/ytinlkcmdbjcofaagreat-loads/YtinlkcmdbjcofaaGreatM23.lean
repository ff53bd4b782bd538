import Derived.Test.YtinlkcmdbjcofaaGreatM22
namespace Go.Proofs.YtinlkcmdbjcofaaGreat
open Go.RowKit
set_option linter.unusedVariables false
attribute [local go_sem ↓] Go.wp_at_zero Go.wp_at_succ

set_option maxHeartbeats 1000000 in
theorem wbegin_no {M : MT} (P : Api M) (bw : Nat) (K X A B C D : Int) (F : Bool) (w : World) (h : mayB A B C = false) :
    Calls Tryz.prog 14 #[.pointer (some ⟨bw, 0, none⟩), .agg #[.int .i64 K, .int .i64 X, .int .i64 A, .int .i64 B, .int .i64 C, .int .i64 D, .bool F]] w fun e w' => e = .returned (.bool true) ∧ Below w.heap.size w w' := by
  go_enter Tryz.func14, Tryz.ntmps14
  go_wp2_with fail
  refine (P.new_no _ _ _ _ h).mono ?_
  rintro e w1 ⟨rfl, hb1⟩
  have hbox := ((Blk.at (w.alloc (.cells #[.int .i64 K, .int .i64 X, .int .i64 A, .int .i64 B, .int .i64 C, .int .i64 D, .bool F] 32)) [.int .i64 A, .int .i64 B, .int .i64 C] 35 (w.heap.size + 1) (by simp))).below hb1 (by simp)
  have q0 := hbox.cell 0
  have q1 := hbox.cell 1
  have q2 := hbox.cell 2
  simp at q0 q1 q2
  go_wp2_with fail
  refine (may_any _ _ _ _).mono ?_
  rintro e w2 ⟨rfl, hb2⟩
  rw [h]
  go_wp2_with fail
  go_ret
  exact ⟨rfl, (((Below.refl _ _).alloc (Nat.le_refl _) _).alloc (by simp) _).trans ((hb1.mono (by simp; omega)).trans (hb2.mono (by have := hb1.size; simp at this; omega)))⟩

/-- A new machine: f says which blocks are its own. -/
def NewF (M : MT) (w w' : World) (p : Nat) (f : Nat → Option Nat) (s : RSt) : Prop :=
  (∀ b j, f b = some j → w.heap.size ≤ b ∧ b < w'.heap.size) ∧ ∀ (own : Nat → Nat × Nat) (id : Nat), (∀ b j, f b = some j → own b = (id, j)) → M own id w' p s
theorem NewF.of {M : MT} (P : Api M) {w w2 W : World} {p : Nat} {f : Nat → Option Nat} {s : RSt} (h : NewF M w w2 p f s) (hk : ∀ k, w.heap.size ≤ k → k < w2.heap.size → W.heap[k]? = w2.heap[k]?) (hs : w2.heap.size ≤ W.heap.size) : NewF M w W p f s := by
  refine ⟨fun b j hb => ⟨(h.1 b j hb).1, Nat.lt_of_lt_of_le (h.1 b j hb).2 hs⟩, fun own id ho => ?_⟩
  obtain ⟨own0, h0⟩ : ∃ own0 : Nat → Nat × Nat, own0 = fun b => match f b with | some j => (id, j) | none => (id + 1, 0) := ⟨_, rfl⟩
  have h1 : ∀ b j, f b = some j → own0 b = (id, j) := fun b j hb => by rw [h0]; simp only [hb]
  have h2 : ∀ b, (own0 b).1 = id → ∃ j, f b = some j := fun b hb => by
    rw [h0] at hb
    cases hf : f b with
    | none => simp only [hf] at hb; omega
    | some j => exact ⟨j, rfl⟩
  have m1 := h.2 own0 id h1
  have m2 := P.of (own' := own0) (w' := W) m1 (fun _ _ => rfl) (fun b hb ht => by
    obtain ⟨j, hj⟩ := h2 b ht
    exact hk b (h.1 b j hj).1 hb)
  exact P.retag m2 (fun b _ ht => by
    obtain ⟨j, hj⟩ := h2 b ht
    rw [ho b j hj, h1 b j hj])
theorem NewF.low {M : MT} {w0 w W : World} {p : Nat} {f : Nat → Option Nat} {s : RSt} (h : NewF M w W p f s) (hl : w0.heap.size ≤ w.heap.size) : NewF M w0 W p f s :=
  ⟨fun b j hb => ⟨Nat.le_trans hl (h.1 b j hb).1, (h.1 b j hb).2⟩, h.2⟩

theorem wbegin_end {M : MT} (P : Api M) {f : Nat → Option Nat} {own own2 own3 : Nat → Nat × Nat} {id bw : Nat} {vP vH vP' : Value} {ps : List (Nat × Nat)} {a b c : Nat} {w w2 w3 w4 : World} {p r g1 cap1 : Nat} {vR vB vS vA vK : Value} {bs : List Nat}
    (hbw2 : Below w.heap.size w w2) (hb3 : Below w2.heap.size w2 w3) (hrep : RefRep own3 id w3 r (RSt.fresh a b c) c vR vB vS vA vK bs) (hag : ∀ b, b < w2.heap.size → own3 b = own2 b)
    (hag2 : ∀ b, b < w.heap.size → own2 b = own b) (hid2 : ∀ x, x < w2.heap.size → (own2 x).1 ≠ id) (hlt : bw < w.heap.size) (hPlt : ∀ k, vP.ownBlock = some k → k < w.heap.size) (Hv : vP = vP')
    (hown : w4.ownsRow 0 44 2 (.slice (some ⟨g1, 0, none⟩) (ps.length + 1) cap1) (ps.length + 1) (ps.flatMap pairCells ++ pairCells (p, r)))
    (hgrow : (w3.alloc (.cells (pairCells (p, r)).toArray 44)).grownBy w4 vP'.ownBlock) (hat : vP'.ownBlock = some g1 ∨ g1 = w3.heap.size + 1)
    (hw4 : Blk w4 bw [vP, vH] 29) (hnm2 : NewF M w w2 p f (RSt.fresh a b c)) (hne : vP.ownBlock ≠ some bw) :
      ∃ (own' : Nat → Nat × Nat) (g cap p r : Nat) (vR vB vS vA vK : Value) (bs : List Nat), (∀ b, b < w.heap.size → own' b = own b) ∧ Touch w.heap.size (fun x => x = bw ∨ vP.ownBlock = some x) w (w4.setCell ⟨bw, 0, none⟩ (.slice (some ⟨g1, 0, none⟩) (ps.length + 1) cap1)) ∧
        Blk (w4.setCell ⟨bw, 0, none⟩ (.slice (some ⟨g1, 0, none⟩) (ps.length + 1) cap1)) bw [.slice (some ⟨g, 0, none⟩) (ps.length + 1) cap, vH] 29 ∧ Row (w4.setCell ⟨bw, 0, none⟩ (.slice (some ⟨g1, 0, none⟩) (ps.length + 1) cap1)) (.slice (some ⟨g, 0, none⟩) (ps.length + 1) cap) 44 2 (ps.length + 1) ((ps ++ [(p, r)]).flatMap pairCells) ∧
        (vP.ownBlock = some g ∨ w.heap.size ≤ g) ∧ RefRep own' id (w4.setCell ⟨bw, 0, none⟩ (.slice (some ⟨g1, 0, none⟩) (ps.length + 1) cap1)) r (RSt.fresh a b c) c vR vB vS vA vK bs ∧
        (∃ f : Nat → Option Nat, NewF M w (w4.setCell ⟨bw, 0, none⟩ (.slice (some ⟨g1, 0, none⟩) (ps.length + 1) cap1)) p f (RSt.fresh a b c) ∧ ∀ k j, f k = some j → (own' k).1 ≠ id ∧ k ≠ g) ∧ (vP.ownBlock = some g ∨ (own' g).1 ≠ id) := by
  subst Hv
  have hs2 := hbw2.size
  have hs3 := hb3.size
  have hs4 := hgrow.size
  simp at hs4
  have hW : ∀ k, k < w3.heap.size → k ≠ bw → vP.ownBlock ≠ some k → (w4.setCell ⟨bw, 0, none⟩ (.slice (some ⟨g1, 0, none⟩) (ps.length + 1) cap1)).heap[k]? = w3.heap[k]? := by
    intro k hk h1 h2
    rw [Below.heap_setCell _ _ _ _ (by simpa using h1), hgrow.block k (by simp; omega) (fun e => h2 e.symm), Below.heap_alloc _ _ _ hk]
  have hq : ∀ x, x < w3.heap.size → (fun b => if b < w3.heap.size then own3 b else (id + 1, 0)) x = own3 x := fun x hx => if_pos hx
  refine ⟨fun b => if b < w3.heap.size then own3 b else (id + 1, 0), g1, cap1, p, r, vR, vB, vS, vA, vK, bs, fun x hx => (hq x (by omega)).trans ((hag x (by omega)).trans (hag2 x hx)), ?_, hw4.set 0 _, ?_, ?_, ?_, ⟨f, hnm2.of P (fun k h1 h2 => (hW k (by omega) (by omega) (fun e => by have := hPlt k e; omega)).trans (hb3.block k h2)) (by simp [World.setCell]; omega), fun k j hf => ⟨?_, ?_⟩⟩, ?_⟩
  · exact (((((Touch.of_below hbw2 _).trans (Touch.of_below (hb3.mono (by omega)) _)).alloc (by omega) _).grown hgrow (by simp; omega) (fun k hk => .inl (.inr hk))).setCell (.inl (.inl rfl)) _)
  · have : Row w4 (.slice (some ⟨g1, 0, none⟩) (ps.length + 1) cap1) 44 2 (ps.length + 1) ((ps ++ [(p, r)]).flatMap pairCells) := by
      rw [List.flatMap_append]; simp only [List.flatMap_cons, List.flatMap_nil, List.append_nil]; exact hown
    refine this.other _ (fun e => ?_)
    simp [Value.ownBlock] at e
    rcases hat with h | h
    · exact hne (by rw [h, e])
    · omega
  · rcases hat with h | h
    · exact .inl h
    · exact .inr (by omega)
  · refine hrep.of hq fun x hx ht => hW x hx (fun e => ?_) (fun e => ?_)
    · subst e
      rw [hag x (by omega)] at ht; exact hid2 x (by omega) ht
    · have := hPlt x e
      rw [hag x (by omega)] at ht; exact hid2 x (by omega) ht
  · have h2 := (hnm2.1 k j hf).2
    rw [hq k (by omega), hag k h2]; exact hid2 k h2
  · intro e
    have h1 := hnm2.1 k j hf
    rcases hat with h | h
    · have := hPlt _ h; omega
    · omega
  · rcases hat with h | h
    · exact .inl h
    · right
      simp only [if_neg (show ¬ g1 < w3.heap.size by omega)]
      omega

set_option maxHeartbeats 4000000 in
set_option maxRecDepth 100000 in
theorem wbegin_yes {M : MT} (P : Api M) (own : Nat → Nat × Nat) (id bw : Nat) (vP vH : Value) (ps : List (Nat × Nat)) (K X : Int) (a b c : Nat) (D : Int) (F : Bool) (w : World) (h : mayB a b c = true)
    (ha : a ≤ 16) (hb : b ≤ 8) (hc : c ≤ 4) (hc1 : 1 ≤ c) (hid : ∀ b, b < w.heap.size → (own b).1 ≠ id)
    (hw : Blk w bw [vP, vH] 29) (hP : Row w vP 44 2 ps.length (ps.flatMap pairCells)) (hn : (ps.length + 1) * 16 ≤ 140737488355328) (hne : vP.ownBlock ≠ some bw) :
    Calls Tryz.prog 14 #[.pointer (some ⟨bw, 0, none⟩), .agg #[.int .i64 K, .int .i64 X, .int .i64 a, .int .i64 b, .int .i64 c, .int .i64 D, .bool F]] w fun e w' => e = .returned (.bool true) ∧
      ∃ (own' : Nat → Nat × Nat) (g cap p r : Nat) (vR vB vS vA vK : Value) (bs : List Nat), (∀ b, b < w.heap.size → own' b = own b) ∧ Touch w.heap.size (fun x => x = bw ∨ vP.ownBlock = some x) w w' ∧
        Blk w' bw [.slice (some ⟨g, 0, none⟩) (ps.length + 1) cap, vH] 29 ∧ Row w' (.slice (some ⟨g, 0, none⟩) (ps.length + 1) cap) 44 2 (ps.length + 1) ((ps ++ [(p, r)]).flatMap pairCells) ∧
        (vP.ownBlock = some g ∨ w.heap.size ≤ g) ∧ RefRep own' id w' r (RSt.fresh a b c) c vR vB vS vA vK bs ∧
        (∃ f : Nat → Option Nat, NewF M w w' p f (RSt.fresh a b c) ∧ ∀ k j, f k = some j → (own' k).1 ≠ id ∧ k ≠ g) ∧ (vP.ownBlock = some g ∨ (own' g).1 ≠ id) := by
  obtain ⟨i0, hi, hz0, hz1, hz2⟩ := info_parts Tryz.infoPair
  obtain ⟨ao, cap, g, hv, hao, _, _, hmx⟩ := hP.view
  have k0 := hw.cell 0
  have k1 := hw.frozen 0
  simp at k0
  rw [hv] at k0
  have hwlt := hw.lt
  have Hv : Hid (vP = .slice ao ps.length cap) := hv
  clear hv hao
  go_enter Tryz.func14, Tryz.ntmps14
  go_wp2_with fail
  refine (P.new_yes _ _ _ _ h).mono ?_
  rintro e w1 ⟨p, f, rfl, hb1, hnm⟩
  have hbox := ((Blk.at (w.alloc (.cells #[.int .i64 K, .int .i64 X, .int .i64 a, .int .i64 b, .int .i64 c, .int .i64 D, .bool F] 32)) [.int .i64 a, .int .i64 b, .int .i64 c] 35 (w.heap.size + 1) (by simp))).below hb1 (by simp)
  have hbw1 : Below w.heap.size w w1 := (((Below.refl _ _).alloc (Nat.le_refl _) _).alloc (by simp) _).trans (hb1.mono (by simp; omega))
  have q0 := hbox.cell 0
  have q1 := hbox.cell 1
  have q2 := hbox.cell 2
  simp at q0 q1 q2
  go_wp2_with fail
  refine (may_any _ _ _ _).mono ?_
  rintro e w2 ⟨rfl, hb2⟩
  rw [h]
  have hbox2 := hbox.below hb2 hbox.lt
  have hs12 := hb2.size
  have hs1 := hb1.size
  simp at hs1
  have hbw2 : Below w.heap.size w w2 := hbw1.trans (hb2.mono (by omega))
  have j0 := (hw.below hbw2 hwlt).cell 0
  have j1 := (hw.below hbw2 hwlt).frozen 0
  simp at j0
  rw [Hv.out] at j0
  have s0 := hbox2.cell 0
  have s1 := hbox2.cell 1
  have s2 := hbox2.cell 2
  simp at s0 s1 s2
  clear q0 q1 q2 k0 k1
  obtain ⟨own2, hid2, hag2⟩ : ∃ own2 : Nat → Nat × Nat, (∀ x, x < w2.heap.size → (own2 x).1 ≠ id) ∧ ∀ x, x < w.heap.size → own2 x = own x := by
    refine ⟨fun x => if x < w.heap.size then own x else (id + 1, 0), fun x _ => ?_, fun x hx => by simp [hx]⟩
    by_cases hx : x < w.heap.size
    · simpa [hx] using hid x hx
    · simp [hx]
  have hP2 : Row w2 (.slice ao ps.length cap) 44 2 ps.length (ps.flatMap pairCells) := by rw [← Hv.out]; exact hP.of fun b hbb => hbw2.block b (hP.lt b hbb)
  have hne2 : (Value.slice ao ps.length cap).ownBlock ≠ some bw := by rw [← Hv.out]; exact hne
  have hw2 := hw.below hbw2 hwlt
  have hz22 : w.heap.size + 2 ≤ w2.heap.size := by omega
  have hl2 : bw < w2.heap.size := by omega
  have hne3 : (Value.slice ao ps.length cap).ownBlock ≠ some (w.heap.size + 1) := by rw [← Hv.out]; intro e; have := hP.lt _ e; omega
  have hPlt := hP.lt
  have hnm2 : NewF M w w2 p f (RSt.fresh a b c) := NewF.low (NewF.of P hnm (fun k _ h2 => hb2.block k h2) (by omega)) (by simp; omega)
  clear hb1 hb2 hbox hbw1 hs12 hs1 hP hw hid hnm
  go_wp2_with fail
  go_region_law
    ((first
      | (refine step_call (by rfl) 19 (.tmp 43) 35 (by rfl) Tryz.func19 Tryz.nameBegin (by rfl) (.agg #[.int .i64 a, .int .i64 b, .int .i64 c]) (by rfl) ?_; refine (begin_any own2 id a b c _ ha hb hc ?_).mono ?_; exact hid2; rintro e w3 ⟨own3, r, vR, vB, vS, vA, vK, bs, rfl, hb3, hrep, hag⟩
         have t0 : w3.cell? ⟨bw, 0, none⟩ = some (.slice ao ps.length cap) := (hb3.cell (p := ⟨bw, 0, none⟩) hl2).trans j0
         have t1 : w3.cell? ⟨w.heap.size + 1, 0, none⟩ = some (.int .i64 a) := (hb3.cell (p := ⟨w.heap.size + 1, 0, none⟩) (by simp; omega)).trans s0
         have t2 : w3.cell? ⟨w.heap.size + 1, 1, none⟩ = some (.int .i64 b) := (hb3.cell (p := ⟨w.heap.size + 1, 1, none⟩) (by simp; omega)).trans s1
         have t3 : w3.cell? ⟨w.heap.size + 1, 2, none⟩ = some (.int .i64 c) := (hb3.cell (p := ⟨w.heap.size + 1, 2, none⟩) (by simp; omega)).trans s2
         have hP3 := (hP2.drew.below hb3).alloc (.cells (pairCells (p, r)).toArray 44)
         have hsz3 : w2.heap.size ≤ w3.heap.size := hb3.size
         have hw3 := hw2.drew.below hb3 hl2
         have hl3 : bw < w3.heap.size := by omega
         have hx3 := hbox2.drew.below hb3 hbox2.lt)
      | (refine step_append_lies _ (by rfl) (.tmp 41) (.tmp 46) 26 (by rfl) 0 44 i0 _ 2 16 Tryz.underlying26 hi hz0 hz1 hz2 rfl (by decide) (.slice ao ps.length cap) ps.length _ (by rfl) hP3 ⟨w3.heap.size, 0, none⟩ 1 1 (pairCells (p, r)) (by rfl) rfl (World.news_of_block (Blk.new w3 (pairCells (p, r)) _)) (oneCell_pair _) (by omega) (by unfold maxLen; omega) hn (by omega) (w3.heap.size + 1) (by simp) ?_
         intro g1 cap1 w4 hown hgrow hat hlt
         have hw4 := (hw3.alloc (.cells (pairCells (p, r)).toArray 44)).grown hgrow hne2
         have u0 := hw4.cell 0
         have u1 := hw4.frozen 0
         simp at u0
         rw [Hv.out] at u0
         have hx4 := (hx3.alloc (.cells (pairCells (p, r)).toArray 44)).grown hgrow hne3
         have u2 := hx4.cell 0
         have u3 := hx4.cell 1
         have u4 := hx4.cell 2
         simp at u2 u3 u4)))
  all_goals
    go_wp2
    go_ret
  all_goals exact ⟨rfl, wbegin_end P (w2 := w2.drew) hbw2.drew hb3 hrep hag hag2 hid2 hwlt hPlt Hv.out hown hgrow hat hw4 (NewF.of P hnm2 (W := w2.drew) (fun k _ _ => rfl) (Nat.le_refl _)) hne⟩
end Go.Proofs.YtinlkcmdbjcofaaGreat

/-
  The invariant of the laws that play a script against the document's machine.
-/
namespace Go.Proofs.YtinlkcmdbjcofaaGreat
open Go.RowKit
set_option linter.unusedVariables false

/-- A machine of the program and one of the document that are alike. -/
def PairAt (M : MT) (own : Nat → Nat × Nat) (ip ir : Nat) (w : World) (p r N : Nat) : Prop :=
  ∃ (rs : RSt) (vR vB vS vA vK : Value) (bs : List Nat), M own ip w p rs ∧ RefRep own ir w r rs rs.ne vR vB vS vA vK bs ∧ SOk rs ∧ Sz rs N
section
variable {M : MT} {own own' : Nat → Nat × Nat} {w w' : World}
theorem PairAt.of {ip ir p r N N' : Nat} (h : PairAt M own ip ir w p r N) (P : Api M) (ho : ∀ b, b < w.heap.size → own' b = own b) (hb : ∀ b, b < w.heap.size → (own b).1 = ip ∨ (own b).1 = ir → w'.heap[b]? = w.heap[b]?) (hN : N ≤ N') : PairAt M own' ip ir w' p r N' := by
  obtain ⟨rs, vR, vB, vS, vA, vK, bs, h1, h2, h3, h5⟩ := h
  exact ⟨rs, vR, vB, vS, vA, vK, bs, P.of h1 ho (fun b hl ht => hb b hl (.inl ht)), h2.of ho (fun b hl ht => hb b hl (.inr ht)), h3, h5.mono hN⟩
end

/-- The world's struct and its two rows bear 1; machine k of the program 3k + 2, the document's 3k + 3; the list j that came out 3j + 4; nobody's is 0. -/
structure GI (M : MT) (bw i : Nat) (w : World) (own : Nat → Nat × Nat) (ps : List (Nat × Nat)) (hbs : List Nat) (vP vH : Value) : Prop where
  blk : Blk w bw [vP, vH] 29
  rP : Row w vP 44 2 ps.length (ps.flatMap pairCells)
  rH : Row w vH 46 1 hbs.length (hbs.map hptr)
  tw : own bw = (1, 0)
  tP : Tg own vP (1, 1)
  tH : Tg own vH (1, 2)
  pr : ∀ (k p r : Nat), ps[k]? = some (p, r) → PairAt M own (3 * k + 2) (3 * k + 3) w p r i
  hd : ∀ (j hb : Nat), hbs[j]? = some hb → ∃ n a, HoldOK own (3 * j + 4) w hb n a
  l2 : ps.length ≤ i + 1
  l3 : hbs.length ≤ i
  top : ∀ b, w.heap.size ≤ b → (own b).1 = 0
  bot : ∀ b, b < bw → (own b).1 = 0
  ids : ∀ b, (own b).1 ≤ 1 ∨ (∃ k, k < ps.length ∧ ((own b).1 = 3 * k + 2 ∨ (own b).1 = 3 * k + 3)) ∨ ∃ j, j < hbs.length ∧ (own b).1 = 3 * j + 4

section
variable {M : MT} {bw i : Nat} {w w' : World} {own : Nat → Nat × Nat} {ps : List (Nat × Nat)} {hbs : List Nat} {vP vH : Value}

theorem GI.below (P : Api M) (h : GI M bw i w own ps hbs vP vH) (hb : Below w.heap.size w w') : GI M bw i w' own ps hbs vP vH :=
  ⟨h.blk.below hb h.blk.lt, h.rP.below hb, h.rH.below hb, h.tw, h.tP, h.tH, fun k p r hk => (h.pr k p r hk).of P (fun _ _ => rfl) (fun b hl _ => hb.block b hl) (Nat.le_refl _), fun j hb' hj => by
    obtain ⟨n, a, hh⟩ := h.hd j hb' hj
    exact ⟨n, a, hh.of (fun _ _ => rfl) hb.size (fun b hl _ => hb.block b hl)⟩, h.l2, h.l3, fun b hl => h.top b (Nat.le_trans hb.size hl), h.bot, h.ids⟩
theorem GI.mono (P : Api M) (h : GI M bw i w own ps hbs vP vH) : GI M bw (i + 1) w own ps hbs vP vH :=
  ⟨h.blk, h.rP, h.rH, h.tw, h.tP, h.tH, fun k p r hk => (h.pr k p r hk).of P (fun _ _ => rfl) (fun _ _ _ => rfl) (by omega), h.hd, by have := h.l2; omega, by have := h.l3; omega, h.top, h.bot, h.ids⟩
end

def GInv (M : MT) (bw i : Nat) (w : World) (S : Nat → Prop) : Prop := ∃ own ps hbs vP vH, GI M bw i w own ps hbs vP vH ∧ 1 ≤ ps.length ∧ S = fun b => (own b).1 ≠ 0

/-- What a step leaves. -/
def GNext (M : MT) (bw i : Nat) (S : Nat → Prop) (w w' : World) : Prop := ∃ S', GInv M bw (i + 1) w' S' ∧ Touch w.heap.size S w w' ∧ ∀ k, S' k → S k ∨ w.heap.size ≤ k

section
variable {M : MT} {bw i : Nat} {w w' : World} {own : Nat → Nat × Nat} {ps : List (Nat × Nat)} {hbs : List Nat} {vP vH : Value}

theorem GI.lt (h : GI M bw i w own ps hbs vP vH) (k : Nat) (hk : (own k).1 ≠ 0) : k < w.heap.size := by
  by_cases hl : k < w.heap.size
  · exact hl
  · exact absurd (h.top k (by omega)) hk

/-- One pair has turned. -/
theorem GI.pair (P : Api M) (h : GI M bw i w own ps hbs vP vH) {k p r nk : Nat} (hk : ps[k]? = some (p, r)) {rs : RSt} (hn : PairRes M own (3 * k + 2) (3 * k + 3) w w' p r rs nk) (hs : SOk rs) (hf : nk = rs.ne) (hl : Sz rs (i + 1)) :
    GNext M bw i (fun b => (own b).1 ≠ 0) w w' := by
  subst hf
  obtain ⟨own1, vR, vB, vS, vA, vK, bs, h1, h2, h3, h4, h5⟩ := hn
  have hsz := h5.size
  have hkl := (List.getElem?_eq_some_iff.1 hk).1
  obtain ⟨own2, g1, g2, g3⟩ : ∃ own2 : Nat → Nat × Nat, (∀ b, b < w'.heap.size → own2 b = own1 b) ∧ (∀ b, w'.heap.size ≤ b → own2 b = (0, 0)) ∧ ∀ b, b < w.heap.size → own2 b = own b :=
    ⟨fun b => if b < w'.heap.size then own1 b else (0, 0), fun b hb => if_pos hb, fun b hb => if_neg (by omega), fun b hb => (if_pos (show b < w'.heap.size by omega)).trans (h3 b hb)⟩
  have hblk : ∀ b, b < w.heap.size → (own b).1 ≠ 3 * k + 2 → (own b).1 ≠ 3 * k + 3 → w'.heap[b]? = w.heap[b]? := fun b hb e1 e2 => h5.block b hb (fun e => e.elim e1 e2)
  have hbwl := h.blk.lt
  refine ⟨_, ⟨own2, ps, hbs, vP, vH, ⟨h.blk.of (hblk bw hbwl (by rw [h.tw]; simp) (by rw [h.tw]; simp)), h.rP.kept h.tP (fun b hb ht => hblk b hb (by rw [ht]; simp) (by rw [ht]; simp)), h.rH.kept h.tH (fun b hb ht => hblk b hb (by rw [ht]; simp) (by rw [ht]; simp)),
    (g3 bw hbwl).trans h.tw, h.tP.congr h.rP g3, h.tH.congr h.rH g3, ?_, ?_, by have := h.l2; omega, by have := h.l3; omega, fun b hb => by rw [g2 b hb], ?_, ?_⟩, by omega, rfl⟩, ?_, ?_⟩
  · intro k' p' r' hk'
    by_cases e : k' = k
    · subst e
      rw [hk] at hk'
      simp at hk'
      obtain ⟨rfl, rfl⟩ := hk'
      exact ⟨rs, vR, vB, vS, vA, vK, bs, P.retag h1 (fun b hb _ => g1 b hb), h2.retag (fun b hb _ => g1 b hb), hs, hl⟩
    · exact (h.pr k' p' r' hk').of P g3 (fun b hb ht => hblk b hb (by omega) (by omega)) (by omega)
  · intro j hb hj
    obtain ⟨n, a, hh⟩ := h.hd j hb hj
    exact ⟨n, a, hh.of g3 hsz (fun b hl ht => hblk b hl (by omega) (by omega))⟩
  · intro b hb
    rw [g3 b (by omega)]
    exact h.bot b hb
  · intro b
    by_cases hb : b < w.heap.size
    · rw [g3 b hb]; exact h.ids b
    · by_cases hb' : b < w'.heap.size
      · rw [g1 b hb']
        rcases h4 b (by omega) with e | e | e
        · left; omega
        · exact .inr (.inl ⟨k, hkl, .inl e⟩)
        · exact .inr (.inl ⟨k, hkl, .inr e⟩)
      · rw [g2 b (by omega)]; left; simp
  · exact h5.mono (Nat.le_refl _) (fun b _ e => by rcases e with e | e <;> omega)
  · intro b hb
    by_cases hl : b < w.heap.size
    · rw [g3 b hl] at hb; exact .inl hb
    · exact .inr (by omega)

/-- A list more. -/
theorem GI.list (P : Api M) (h : GI M bw i w own ps hbs vP vH) (hl1 : 1 ≤ ps.length) (hn : ListRes own (3 * hbs.length + 4) bw w w' vP vH hbs) : GNext M bw i (fun b => (own b).1 ≠ 0) w w' := by
  obtain ⟨own1, g, cap, hb, a, m, h1, h2, h3, h4, h5, h6, h7⟩ := hn
  have hsz := h3.size
  obtain ⟨own2, g1, g2, g3⟩ : ∃ own2 : Nat → Nat × Nat, (∀ b, b < w'.heap.size → own2 b = own1 b) ∧ (∀ b, w'.heap.size ≤ b → own2 b = (0, 0)) ∧ ∀ b, b < w.heap.size → own2 b = own b :=
    ⟨fun b => if b < w'.heap.size then own1 b else (0, 0), fun b hb => if_pos hb, fun b hb => if_neg (by omega), fun b hb => (if_pos (show b < w'.heap.size by omega)).trans (h1 b hb)⟩
  have hblk : ∀ b, b < w.heap.size → own b ≠ (1, 0) → own b ≠ (1, 2) → w'.heap[b]? = w.heap[b]? := fun b hb e1 e2 => h3.block b hb (fun e => e.elim (fun e => e1 (by rw [e]; exact h.tw)) (fun e => e2 (h.tH b e)))
  have hid : ∀ b, b < w.heap.size → 2 ≤ (own b).1 → w'.heap[b]? = w.heap[b]? := fun b hb e => hblk b hb (fun e1 => by rw [e1] at e; simp at e) (fun e1 => by rw [e1] at e; simp at e)
  have hbwl := h.blk.lt
  have hgl : g < w'.heap.size := h5.lt g rfl
  refine ⟨_, ⟨own2, ps, hbs ++ [hb], vP, _, ⟨h4, h.rP.kept h.tP (fun b hb ht => hblk b hb (by rw [ht]; simp) (by rw [ht]; simp)), by simpa using h5,
    (g3 bw hbwl).trans h.tw, h.tP.congr h.rP g3, Tg.mk ((g1 g hgl).trans h6), ?_, ?_, by have := h.l2; omega, by have := h.l3; simp; omega, fun b hb => by rw [g2 b hb], ?_, ?_⟩, hl1, rfl⟩, ?_, ?_⟩
  · intro k' p' r' hk'
    exact (h.pr k' p' r' hk').of P g3 (fun b hb ht => hid b hb (by omega)) (by omega)
  · intro j hb' hj
    by_cases hjl : j < hbs.length
    · rw [List.getElem?_append_left hjl] at hj
      obtain ⟨n, a, hh⟩ := h.hd j hb' hj
      exact ⟨n, a, hh.of g3 hsz (fun b hl ht => hid b hl (by omega))⟩
    · rw [List.getElem?_append_right (by omega)] at hj
      have hj0 : j - hbs.length = 0 := by have := (List.getElem?_eq_some_iff.1 hj).1; simp at this; omega
      rw [hj0] at hj
      simp at hj
      subst hj
      obtain rfl : j = hbs.length := by omega
      exact ⟨m, a, h7.retag (fun b hb _ => g1 b hb)⟩
  · intro b hb
    rw [g3 b (by omega)]
    exact h.bot b hb
  · intro b
    by_cases hb : b < w.heap.size
    · rw [g3 b hb]
      rcases h.ids b with e | e | ⟨j, hj, e⟩
      · exact .inl e
      · exact .inr (.inl e)
      · exact .inr (.inr ⟨j, by simp; omega, e⟩)
    · by_cases hb' : b < w'.heap.size
      · rw [g1 b hb']
        rcases h2 b (by omega) with e | e | e
        · left; omega
        · left; omega
        · exact .inr (.inr ⟨hbs.length, by simp, e⟩)
      · rw [g2 b (by omega)]; left; simp
  · exact h3.mono (Nat.le_refl _) (fun b _ e => by
      rcases e with e | e
      · rw [e, h.tw]; simp
      · rw [h.tH b e]; simp)
  · intro b hb
    by_cases hl : b < w.heap.size
    · rw [g3 b hl] at hb; exact .inl hb
    · exact .inr (by omega)

/-- A pair more. -/
theorem GI.begin (P : Api M) (h : GI M bw i w own ps hbs vP vH) {i' : Nat} (hi : i ≤ i') (hl : ps.length ≤ i') {own1 : Nat → Nat × Nat} {g cap p r a b c : Nat} {vR vB vS vA vK : Value} {bs : List Nat} (ha : a ≤ 16) (hb0 : 1 ≤ b) (hb : b ≤ 8) (hc : c ≤ 4) (h1 : ∀ b, b < w.heap.size → own1 b = own b)
    (h2 : Touch w.heap.size (fun x => x = bw ∨ vP.ownBlock = some x) w w') (h3 : Blk w' bw [.slice (some ⟨g, 0, none⟩) (ps.length + 1) cap, vH] 29)
    (h4 : Row w' (.slice (some ⟨g, 0, none⟩) (ps.length + 1) cap) 44 2 (ps.length + 1) ((ps ++ [(p, r)]).flatMap pairCells)) (h5 : vP.ownBlock = some g ∨ w.heap.size ≤ g)
    (h6 : RefRep own1 (3 * ps.length + 3) w' r (RSt.fresh a b c) c vR vB vS vA vK bs) (h7 : ∃ f : Nat → Option Nat, NewF M w w' p f (RSt.fresh a b c) ∧ ∀ k j, f k = some j → (own1 k).1 ≠ 3 * ps.length + 3 ∧ k ≠ g) (h8 : vP.ownBlock = some g ∨ (own1 g).1 ≠ 3 * ps.length + 3) :
    ∃ S', GInv M bw i' w' S' ∧ Touch w.heap.size (fun b => (own b).1 ≠ 0) w w' ∧ ∀ k, S' k → (own k).1 ≠ 0 ∨ w.heap.size ≤ k := by
  obtain ⟨f, hnf, hB⟩ := h7
  have hsz := h2.size
  have hgl : g < w'.heap.size := h4.lt g rfl
  have hno : ∀ b, (own b).1 ≠ 3 * ps.length + 3 := fun b e => by
    rcases h.ids b with h | ⟨k, hk, h⟩ | ⟨j, hj, h⟩ <;> omega
  obtain ⟨own2, hw⟩ : ∃ own2 : Nat → Nat × Nat, own2 = fun x => if x < w.heap.size then own x else if w'.heap.size ≤ x then (0, 0) else if x = g then (1, 1) else match f x with | some j => (3 * ps.length + 2, j) | none => if (own1 x).1 = 3 * ps.length + 3 then own1 x else (0, 0) := ⟨_, rfl⟩
  have g3 : ∀ x, x < w.heap.size → own2 x = own x := fun x hx => by rw [hw]; exact if_pos hx
  have gp : ∀ b j, f b = some j → own2 b = (3 * ps.length + 2, j) := fun b j hb => by
    have n := hnf.1 b j hb
    have q := hB b j hb
    rw [hw]
    simp only [if_neg (show ¬ b < w.heap.size by omega), if_neg (show ¬ w'.heap.size ≤ b by omega), if_neg q.2, hb]
  have gg : own2 g = (1, 1) := by
    rcases h5 with h5 | h5
    · rw [g3 g (h.rP.lt g h5)]; exact h.tP g h5
    · rw [hw]
      simp only [if_neg (show ¬ g < w.heap.size by omega), if_neg (show ¬ w'.heap.size ≤ g by omega), if_true]
  have gr : ∀ x, x < w'.heap.size → (own1 x).1 = 3 * ps.length + 3 → own2 x = own1 x := fun x hx ht => by
    by_cases hl : x < w.heap.size
    · rw [h1 x hl] at ht; exact absurd ht (hno x)
    · have e1 : x ≠ g := fun ee => by
        subst ee
        rcases h8 with h8 | h8
        · have := h.rP.lt x h8; omega
        · exact h8 ht
      have e2 : f x = none := by
        cases hf : f x with
        | none => rfl
        | some j => exact absurd ht (hB x j hf).1
      rw [hw]
      simp only [if_neg hl, if_neg (show ¬ w'.heap.size ≤ x by omega), if_neg e1, e2, if_pos ht]
  have g2 : ∀ x, w'.heap.size ≤ x → (own2 x).1 = 0 := fun x hx => by
    rw [hw]
    simp only [if_neg (show ¬ x < w.heap.size by omega), if_pos hx]
  have gid : ∀ x, w.heap.size ≤ x → (own2 x).1 ≤ 1 ∨ (own2 x).1 = 3 * ps.length + 2 ∨ (own2 x).1 = 3 * ps.length + 3 := fun x hx => by
    rw [hw]
    simp only [if_neg (show ¬ x < w.heap.size by omega)]
    split
    · left; simp
    · split
      · left; simp
      · split
        · exact .inr (.inl rfl)
        · split
          · right; right; assumption
          · left; simp
  clear hw
  have hblk : ∀ x, x < w.heap.size → own x ≠ (1, 0) → own x ≠ (1, 1) → w'.heap[x]? = w.heap[x]? := fun x hx e1 e2 => h2.block x hx (fun e => e.elim (fun e => e1 (by rw [e]; exact h.tw)) (fun e => e2 (h.tP x e)))
  have hid : ∀ x, x < w.heap.size → 2 ≤ (own x).1 → w'.heap[x]? = w.heap[x]? := fun x hx e => hblk x hx (fun e1 => by rw [e1] at e; simp at e) (fun e1 => by rw [e1] at e; simp at e)
  have hbwl := h.blk.lt
  refine ⟨_, ⟨own2, ps ++ [(p, r)], hbs, _, vH, ⟨h3, by simpa using h4, h.rH.kept h.tH (fun b hb ht => hblk b hb (by rw [ht]; simp) (by rw [ht]; simp)),
    (g3 bw hbwl).trans h.tw, Tg.mk gg, h.tH.congr h.rH g3, ?_, ?_, by simp; omega, by have := h.l3; omega, g2, ?_, ?_⟩, by simp, rfl⟩, ?_, ?_⟩
  · intro k' p' r' hk'
    by_cases hjl : k' < ps.length
    · rw [List.getElem?_append_left hjl] at hk'
      exact (h.pr k' p' r' hk').of P g3 (fun b hb ht => hid b hb (by omega)) hi
    · rw [List.getElem?_append_right (by omega)] at hk'
      have hj0 : k' - ps.length = 0 := by have := (List.getElem?_eq_some_iff.1 hk').1; simp at this; omega
      rw [hj0] at hk'
      simp at hk'
      obtain ⟨rfl, rfl⟩ := hk'
      obtain rfl : k' = ps.length := by omega
      exact ⟨RSt.fresh a b c, vR, vB, vS, vA, vK, bs, hnf.2 own2 _ gp, h6.retag gr, sok_fresh ha hb0 hb hc, (sz_fresh a b c).mono (by omega)⟩
  · intro j hb' hj
    obtain ⟨n, a, hh⟩ := h.hd j hb' hj
    exact ⟨n, a, hh.of g3 hsz (fun b hl ht => hid b hl (by omega))⟩
  · intro x hx
    rw [g3 x (by omega)]
    exact h.bot x hx
  · intro x
    by_cases hx : x < w.heap.size
    · rw [g3 x hx]
      rcases h.ids x with e | ⟨k, hk, e⟩ | e
      · exact .inl e
      · exact .inr (.inl ⟨k, by simp; omega, e⟩)
      · exact .inr (.inr e)
    · rcases gid x (by omega) with e | e | e
      · exact .inl e
      · exact .inr (.inl ⟨ps.length, by simp, .inl e⟩)
      · exact .inr (.inl ⟨ps.length, by simp, .inr e⟩)
  · exact h2.mono (Nat.le_refl _) (fun x _ e => by
      rcases e with e | e
      · rw [e, h.tw]; simp
      · rw [h.tP x e]; simp)
  · intro x hx
    by_cases hl : x < w.heap.size
    · rw [g3 x hl] at hx; exact .inl hx
    · exact .inr (by omega)
end
end Go.Proofs.YtinlkcmdbjcofaaGreat

/-
  An access more in the history of a kept memory.
-/
namespace Go.Proofs.YtinlkcmdbjcofaaGreat
open Go.RowKit
set_option linter.unusedVariables false

section
variable {own own' : Nat → Nat × Nat} {id i : Nat} {w w1 : World} {b g cap : Nat} {k : KSt} {vB vU vI vY vC vD vO : Value}

/-- An access more. -/
theorem KRep.appUses (h : KRep own id i w b k vB vU vI vY vC vD vO) {u : Int × Bool} (hown : w1.ownsRow 0 150 2 (.slice (some ⟨g, 0, none⟩) (k.uses.length + 1) cap) (k.uses.length + 1) (k.uses.flatMap ucells ++ (ucells u)))
    (hg : (w.alloc (.cells (ucells u).toArray 150)).grownBy w1 vU.ownBlock) (hat : vU.ownBlock = some g ∨ g = w.heap.size + 1) :
    KRep (set1 own (w.heap.size + 1) (id, kt i 2)) id i (w1.setCell ⟨b, 3, none⟩ (.slice (some ⟨g, 0, none⟩) (k.uses.length + 1) cap)) b { k with uses := k.uses ++ [u] } vB (.slice (some ⟨g, 0, none⟩) (k.uses.length + 1) cap) vI vY vC vD vO ∧
      (∀ x, x < w.heap.size → own x ≠ (id, kt i 0) → own x ≠ (id, kt i 2) → (w1.setCell ⟨b, 3, none⟩ (.slice (some ⟨g, 0, none⟩) (k.uses.length + 1) cap)).heap[x]? = w.heap[x]?) ∧ Blk w1 b (k.cells vB vU vI vY vC vD vO) 133 ∧ ∀ x, x < w.heap.size → own x ≠ (id, kt i 2) → w1.heap[x]? = w.heap[x]? := by
  have hblt := h.blk.lt
  have ho : ∀ x, x < w.heap.size → set1 own (w.heap.size + 1) (id, kt i 2) x = own x := set1_old (by omega)
  have hW1 : ∀ x, x < w.heap.size → own x ≠ (id, kt i 2) → w1.heap[x]? = w.heap[x]? := fun x hx hn =>
    (hg.block x (by simp; omega) (fun e => hn (h.tU x e.symm))).trans (Below.heap_alloc w _ x hx)
  have hW : ∀ x, x < w.heap.size → own x ≠ (id, kt i 0) → own x ≠ (id, kt i 2) → (w1.setCell ⟨b, 3, none⟩ (.slice (some ⟨g, 0, none⟩) (k.uses.length + 1) cap)).heap[x]? = w.heap[x]? := fun x hx h0 h3 =>
    (Below.heap_setCell _ _ _ _ (fun e => h0 (by simp at e; rw [e]; exact h.tm))).trans (hW1 x hx h3)
  have hr : ∀ {v : Value} {e c n t : Nat} {xs : List Value}, Row w v e c n xs → Tg own v (id, kt i t) → t ≠ 0 → t ≠ 2 → Row (w1.setCell ⟨b, 3, none⟩ (.slice (some ⟨g, 0, none⟩) (k.uses.length + 1) cap)) v e c n xs := fun hr ht h0 h3 =>
    hr.kept ht (fun x hx e => hW x hx (by rw [e]; intro e2; simp only [Prod.mk.injEq, true_and] at e2; exact kt_ne h0 e2) (by rw [e]; intro e2; simp only [Prod.mk.injEq, true_and] at e2; exact kt_ne h3 e2))
  have hbk : Blk w1 b (k.cells vB vU vI vY vC vD vO) 133 := h.blk.of (hW1 b hblt (by rw [h.tm]; intro e2; simp only [Prod.mk.injEq, true_and] at e2; exact kt_ne (by omega) e2))
  have hgb : g ≠ b := fun e => by
    rcases hat with h1 | h1
    · have := h.tU g h1
      rw [e, h.tm] at this
      simp only [Prod.mk.injEq, true_and] at this
      exact kt_ne (by omega) this
    · omega
  refine ⟨⟨hbk.set 3 _, hr h.rB h.tB (by omega) (by omega), ?_, hr h.rI h.tI (by omega) (by omega), hr h.rY h.tY (by omega) (by omega), hr h.rC h.tC (by omega) (by omega), hr h.rD h.tD (by omega) (by omega), hr h.rO h.tO (by omega) (by omega),
    (ho b hblt).trans h.tm, h.tB.congr h.rB ho, ?_, h.tI.congr h.rI ho, h.tY.congr h.rY ho, h.tC.congr h.rC ho, h.tD.congr h.rD ho, h.tO.congr h.rO ho⟩, hW, hbk, hW1⟩
  · have h1 : Row w1 (.slice (some ⟨g, 0, none⟩) (k.uses.length + 1) cap) 150 2 (k.uses.length + 1) (k.uses.flatMap ucells ++ (ucells u)) := hown
    have h2 := h1.other (a := ⟨b, 3, none⟩) (.slice (some ⟨g, 0, none⟩) (k.uses.length + 1) cap) (fun e => hgb (by simpa [Value.ownBlock] using e))
    simpa using h2
  · exact h.tU.app (fun x hx => by have := h.rU.lt x hx; omega) hat
end
end Go.Proofs.YtinlkcmdbjcofaaGreat

/-
  An access.
-/
namespace Go.Proofs.YtinlkcmdbjcofaaGreat
open Go.RowKit
set_option linter.unusedVariables false
attribute [local go_sem ↓] Go.wp_at_zero Go.wp_at_succ

theorem Tryz.infoUse : (Tryz.prog.info? 150).map (fun i => (i.zero, i.size, i.bytes)) = some (some (.agg #[.int .i64 0, .bool false]), 2, 16) := by kernel_rfl
theorem oneCell_use (u : Int × Bool) : ∀ x ∈ ucells u, x.oneCell' = true := by
  intro x hx; simp [ucells] at hx; rcases hx with rfl | rfl <;> rfl

/-- The empty slot with the least number from q on. -/
def lowE (es : List Ent) (q : Nat) : Int := match (es.drop q).findIdx? (fun e => !e.used) with
  | some i => (q + i : Nat)
  | none => -1
theorem lowE_end (es : List Ent) : lowE es es.length = -1 := by unfold lowE; rw [List.drop_length]; rfl
theorem lowE_zero (es : List Ent) : lowE es 0 = leastEmpty es := by
  unfold lowE leastEmpty
  rw [List.drop_zero]
  cases es.findIdx? (fun e => !e.used) <;> simp
theorem lowE_step {es : List Ent} {q : Nat} {e : Ent} (h : es[q]? = some e) : lowE es q = if e.used then lowE es (q + 1) else (q : Int) := by
  obtain ⟨hq, he⟩ := List.getElem?_eq_some_iff.1 h
  unfold lowE
  rw [List.drop_eq_getElem_cons hq, he, List.findIdx?_cons]
  cases e.used
  · simp
  · simp only [Bool.not_true, Bool.false_eq_true, if_false, if_true]
    cases (es.drop (q + 1)).findIdx? (fun e => !e.used) with
    | none => rfl
    | some i => simp; omega
theorem lowE_ge (es : List Ent) (q : Nat) : -1 ≤ lowE es q ∧ lowE es q < (es.length : Int) := by
  unfold lowE
  cases h : (es.drop q).findIdx? (fun e => !e.used) with
  | none => simp only; omega
  | some i =>
    obtain ⟨hi, -⟩ := List.findIdx?_eq_some_iff_getElem.1 h
    simp at hi
    simp only
    omega

theorem KRep.keep {own : Nat → Nat × Nat} {id i : Nat} {w W : World} {b : Nat} {k : KSt} {vB vU vI vY vC vD vO : Value} (h : KRep own id i w b k vB vU vI vY vC vD vO) (hW : ∀ x, x < w.heap.size → ∀ t, t < 16 → own x = (id, kt i t) → W.heap[x]? = w.heap[x]?) : KRep own id i W b k vB vU vI vY vC vD vO :=
  ⟨h.blk.of (hW b h.blk.lt 0 (by omega) h.tm), h.rB.kept h.tB (fun x hx e => hW x hx 1 (by omega) e), h.rU.kept h.tU (fun x hx e => hW x hx 2 (by omega) e), h.rI.kept h.tI (fun x hx e => hW x hx 3 (by omega) e), h.rY.kept h.tY (fun x hx e => hW x hx 4 (by omega) e),
    h.rC.kept h.tC (fun x hx e => hW x hx 5 (by omega) e), h.rD.kept h.tD (fun x hx e => hW x hx 6 (by omega) e), h.rO.kept h.tO (fun x hx e => hW x hx 7 (by omega) e), h.tm, h.tB, h.tU, h.tI, h.tY, h.tC, h.tD, h.tO⟩
theorem RefRep.setTurn {own : Nat → Nat × Nat} {id : Nat} {w : World} {m : Nat} {s : RSt} {nk : Nat} {vR vB vS vA vK : Value} {bs : List Nat} (h : RefRep own id w m s nk vR vB vS vA vK bs) (x : Int) : RefRep own id (w.setCell ⟨m, 6, none⟩ (.int .i64 x)) m { s with turn := x } nk vR vB vS vA vK bs := by
  have hW : ∀ b, b < w.heap.size → own b ≠ (id, 0) → (w.setCell ⟨m, 6, none⟩ (.int .i64 x)).heap[b]? = w.heap[b]? := fun b _ hn => Below.heap_setCell _ _ _ _ (fun e => hn (by simp at e; rw [e]; exact h.tm))
  refine ⟨h.blk.set 6 _, h.rR.kept h.tR fun b hl ht => hW b hl (by rw [ht]; simp), h.rB.kept h.tB fun b hl ht => hW b hl (by rw [ht]; simp), fun i l hl => ?_, h.rS.kept h.tS fun b hl ht => hW b hl (by rw [ht]; simp), h.rA.kept h.tA fun b hl ht => hW b hl (by rw [ht]; simp),
    h.rK.of h.tK (fun _ _ _ => rfl) (fun b hl ht => hW b hl (by rw [ht]; simp)) (fun b hl j ht => hW b hl (by rw [ht]; simp)), h.tm, h.tR, h.tB, h.tS, h.tA, h.tK⟩
  obtain ⟨b, h1, h2, h3, h4⟩ := h.rI i l hl
  exact ⟨b, h1, h2, h3.of (hW b h3.lt (by rw [h4]; simp)), h4⟩
theorem KPtr.drew {vK : Value} {nk j b : Nat} {w : World} (h : KPtr vK nk w j b) : KPtr vK nk w.drew j b := by
  obtain ⟨g, cap, hv, hc⟩ := h
  exact ⟨g, cap, hv, (World.cell?_of_block (a := ⟨g, j, none⟩) (w := w) (w' := w.drew) rfl).trans hc⟩
theorem keptO_setK {t : RSt} {l : List (Option KSt)} {env : Nat} {k : KSt} (h : t.kept = l.set env (some k)) (hl : env < l.length) : keptO t env = some k := by
  unfold keptO
  rw [h]
  simp [List.getElem?_set_self hl]
/-- What an access asks of a machine in which its page is in. -/
structure AccMid (s : RSt) (k : KSt) (page : Nat) : Prop where
  sl : s.slots.length ≤ 8
  ns : s.slots.length = s.ns
  t0 : 0 ≤ s.turn
  t1 : s.turn < s.ns
  hnd : k.hnd.length = 16
  chg : k.chg.length = 16
  dty : k.dty.length = 16
  u : (k.uses.length + 2) * 48 ≤ 140737488355328
  r0 : 0 ≤ k.refills
  r1 : k.refills ≤ k.uses.length
  by_ : ∃ (j : Nat) (r : RR), k.hnd[page]? = some ((j : Int) + 1) ∧ s.rights[j]? = some r ∧ s.rights.length ≤ 4611686018427387904
end Go.Proofs.YtinlkcmdbjcofaaGreat
