import Derived.Test.YtkonobbhohfjlaaNew
import Derived.Test.YtkonobbhohfjlaaBegin
import Derived.Deep.RegionLaw
import Derived.BigRegion
namespace Go.Proofs.Ytkonobbhohfjlaa
open Go.RowKit
set_option linter.unusedVariables false
attribute [local go_sem ↓] Go.wp_at_zero Go.wp_at_succ

theorem Try.infoPair : (Try.prog.info? 71).map (fun i => (i.zero, i.size, i.bytes)) = some (some (.agg #[.pointer none, .pointer none]), 2, 16) := by kernel_rfl

/-- A call of a Go function as a step of a region that draws its order. -/
theorem step_call {P : Program} {ops : Array Oper} {o : Oper} {a : Act} {w : World} {K : Act → World → Prop} {Q : Exit → Act → World → Prop} {E : Prop} (hgd : o.guard = none) (f : FuncId) (x : Operand) (t : TypeId)
    (ho : o.op = .call { callee := .value (.func f), args := #[x], argTypes := #[t] }) {fn : Func} (hf : P.funcs[f]? = some fn) (hname : (fn.name == "runtime.NumGoroutine") = false) (hb : fn.body.isSome = true)
    (v : Value) (hx : a.eval x = v)
    (h : Calls P f #[v] w fun e w' => match e, w' with
      | .returned v, w'' => K (a.put o.dst v) w''
      | .panicked chain, w'' => Q (.panic chain) a w''
      | .outgrown, _ => LetsOut Q) :
    if Region.wanted o (yielded ops a.tmps) = true then Oper.wp P o a w K Q else E := by
  have hw : Region.wanted o (yielded ops a.tmps) = true := by simp [Region.wanted, hgd]
  have ef : a.eval (.func f) = .func (.func f) #[] #[] := rfl
  have e1 : execOp a.eval o = callFunc f #[v] := by
    unfold execOp
    simp [ho, resolve, Deferred.ofValue, invoke, ef, hx]
  have h1 : fn.name ≠ "runtime.NumGoroutine" := by simpa using hname
  obtain ⟨c, hb⟩ := Option.isSome_iff_exists.1 hb
  have e2 : (callFunc f #[v]).run P w = .ok (.enter f #[v]) w := by simp [callFunc, hf, h1, hb]
  rw [if_pos hw]
  unfold Oper.wp
  rw [e1, e2]
  exact h

theorem Try.nameBegin : (Try.f26.name == "runtime.NumGoroutine") = false := by kernel_rfl

def ptr (b : Nat) : Value := .pointer (some ⟨b, 0, none⟩)
def pairCells (x : Nat × Nat) : List Value := [ptr x.1, ptr x.2]

def opAgg (K M A B C D : Int) (F : Bool) : Value := .agg #[.int .i64 K, .int .i64 M, .int .i64 A, .int .i64 B, .int .i64 C, .int .i64 D, .bool F]

set_option maxHeartbeats 1000000 in
theorem wbegin_no (bw : Nat) (K M A B C D : Int) (F : Bool) (w : World) (h : mayB A B C = false) :
    Calls Try.prog 13 #[.pointer (some ⟨bw, 0, none⟩), .agg #[.int .i64 K, .int .i64 M, .int .i64 A, .int .i64 B, .int .i64 C, .int .i64 D, .bool F]] w fun e w' => e = .returned (.bool true) ∧ Below w.heap.size w w' := by
  go_enter Try.func13, Try.ntmps13
  go_wp2_with fail
  refine (new_no _ _ _ _ h).mono ?_
  rintro e w1 ⟨rfl, hb1⟩
  have hbox := ((Blk.at (w.alloc (.cells #[.int .i64 K, .int .i64 M, .int .i64 A, .int .i64 B, .int .i64 C, .int .i64 D, .bool F] 50)) [.int .i64 A, .int .i64 B, .int .i64 C] 31 (w.heap.size + 1) (by simp))).below hb1 (by simp)
  have q0 := hbox.cell 0
  have q1 := hbox.cell 1
  have q2 := hbox.cell 2
  simp at q0 q1 q2
  go_wp2_with fail
  refine (may_any _ _ _ _).mono ?_
  rintro e w2 ⟨rfl, hb2⟩
  rw [h]
  go_wp2_with fail
  go_ret
  exact ⟨rfl, (((Below.refl _ _).alloc (Nat.le_refl _) _).alloc (by simp) _).trans ((hb1.mono (by simp; omega)).trans (hb2.mono (by have := hb1.size; simp at this; omega)))⟩

theorem oneCell_pair (x : Nat × Nat) : ∀ u ∈ pairCells x, u.oneCell' = true := by
  intro u hu; simp [pairCells] at hu; rcases hu with rfl | rfl <;> rfl

theorem NewMach.of {w w2 W : World} {p a c : Nat} (h : NewMach w w2 p a c) (hk : ∀ k, w.heap.size ≤ k → k < w2.heap.size → W.heap[k]? = w2.heap[k]?) : NewMach w W p a c := by
  obtain ⟨e, f, h1, h2, h3, h4, h5, h6, h7, h8, h9⟩ := h
  exact ⟨e, f, h1.of (hk _ h7 h1.lt), h2.of (hk _ h8 h2.lt), h3.of (hk _ h9 h3.lt), h4, h5, h6, h7, h8, h9⟩

/-- The new machine's blocks lie below B. -/
def NewMachB (w w' : World) (B m a c : Nat) : Prop :=
  ∃ e f, Blk w' m (machCells e f c a) 80 ∧ Blk w' e (envCells c c) 82 ∧ Blk w' f (frameCells a) 126 ∧ e ≠ f ∧ m ≠ e ∧ m ≠ f ∧ w.heap.size ≤ m ∧ w.heap.size ≤ e ∧ w.heap.size ≤ f ∧ m < B ∧ e < B ∧ f < B
theorem NewMach.bound {w w2 W : World} {p a c : Nat} (h : NewMach w w2 p a c) (hk : ∀ k, w.heap.size ≤ k → k < w2.heap.size → W.heap[k]? = w2.heap[k]?) : NewMachB w W w2.heap.size p a c := by
  obtain ⟨e, f, h1, h2, h3, h4, h5, h6, h7, h8, h9⟩ := h
  exact ⟨e, f, h1.of (hk _ h7 h1.lt), h2.of (hk _ h8 h2.lt), h3.of (hk _ h9 h3.lt), h4, h5, h6, h7, h8, h9, h1.lt, h2.lt, h3.lt⟩

theorem wbegin_end {own own2 own3 : Nat → Nat × Nat} {id bw : Nat} {vP vH vP' : Value} {ps : List (Nat × Nat)} {a b c : Nat} {w w2 w3 w4 : World} {p r g1 cap1 : Nat} {vR vB vS vA vK : Value} {bs : List Nat}
    (hbw2 : Below w.heap.size w w2) (hb3 : Below w2.heap.size w2 w3) (hrep : RefRep own3 id w3 r (RSt.fresh a b c) c vR vB vS vA vK bs) (hag : ∀ b, b < w2.heap.size → own3 b = own2 b)
    (hag2 : ∀ b, b < w.heap.size → own2 b = own b) (hid2 : ∀ x, x < w2.heap.size → (own2 x).1 ≠ id) (hlt : bw < w.heap.size) (hPlt : ∀ k, vP.ownBlock = some k → k < w.heap.size) (Hv : vP = vP')
    (hown : w4.ownsRow 0 71 2 (.slice (some ⟨g1, 0, none⟩) (ps.length + 1) cap1) (ps.length + 1) (ps.flatMap pairCells ++ pairCells (p, r)))
    (hgrow : (w3.alloc (.cells (pairCells (p, r)).toArray 71)).grownBy w4 vP'.ownBlock) (hat : vP'.ownBlock = some g1 ∨ g1 = w3.heap.size + 1)
    (hw4 : Blk w4 bw [vP, vH] 47) (hnm2 : NewMach w w2 p a c) (hne : vP.ownBlock ≠ some bw) :
      ∃ (own' : Nat → Nat × Nat) (g cap p r : Nat) (vR vB vS vA vK : Value) (bs : List Nat), (∀ b, b < w.heap.size → own' b = own b) ∧ Touch w.heap.size (fun x => x = bw ∨ vP.ownBlock = some x) w (w4.setCell ⟨bw, 0, none⟩ (.slice (some ⟨g1, 0, none⟩) (ps.length + 1) cap1)) ∧
        Blk (w4.setCell ⟨bw, 0, none⟩ (.slice (some ⟨g1, 0, none⟩) (ps.length + 1) cap1)) bw [.slice (some ⟨g, 0, none⟩) (ps.length + 1) cap, vH] 47 ∧ Row (w4.setCell ⟨bw, 0, none⟩ (.slice (some ⟨g1, 0, none⟩) (ps.length + 1) cap1)) (.slice (some ⟨g, 0, none⟩) (ps.length + 1) cap) 71 2 (ps.length + 1) ((ps ++ [(p, r)]).flatMap pairCells) ∧
        (vP.ownBlock = some g ∨ w.heap.size ≤ g) ∧ NewMach w (w4.setCell ⟨bw, 0, none⟩ (.slice (some ⟨g1, 0, none⟩) (ps.length + 1) cap1)) p a c ∧ RefRep own' id (w4.setCell ⟨bw, 0, none⟩ (.slice (some ⟨g1, 0, none⟩) (ps.length + 1) cap1)) r (RSt.fresh a b c) c vR vB vS vA vK bs ∧
        (∃ B, NewMachB w (w4.setCell ⟨bw, 0, none⟩ (.slice (some ⟨g1, 0, none⟩) (ps.length + 1) cap1)) B p a c ∧ ∀ k, w.heap.size ≤ k → k < B → (own' k).1 ≠ id ∧ k ≠ g) ∧ (vP.ownBlock = some g ∨ (own' g).1 ≠ id) := by
  subst Hv
  have hs2 := hbw2.size
  have hs3 := hb3.size
  have hs4 := hgrow.size
  simp at hs4
  have hW : ∀ k, k < w3.heap.size → k ≠ bw → vP.ownBlock ≠ some k → (w4.setCell ⟨bw, 0, none⟩ (.slice (some ⟨g1, 0, none⟩) (ps.length + 1) cap1)).heap[k]? = w3.heap[k]? := by
    intro k hk h1 h2
    rw [Below.heap_setCell _ _ _ _ (by simpa using h1), hgrow.block k (by simp; omega) (fun e => h2 e.symm), Below.heap_alloc _ _ _ hk]
  have hq : ∀ x, x < w3.heap.size → (fun b => if b < w3.heap.size then own3 b else (id + 1, 0)) x = own3 x := fun x hx => if_pos hx
  refine ⟨fun b => if b < w3.heap.size then own3 b else (id + 1, 0), g1, cap1, p, r, vR, vB, vS, vA, vK, bs, fun x hx => (hq x (by omega)).trans ((hag x (by omega)).trans (hag2 x hx)), ?_, hw4.set 0 _, ?_, ?_, ?_, ?_, ⟨_, hnm2.bound (fun k h1 h2 => (hW k (by omega) (by omega) (fun e => by have := hPlt k e; omega)).trans (hb3.block k h2)), fun k h1 h2 => ⟨?_, ?_⟩⟩, ?_⟩
  · exact (((((Touch.of_below hbw2 _).trans (Touch.of_below (hb3.mono (by omega)) _)).alloc (by omega) _).grown hgrow (by simp; omega) (fun k hk => .inl (.inr hk))).setCell (.inl (.inl rfl)) _)
  · have : Row w4 (.slice (some ⟨g1, 0, none⟩) (ps.length + 1) cap1) 71 2 (ps.length + 1) ((ps ++ [(p, r)]).flatMap pairCells) := by
      rw [List.flatMap_append]; simp only [List.flatMap_cons, List.flatMap_nil, List.append_nil]; exact hown
    refine this.other _ (fun e => ?_)
    simp [Value.ownBlock] at e
    rcases hat with h | h
    · exact hne (by rw [h, e])
    · omega
  · rcases hat with h | h
    · exact .inl h
    · exact .inr (by omega)
  · exact hnm2.of fun k h1 h2 => (hW k (by omega) (by omega) (fun e => by have := hPlt k e; omega)).trans (hb3.block k h2)
  · refine hrep.of hq fun x hx ht => hW x hx (fun e => ?_) (fun e => ?_)
    · subst e
      rw [hag x (by omega)] at ht; exact hid2 x (by omega) ht
    · have := hPlt x e
      rw [hag x (by omega)] at ht; exact hid2 x (by omega) ht
  · rw [hq k (by omega), hag k h2]; exact hid2 k h2
  · intro e
    rcases hat with h | h
    · have := hPlt _ h; omega
    · omega
  · rcases hat with h | h
    · exact .inl h
    · right
      simp only [if_neg (show ¬ g1 < w3.heap.size by omega)]
      omega

set_option maxHeartbeats 4000000 in
set_option maxRecDepth 100000 in
theorem wbegin_yes (own : Nat → Nat × Nat) (id bw : Nat) (vP vH : Value) (ps : List (Nat × Nat)) (K M : Int) (a b c : Nat) (D : Int) (F : Bool) (w : World) (h : mayB a b c = true)
    (ha : a ≤ 16) (hb : b ≤ 8) (hc : c ≤ 4) (hc1 : 1 ≤ c) (hid : ∀ b, b < w.heap.size → (own b).1 ≠ id)
    (hw : Blk w bw [vP, vH] 47) (hP : Row w vP 71 2 ps.length (ps.flatMap pairCells)) (hn : (ps.length + 1) * 16 ≤ 140737488355328) (hne : vP.ownBlock ≠ some bw) :
    Calls Try.prog 13 #[.pointer (some ⟨bw, 0, none⟩), .agg #[.int .i64 K, .int .i64 M, .int .i64 a, .int .i64 b, .int .i64 c, .int .i64 D, .bool F]] w fun e w' => e = .returned (.bool true) ∧
      ∃ (own' : Nat → Nat × Nat) (g cap p r : Nat) (vR vB vS vA vK : Value) (bs : List Nat), (∀ b, b < w.heap.size → own' b = own b) ∧ Touch w.heap.size (fun x => x = bw ∨ vP.ownBlock = some x) w w' ∧
        Blk w' bw [.slice (some ⟨g, 0, none⟩) (ps.length + 1) cap, vH] 47 ∧ Row w' (.slice (some ⟨g, 0, none⟩) (ps.length + 1) cap) 71 2 (ps.length + 1) ((ps ++ [(p, r)]).flatMap pairCells) ∧
        (vP.ownBlock = some g ∨ w.heap.size ≤ g) ∧ NewMach w w' p a c ∧ RefRep own' id w' r (RSt.fresh a b c) c vR vB vS vA vK bs ∧
        (∃ B, NewMachB w w' B p a c ∧ ∀ k, w.heap.size ≤ k → k < B → (own' k).1 ≠ id ∧ k ≠ g) ∧ (vP.ownBlock = some g ∨ (own' g).1 ≠ id) := by
  obtain ⟨i0, hi, hz0, hz1, hz2⟩ := info_parts Try.infoPair
  obtain ⟨ao, cap, g, hv, hao, _, _, hmx⟩ := hP.view
  have k0 := hw.cell 0
  have k1 := hw.frozen 0
  simp at k0
  rw [hv] at k0
  have hwlt := hw.lt
  have Hv : Hid (vP = .slice ao ps.length cap) := hv
  clear hv hao
  go_enter Try.func13, Try.ntmps13
  go_wp2_with fail
  refine (new_yes _ _ _ _ h ha hc hc1).mono ?_
  rintro e w1 ⟨p, rfl, hb1, hnm⟩
  have hbox := ((Blk.at (w.alloc (.cells #[.int .i64 K, .int .i64 M, .int .i64 a, .int .i64 b, .int .i64 c, .int .i64 D, .bool F] 50)) [.int .i64 a, .int .i64 b, .int .i64 c] 31 (w.heap.size + 1) (by simp))).below hb1 (by simp)
  have hbw1 : Below w.heap.size w w1 := (((Below.refl _ _).alloc (Nat.le_refl _) _).alloc (by simp) _).trans (hb1.mono (by simp; omega))
  have q0 := hbox.cell 0
  have q1 := hbox.cell 1
  have q2 := hbox.cell 2
  simp at q0 q1 q2
  go_wp2_with fail
  refine (may_any _ _ _ _).mono ?_
  rintro e w2 ⟨rfl, hb2⟩
  rw [h]
  have hbox2 := hbox.below hb2 hbox.lt
  have hs12 := hb2.size
  have hs1 := hb1.size
  simp at hs1
  have hbw2 : Below w.heap.size w w2 := hbw1.trans (hb2.mono (by omega))
  have j0 := (hw.below hbw2 hwlt).cell 0
  have j1 := (hw.below hbw2 hwlt).frozen 0
  simp at j0
  rw [Hv.out] at j0
  have s0 := hbox2.cell 0
  have s1 := hbox2.cell 1
  have s2 := hbox2.cell 2
  simp at s0 s1 s2
  clear q0 q1 q2 k0 k1
  obtain ⟨own2, hid2, hag2⟩ : ∃ own2 : Nat → Nat × Nat, (∀ x, x < w2.heap.size → (own2 x).1 ≠ id) ∧ ∀ x, x < w.heap.size → own2 x = own x := by
    refine ⟨fun x => if x < w.heap.size then own x else (id + 1, 0), fun x _ => ?_, fun x hx => by simp [hx]⟩
    by_cases hx : x < w.heap.size
    · simpa [hx] using hid x hx
    · simp [hx]
  have hP2 : Row w2 (.slice ao ps.length cap) 71 2 ps.length (ps.flatMap pairCells) := by rw [← Hv.out]; exact hP.of fun b hbb => hbw2.block b (hP.lt b hbb)
  have hne2 : (Value.slice ao ps.length cap).ownBlock ≠ some bw := by rw [← Hv.out]; exact hne
  have hw2 := hw.below hbw2 hwlt
  have hz22 : w.heap.size + 2 ≤ w2.heap.size := by omega
  have hl2 : bw < w2.heap.size := by omega
  have hne3 : (Value.slice ao ps.length cap).ownBlock ≠ some (w.heap.size + 1) := by rw [← Hv.out]; intro e; have := hP.lt _ e; omega
  have hPlt := hP.lt
  have hnm2 : NewMach w w2 p a c := by
    obtain ⟨e, f, h1, h2, h3, h4, h5, h6, h7, h8, h9⟩ := hnm
    simp at h7 h8 h9
    exact ⟨e, f, h1.below hb2 h1.lt, h2.below hb2 h2.lt, h3.below hb2 h3.lt, h4, h5, h6, by omega, by omega, by omega⟩
  clear hb1 hb2 hbox hbw1 hs12 hs1 hP hw hid hnm
  go_wp2_with fail
  go_region_law
    ((first
      | (refine step_call (by rfl) 26 (.tmp 43) 31 (by rfl) Try.func26 Try.nameBegin (by rfl) (.agg #[.int .i64 a, .int .i64 b, .int .i64 c]) (by rfl) ?_; refine (begin_any own2 id a b c _ ha hb hc ?_).mono ?_; exact hid2; rintro e w3 ⟨own3, r, vR, vB, vS, vA, vK, bs, rfl, hb3, hrep, hag⟩
         have t0 : w3.cell? ⟨bw, 0, none⟩ = some (.slice ao ps.length cap) := (hb3.cell (p := ⟨bw, 0, none⟩) hl2).trans j0
         have t1 : w3.cell? ⟨w.heap.size + 1, 0, none⟩ = some (.int .i64 a) := (hb3.cell (p := ⟨w.heap.size + 1, 0, none⟩) (by simp; omega)).trans s0
         have t2 : w3.cell? ⟨w.heap.size + 1, 1, none⟩ = some (.int .i64 b) := (hb3.cell (p := ⟨w.heap.size + 1, 1, none⟩) (by simp; omega)).trans s1
         have t3 : w3.cell? ⟨w.heap.size + 1, 2, none⟩ = some (.int .i64 c) := (hb3.cell (p := ⟨w.heap.size + 1, 2, none⟩) (by simp; omega)).trans s2
         have hP3 := (hP2.drew.below hb3).alloc (.cells (pairCells (p, r)).toArray 71)
         have hsz3 : w2.heap.size ≤ w3.heap.size := hb3.size
         have hw3 := hw2.drew.below hb3 hl2
         have hl3 : bw < w3.heap.size := by omega
         have hx3 := hbox2.drew.below hb3 hbox2.lt)
      | (refine step_append_lies _ (by rfl) (.tmp 41) (.tmp 46) 44 (by rfl) 0 71 i0 _ 2 16 Try.underlying44 hi hz0 hz1 hz2 rfl (by decide) (.slice ao ps.length cap) ps.length _ (by rfl) hP3 ⟨w3.heap.size, 0, none⟩ 1 1 (pairCells (p, r)) (by rfl) rfl (World.news_of_block (Blk.new w3 (pairCells (p, r)) _)) (oneCell_pair _) (by omega) (by unfold maxLen; omega) hn (by omega) (w3.heap.size + 1) (by simp) ?_
         intro g1 cap1 w4 hown hgrow hat hlt
         have hw4 := (hw3.alloc (.cells (pairCells (p, r)).toArray 71)).grown hgrow hne2
         have u0 := hw4.cell 0
         have u1 := hw4.frozen 0
         simp at u0
         rw [Hv.out] at u0
         have hx4 := (hx3.alloc (.cells (pairCells (p, r)).toArray 71)).grown hgrow hne3
         have u2 := hx4.cell 0
         have u3 := hx4.cell 1
         have u4 := hx4.cell 2
         simp at u2 u3 u4)))
  all_goals
    go_wp2
    go_ret
  all_goals exact ⟨rfl, wbegin_end (w2 := w2.drew) hbw2.drew hb3 hrep hag hag2 hid2 hwlt hPlt Hv.out hown hgrow hat hw4 hnm2 hne⟩
end Go.Proofs.Ytkonobbhohfjlaa
