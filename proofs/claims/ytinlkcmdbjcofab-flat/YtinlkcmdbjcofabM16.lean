import Derived.Test.YtinlkcmdbjcofabM15
namespace Go.Proofs.Ytinlkcmdbjcofab
open Go.RowKit
set_option linter.unusedVariables false
attribute [local go_sem ↓] Go.wp_at_zero Go.wp_at_succ

/-- Which machine a call is for. -/
def mach (M : Int) (n : Nat) : Nat := (((M.tmod n) + n).tmod n).toNat

theorem mach_lt (M : Int) (n : Nat) (h : 0 < n) : mach M n < n := by
  unfold mach
  have h1 := Int.tmod_lt_of_pos (M.tmod n + n) (show (0 : Int) < n by omega)
  have h2 := Int.lt_tmod_of_pos M (show (0 : Int) < n by omega)
  have h3 := Int.tmod_nonneg (n : Int) (show 0 ≤ M.tmod n + n by omega)
  omega

theorem mach_val (M : Int) (n : Nat) (h : 0 < n) : (((M.tmod n) + n).tmod n) = (mach M n : Int) := by
  unfold mach
  have h2 := Int.lt_tmod_of_pos M (show (0 : Int) < n by omega)
  have h3 := Int.tmod_nonneg (n : Int) (show 0 ≤ M.tmod n + n by omega)
  omega

end Go.Proofs.Ytinlkcmdbjcofab

namespace Go.Proofs.Ytinlkcmdbjcofab
open Go.RowKit
set_option linter.unusedVariables false
attribute [local go_sem ↓] Go.wp_at_zero Go.wp_at_succ

/-- A new machine: f says which blocks are its own. -/
def NewF (M : MT) (w w' : World) (p : Nat) (f : Nat → Option Nat) (s : RSt) : Prop :=
  (∀ b j, f b = some j → w.heap.size ≤ b ∧ b < w'.heap.size) ∧ ∀ (own : Nat → Nat × Nat) (id : Nat), (∀ b j, f b = some j → own b = (id, j)) → M own id w' p s
theorem NewF.of {M : MT} (P : Api M) {w w2 W : World} {p : Nat} {f : Nat → Option Nat} {s : RSt} (h : NewF M w w2 p f s) (hk : ∀ k, w.heap.size ≤ k → k < w2.heap.size → W.heap[k]? = w2.heap[k]?) (hs : w2.heap.size ≤ W.heap.size) : NewF M w W p f s := by
  refine ⟨fun b j hb => ⟨(h.1 b j hb).1, Nat.lt_of_lt_of_le (h.1 b j hb).2 hs⟩, fun own id ho => ?_⟩
  obtain ⟨own0, h0⟩ : ∃ own0 : Nat → Nat × Nat, own0 = fun b => match f b with | some j => (id, j) | none => (id + 1, 0) := ⟨_, rfl⟩
  have h1 : ∀ b j, f b = some j → own0 b = (id, j) := fun b j hb => by rw [h0]; simp only [hb]
  have h2 : ∀ b, (own0 b).1 = id → ∃ j, f b = some j := fun b hb => by
    rw [h0] at hb
    cases hf : f b with
    | none => simp only [hf] at hb; omega
    | some j => exact ⟨j, rfl⟩
  have m1 := h.2 own0 id h1
  have m2 := P.of (own' := own0) (w' := W) m1 (fun _ _ => rfl) (fun b hb ht => by
    obtain ⟨j, hj⟩ := h2 b ht
    exact hk b (h.1 b j hj).1 hb)
  exact P.retag m2 (fun b _ ht => by
    obtain ⟨j, hj⟩ := h2 b ht
    rw [ho b j hj, h1 b j hj])
theorem NewF.low {M : MT} {w0 w W : World} {p : Nat} {f : Nat → Option Nat} {s : RSt} (h : NewF M w W p f s) (hl : w0.heap.size ≤ w.heap.size) : NewF M w0 W p f s :=
  ⟨fun b j hb => ⟨Nat.le_trans hl (h.1 b j hb).1, (h.1 b j hb).2⟩, h.2⟩

end Go.Proofs.Ytinlkcmdbjcofab

/-
  A machine of the program, alone, beside what a law keeps in memory: its calls.
-/
namespace Go.Proofs.Ytinlkcmdbjcofab
open Go.RowKit
set_option linter.unusedVariables false

section
variable {s : RSt}
theorem HInv.same_rights {t : RSt} (h : HInv s) (h1 : t.rights = s.rights) (h2 : t.alive = s.alive) (h3 : t.ne = s.ne) (h4 : t.kept = s.kept) : HInv t := by
  have ha : ∀ e, aliveB t e = aliveB s e := fun e => by unfold aliveB; rw [h2, h3]
  refine ⟨⟨?_, ?_, ?_⟩, h.nok.of h4⟩
  · rw [h1]; exact h.one
  · rw [h1]; exact h.same
  · rw [h1]; intro i r hr hl; rw [ha]; exact h.alv i r hr hl
theorem HInv.map (h : HInv s) (env page hd : Int) (wt : Bool) (slot : Int) : HInv (mapR s env page hd wt slot).2 := by
  unfold mapR
  repeat' split
  all_goals first | exact h | exact h.same_rights rfl rfl rfl rfl
theorem HInv.unmap (h : HInv s) (env page : Int) : HInv (unmapR s env page).2 := by
  unfold unmapR
  repeat' split
  all_goals first | exact h | exact h.same_rights rfl rfl rfl rfl
theorem HInv.store (h : HInv s) (env page a v : Int) : HInv (storeR s env page a v).2 := by
  unfold storeR
  repeat' split
  all_goals first | exact h | exact h.same_rights rfl rfl rfl rfl
end

/-- The machine at m stands for s; its blocks bear 2; what came in bears nothing, nor what is still to be made. -/
structure St (M : MT) (w0 : World) (m i : Nat) (own : Nat → Nat × Nat) (s : RSt) (w : World) : Prop where
  rep : M own 2 w m s
  hok : SOk s
  hinv : HInv s
  len : s.rights.length ≤ i
  bot : ∀ x, x < w0.heap.size → (own x).1 = 0
  top : ∀ x, w.heap.size ≤ x → (own x).1 = 0
  bel : Below w0.heap.size w0 w
def StN (M : MT) (w0 : World) (m i : Nat) (own : Nat → Nat × Nat) (s : RSt) (w w' : World) : Prop :=
  ∃ own' : Nat → Nat × Nat, St M w0 m i own' s w' ∧ (∀ b, b < w.heap.size → own' b = own b) ∧ (∀ b, b < w.heap.size → (own b).1 ≠ 2 → w'.heap[b]? = w.heap[b]?) ∧ w.heap.size ≤ w'.heap.size

section
variable {M : MT} {w0 w w' : World} {m i : Nat} {own : Nat → Nat × Nat} {s s' : RSt}
theorem St.mono (h : St M w0 m i own s w) : St M w0 m (i + 1) own s w := ⟨h.rep, h.hok, h.hinv, by have := h.len; omega, h.bot, h.top, h.bel⟩
theorem St.below (P : Api M) (h : St M w0 m i own s w) (hb : Below w.heap.size w w') : St M w0 m i own s w' :=
  ⟨P.below h.rep hb, h.hok, h.hinv, h.len, h.bot, fun x hx => h.top x (Nat.le_trans hb.size hx), h.bel.trans (hb.mono h.bel.size)⟩
theorem St.next (P : Api M) (h : St M w0 m i own s w) {j : Nat} (hn : MNext M own 2 w m w' s') (hs : SOk s') (hH : HInv s') (hl : s'.rights.length ≤ j) : StN M w0 m j own s' w w' := by
  obtain ⟨own1, h1, h2, h3⟩ := hn
  have hsz := h3.size
  obtain ⟨own', e1, e2, e3⟩ : ∃ own' : Nat → Nat × Nat, (∀ b, b < w.heap.size → own' b = own b) ∧ (∀ b, w'.heap.size ≤ b → (own' b).1 = 0) ∧ ∀ b, b < w'.heap.size → (own1 b).1 = 2 → own' b = own1 b := by
    refine ⟨fun b => if b < w.heap.size then own b else if b < w'.heap.size then own1 b else (0, 0), fun b hb => if_pos hb, fun b hb => ?_, fun b hb ht => ?_⟩
    · simp only [if_neg (show ¬ b < w.heap.size by omega), if_neg (show ¬ b < w'.heap.size by omega)]
    · by_cases hl : b < w.heap.size
      · simp only [if_pos hl]; exact (h2 b hl).symm
      · simp only [if_neg hl, if_pos hb]
  have hb0 := h.bel.size
  refine ⟨own', ⟨P.retag h1 e3, hs, hH, hl, fun x hx => ?_, e2, h.bel.trans ?_⟩, e1, fun b hb hne => h3.block b hb hne, hsz⟩
  · rw [e1 x (by omega)]; exact h.bot x hx
  · exact (h3.mono (B' := w0.heap.size) (S' := fun _ => False) hb0 (fun k hk e => by have := h.bot k hk; omega)).below (by simp)
theorem StN.after {w1 : World} (hb : Below w.heap.size w w1) (h : StN M w0 m i own s w1 w') : StN M w0 m i own s w w' := by
  obtain ⟨own', h1, h2, h3, h4⟩ := h
  have := hb.size
  exact ⟨own', h1, fun b hl => h2 b (by omega), fun b hl ht => (h3 b (by omega) ht).trans (hb.block b hl), by omega⟩
theorem StN.of_below (P : Api M) (h : St M w0 m i own s w) (hb : Below w.heap.size w w') : StN M w0 m i own s w w' := ⟨own, h.below P hb, fun _ _ => rfl, fun b hl _ => hb.block b hl, hb.size⟩
theorem St.few (h : St M w0 m i own s w) (hi : (i + 2) * 48 ≤ 140737488355328) : Few s := by have := h.len; unfold Few; omega
/-- What bears no 2 is as it was. -/
theorem StN.blk {b : Nat} {cs : List Value} {t : TypeId} (h : StN M w0 m i own s w w') (hk : Blk w b cs t) (hne : (own b).1 ≠ 2) : Blk w' b cs t := by
  obtain ⟨_, _, _, h3, _⟩ := h
  exact hk.of (h3 b hk.lt hne)

theorem St.rights (P : Api M) (h : St M w0 m i own s w) (hi : (i + 2) * 48 ≤ 140737488355328) (env : Int) (i1 : I64 env) :
    Calls Try.prog 53 #[.pointer (some ⟨m, 0, none⟩), .int .i64 env] w fun e w' => ∃ v, e = .returned (.tuple #[v, .int .i64 (liveE s env)]) ∧ Below w.heap.size w w' ∧ (∀ x, v.ownBlock = some x → w.heap.size ≤ x) ∧
      Row w' v 64 4 (toldR s env).length ((toldR s env).flatMap rcells) := P.rights h.rep h.hok (h.few hi) env i1
theorem St.table (P : Api M) (h : St M w0 m i own s w) (hi : (i + 2) * 48 ≤ 140737488355328) :
    Calls Try.prog 81 #[.pointer (some ⟨m, 0, none⟩)] w fun e w' => ∃ v, e = .returned v ∧ Below w.heap.size w w' ∧ (∀ x, v.ownBlock = some x → w.heap.size ≤ x) ∧ Row w' v 80 5 s.slots.length (s.slots.flatMap Ent.cells) := P.table h.rep h.hok (h.few hi)
theorem St.load (P : Api M) (h : St M w0 m i own s w) (hi : (i + 2) * 48 ≤ 140737488355328) (env page a : Int) (i1 : I64 env) (i2 : I64 page) (i3 : I64 a) :
    Calls Try.prog 17 #[.pointer (some ⟨m, 0, none⟩), .int .i64 env, .int .i64 page, .int .i64 a] w fun e w' => e = .returned (.tuple #[.int .i64 (loadR s env page a).1, .int .i64 (loadR s env page a).2]) ∧ StN M w0 m i own s w w' := by
  refine (P.load h.rep h.hok (h.few hi) env page a i1 i2 i3).mono ?_
  rintro e w' ⟨rfl, hn⟩
  exact ⟨rfl, h.next P hn h.hok h.hinv h.len⟩
theorem St.alloc (P : Api M) (h : St M w0 m i own s w) (hi : (i + 2) * 48 ≤ 140737488355328) (env : Int) (i1 : I64 env) :
    Calls Try.prog 13 #[.pointer (some ⟨m, 0, none⟩), .int .i64 env] w fun e w' => e = .returned (.tuple #[.int .i64 (allocR s env).1.1, .int .i64 (allocR s env).1.2]) ∧ StN M w0 m (i + 1) own (allocR s env).2 w w' := by
  refine (P.alloc h.rep h.hok (h.few hi) env i1).mono ?_
  rintro e w' ⟨rfl, hn⟩
  exact ⟨rfl, h.next P hn (h.hok.alloc env) (h.hinv.alloc h.hok.inv env) (by have := (allocR_grows (s := s) env).2.2.2.2.2; have := h.len; omega)⟩
theorem St.derive (P : Api M) (h : St M w0 m i own s w) (hi : (i + 2) * 48 ≤ 140737488355328) (env : Int) (hd : Int) (te : Int) (wt : Bool) (i1 : I64 env) (i2 : I64 hd) (i3 : I64 te) :
    Calls Try.prog 19 #[.pointer (some ⟨m, 0, none⟩), .int .i64 env, .int .i64 hd, .int .i64 te, .bool wt] w fun e w' => e = .returned (.tuple #[.int .i64 (deriveR s env hd te wt).1.1, .int .i64 (deriveR s env hd te wt).1.2]) ∧ StN M w0 m (i + 1) own (deriveR s env hd te wt).2 w w' := by
  refine (P.derive h.rep h.hok (h.few hi) env hd te wt i1 i2 i3).mono ?_
  rintro e w' ⟨rfl, hn⟩
  exact ⟨rfl, h.next P hn (h.hok.derive env hd te wt) (h.hinv.derive h.hok.inv env hd te wt) (by have := (deriveR_grows (s := s) env hd te wt).2.2.2.2.2; have := h.len; omega)⟩
theorem St.revoke (P : Api M) (h : St M w0 m i own s w) (hi : (i + 2) * 48 ≤ 140737488355328) (env : Int) (hd : Int) (i1 : I64 env) (i2 : I64 hd) :
    Calls Try.prog 20 #[.pointer (some ⟨m, 0, none⟩), .int .i64 env, .int .i64 hd] w fun e w' => e = .returned (.int .i64 (revokeR s env hd).1) ∧ StN M w0 m (i + 1) own (revokeR s env hd).2 w w' := by
  refine (P.revoke h.rep h.hok (h.few hi) env hd i1 i2).mono ?_
  rintro e w' ⟨rfl, hn⟩
  exact ⟨rfl, h.next P hn (h.hok.revoke env hd) (h.hinv.revoke h.hok.inv env hd) (by have := (revokeR_grows (s := s) env hd).2.2.2.2.2; have := h.len; omega)⟩
theorem St.drop (P : Api M) (h : St M w0 m i own s w) (hi : (i + 2) * 48 ≤ 140737488355328) (env : Int) (hd : Int) (i1 : I64 env) (i2 : I64 hd) :
    Calls Try.prog 61 #[.pointer (some ⟨m, 0, none⟩), .int .i64 env, .int .i64 hd] w fun e w' => e = .returned (.int .i64 (dropR s env hd).1) ∧ StN M w0 m (i + 1) own (dropR s env hd).2 w w' := by
  refine (P.drop h.rep h.hok (h.few hi) env hd i1 i2).mono ?_
  rintro e w' ⟨rfl, hn⟩
  exact ⟨rfl, h.next P hn (h.hok.drop env hd) (h.hinv.drop h.hok.inv env hd) (by have := (dropR_grows (s := s) env hd).2.2.2.2.2; have := h.len; omega)⟩
theorem St.kill (P : Api M) (h : St M w0 m i own s w) (hi : (i + 2) * 48 ≤ 140737488355328) (env : Int) (i1 : I64 env) :
    Calls Try.prog 63 #[.pointer (some ⟨m, 0, none⟩), .int .i64 env] w fun e w' => e = .returned (.int .i64 (killR s env).1) ∧ StN M w0 m (i + 1) own (killR s env).2 w w' := by
  refine (P.kill h.rep h.hok (h.few hi) env i1).mono ?_
  rintro e w' ⟨rfl, hn⟩
  exact ⟨rfl, h.next P hn (h.hok.kill env) (h.hinv.kill h.hok.inv env) (by have := (killR_grows (s := s) env).2.2.2.2.2; have := h.len; omega)⟩
theorem St.spawn (P : Api M) (h : St M w0 m i own s w) (hi : (i + 2) * 48 ≤ 140737488355328) (env : Int) (i1 : I64 env) :
    Calls Try.prog 64 #[.pointer (some ⟨m, 0, none⟩), .int .i64 env] w fun e w' => e = .returned (.int .i64 (spawnR s env).1) ∧ StN M w0 m (i + 1) own (spawnR s env).2 w w' := by
  refine (P.spawn h.rep h.hok (h.few hi) env i1).mono ?_
  rintro e w' ⟨rfl, hn⟩
  exact ⟨rfl, h.next P hn (h.hok.spawn env) (h.hinv.spawn env) (by have := (spawnR_grows (s := s) env).2.2.2.2.2; have := h.len; omega)⟩
theorem St.map (P : Api M) (h : St M w0 m i own s w) (hi : (i + 2) * 48 ≤ 140737488355328) (env : Int) (page : Int) (hd : Int) (wt : Bool) (slot : Int) (i1 : I64 env) (i2 : I64 page) (i3 : I64 hd) (i4 : I64 slot) :
    Calls Try.prog 16 #[.pointer (some ⟨m, 0, none⟩), .int .i64 env, .int .i64 page, .int .i64 hd, .bool wt, .int .i64 slot] w fun e w' => e = .returned (.int .i64 (mapR s env page hd wt slot).1) ∧ StN M w0 m (i + 1) own (mapR s env page hd wt slot).2 w w' := by
  refine (P.map h.rep h.hok (h.few hi) env page hd wt slot i1 i2 i3 i4).mono ?_
  rintro e w' ⟨rfl, hn⟩
  exact ⟨rfl, h.next P hn (h.hok.map env page hd wt slot) (h.hinv.map env page hd wt slot) (by have := (mapR_grows (s := s) env page hd wt slot).2.2.2.2.2; have := h.len; omega)⟩
theorem St.unmap (P : Api M) (h : St M w0 m i own s w) (hi : (i + 2) * 48 ≤ 140737488355328) (env : Int) (page : Int) (i1 : I64 env) (i2 : I64 page) :
    Calls Try.prog 31 #[.pointer (some ⟨m, 0, none⟩), .int .i64 env, .int .i64 page] w fun e w' => e = .returned (.int .i64 (unmapR s env page).1) ∧ StN M w0 m (i + 1) own (unmapR s env page).2 w w' := by
  refine (P.unmap h.rep h.hok (h.few hi) env page i1 i2).mono ?_
  rintro e w' ⟨rfl, hn⟩
  exact ⟨rfl, h.next P hn (h.hok.unmap env page) (h.hinv.unmap env page) (by have := (unmapR_grows (s := s) env page).2.2.2.2.2; have := h.len; omega)⟩
theorem St.store (P : Api M) (h : St M w0 m i own s w) (hi : (i + 2) * 48 ≤ 140737488355328) (env : Int) (page : Int) (a : Int) (v : Int) (i1 : I64 env) (i2 : I64 page) (i3 : I64 a) (i4 : I64 v) :
    Calls Try.prog 18 #[.pointer (some ⟨m, 0, none⟩), .int .i64 env, .int .i64 page, .int .i64 a, .int .i64 v] w fun e w' => e = .returned (.int .i64 (storeR s env page a v).1) ∧ StN M w0 m (i + 1) own (storeR s env page a v).2 w w' := by
  refine (P.store h.rep h.hok (h.few hi) env page a v i1 i2 i3 i4).mono ?_
  rintro e w' ⟨rfl, hn⟩
  exact ⟨rfl, h.next P hn (h.hok.store env page a v) (h.hinv.store env page a v) (by have := (storeR_grows (s := s) env page a v).2.2.2.2.2; have := h.len; omega)⟩
end
end Go.Proofs.Ytinlkcmdbjcofab

/-
  'built': the machine that a statement begins with.
-/
namespace Go.Proofs.Ytinlkcmdbjcofab
open Go.RowKit
set_option linter.unusedVariables false
attribute [local go_sem ↓] Go.wp_at_zero Go.wp_at_succ

theorem cf_may (x y z : Int) : mayB (cfA x) (cfB y) (cfC z) = true := by
  have h1 := pk_lt x (show 0 < 16 by omega)
  have h2 := pk_lt y (show 0 < 8 by omega)
  have h3 := pk_lt z (show 0 < 3 by omega)
  unfold mayB cfA cfB cfC
  simp
  omega
theorem cfA_le (x : Int) : cfA x ≤ 16 := by have := pk_lt x (show 0 < 16 by omega); unfold cfA; omega
theorem cfB_le (x : Int) : cfB x ≤ 8 := by have := pk_lt x (show 0 < 8 by omega); unfold cfB; omega
theorem cfC_le (x : Int) : cfC x ≤ 4 := by have := pk_lt x (show 0 < 3 by omega); unfold cfC; omega
theorem cfC_ge (x : Int) : 1 ≤ cfC x := by unfold cfC; omega

set_option maxHeartbeats 1000000 in
set_option maxRecDepth 100000 in
theorem built_any {M : MT} (P : Api M) (x y z : Int) (hx0 : -9223372036854775808 ≤ x) (hx1 : x ≤ 9223372036854775807) (hy0 : -9223372036854775808 ≤ y) (hy1 : y ≤ 9223372036854775807) (hz0 : -9223372036854775808 ≤ z) (hz1 : z ≤ 9223372036854775807) (w : World) :
    Calls Try.prog 9 #[.agg #[.int .i64 x, .int .i64 y, .int .i64 z]] w fun e w' => ∃ (m : Nat) (f : Nat → Option Nat), e = .returned (.pointer (some ⟨m, 0, none⟩)) ∧ Below w.heap.size w w' ∧ NewF M w w' m f (RSt.fresh (cfA x) (cfB y) (cfC z)) := by
  go_enter Try.func9, Try.ntmps9
  go_wp2_with fail
  refine (config_any x y z hx0 hx1 hy0 hy1 hz0 hz1 _).mono ?_
  rintro e w1 ⟨rfl, hb1⟩
  go_wp2_with fail
  refine (P.new_yes (cfA x) (cfB y) (cfC z) _ (cf_may x y z)).mono ?_
  rintro e w2 ⟨m, f, rfl, hb2, hm⟩
  go_wp2_with fail
  refine (P.new_no 1 1 0 _ (by decide)).mono ?_
  rintro e w3 ⟨rfl, hb3⟩
  go_wp2_with fail
  go_ret
  have s1 := hb1.size
  have s2 := hb2.size
  simp at s1
  refine ⟨m, f, rfl, ?_, NewF.low (NewF.of P hm (fun k _ h2 => hb3.block k h2) hb3.size) (by omega)⟩
  exact (((Below.refl _ _).alloc (Nat.le_refl _) _).trans (hb1.mono (by simp))).trans ((hb2.mono (by omega)).trans (hb3.mono (by omega)))

end Go.Proofs.Ytinlkcmdbjcofab

/-
  What environments do: one call, its answer not looked at.
-/
namespace Go.Proofs.Ytinlkcmdbjcofab
open Go.RowKit
set_option linter.unusedVariables false
attribute [local go_sem ↓] Go.wp_at_zero Go.wp_at_succ

/-- One call of an environment from lo to hi - 1. -/
def Ns (lo hi : Nat) (s t : RSt) : Prop :=
  t = s ∨ ∃ env : Nat, lo ≤ env ∧ env < hi ∧ (t = (allocR s env).2 ∨ (∃ (hd te : Int) (wt : Bool), t = (deriveR s env hd te wt).2) ∨ (∃ hd : Int, t = (revokeR s env hd).2) ∨
    (∃ hd : Int, t = (dropR s env hd).2) ∨ t = (killR s env).2 ∨ t = (spawnR s env).2 ∨ (∃ (page hd : Int) (wt : Bool) (slot : Int), t = (mapR s env page hd wt slot).2) ∨
    (∃ page : Int, t = (unmapR s env page).2) ∨ ∃ page a v : Int, t = (storeR s env page a v).2)

section
variable {lo hi : Nat} {s : RSt}
theorem Ns.same : Ns lo hi s s := .inl rfl
theorem Ns.alloc (env : Nat) (h1 : lo ≤ env) (h2 : env < hi) : Ns lo hi s (allocR s env).2 := .inr ⟨env, h1, h2, .inl rfl⟩
theorem Ns.derive (env : Nat) (h1 : lo ≤ env) (h2 : env < hi) (hd te : Int) (wt : Bool) : Ns lo hi s (deriveR s env hd te wt).2 := .inr ⟨env, h1, h2, .inr (.inl ⟨hd, te, wt, rfl⟩)⟩
theorem Ns.revoke (env : Nat) (h1 : lo ≤ env) (h2 : env < hi) (hd : Int) : Ns lo hi s (revokeR s env hd).2 := .inr ⟨env, h1, h2, .inr (.inr (.inl ⟨hd, rfl⟩))⟩
theorem Ns.drop (env : Nat) (h1 : lo ≤ env) (h2 : env < hi) (hd : Int) : Ns lo hi s (dropR s env hd).2 := .inr ⟨env, h1, h2, .inr (.inr (.inr (.inl ⟨hd, rfl⟩)))⟩
theorem Ns.kill (env : Nat) (h1 : lo ≤ env) (h2 : env < hi) : Ns lo hi s (killR s env).2 := .inr ⟨env, h1, h2, .inr (.inr (.inr (.inr (.inl rfl))))⟩
theorem Ns.spawn (env : Nat) (h1 : lo ≤ env) (h2 : env < hi) : Ns lo hi s (spawnR s env).2 := .inr ⟨env, h1, h2, .inr (.inr (.inr (.inr (.inr (.inl rfl)))))⟩
theorem Ns.map (env : Nat) (h1 : lo ≤ env) (h2 : env < hi) (page hd : Int) (wt : Bool) (slot : Int) : Ns lo hi s (mapR s env page hd wt slot).2 := .inr ⟨env, h1, h2, .inr (.inr (.inr (.inr (.inr (.inr (.inl ⟨page, hd, wt, slot, rfl⟩))))))⟩
theorem Ns.unmap (env : Nat) (h1 : lo ≤ env) (h2 : env < hi) (page : Int) : Ns lo hi s (unmapR s env page).2 := .inr ⟨env, h1, h2, .inr (.inr (.inr (.inr (.inr (.inr (.inr (.inl ⟨page, rfl⟩)))))))⟩
theorem Ns.store (env : Nat) (h1 : lo ≤ env) (h2 : env < hi) (page a v : Int) : Ns lo hi s (storeR s env page a v).2 := .inr ⟨env, h1, h2, .inr (.inr (.inr (.inr (.inr (.inr (.inr (.inr ⟨page, a, v, rfl⟩)))))))⟩
end

theorem Ns.low {lo lo' hi : Nat} {s t : RSt} (h : Ns lo hi s t) (hl : lo' ≤ lo) : Ns lo' hi s t := by
  rcases h with rfl | ⟨env, h1, h2, rfl | ⟨hd, te, wt, rfl⟩ | ⟨hd, rfl⟩ | ⟨hd, rfl⟩ | rfl | rfl | ⟨page, hd, wt, slot, rfl⟩ | ⟨page, rfl⟩ | ⟨page, a, v, rfl⟩⟩
  · exact .same
  · exact .alloc env (by omega) h2
  · exact .derive env (by omega) h2 hd te wt
  · exact .revoke env (by omega) h2 hd
  · exact .drop env (by omega) h2 hd
  · exact .kill env (by omega) h2
  · exact .spawn env (by omega) h2
  · exact .map env (by omega) h2 page hd wt slot
  · exact .unmap env (by omega) h2 page
  · exact .store env (by omega) h2 page a v
theorem Ns.grows {lo hi : Nat} {s t : RSt} (h : Ns lo hi s t) : Grows s t := by
  rcases h with rfl | ⟨env, h1, h2, rfl | ⟨hd, te, wt, rfl⟩ | ⟨hd, rfl⟩ | ⟨hd, rfl⟩ | rfl | rfl | ⟨page, hd, wt, slot, rfl⟩ | ⟨page, rfl⟩ | ⟨page, a, v, rfl⟩⟩
  · exact Grows.refl _
  · exact allocR_grows _
  · exact deriveR_grows _ _ _ _
  · exact revokeR_grows _ _
  · exact dropR_grows _ _
  · exact killR_grows _
  · exact spawnR_grows _
  · exact mapR_grows _ _ _ _ _
  · exact unmapR_grows _ _
  · exact storeR_grows _ _ _ _

def LStep.agg (o : LStep) : Value := .agg #[.int .i64 o.K, .int .i64 o.V, .int .i64 o.A, .int .i64 o.B, .int .i64 o.C, .bool o.F]
def LStep.i64 (o : LStep) : Prop := I64 o.V ∧ I64 o.A ∧ I64 o.B ∧ I64 o.C

set_option maxHeartbeats 1000000 in
theorem handle_any (c : Int) (hc0 : -9223372036854775808 ≤ c) (hc1 : c ≤ 9223372036854775807) (w : World) :
    Calls Try.prog 29 #[.int .i64 c] w fun e w' => ∃ k : Nat, (k : Int) < 64 ∧ e = .returned (.int .i64 k) ∧ w' = w := by
  go_enter Try.func29, Try.ntmps29
  go_wp2_with fail
  refine (pick_ex _ _ hc0 hc1 (by decide) (by decide) _).mono ?_
  rintro e w1 ⟨k, hk, rfl, rfl⟩
  go_wp2_with fail
  go_ret
  exact ⟨k, hk, rfl, rfl⟩

set_option maxHeartbeats 1000000 in
theorem page_any (c : Int) (hc0 : -9223372036854775808 ≤ c) (hc1 : c ≤ 9223372036854775807) (w : World) :
    Calls Try.prog 30 #[.int .i64 c] w fun e w' => ∃ k : Int, -1 ≤ k ∧ k ≤ 16 ∧ e = .returned (.int .i64 k) ∧ w' = w := by
  go_enter Try.func30, Try.ntmps30
  go_wp2_with fail
  refine (pick_ex _ _ hc0 hc1 (by decide) (by decide) _).mono ?_
  rintro e w1 ⟨k, hk, rfl, hw1⟩
  subst w1
  go_wp2_with fail
  refine (pick_ex _ _ hc0 hc1 (by decide) (by decide) _).mono ?_
  rintro e w2 ⟨j, hj, rfl, hw2⟩
  subst w2
  have hw : IntKind.i64.wrap ((k : Int) - (j : Int)) = (k : Int) - (j : Int) := by rw [IntKind.wrap_i64]; omega
  go_wp2_with fail
  go_ret
  exact ⟨_, by omega, by omega, rfl, rfl⟩

end Go.Proofs.Ytinlkcmdbjcofab

/-
  A machine of the program, alone, where environments may be kept: its calls.
-/
namespace Go.Proofs.Ytinlkcmdbjcofab
open Go.RowKit
set_option linter.unusedVariables false

/-- The machine at m stands for s; its blocks bear 2; what came in bears nothing, nor what is still to be made. -/
structure SK (M : MT) (w0 : World) (m i : Nat) (own : Nat → Nat × Nat) (s : RSt) (w : World) : Prop where
  rep : M own 2 w m s
  hok : SOk s
  sz : Sz s i
  bot : ∀ x, x < w0.heap.size → (own x).1 = 0
  top : ∀ x, w.heap.size ≤ x → (own x).1 = 0
  bel : Below w0.heap.size w0 w
def SKN (M : MT) (w0 : World) (m i : Nat) (own : Nat → Nat × Nat) (s : RSt) (w w' : World) : Prop :=
  ∃ own' : Nat → Nat × Nat, SK M w0 m i own' s w' ∧ (∀ b, b < w.heap.size → own' b = own b) ∧ (∀ b, b < w.heap.size → (own b).1 ≠ 2 → w'.heap[b]? = w.heap[b]?) ∧ w.heap.size ≤ w'.heap.size

section
variable {M : MT} {w0 w w' : World} {m i : Nat} {own : Nat → Nat × Nat} {s s' : RSt}
theorem SK.mono (h : SK M w0 m i own s w) {j : Nat} (hj : i ≤ j) : SK M w0 m j own s w := ⟨h.rep, h.hok, h.sz.mono hj, h.bot, h.top, h.bel⟩
theorem SK.below (P : Api M) (h : SK M w0 m i own s w) (hb : Below w.heap.size w w') : SK M w0 m i own s w' :=
  ⟨P.below h.rep hb, h.hok, h.sz, h.bot, fun x hx => h.top x (Nat.le_trans hb.size hx), h.bel.trans (hb.mono h.bel.size)⟩
theorem SK.next (P : Api M) (h : SK M w0 m i own s w) {j : Nat} (hn : MNext M own 2 w m w' s') (hs : SOk s') (hl : Sz s' j) : SKN M w0 m j own s' w w' := by
  obtain ⟨own1, h1, h2, h3⟩ := hn
  have hsz := h3.size
  obtain ⟨own', e1, e2, e3⟩ : ∃ own' : Nat → Nat × Nat, (∀ b, b < w.heap.size → own' b = own b) ∧ (∀ b, w'.heap.size ≤ b → (own' b).1 = 0) ∧ ∀ b, b < w'.heap.size → (own1 b).1 = 2 → own' b = own1 b := by
    refine ⟨fun b => if b < w.heap.size then own b else if b < w'.heap.size then own1 b else (0, 0), fun b hb => if_pos hb, fun b hb => ?_, fun b hb ht => ?_⟩
    · simp only [if_neg (show ¬ b < w.heap.size by omega), if_neg (show ¬ b < w'.heap.size by omega)]
    · by_cases hl : b < w.heap.size
      · simp only [if_pos hl]; exact (h2 b hl).symm
      · simp only [if_neg hl, if_pos hb]
  have hb0 := h.bel.size
  refine ⟨own', ⟨P.retag h1 e3, hs, hl, fun x hx => ?_, e2, h.bel.trans ?_⟩, e1, fun b hb hne => h3.block b hb hne, hsz⟩
  · rw [e1 x (by omega)]; exact h.bot x hx
  · exact (h3.mono (B' := w0.heap.size) (S' := fun _ => False) hb0 (fun k hk e => by have := h.bot k hk; omega)).below (by simp)
theorem SKN.after {w1 : World} (hb : Below w.heap.size w w1) (h : SKN M w0 m i own s w1 w') : SKN M w0 m i own s w w' := by
  obtain ⟨own', h1, h2, h3, h4⟩ := h
  have := hb.size
  exact ⟨own', h1, fun b hl => h2 b (by omega), fun b hl ht => (h3 b (by omega) ht).trans (hb.block b hl), by omega⟩
theorem SKN.of_below (P : Api M) (h : SK M w0 m i own s w) (hb : Below w.heap.size w w') : SKN M w0 m i own s w w' := ⟨own, h.below P hb, fun _ _ => rfl, fun b hl _ => hb.block b hl, hb.size⟩
theorem SKN.mono (h : SKN M w0 m i own s w w') {j : Nat} (hj : i ≤ j) : SKN M w0 m j own s w w' := by
  obtain ⟨own', h1, h2⟩ := h
  exact ⟨own', h1.mono hj, h2⟩
theorem SK.few (h : SK M w0 m i own s w) (hi : (i + 2) * 48 ≤ 140737488355328) : Few s := by have := h.sz.1; unfold Few; omega
theorem SK.fewU (h : SK M w0 m i own s w) (hi : (i + 2) * 48 ≤ 140737488355328) : FewU s := h.sz.fewU hi
/-- What bears no 2 is as it was. -/
theorem SKN.blk {b : Nat} {cs : List Value} {t : TypeId} (h : SKN M w0 m i own s w w') (hk : Blk w b cs t) (hne : (own b).1 ≠ 2) : Blk w' b cs t := by
  obtain ⟨_, _, _, h3, _⟩ := h
  exact hk.of (h3 b hk.lt hne)

theorem SK.rights (P : Api M) (h : SK M w0 m i own s w) (hi : (i + 2) * 48 ≤ 140737488355328) (env : Int) (i1 : I64 env) :
    Calls Try.prog 53 #[.pointer (some ⟨m, 0, none⟩), .int .i64 env] w fun e w' => ∃ v, e = .returned (.tuple #[v, .int .i64 (liveE s env)]) ∧ Below w.heap.size w w' ∧ (∀ x, v.ownBlock = some x → w.heap.size ≤ x) ∧
      Row w' v 64 4 (toldR s env).length ((toldR s env).flatMap rcells) := P.rights h.rep h.hok (h.few hi) env i1
theorem SK.table (P : Api M) (h : SK M w0 m i own s w) (hi : (i + 2) * 48 ≤ 140737488355328) :
    Calls Try.prog 81 #[.pointer (some ⟨m, 0, none⟩)] w fun e w' => ∃ v, e = .returned v ∧ Below w.heap.size w w' ∧ (∀ x, v.ownBlock = some x → w.heap.size ≤ x) ∧ Row w' v 80 5 s.slots.length (s.slots.flatMap Ent.cells) := P.table h.rep h.hok (h.few hi)
theorem SK.counts (P : Api M) (h : SK M w0 m i own s w) (hi : (i + 2) * 48 ≤ 140737488355328) (env : Int) (i1 : I64 env) :
    Calls Try.prog 52 #[.pointer (some ⟨m, 0, none⟩), .int .i64 env] w fun e w' => e = .returned (.tuple #[.agg #[.int .i64 (countsR s env).1.1, .int .i64 (countsR s env).1.2.1, .int .i64 (countsR s env).1.2.2.1, .int .i64 (countsR s env).1.2.2.2], .int .i64 (countsR s env).2]) ∧ SKN M w0 m i own s w w' := by
  refine (P.counts h.rep h.hok (h.few hi) (h.fewU hi) env i1).mono ?_
  rintro e w' ⟨rfl, hn⟩
  exact ⟨rfl, h.next P hn h.hok h.sz⟩
theorem SK.dirty (P : Api M) (h : SK M w0 m i own s w) (hi : (i + 2) * 48 ≤ 140737488355328) (env : Int) (i1 : I64 env) :
    Calls Try.prog 57 #[.pointer (some ⟨m, 0, none⟩), .int .i64 env] w fun e w' => ∃ v, e = .returned (.tuple #[v, .int .i64 (dirtyR s env).2]) ∧ Below w.heap.size w w' ∧ (∀ x, v.ownBlock = some x → w.heap.size ≤ x) ∧ Row w' v 3 1 (dirtyR s env).1.length ((dirtyR s env).1.map (.int .i64)) := P.dirty h.rep h.hok (h.few hi) (h.fewU hi) env i1
theorem SK.alloc (P : Api M) (h : SK M w0 m i own s w) (hi : (i + 2) * 48 ≤ 140737488355328) (env : Int) (i1 : I64 env) :
    Calls Try.prog 13 #[.pointer (some ⟨m, 0, none⟩), .int .i64 env] w fun e w' => e = .returned (.tuple #[.int .i64 (allocR s env).1.1, .int .i64 (allocR s env).1.2]) ∧ SKN M w0 m (i + 1) own (allocR s env).2 w w' := by
  refine (P.alloc h.rep h.hok (h.few hi) env i1).mono ?_
  rintro e w' ⟨rfl, hn⟩
  exact ⟨rfl, h.next P hn (h.hok.alloc env) (h.sz.alloc env)⟩
theorem SK.derive (P : Api M) (h : SK M w0 m i own s w) (hi : (i + 2) * 48 ≤ 140737488355328) (env : Int) (hd : Int) (te : Int) (wt : Bool) (i1 : I64 env) (i2 : I64 hd) (i3 : I64 te) :
    Calls Try.prog 19 #[.pointer (some ⟨m, 0, none⟩), .int .i64 env, .int .i64 hd, .int .i64 te, .bool wt] w fun e w' => e = .returned (.tuple #[.int .i64 (deriveR s env hd te wt).1.1, .int .i64 (deriveR s env hd te wt).1.2]) ∧ SKN M w0 m (i + 1) own (deriveR s env hd te wt).2 w w' := by
  refine (P.derive h.rep h.hok (h.few hi) env hd te wt i1 i2 i3).mono ?_
  rintro e w' ⟨rfl, hn⟩
  exact ⟨rfl, h.next P hn (h.hok.derive env hd te wt) (h.sz.derive env hd te wt)⟩
theorem SK.revoke (P : Api M) (h : SK M w0 m i own s w) (hi : (i + 2) * 48 ≤ 140737488355328) (env : Int) (hd : Int) (i1 : I64 env) (i2 : I64 hd) :
    Calls Try.prog 20 #[.pointer (some ⟨m, 0, none⟩), .int .i64 env, .int .i64 hd] w fun e w' => e = .returned (.int .i64 (revokeR s env hd).1) ∧ SKN M w0 m (i + 1) own (revokeR s env hd).2 w w' := by
  refine (P.revoke h.rep h.hok (h.few hi) env hd i1 i2).mono ?_
  rintro e w' ⟨rfl, hn⟩
  exact ⟨rfl, h.next P hn (h.hok.revoke env hd) (h.sz.revoke env hd)⟩
theorem SK.drop (P : Api M) (h : SK M w0 m i own s w) (hi : (i + 2) * 48 ≤ 140737488355328) (env : Int) (hd : Int) (i1 : I64 env) (i2 : I64 hd) :
    Calls Try.prog 61 #[.pointer (some ⟨m, 0, none⟩), .int .i64 env, .int .i64 hd] w fun e w' => e = .returned (.int .i64 (dropR s env hd).1) ∧ SKN M w0 m (i + 1) own (dropR s env hd).2 w w' := by
  refine (P.drop h.rep h.hok (h.few hi) env hd i1 i2).mono ?_
  rintro e w' ⟨rfl, hn⟩
  exact ⟨rfl, h.next P hn (h.hok.drop env hd) (h.sz.drop env hd)⟩
theorem SK.kill (P : Api M) (h : SK M w0 m i own s w) (hi : (i + 2) * 48 ≤ 140737488355328) (env : Int) (i1 : I64 env) :
    Calls Try.prog 63 #[.pointer (some ⟨m, 0, none⟩), .int .i64 env] w fun e w' => e = .returned (.int .i64 (killR s env).1) ∧ SKN M w0 m (i + 1) own (killR s env).2 w w' := by
  refine (P.kill h.rep h.hok (h.few hi) env i1).mono ?_
  rintro e w' ⟨rfl, hn⟩
  exact ⟨rfl, h.next P hn (h.hok.kill env) (h.sz.kill env)⟩
theorem SK.spawn (P : Api M) (h : SK M w0 m i own s w) (hi : (i + 2) * 48 ≤ 140737488355328) (env : Int) (i1 : I64 env) :
    Calls Try.prog 64 #[.pointer (some ⟨m, 0, none⟩), .int .i64 env] w fun e w' => e = .returned (.int .i64 (spawnR s env).1) ∧ SKN M w0 m (i + 1) own (spawnR s env).2 w w' := by
  refine (P.spawn h.rep h.hok (h.few hi) env i1).mono ?_
  rintro e w' ⟨rfl, hn⟩
  exact ⟨rfl, h.next P hn (h.hok.spawn env) (h.sz.spawn env)⟩
theorem SK.map (P : Api M) (h : SK M w0 m i own s w) (hi : (i + 2) * 48 ≤ 140737488355328) (env : Int) (page : Int) (hd : Int) (wt : Bool) (slot : Int) (i1 : I64 env) (i2 : I64 page) (i3 : I64 hd) (i4 : I64 slot) :
    Calls Try.prog 16 #[.pointer (some ⟨m, 0, none⟩), .int .i64 env, .int .i64 page, .int .i64 hd, .bool wt, .int .i64 slot] w fun e w' => e = .returned (.int .i64 (mapR s env page hd wt slot).1) ∧ SKN M w0 m (i + 1) own (mapR s env page hd wt slot).2 w w' := by
  refine (P.map h.rep h.hok (h.few hi) env page hd wt slot i1 i2 i3 i4).mono ?_
  rintro e w' ⟨rfl, hn⟩
  exact ⟨rfl, h.next P hn (h.hok.map env page hd wt slot) (h.sz.map env page hd wt slot)⟩
theorem SK.unmap (P : Api M) (h : SK M w0 m i own s w) (hi : (i + 2) * 48 ≤ 140737488355328) (env : Int) (page : Int) (i1 : I64 env) (i2 : I64 page) :
    Calls Try.prog 31 #[.pointer (some ⟨m, 0, none⟩), .int .i64 env, .int .i64 page] w fun e w' => e = .returned (.int .i64 (unmapR s env page).1) ∧ SKN M w0 m (i + 1) own (unmapR s env page).2 w w' := by
  refine (P.unmap h.rep h.hok (h.few hi) env page i1 i2).mono ?_
  rintro e w' ⟨rfl, hn⟩
  exact ⟨rfl, h.next P hn (h.hok.unmap env page) (h.sz.unmap env page)⟩
theorem SK.store (P : Api M) (h : SK M w0 m i own s w) (hi : (i + 2) * 48 ≤ 140737488355328) (env : Int) (page : Int) (a : Int) (v : Int) (i1 : I64 env) (i2 : I64 page) (i3 : I64 a) (i4 : I64 v) :
    Calls Try.prog 18 #[.pointer (some ⟨m, 0, none⟩), .int .i64 env, .int .i64 page, .int .i64 a, .int .i64 v] w fun e w' => e = .returned (.int .i64 (storeR s env page a v).1) ∧ SKN M w0 m (i + 1) own (storeR s env page a v).2 w w' := by
  refine (P.store h.rep h.hok (h.few hi) env page a v i1 i2 i3 i4).mono ?_
  rintro e w' ⟨rfl, hn⟩
  exact ⟨rfl, h.next P hn (h.hok.store env page a v) (h.sz.store env page a v)⟩
theorem SK.keep (P : Api M) (h : SK M w0 m i own s w) (hi : (i + 2) * 48 ≤ 140737488355328) (env : Int) (quota : Int) (policy : Int) (i1 : I64 env) (i2 : I64 quota) (i3 : I64 policy) :
    Calls Try.prog 36 #[.pointer (some ⟨m, 0, none⟩), .int .i64 env, .int .i64 quota, .int .i64 policy] w fun e w' => e = .returned (.int .i64 (keepR s env quota policy).1) ∧ SKN M w0 m (i + 1) own (keepR s env quota policy).2 w w' := by
  refine (P.keep h.rep h.hok (h.few hi) (h.fewU hi) env quota policy i1 i2 i3).mono ?_
  rintro e w' ⟨rfl, hn⟩
  exact ⟨rfl, h.next P hn (keep_ok h.hok h.sz env quota policy).1 (keep_ok h.hok h.sz env quota policy).2.2⟩
theorem SK.read (P : Api M) (h : SK M w0 m i own s w) (hi : (i + 2) * 48 ≤ 140737488355328) (env : Int) (a : Int) (i1 : I64 env) (i2 : I64 a) :
    Calls Try.prog 37 #[.pointer (some ⟨m, 0, none⟩), .int .i64 env, .int .i64 a] w fun e w' => e = .returned (.tuple #[.int .i64 (readR s env a).1.1, .int .i64 (readR s env a).1.2]) ∧ SKN M w0 m (i + 1) own (readR s env a).2 w w' := by
  refine (P.read h.rep h.hok (h.few hi) (h.fewU hi) env a i1 i2).mono ?_
  rintro e w' ⟨rfl, hn⟩
  exact ⟨rfl, h.next P hn (read_ok h.hok h.sz env a).1 (read_ok h.hok h.sz env a).2.2⟩
theorem SK.write (P : Api M) (h : SK M w0 m i own s w) (hi : (i + 2) * 48 ≤ 140737488355328) (env : Int) (a : Int) (v : Int) (i1 : I64 env) (i2 : I64 a) (i3 : I64 v) :
    Calls Try.prog 38 #[.pointer (some ⟨m, 0, none⟩), .int .i64 env, .int .i64 a, .int .i64 v] w fun e w' => e = .returned (.int .i64 (writeR s env a v).1) ∧ SKN M w0 m (i + 1) own (writeR s env a v).2 w w' := by
  refine (P.write h.rep h.hok (h.few hi) (h.fewU hi) env a v i1 i2 i3).mono ?_
  rintro e w' ⟨rfl, hn⟩
  exact ⟨rfl, h.next P hn (write_ok h.hok h.sz env a v).1 (write_ok h.hok h.sz env a v).2.2⟩
theorem SK.clean (P : Api M) (h : SK M w0 m i own s w) (hi : (i + 2) * 48 ≤ 140737488355328) (env : Int) (i1 : I64 env) :
    Calls Try.prog 55 #[.pointer (some ⟨m, 0, none⟩), .int .i64 env] w fun e w' => e = .returned (.int .i64 (cleanR s env).1) ∧ SKN M w0 m (i + 1) own (cleanR s env).2 w w' := by
  refine (P.clean h.rep h.hok (h.few hi) (h.fewU hi) env i1).mono ?_
  rintro e w' ⟨rfl, hn⟩
  exact ⟨rfl, h.next P hn (clean_ok h.hok h.sz env).1 (clean_ok h.hok h.sz env).2.2⟩
theorem SK.squeeze (P : Api M) (h : SK M w0 m i own s w) (hi : (i + 2) * 48 ≤ 140737488355328) (env : Int) (quota : Int) (i1 : I64 env) (i2 : I64 quota) :
    Calls Try.prog 62 #[.pointer (some ⟨m, 0, none⟩), .int .i64 env, .int .i64 quota] w fun e w' => e = .returned (.int .i64 (squeezeR s env quota).1) ∧ SKN M w0 m (i + 1) own (squeezeR s env quota).2 w w' := by
  refine (P.squeeze h.rep h.hok (h.few hi) (h.fewU hi) env quota i1 i2).mono ?_
  rintro e w' ⟨rfl, hn⟩
  exact ⟨rfl, h.next P hn (squeeze_ok h.hok h.sz env quota).1 (squeeze_ok h.hok h.sz env quota).2.2⟩
end
end Go.Proofs.Ytinlkcmdbjcofab

/-
  What the others do leaves the kept memory of environment 0 as it is.
-/
namespace Go.Proofs.Ytinlkcmdbjcofab
open Go.RowKit
set_option linter.unusedVariables false

/-- The kept memory of environment 0, and how large the machine is, stand. -/
def Nk (s t : RSt) : Prop := keptO t 0 = keptO s 0 ∧ t.nf = s.nf ∧ t.ns = s.ns ∧ t.ne = s.ne
theorem Nk.refl (s : RSt) : Nk s s := ⟨rfl, rfl, rfl, rfl⟩
theorem Nk.same {s t : RSt} (h : t.kept = s.kept) (h1 : t.nf = s.nf) (h2 : t.ns = s.ns) (h3 : t.ne = s.ne) : Nk s t := ⟨by unfold keptO; rw [h], h1, h2, h3⟩
theorem Nk.trans {s t u : RSt} (h : Nk s t) (h2 : Nk t u) : Nk s u := ⟨h2.1.trans h.1, h2.2.1.trans h.2.1, h2.2.2.1.trans h.2.2.1, h2.2.2.2.trans h.2.2.2⟩
theorem Nk.set {s t : RSt} {env : Nat} {x : Option KSt} (he : 1 ≤ env) (h : t.kept = s.kept.set env x) (h1 : t.nf = s.nf) (h2 : t.ns = s.ns) (h3 : t.ne = s.ne) : Nk s t := by
  refine ⟨?_, h1, h2, h3⟩
  unfold keptO
  rw [h, List.getElem?_set_ne (by show env ≠ (0 : Int).toNat; simp; omega)]

section
variable {s : RSt}
theorem nk_alloc (env : Int) : Nk s (allocR s env).2 := by
  unfold allocR
  split
  · exact Nk.refl s
  · split
    · rename_i s' hs
      unfold firstS at hs
      split at hs
      · split at hs
        · simp only [Option.some.injEq] at hs
          subst hs
          exact .same rfl rfl rfl rfl
        · simp at hs
      · simp at hs
    · exact Nk.refl s
theorem nk_derive (env hd te : Int) (wt : Bool) : Nk s (deriveR s env hd te wt).2 := by
  unfold deriveR
  repeat' split
  all_goals exact .same rfl rfl rfl rfl
theorem nk_revoke (env hd : Int) : Nk s (revokeR s env hd).2 := by
  unfold revokeR
  repeat' split
  all_goals exact .same rfl rfl rfl rfl
theorem nk_drop (env hd : Int) : Nk s (dropR s env hd).2 := by
  unfold dropR
  repeat' split
  all_goals exact .same rfl rfl rfl rfl
theorem nk_kill {env : Nat} (he : 1 ≤ env) : Nk s (killR s env).2 := by
  unfold killR
  split
  · exact .set he (x := none) (by simp only [sweepS, endIf, Int.toNat_natCast]) rfl rfl rfl
  · exact Nk.refl s
theorem nk_spawn (env : Int) : Nk s (spawnR s env).2 := by
  unfold spawnR
  repeat' split
  all_goals exact .same rfl rfl rfl rfl
theorem nk_map (env page hd : Int) (wt : Bool) (slot : Int) : Nk s (mapR s env page hd wt slot).2 := by
  unfold mapR
  repeat' split
  all_goals exact .same rfl rfl rfl rfl
theorem nk_unmap (env page : Int) : Nk s (unmapR s env page).2 := by
  unfold unmapR
  repeat' split
  all_goals exact .same rfl rfl rfl rfl
theorem nk_store (env page a v : Int) : Nk s (storeR s env page a v).2 := by
  unfold storeR
  repeat' split
  all_goals exact .same rfl rfl rfl rfl
theorem nk_keep {env : Nat} (he : 1 ≤ env) (quota policy : Int) : Nk s (keepR s env quota policy).2 := by
  unfold keepR
  repeat' split
  all_goals first | exact Nk.refl s | exact .set he (x := some (KSt.new quota policy)) (by simp only [putK, Int.toNat_natCast]) rfl rfl rfl
theorem access_ns {env page : Nat} {k : KSt} {wt : Bool} {s' : RSt} (h : SOk s) (hO : s.kept[env]? = some (some k)) (hp : page < 16) (ha : accessS s k env page wt = some s') : s'.ns = s.ns := by
  unfold accessS at ha
  split at ha
  · simp only [Option.some.injEq] at ha
    subst ha
    exact (touchS_parts s k env page wt).2.2.2.2.2.1
  · rename_i hhas
    cases hc : comesS s k env page with
    | none => rw [hc] at ha; simp at ha
    | some s1 =>
      obtain ⟨k1, c1, c2, c3, c4, c5, c6, cb, c7, c8, c9, c10, c11, c12⟩ := comes_ok h hO hp (fun e => hhas (hasK_iff.2 e)) hc
      rw [hc] at ha
      simp only [c1, Option.some.injEq] at ha
      subst ha
      exact (touchS_parts s1 k1 env page wt).2.2.2.2.2.1.trans c9
theorem nk_read (h : SOk s) {env : Nat} (he : 1 ≤ env) (a : Int) : Nk s (readR s env a).2 := by
  unfold readR
  rcases heldE_cases s env with ⟨y, hr, hy⟩ | ⟨j, k, hr, hej, hj, hO⟩
  · rw [if_pos (by rw [hr]; omega)]; exact Nk.refl s
  · rw [if_neg (by rw [hr]; simp)]
    split
    · exact Nk.refl s
    · rw [hej, hO]
      obtain rfl : env = j := by omega
      simp only [Int.toNat_natCast]
      cases ha : accessS s k env (a / 4).toNat false with
      | none => exact Nk.refl s
      | some s1 =>
        obtain ⟨a1, a2, k', a3, a4, a5, a6⟩ := access_ok h (keptO_get hO) (by omega) ha
        exact .set he a3 a2.1 (access_ns h (keptO_get hO) (by omega) ha) a2.2.1
theorem nk_write (h : SOk s) {env : Nat} (he : 1 ≤ env) (a v : Int) : Nk s (writeR s env a v).2 := by
  unfold writeR
  rcases heldE_cases s env with ⟨y, hr, hy⟩ | ⟨j, k, hr, hej, hj, hO⟩
  · rw [if_pos (by rw [hr]; omega)]; exact Nk.refl s
  · rw [if_neg (by rw [hr]; simp)]
    split
    · exact Nk.refl s
    · rw [hej, hO]
      obtain rfl : env = j := by omega
      simp only [Int.toNat_natCast]
      cases ha : accessS s k env (a / 4).toNat true with
      | none => exact Nk.refl s
      | some s1 =>
        obtain ⟨a1, a2, k', a3, a4, a5, a6⟩ := access_ok h (keptO_get hO) (by omega) ha
        have hk1 : s1.kept[env]? = some (some k') := by rw [a3, List.getElem?_set_self (kept_lt (keptO_get hO))]
        simp only [keptO_at hk1]
        have hns := access_ns (page := (a / 4).toNat) h (keptO_get hO) (by omega) ha
        exact .set he (by show s1.kept.set env _ = s.kept.set env _; rw [a3, List.set_set]) a2.1 hns a2.2.1
theorem sqN_ns (env : Nat) : ∀ (n : Nat) (s : RSt), (sqN n s env).ns = s.ns := by
  intro n
  induction n with
  | zero => intro s; rfl
  | succ n ih =>
    intro s
    show (match keptO s env with | none => s | some k => sqN n (sq1 s env k) env).ns = s.ns
    cases keptO s env with
    | none => rfl
    | some k => exact ih _
theorem nk_squeeze (h : SOk s) {env : Nat} (he : 1 ≤ env) (quota : Int) : Nk s (squeezeR s env quota).2 := by
  unfold squeezeR
  rcases heldE_cases s env with ⟨y, hr, hy⟩ | ⟨j, k, hr, hej, hj, hO⟩
  · rw [if_pos (by rw [hr]; omega)]; exact Nk.refl s
  · rw [if_neg (by rw [hr]; simp)]
    split
    · exact Nk.refl s
    · rename_i hq
      rw [hej, hO]
      obtain rfl : env = j := by omega
      simp only [Int.toNat_natCast]
      have hL := (h.kok.k1 env k (keptO_get hO)).len
      have h1 : SOk (putK s env { k with quota := quota }) := h.putK (keptO_get hO) rfl ⟨hL.by_, hL.hnd, hL.chg, hL.dty, hL.out, hL.r0, hL.r1, hL.i0, hL.i1, hL.o0, hL.o1, by show 1 ≤ quota; omega, by show quota ≤ 16; omega, hL.p0, hL.p1, hL.nod, hL.pg, hL.met, hL.chi, hL.val⟩ rfl rfl
      have hO1 : (putK s env { k with quota := quota }).kept[env]? = some (some { k with quota := quota }) := by show (s.kept.set env _)[env]? = _; rw [List.getElem?_set_self (kept_lt (keptO_get hO))]
      obtain ⟨a, b, c, d, dl, k', e1, e2, e3, e4, e5, e6, e7⟩ := sqN_ok (k.inp.length - quota.toNat) (putK s env { k with quota := quota }) _ h1.toSOk0.u h1.hin h1.kok hO1 (by show _ ≤ k.inp.length; omega)
      exact .set he (x := some k') (by show (sqN _ _ _).kept = _; rw [e1]; show (s.kept.set env _).set env _ = _; rw [List.set_set]) d.1 (sqN_ns env _ _) d.2.1
end
end Go.Proofs.Ytinlkcmdbjcofab

/-
  An access, as a statement sees it.
-/
namespace Go.Proofs.Ytinlkcmdbjcofab
open Go.RowKit
set_option linter.unusedVariables false

section
variable {s : RSt}

/-- What an access leaves. -/
structure Acc (s : RSt) (k : KSt) (env page : Nat) (wt : Bool) (s' : RSt) (k' : KSt) : Prop where
  kept : s'.kept = s.kept.set env (some k')
  nf : s'.nf = s.nf
  ns : s'.ns = s.ns
  ne : s'.ne = s.ne
  qt : k'.quota = k.quota
  dty : k'.dty = k.dty.set page (dtyB k page || wt)
  ref : k'.refills = k.refills ∨ k'.refills = k.refills + 1
  ins : k'.ins = k.ins ∨ k'.ins = k.ins + 1
  outs : k'.outs = k.outs ∨ k'.outs = k.outs + 1
  inl : k.inp.length ≤ k'.inp.length
  in1 : 1 ≤ k'.inp.length
  inq : (k.inp.length : Int) ≤ k.quota → (k'.inp.length : Int) ≤ k.quota
  ent : ∃ (q : Nat) (e : Ent), s'.slots[q]? = some e ∧ e.used = true ∧ e.env = env ∧ e.page = page ∧ (wt = true → e.wr = true)

theorem touch_acc (h0 : SOk0 s) (ht0 : 0 ≤ s.turn) (ht1 : s.turn < s.ns) {k : KSt} {env page : Nat} {wt : Bool} : ∃ (q : Nat) (e : Ent), (touchS s k env page wt).slots[q]? = some e ∧ e.used = true ∧ e.env = env ∧ e.page = page ∧ (wt = true → e.wr = true) := by
  obtain ⟨h1, h2, h3, h4, h5, h6, h7, h8, h9⟩ := touchS_parts s k env page wt
  rcases h9 with ⟨hn, h9⟩ | ⟨hn, h9⟩
  · unfold needB at hn
    rcases entI_cases s env page with h0' | ⟨q, e, h0', he1, he2⟩
    · rw [h0'] at hn; simp at hn
    · rw [h0'] at hn
      simp only [Int.toNat_natCast, he1, Option.map_some, Option.getD_some] at hn
      unfold entP at he2
      simp at he2
      refine ⟨q, e, by rw [h9]; exact he1, he2.1, he2.2.1, he2.2.2, fun hw => ?_⟩
      rw [hw] at hn
      simpa using hn
  · have hq : (slotFor s (entI s env page)).1.toNat < s.slots.length := by
      unfold slotFor
      rcases entI_cases s env page with h0' | ⟨q, e, h0', he1, he2⟩
      · rw [h0', if_neg (by decide)]
        split
        · rename_i hl
          unfold leastEmpty at hl ⊢
          cases hf : s.slots.findIdx? (fun e => !e.used) with
          | none => rw [hf] at hl; simp at hl
          | some i =>
            obtain ⟨hi, -⟩ := List.findIdx?_eq_some_iff_getElem.1 hf
            simpa using hi
        · have := h0.ns
          simp only
          omega
      · rw [h0', if_pos (by omega)]
        have := (List.getElem?_eq_some_iff.1 he1).1
        simpa using this
    exact ⟨_, _, by rw [h9]; exact List.getElem?_set_self hq, rfl, rfl, rfl, fun hw => by rw [hw]; rfl⟩

theorem access_acc (h : SOk s) {env page : Nat} {k : KSt} (hO : s.kept[env]? = some (some k)) (hp : page < 16) {wt : Bool} {s' : RSt} (ha : accessS s k env page wt = some s') : ∃ k', Acc s k env page wt s' k' ∧ k'.bytes = k.bytes := by
  have hK := h.kok.k1 env k hO
  have hmet : ∀ p, p ∈ k.inp → ∃ u, u ∈ k.uses ∧ u.1 = p := fun p hp => hK.len.met p hp (by have := hK.len.pg p hp; omega)
  unfold accessS at ha
  by_cases hin : (page : Int) ∈ k.inp
  · rw [if_pos (hasK_iff.2 hin)] at ha
    simp only [Option.some.injEq] at ha
    subst ha
    refine ⟨touchK s k env page wt, ⟨(touchS_parts s k env page wt).1, (touchS_parts s k env page wt).2.2.2.2.1, (touchS_parts s k env page wt).2.2.2.2.2.1, (touchS_parts s k env page wt).2.2.2.1, rfl, rfl, ?_, .inl rfl, .inl rfl, Nat.le_refl _, List.length_pos_of_mem hin, fun h => h, touch_acc h.toSOk0 h.kok.t0 h.kok.t1⟩, rfl⟩
    show (if needB s env page wt then k.refills + 1 else k.refills) = _ ∨ (if needB s env page wt then k.refills + 1 else k.refills) = _
    split
    · exact .inr rfl
    · exact .inl rfl
  · rw [if_neg (fun e => hin (hasK_iff.1 e))] at ha
    cases hc : comesS s k env page with
    | none => rw [hc] at ha; simp at ha
    | some s1 =>
      obtain ⟨k1, c1, c2, c3, c4, c5, c6, cb, c7, c8, c9, c10, c11, c12⟩ := comes_ok h hO hp hin hc
      rw [hc] at ha
      simp only [c1, Option.some.injEq] at ha
      subst ha
      have hd : k1.dty = k.dty ∧ k1.quota = k.quota ∧ k1.refills = k.refills ∧ (k1.ins = k.ins ∨ k1.ins = k.ins + 1) ∧ (k1.outs = k.outs ∨ k1.outs = k.outs + 1) ∧ k.inp.length ≤ k1.inp.length ∧ ((k.inp.length : Int) ≤ k.quota → (k1.inp.length : Int) ≤ k.quota) := by
        have hlt := kept_lt hO
        rcases comes_cases hc hmet with ⟨f, hl, hcn, hq, he⟩ | ⟨q, hq, hqi, hnf, he⟩
        · have hx : keptO s1 env = some (inK k page ((s.rights.length : Int) + 1)) := by rw [he]; exact keptO_putK hlt
          rw [hx] at c1
          simp only [Option.some.injEq] at c1
          rw [← c1]
          refine ⟨rfl, rfl, rfl, ?_, .inl rfl, by simp [inK], fun _ => by simp [inK]; omega⟩
          unfold inK
          simp only
          split
          · exact .inr rfl
          · exact .inl rfl
        · obtain ⟨q0, rfl⟩ : ∃ q0 : Nat, q = q0 := ⟨q.toNat, by have := hK.len.pg q hqi; omega⟩
          simp only [Int.toNat_natCast] at he
          have hlt' : env < (leavesS s k env q0).kept.length := by simp [leavesS, goneS, putK, hlt]
          have hx : keptO s1 env = some (inK (leaveK k q0) page ((k.hnd[q0]?).getD 0)) := by rw [he]; exact keptO_putK hlt'
          rw [hx] at c1
          simp only [Option.some.injEq] at c1
          rw [← c1]
          have hll := leave_length hK.len hqi
          refine ⟨rfl, rfl, rfl, ?_, ?_, by simp only [inK, List.length_append, List.length_cons, List.length_nil]; omega, fun hh => by simp only [inK, List.length_append, List.length_cons, List.length_nil]; omega⟩
          · unfold inK
            simp only
            split
            · exact .inr rfl
            · exact .inl rfl
          · show (leaveK k q0).outs = _ ∨ (leaveK k q0).outs = _
            unfold leaveK
            simp only
            split
            · exact .inr rfl
            · exact .inl rfl
      obtain ⟨d1, d2, d3, d4, d5, d6, d7⟩ := hd
      have hrf : (touchK s1 k1 env page wt).refills = k.refills ∨ (touchK s1 k1 env page wt).refills = k.refills + 1 := by
        show (if needB s1 env page wt then k1.refills + 1 else k1.refills) = _ ∨ (if needB s1 env page wt then k1.refills + 1 else k1.refills) = _
        rw [d3]
        split
        · exact .inr rfl
        · exact .inl rfl
      refine ⟨touchK s1 k1 env page wt, ⟨by rw [(touchS_parts s1 k1 env page wt).1, c11, List.set_set], (touchS_parts s1 k1 env page wt).2.2.2.2.1.trans c7.1, (touchS_parts s1 k1 env page wt).2.2.2.2.2.1.trans c9, (touchS_parts s1 k1 env page wt).2.2.2.1.trans c7.2.1, d2, ?_, hrf, d4, d5, d6, List.length_pos_of_mem c5, d7, touch_acc c2 (by rw [c8]; exact h.kok.t0) (by rw [c8, c9]; exact h.kok.t1)⟩, cb⟩
      show k1.dty.set page (dtyB k1 page || wt) = _
      unfold dtyB
      rw [d1]
theorem kaccess_none {env page : Nat} {k : KSt} {wt : Bool} (h : SOk s) (hO : s.kept[env]? = some (some k)) (hp : page < 16) (ha : accessS s k env page wt = none) : k.inp.length = 0 ∧ (if (k.inp.length : Int) < k.quota then firstS s env else none) = none := by
  unfold accessS at ha
  split at ha
  · simp at ha
  · rename_i hhas
    cases hc : comesS s k env page with
    | none =>
      unfold comesS at hc
      cases hf : (if (k.inp.length : Int) < k.quota then firstS s env else none) with
      | some s2 => rw [hf] at hc; simp at hc
      | none =>
        rw [hf] at hc
        simp only at hc
        split at hc
        · simp at hc
        · exact ⟨by omega, rfl⟩
    | some s1 =>
      obtain ⟨k1, c1, -⟩ := comes_ok h hO hp (fun e => hhas (hasK_iff.2 e)) hc
      rw [hc] at ha
      simp [c1] at ha

theorem dty_same {k : KSt} {page : Nat} : k.dty.set page (dtyB k page || false) = k.dty := by
  apply List.ext_getElem?
  intro i
  rw [List.getElem?_set]
  split
  · rename_i e
    subst e
    unfold dtyB
    split
    · rename_i hl
      rw [List.getElem?_eq_getElem hl]; simp
    · rename_i hl
      rw [List.getElem?_eq_none (by omega)]
  · rfl
/-- Read and Write of environment 0, where it is kept: refused with 12, and nothing has turned; or an access. -/
theorem read_cases (h : SOk s) {k : KSt} (hO : keptO s 0 = some k) {a : Nat} (ha : a < 64) : (readR s 0 a = ((0, 12), s) ∧ k.inp.length = 0 ∧ (if (k.inp.length : Int) < k.quota then firstS s ((0 : Nat) : Int) else none) = none) ∨
    ∃ s' k', readR s 0 a = (((k.bytes[a]?).getD 0, 0), s') ∧ Acc s k 0 (a / 4) false s' k' ∧ k'.bytes = k.bytes := by
  have hg : s.kept[0]? = some (some k) := keptO_get (i := 0) hO
  have hal : aliveB s 0 = true := (h.kok.k1 0 k hg).alv
  have hE : heldE s 0 = 0 := by unfold heldE keptB; rw [hal, hO]; rfl
  unfold readR
  rw [hE, hO]
  simp only [ne_eq, not_true_eq_false, if_false, if_neg (show ¬ ((a : Int) < 0 ∨ 63 < (a : Int)) by omega)]
  have e1 : ((a : Int) / 4).toNat = a / 4 := by omega
  rw [e1]
  simp only [Int.toNat_natCast, Int.toNat_zero]
  cases hx : accessS s k 0 (a / 4) false with
  | none => exact .inl ⟨rfl, kaccess_none h hg (by omega) hx⟩
  | some s1 =>
    obtain ⟨k', h1, h2⟩ := access_acc h hg (by omega) hx
    exact .inr ⟨s1, k', rfl, h1, h2⟩
theorem write_cases (h : SOk s) {k : KSt} (hO : keptO s 0 = some k) {a v : Nat} (ha : a < 64) (hv : v < 256) : (writeR s 0 a v = (12, s) ∧ k.inp.length = 0 ∧ (if (k.inp.length : Int) < k.quota then firstS s ((0 : Nat) : Int) else none) = none) ∨
    ∃ s' k', writeR s 0 a v = (0, s') ∧ Acc s k 0 (a / 4) true s' k' ∧ k'.bytes = k.bytes.set a v := by
  have hg : s.kept[0]? = some (some k) := keptO_get (i := 0) hO
  have hal : aliveB s 0 = true := (h.kok.k1 0 k hg).alv
  have hE : heldE s 0 = 0 := by unfold heldE keptB; rw [hal, hO]; rfl
  unfold writeR
  rw [hE, hO]
  simp only [ne_eq, not_true_eq_false, if_false, if_neg (show ¬ ((a : Int) < 0 ∨ 63 < (a : Int) ∨ (v : Int) < 0 ∨ 255 < (v : Int)) by omega)]
  have e1 : ((a : Int) / 4).toNat = a / 4 := by omega
  rw [e1]
  simp only [Int.toNat_natCast, Int.toNat_zero]
  cases hx : accessS s k 0 (a / 4) true with
  | none => exact .inl ⟨rfl, kaccess_none h hg (by omega) hx⟩
  | some s1 =>
    obtain ⟨k', h1, h2⟩ := access_acc h hg (by omega) hx
    have hk1 : keptO s1 0 = some k' := keptO_at (i := 0) (by rw [h1.kept, List.getElem?_set_self (kept_lt hg)])
    simp only [hk1]
    refine .inr ⟨_, { k' with bytes := k'.bytes.set a v }, rfl, ⟨?_, h1.nf, h1.ns, h1.ne, h1.qt, h1.dty, h1.ref, h1.ins, h1.outs, h1.inl, h1.in1, h1.inq, h1.ent⟩, by show k'.bytes.set a v = _; rw [h2]⟩
    show s1.kept.set 0 _ = s.kept.set 0 _
    rw [h1.kept, List.set_set]
end
end Go.Proofs.Ytinlkcmdbjcofab

/-
  'ends' and 'noise'.
-/
namespace Go.Proofs.Ytinlkcmdbjcofab
open Go.RowKit
set_option linter.unusedVariables false
attribute [local go_sem ↓] Go.wp_at_zero Go.wp_at_succ

section
variable {M : MT} {w0 w w' : World} {m i : Nat} {own : Nat → Nat × Nat} {s s' : RSt}

set_option maxHeartbeats 4000000 in
set_option maxRecDepth 100000 in
theorem endsK_any (P : Api M) (h : SK M w0 m i own s w) (hi : (i + 2) * 48 ≤ 140737488355328) (o : LStep) (ho : o.i64) (env : Nat) (h1 : 1 ≤ env) (h4 : env < 4) :
    Calls Try.prog 32 #[.pointer (some ⟨m, 0, none⟩), .agg #[.int .i64 o.K, .int .i64 o.V, .int .i64 o.A, .int .i64 o.B, .int .i64 o.C, .bool o.F], .int .i64 env] w fun e w' => e = .returned (.tuple #[]) ∧ ∃ s', Nk s s' ∧ SKN M w0 m (i + 1) own s' w w' := by
  obtain ⟨a0, a1⟩ := ho.2.1
  have hW0 : Below w.heap.size w (w.alloc (.cells #[.int .i64 o.K, .int .i64 o.V, .int .i64 o.A, .int .i64 o.B, .int .i64 o.C, .bool o.F] 31)) := (Below.refl _ _).alloc (Nat.le_refl _) _
  have hW := hW0.drew
  have hs0 := h.below P hW0
  have hs := h.below P hW
  have ht := h.top w.heap.size (Nat.le_refl _)
  have hbx := (Blk.new w [.int .i64 o.K, .int .i64 o.V, .int .i64 o.A, .int .i64 o.B, .int .i64 o.C, .bool o.F] 31).drew
  have ie : I64 (env : Int) := ⟨by omega, by omega⟩
  go_enter Try.func32, Try.ntmps32
  by_cases hK2 : o.K = 2
  · have y2 : (o.K == 2) = true := by simp [hK2]
    clear hK2
    go_wp2_with fail
    refine (handle_any _ a0 a1 _).mono ?_
    rintro e w5 ⟨hd, hhd, rfl, hw5⟩
    subst hw5
    go_wp2_with fail
    refine (hs0.revoke P hi env hd ie ⟨by omega, by omega⟩).mono ?_
    rintro e w6 ⟨rfl, hn⟩
    go_wp2_with fail
    go_end0
    exact ⟨rfl, _, nk_revoke _ _, hn.after hW0⟩
  have y2 : (o.K == 2) = false := beq_eq_false_iff_ne.2 hK2
  by_cases hK3 : o.K = 3
  · have y3 : (o.K == 3) = true := by simp [hK3]
    clear hK2 hK3
    go_wp2_with fail
    refine (handle_any _ a0 a1 _).mono ?_
    rintro e w5 ⟨hd, hhd, rfl, hw5⟩
    subst hw5
    go_wp2_with fail
    refine (hs0.drop P hi env hd ie ⟨by omega, by omega⟩).mono ?_
    rintro e w6 ⟨rfl, hn⟩
    go_wp2_with fail
    go_end0
    exact ⟨rfl, _, nk_drop _ _, hn.after hW0⟩
  have y3 : (o.K == 3) = false := beq_eq_false_iff_ne.2 hK3
  by_cases hK10 : o.K = 10
  · have y10 : (o.K == 10) = true := by simp [hK10]
    clear hK2 hK3 hK10
    go_wp2_with fail
    refine (pick_ex _ _ a0 a1 (by decide) (by decide) _).mono ?_
    rintro e w5 ⟨hd, hhd, rfl, hw5⟩
    subst hw5
    go_wp2_with fail
    refine (hs0.squeeze P hi env hd ie ⟨by omega, by omega⟩).mono ?_
    rintro e w6 ⟨rfl, hn⟩
    go_wp2_with fail
    go_end0
    exact ⟨rfl, _, nk_squeeze h.hok h1 _, hn.after hW0⟩
  have y10 : (o.K == 10) = false := beq_eq_false_iff_ne.2 hK10
  by_cases hK4 : o.K = 11
  · have y4 : (o.K == 11) = true := by simp [hK4]
    clear hK2 hK3 hK10 hK4
    go_wp2_with fail
    refine (hs0.kill P hi env ie).mono ?_
    rintro e w1 ⟨rfl, hn⟩
    go_wp2_with fail
    go_end0
    exact ⟨rfl, _, nk_kill h1, hn.after hW0⟩
  have y4 : (o.K == 11) = false := beq_eq_false_iff_ne.2 hK4
  by_cases hK5 : o.K = 12
  · have y5 : (o.K == 12) = true := by simp [hK5]
    clear hK2 hK3 hK10 hK4 hK5
    go_wp2_with fail
    refine (hs0.spawn P hi env ie).mono ?_
    rintro e w1 ⟨rfl, hn⟩
    go_wp2_with fail
    go_end0
    exact ⟨rfl, _, nk_spawn _, hn.after hW0⟩
  · have y5 : (o.K == 12) = false := beq_eq_false_iff_ne.2 hK5
    clear hK2 hK3 hK10 hK4 hK5
    go_wp2_with fail
    go_end0
    exact ⟨rfl, _, Nk.refl _, SKN.of_below P (h.mono (by omega)) hW0⟩
end
end Go.Proofs.Ytinlkcmdbjcofab
