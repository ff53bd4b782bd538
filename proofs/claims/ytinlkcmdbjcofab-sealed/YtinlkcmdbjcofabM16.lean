import Derived.Test.YtinlkcmdbjcofabM15
namespace Go.Proofs.Ytinlkcmdbjcofab
open Go.RowKit
set_option linter.unusedVariables false
attribute [local go_sem ↓] Go.wp_at_zero Go.wp_at_succ

/-- Which machine a call is for. -/
def mach (M : Int) (n : Nat) : Nat := (((M.tmod n) + n).tmod n).toNat

theorem mach_lt (M : Int) (n : Nat) (h : 0 < n) : mach M n < n := by
  unfold mach
  have h1 := Int.tmod_lt_of_pos (M.tmod n + n) (show (0 : Int) < n by omega)
  have h2 := Int.lt_tmod_of_pos M (show (0 : Int) < n by omega)
  have h3 := Int.tmod_nonneg (n : Int) (show 0 ≤ M.tmod n + n by omega)
  omega

theorem mach_val (M : Int) (n : Nat) (h : 0 < n) : (((M.tmod n) + n).tmod n) = (mach M n : Int) := by
  unfold mach
  have h2 := Int.lt_tmod_of_pos M (show (0 : Int) < n by omega)
  have h3 := Int.tmod_nonneg (n : Int) (show 0 ≤ M.tmod n + n by omega)
  omega

end Go.Proofs.Ytinlkcmdbjcofab

namespace Go.Proofs.Ytinlkcmdbjcofab
open Go.RowKit
set_option linter.unusedVariables false
attribute [local go_sem ↓] Go.wp_at_zero Go.wp_at_succ

/-- A new machine: f says which blocks are its own. -/
def NewF (M : MT) (w w' : World) (p : Nat) (f : Nat → Option Nat) (s : RSt) : Prop :=
  (∀ b j, f b = some j → w.heap.size ≤ b ∧ b < w'.heap.size) ∧ ∀ (own : Nat → Nat × Nat) (id : Nat), (∀ b j, f b = some j → own b = (id, j)) → M own id w' p s
theorem NewF.of {M : MT} (P : Api M) {w w2 W : World} {p : Nat} {f : Nat → Option Nat} {s : RSt} (h : NewF M w w2 p f s) (hk : ∀ k, w.heap.size ≤ k → k < w2.heap.size → W.heap[k]? = w2.heap[k]?) (hs : w2.heap.size ≤ W.heap.size) : NewF M w W p f s := by
  refine ⟨fun b j hb => ⟨(h.1 b j hb).1, Nat.lt_of_lt_of_le (h.1 b j hb).2 hs⟩, fun own id ho => ?_⟩
  obtain ⟨own0, h0⟩ : ∃ own0 : Nat → Nat × Nat, own0 = fun b => match f b with | some j => (id, j) | none => (id + 1, 0) := ⟨_, rfl⟩
  have h1 : ∀ b j, f b = some j → own0 b = (id, j) := fun b j hb => by rw [h0]; simp only [hb]
  have h2 : ∀ b, (own0 b).1 = id → ∃ j, f b = some j := fun b hb => by
    rw [h0] at hb
    cases hf : f b with
    | none => simp only [hf] at hb; omega
    | some j => exact ⟨j, rfl⟩
  have m1 := h.2 own0 id h1
  have m2 := P.of (own' := own0) (w' := W) m1 (fun _ _ => rfl) (fun b hb ht => by
    obtain ⟨j, hj⟩ := h2 b ht
    exact hk b (h.1 b j hj).1 hb)
  exact P.retag m2 (fun b _ ht => by
    obtain ⟨j, hj⟩ := h2 b ht
    rw [ho b j hj, h1 b j hj])
theorem NewF.low {M : MT} {w0 w W : World} {p : Nat} {f : Nat → Option Nat} {s : RSt} (h : NewF M w W p f s) (hl : w0.heap.size ≤ w.heap.size) : NewF M w0 W p f s :=
  ⟨fun b j hb => ⟨Nat.le_trans hl (h.1 b j hb).1, (h.1 b j hb).2⟩, h.2⟩

end Go.Proofs.Ytinlkcmdbjcofab

/-
  A machine of the program, alone, beside what a law keeps in memory: its calls.
-/
namespace Go.Proofs.Ytinlkcmdbjcofab
open Go.RowKit
set_option linter.unusedVariables false

section
variable {s : RSt}
theorem HInv.same_rights {t : RSt} (h : HInv s) (h1 : t.rights = s.rights) (h2 : t.alive = s.alive) (h3 : t.ne = s.ne) (h4 : t.kept = s.kept) : HInv t := by
  have ha : ∀ e, aliveB t e = aliveB s e := fun e => by unfold aliveB; rw [h2, h3]
  refine ⟨⟨?_, ?_, ?_⟩, h.nok.of h4⟩
  · rw [h1]; exact h.one
  · rw [h1]; exact h.same
  · rw [h1]; intro i r hr hl; rw [ha]; exact h.alv i r hr hl
theorem HInv.map (h : HInv s) (env page hd : Int) (wt : Bool) (slot : Int) : HInv (mapR s env page hd wt slot).2 := by
  unfold mapR
  repeat' split
  all_goals first | exact h | exact h.same_rights rfl rfl rfl rfl
theorem HInv.unmap (h : HInv s) (env page : Int) : HInv (unmapR s env page).2 := by
  unfold unmapR
  repeat' split
  all_goals first | exact h | exact h.same_rights rfl rfl rfl rfl
theorem HInv.store (h : HInv s) (env page a v : Int) : HInv (storeR s env page a v).2 := by
  unfold storeR
  repeat' split
  all_goals first | exact h | exact h.same_rights rfl rfl rfl rfl
end

/-- The machine at m stands for s; its blocks bear 2; what came in bears nothing, nor what is still to be made. -/
structure St (M : MT) (w0 : World) (m i : Nat) (own : Nat → Nat × Nat) (s : RSt) (w : World) : Prop where
  rep : M own 2 w m s
  hok : SOk s
  hinv : HInv s
  len : s.rights.length ≤ i
  bot : ∀ x, x < w0.heap.size → (own x).1 = 0
  top : ∀ x, w.heap.size ≤ x → (own x).1 = 0
  bel : Below w0.heap.size w0 w
def StN (M : MT) (w0 : World) (m i : Nat) (own : Nat → Nat × Nat) (s : RSt) (w w' : World) : Prop :=
  ∃ own' : Nat → Nat × Nat, St M w0 m i own' s w' ∧ (∀ b, b < w.heap.size → own' b = own b) ∧ (∀ b, b < w.heap.size → (own b).1 ≠ 2 → w'.heap[b]? = w.heap[b]?) ∧ w.heap.size ≤ w'.heap.size

section
variable {M : MT} {w0 w w' : World} {m i : Nat} {own : Nat → Nat × Nat} {s s' : RSt}
theorem St.mono (h : St M w0 m i own s w) : St M w0 m (i + 1) own s w := ⟨h.rep, h.hok, h.hinv, by have := h.len; omega, h.bot, h.top, h.bel⟩
theorem St.below (P : Api M) (h : St M w0 m i own s w) (hb : Below w.heap.size w w') : St M w0 m i own s w' :=
  ⟨P.below h.rep hb, h.hok, h.hinv, h.len, h.bot, fun x hx => h.top x (Nat.le_trans hb.size hx), h.bel.trans (hb.mono h.bel.size)⟩
theorem St.next (P : Api M) (h : St M w0 m i own s w) {j : Nat} (hn : MNext M own 2 w m w' s') (hs : SOk s') (hH : HInv s') (hl : s'.rights.length ≤ j) : StN M w0 m j own s' w w' := by
  obtain ⟨own1, h1, h2, h3⟩ := hn
  have hsz := h3.size
  obtain ⟨own', e1, e2, e3⟩ : ∃ own' : Nat → Nat × Nat, (∀ b, b < w.heap.size → own' b = own b) ∧ (∀ b, w'.heap.size ≤ b → (own' b).1 = 0) ∧ ∀ b, b < w'.heap.size → (own1 b).1 = 2 → own' b = own1 b := by
    refine ⟨fun b => if b < w.heap.size then own b else if b < w'.heap.size then own1 b else (0, 0), fun b hb => if_pos hb, fun b hb => ?_, fun b hb ht => ?_⟩
    · simp only [if_neg (show ¬ b < w.heap.size by omega), if_neg (show ¬ b < w'.heap.size by omega)]
    · by_cases hl : b < w.heap.size
      · simp only [if_pos hl]; exact (h2 b hl).symm
      · simp only [if_neg hl, if_pos hb]
  have hb0 := h.bel.size
  refine ⟨own', ⟨P.retag h1 e3, hs, hH, hl, fun x hx => ?_, e2, h.bel.trans ?_⟩, e1, fun b hb hne => h3.block b hb hne, hsz⟩
  · rw [e1 x (by omega)]; exact h.bot x hx
  · exact (h3.mono (B' := w0.heap.size) (S' := fun _ => False) hb0 (fun k hk e => by have := h.bot k hk; omega)).below (by simp)
theorem StN.after {w1 : World} (hb : Below w.heap.size w w1) (h : StN M w0 m i own s w1 w') : StN M w0 m i own s w w' := by
  obtain ⟨own', h1, h2, h3, h4⟩ := h
  have := hb.size
  exact ⟨own', h1, fun b hl => h2 b (by omega), fun b hl ht => (h3 b (by omega) ht).trans (hb.block b hl), by omega⟩
theorem StN.of_below (P : Api M) (h : St M w0 m i own s w) (hb : Below w.heap.size w w') : StN M w0 m i own s w w' := ⟨own, h.below P hb, fun _ _ => rfl, fun b hl _ => hb.block b hl, hb.size⟩
theorem St.few (h : St M w0 m i own s w) (hi : (i + 2) * 48 ≤ 140737488355328) : Few s := by have := h.len; unfold Few; omega
/-- What bears no 2 is as it was. -/
theorem StN.blk {b : Nat} {cs : List Value} {t : TypeId} (h : StN M w0 m i own s w w') (hk : Blk w b cs t) (hne : (own b).1 ≠ 2) : Blk w' b cs t := by
  obtain ⟨_, _, _, h3, _⟩ := h
  exact hk.of (h3 b hk.lt hne)

theorem St.rights (P : Api M) (h : St M w0 m i own s w) (hi : (i + 2) * 48 ≤ 140737488355328) (env : Int) (i1 : I64 env) :
    Calls Try.prog 53 #[.pointer (some ⟨m, 0, none⟩), .int .i64 env] w fun e w' => ∃ v, e = .returned (.tuple #[v, .int .i64 (liveE s env)]) ∧ Below w.heap.size w w' ∧ (∀ x, v.ownBlock = some x → w.heap.size ≤ x) ∧
      Row w' v 64 4 (toldR s env).length ((toldR s env).flatMap rcells) := P.rights h.rep h.hok (h.few hi) env i1
theorem St.table (P : Api M) (h : St M w0 m i own s w) (hi : (i + 2) * 48 ≤ 140737488355328) :
    Calls Try.prog 81 #[.pointer (some ⟨m, 0, none⟩)] w fun e w' => ∃ v, e = .returned v ∧ Below w.heap.size w w' ∧ (∀ x, v.ownBlock = some x → w.heap.size ≤ x) ∧ Row w' v 80 5 s.slots.length (s.slots.flatMap Ent.cells) := P.table h.rep h.hok (h.few hi)
theorem St.load (P : Api M) (h : St M w0 m i own s w) (hi : (i + 2) * 48 ≤ 140737488355328) (env page a : Int) (i1 : I64 env) (i2 : I64 page) (i3 : I64 a) :
    Calls Try.prog 17 #[.pointer (some ⟨m, 0, none⟩), .int .i64 env, .int .i64 page, .int .i64 a] w fun e w' => e = .returned (.tuple #[.int .i64 (loadR s env page a).1, .int .i64 (loadR s env page a).2]) ∧ StN M w0 m i own s w w' := by
  refine (P.load h.rep h.hok (h.few hi) env page a i1 i2 i3).mono ?_
  rintro e w' ⟨rfl, hn⟩
  exact ⟨rfl, h.next P hn h.hok h.hinv h.len⟩
theorem St.alloc (P : Api M) (h : St M w0 m i own s w) (hi : (i + 2) * 48 ≤ 140737488355328) (env : Int) (i1 : I64 env) :
    Calls Try.prog 13 #[.pointer (some ⟨m, 0, none⟩), .int .i64 env] w fun e w' => e = .returned (.tuple #[.int .i64 (allocR s env).1.1, .int .i64 (allocR s env).1.2]) ∧ StN M w0 m (i + 1) own (allocR s env).2 w w' := by
  refine (P.alloc h.rep h.hok (h.few hi) env i1).mono ?_
  rintro e w' ⟨rfl, hn⟩
  exact ⟨rfl, h.next P hn (h.hok.alloc env) (h.hinv.alloc h.hok.inv env) (by have := (allocR_grows (s := s) env).2.2.2.2.2; have := h.len; omega)⟩
theorem St.derive (P : Api M) (h : St M w0 m i own s w) (hi : (i + 2) * 48 ≤ 140737488355328) (env : Int) (hd : Int) (te : Int) (wt : Bool) (i1 : I64 env) (i2 : I64 hd) (i3 : I64 te) :
    Calls Try.prog 19 #[.pointer (some ⟨m, 0, none⟩), .int .i64 env, .int .i64 hd, .int .i64 te, .bool wt] w fun e w' => e = .returned (.tuple #[.int .i64 (deriveR s env hd te wt).1.1, .int .i64 (deriveR s env hd te wt).1.2]) ∧ StN M w0 m (i + 1) own (deriveR s env hd te wt).2 w w' := by
  refine (P.derive h.rep h.hok (h.few hi) env hd te wt i1 i2 i3).mono ?_
  rintro e w' ⟨rfl, hn⟩
  exact ⟨rfl, h.next P hn (h.hok.derive env hd te wt) (h.hinv.derive h.hok.inv env hd te wt) (by have := (deriveR_grows (s := s) env hd te wt).2.2.2.2.2; have := h.len; omega)⟩
theorem St.revoke (P : Api M) (h : St M w0 m i own s w) (hi : (i + 2) * 48 ≤ 140737488355328) (env : Int) (hd : Int) (i1 : I64 env) (i2 : I64 hd) :
    Calls Try.prog 20 #[.pointer (some ⟨m, 0, none⟩), .int .i64 env, .int .i64 hd] w fun e w' => e = .returned (.int .i64 (revokeR s env hd).1) ∧ StN M w0 m (i + 1) own (revokeR s env hd).2 w w' := by
  refine (P.revoke h.rep h.hok (h.few hi) env hd i1 i2).mono ?_
  rintro e w' ⟨rfl, hn⟩
  exact ⟨rfl, h.next P hn (h.hok.revoke env hd) (h.hinv.revoke h.hok.inv env hd) (by have := (revokeR_grows (s := s) env hd).2.2.2.2.2; have := h.len; omega)⟩
theorem St.drop (P : Api M) (h : St M w0 m i own s w) (hi : (i + 2) * 48 ≤ 140737488355328) (env : Int) (hd : Int) (i1 : I64 env) (i2 : I64 hd) :
    Calls Try.prog 61 #[.pointer (some ⟨m, 0, none⟩), .int .i64 env, .int .i64 hd] w fun e w' => e = .returned (.int .i64 (dropR s env hd).1) ∧ StN M w0 m (i + 1) own (dropR s env hd).2 w w' := by
  refine (P.drop h.rep h.hok (h.few hi) env hd i1 i2).mono ?_
  rintro e w' ⟨rfl, hn⟩
  exact ⟨rfl, h.next P hn (h.hok.drop env hd) (h.hinv.drop h.hok.inv env hd) (by have := (dropR_grows (s := s) env hd).2.2.2.2.2; have := h.len; omega)⟩
theorem St.kill (P : Api M) (h : St M w0 m i own s w) (hi : (i + 2) * 48 ≤ 140737488355328) (env : Int) (i1 : I64 env) :
    Calls Try.prog 63 #[.pointer (some ⟨m, 0, none⟩), .int .i64 env] w fun e w' => e = .returned (.int .i64 (killR s env).1) ∧ StN M w0 m (i + 1) own (killR s env).2 w w' := by
  refine (P.kill h.rep h.hok (h.few hi) env i1).mono ?_
  rintro e w' ⟨rfl, hn⟩
  exact ⟨rfl, h.next P hn (h.hok.kill env) (h.hinv.kill h.hok.inv env) (by have := (killR_grows (s := s) env).2.2.2.2.2; have := h.len; omega)⟩
theorem St.spawn (P : Api M) (h : St M w0 m i own s w) (hi : (i + 2) * 48 ≤ 140737488355328) (env : Int) (i1 : I64 env) :
    Calls Try.prog 64 #[.pointer (some ⟨m, 0, none⟩), .int .i64 env] w fun e w' => e = .returned (.int .i64 (spawnR s env).1) ∧ StN M w0 m (i + 1) own (spawnR s env).2 w w' := by
  refine (P.spawn h.rep h.hok (h.few hi) env i1).mono ?_
  rintro e w' ⟨rfl, hn⟩
  exact ⟨rfl, h.next P hn (h.hok.spawn env) (h.hinv.spawn env) (by have := (spawnR_grows (s := s) env).2.2.2.2.2; have := h.len; omega)⟩
theorem St.map (P : Api M) (h : St M w0 m i own s w) (hi : (i + 2) * 48 ≤ 140737488355328) (env : Int) (page : Int) (hd : Int) (wt : Bool) (slot : Int) (i1 : I64 env) (i2 : I64 page) (i3 : I64 hd) (i4 : I64 slot) :
    Calls Try.prog 16 #[.pointer (some ⟨m, 0, none⟩), .int .i64 env, .int .i64 page, .int .i64 hd, .bool wt, .int .i64 slot] w fun e w' => e = .returned (.int .i64 (mapR s env page hd wt slot).1) ∧ StN M w0 m (i + 1) own (mapR s env page hd wt slot).2 w w' := by
  refine (P.map h.rep h.hok (h.few hi) env page hd wt slot i1 i2 i3 i4).mono ?_
  rintro e w' ⟨rfl, hn⟩
  exact ⟨rfl, h.next P hn (h.hok.map env page hd wt slot) (h.hinv.map env page hd wt slot) (by have := (mapR_grows (s := s) env page hd wt slot).2.2.2.2.2; have := h.len; omega)⟩
theorem St.unmap (P : Api M) (h : St M w0 m i own s w) (hi : (i + 2) * 48 ≤ 140737488355328) (env : Int) (page : Int) (i1 : I64 env) (i2 : I64 page) :
    Calls Try.prog 31 #[.pointer (some ⟨m, 0, none⟩), .int .i64 env, .int .i64 page] w fun e w' => e = .returned (.int .i64 (unmapR s env page).1) ∧ StN M w0 m (i + 1) own (unmapR s env page).2 w w' := by
  refine (P.unmap h.rep h.hok (h.few hi) env page i1 i2).mono ?_
  rintro e w' ⟨rfl, hn⟩
  exact ⟨rfl, h.next P hn (h.hok.unmap env page) (h.hinv.unmap env page) (by have := (unmapR_grows (s := s) env page).2.2.2.2.2; have := h.len; omega)⟩
theorem St.store (P : Api M) (h : St M w0 m i own s w) (hi : (i + 2) * 48 ≤ 140737488355328) (env : Int) (page : Int) (a : Int) (v : Int) (i1 : I64 env) (i2 : I64 page) (i3 : I64 a) (i4 : I64 v) :
    Calls Try.prog 18 #[.pointer (some ⟨m, 0, none⟩), .int .i64 env, .int .i64 page, .int .i64 a, .int .i64 v] w fun e w' => e = .returned (.int .i64 (storeR s env page a v).1) ∧ StN M w0 m (i + 1) own (storeR s env page a v).2 w w' := by
  refine (P.store h.rep h.hok (h.few hi) env page a v i1 i2 i3 i4).mono ?_
  rintro e w' ⟨rfl, hn⟩
  exact ⟨rfl, h.next P hn (h.hok.store env page a v) (h.hinv.store env page a v) (by have := (storeR_grows (s := s) env page a v).2.2.2.2.2; have := h.len; omega)⟩
end
end Go.Proofs.Ytinlkcmdbjcofab

/-
  'built': the machine that a statement begins with.
-/
namespace Go.Proofs.Ytinlkcmdbjcofab
open Go.RowKit
set_option linter.unusedVariables false
attribute [local go_sem ↓] Go.wp_at_zero Go.wp_at_succ

theorem cf_may (x y z : Int) : mayB (cfA x) (cfB y) (cfC z) = true := by
  have h1 := pk_lt x (show 0 < 16 by omega)
  have h2 := pk_lt y (show 0 < 8 by omega)
  have h3 := pk_lt z (show 0 < 3 by omega)
  unfold mayB cfA cfB cfC
  simp
  omega
theorem cfA_le (x : Int) : cfA x ≤ 16 := by have := pk_lt x (show 0 < 16 by omega); unfold cfA; omega
theorem cfB_le (x : Int) : cfB x ≤ 8 := by have := pk_lt x (show 0 < 8 by omega); unfold cfB; omega
theorem cfC_le (x : Int) : cfC x ≤ 4 := by have := pk_lt x (show 0 < 3 by omega); unfold cfC; omega
theorem cfC_ge (x : Int) : 1 ≤ cfC x := by unfold cfC; omega

set_option maxHeartbeats 1000000 in
set_option maxRecDepth 100000 in
theorem built_any {M : MT} (P : Api M) (x y z : Int) (hx0 : -9223372036854775808 ≤ x) (hx1 : x ≤ 9223372036854775807) (hy0 : -9223372036854775808 ≤ y) (hy1 : y ≤ 9223372036854775807) (hz0 : -9223372036854775808 ≤ z) (hz1 : z ≤ 9223372036854775807) (w : World) :
    Calls Try.prog 9 #[.agg #[.int .i64 x, .int .i64 y, .int .i64 z]] w fun e w' => ∃ (m : Nat) (f : Nat → Option Nat), e = .returned (.pointer (some ⟨m, 0, none⟩)) ∧ Below w.heap.size w w' ∧ NewF M w w' m f (RSt.fresh (cfA x) (cfB y) (cfC z)) := by
  go_enter Try.func9, Try.ntmps9
  go_wp2_with fail
  refine (config_any x y z hx0 hx1 hy0 hy1 hz0 hz1 _).mono ?_
  rintro e w1 ⟨rfl, hb1⟩
  go_wp2_with fail
  refine (P.new_yes (cfA x) (cfB y) (cfC z) _ (cf_may x y z)).mono ?_
  rintro e w2 ⟨m, f, rfl, hb2, hm⟩
  go_wp2_with fail
  refine (P.new_no 1 1 0 _ (by decide)).mono ?_
  rintro e w3 ⟨rfl, hb3⟩
  go_wp2_with fail
  go_ret
  have s1 := hb1.size
  have s2 := hb2.size
  simp at s1
  refine ⟨m, f, rfl, ?_, NewF.low (NewF.of P hm (fun k _ h2 => hb3.block k h2) hb3.size) (by omega)⟩
  exact (((Below.refl _ _).alloc (Nat.le_refl _) _).trans (hb1.mono (by simp))).trans ((hb2.mono (by omega)).trans (hb3.mono (by omega)))

end Go.Proofs.Ytinlkcmdbjcofab

/-
  What environments do: one call, its answer not looked at.
-/
namespace Go.Proofs.Ytinlkcmdbjcofab
open Go.RowKit
set_option linter.unusedVariables false
attribute [local go_sem ↓] Go.wp_at_zero Go.wp_at_succ

/-- One call of an environment from lo to hi - 1. -/
def Ns (lo hi : Nat) (s t : RSt) : Prop :=
  t = s ∨ ∃ env : Nat, lo ≤ env ∧ env < hi ∧ (t = (allocR s env).2 ∨ (∃ (hd te : Int) (wt : Bool), t = (deriveR s env hd te wt).2) ∨ (∃ hd : Int, t = (revokeR s env hd).2) ∨
    (∃ hd : Int, t = (dropR s env hd).2) ∨ t = (killR s env).2 ∨ t = (spawnR s env).2 ∨ (∃ (page hd : Int) (wt : Bool) (slot : Int), t = (mapR s env page hd wt slot).2) ∨
    (∃ page : Int, t = (unmapR s env page).2) ∨ ∃ page a v : Int, t = (storeR s env page a v).2)

section
variable {lo hi : Nat} {s : RSt}
theorem Ns.same : Ns lo hi s s := .inl rfl
theorem Ns.alloc (env : Nat) (h1 : lo ≤ env) (h2 : env < hi) : Ns lo hi s (allocR s env).2 := .inr ⟨env, h1, h2, .inl rfl⟩
theorem Ns.derive (env : Nat) (h1 : lo ≤ env) (h2 : env < hi) (hd te : Int) (wt : Bool) : Ns lo hi s (deriveR s env hd te wt).2 := .inr ⟨env, h1, h2, .inr (.inl ⟨hd, te, wt, rfl⟩)⟩
theorem Ns.revoke (env : Nat) (h1 : lo ≤ env) (h2 : env < hi) (hd : Int) : Ns lo hi s (revokeR s env hd).2 := .inr ⟨env, h1, h2, .inr (.inr (.inl ⟨hd, rfl⟩))⟩
theorem Ns.drop (env : Nat) (h1 : lo ≤ env) (h2 : env < hi) (hd : Int) : Ns lo hi s (dropR s env hd).2 := .inr ⟨env, h1, h2, .inr (.inr (.inr (.inl ⟨hd, rfl⟩)))⟩
theorem Ns.kill (env : Nat) (h1 : lo ≤ env) (h2 : env < hi) : Ns lo hi s (killR s env).2 := .inr ⟨env, h1, h2, .inr (.inr (.inr (.inr (.inl rfl))))⟩
theorem Ns.spawn (env : Nat) (h1 : lo ≤ env) (h2 : env < hi) : Ns lo hi s (spawnR s env).2 := .inr ⟨env, h1, h2, .inr (.inr (.inr (.inr (.inr (.inl rfl)))))⟩
theorem Ns.map (env : Nat) (h1 : lo ≤ env) (h2 : env < hi) (page hd : Int) (wt : Bool) (slot : Int) : Ns lo hi s (mapR s env page hd wt slot).2 := .inr ⟨env, h1, h2, .inr (.inr (.inr (.inr (.inr (.inr (.inl ⟨page, hd, wt, slot, rfl⟩))))))⟩
theorem Ns.unmap (env : Nat) (h1 : lo ≤ env) (h2 : env < hi) (page : Int) : Ns lo hi s (unmapR s env page).2 := .inr ⟨env, h1, h2, .inr (.inr (.inr (.inr (.inr (.inr (.inr (.inl ⟨page, rfl⟩)))))))⟩
theorem Ns.store (env : Nat) (h1 : lo ≤ env) (h2 : env < hi) (page a v : Int) : Ns lo hi s (storeR s env page a v).2 := .inr ⟨env, h1, h2, .inr (.inr (.inr (.inr (.inr (.inr (.inr (.inr ⟨page, a, v, rfl⟩)))))))⟩
end

theorem Ns.low {lo lo' hi : Nat} {s t : RSt} (h : Ns lo hi s t) (hl : lo' ≤ lo) : Ns lo' hi s t := by
  rcases h with rfl | ⟨env, h1, h2, rfl | ⟨hd, te, wt, rfl⟩ | ⟨hd, rfl⟩ | ⟨hd, rfl⟩ | rfl | rfl | ⟨page, hd, wt, slot, rfl⟩ | ⟨page, rfl⟩ | ⟨page, a, v, rfl⟩⟩
  · exact .same
  · exact .alloc env (by omega) h2
  · exact .derive env (by omega) h2 hd te wt
  · exact .revoke env (by omega) h2 hd
  · exact .drop env (by omega) h2 hd
  · exact .kill env (by omega) h2
  · exact .spawn env (by omega) h2
  · exact .map env (by omega) h2 page hd wt slot
  · exact .unmap env (by omega) h2 page
  · exact .store env (by omega) h2 page a v
theorem Ns.grows {lo hi : Nat} {s t : RSt} (h : Ns lo hi s t) : Grows s t := by
  rcases h with rfl | ⟨env, h1, h2, rfl | ⟨hd, te, wt, rfl⟩ | ⟨hd, rfl⟩ | ⟨hd, rfl⟩ | rfl | rfl | ⟨page, hd, wt, slot, rfl⟩ | ⟨page, rfl⟩ | ⟨page, a, v, rfl⟩⟩
  · exact Grows.refl _
  · exact allocR_grows _
  · exact deriveR_grows _ _ _ _
  · exact revokeR_grows _ _
  · exact dropR_grows _ _
  · exact killR_grows _
  · exact spawnR_grows _
  · exact mapR_grows _ _ _ _ _
  · exact unmapR_grows _ _
  · exact storeR_grows _ _ _ _

def LStep.agg (o : LStep) : Value := .agg #[.int .i64 o.K, .int .i64 o.V, .int .i64 o.A, .int .i64 o.B, .int .i64 o.C, .bool o.F]
def LStep.i64 (o : LStep) : Prop := I64 o.V ∧ I64 o.A ∧ I64 o.B ∧ I64 o.C

set_option maxHeartbeats 1000000 in
theorem handle_any (c : Int) (hc0 : -9223372036854775808 ≤ c) (hc1 : c ≤ 9223372036854775807) (w : World) :
    Calls Try.prog 29 #[.int .i64 c] w fun e w' => ∃ k : Nat, (k : Int) < 64 ∧ e = .returned (.int .i64 k) ∧ w' = w := by
  go_enter Try.func29, Try.ntmps29
  go_wp2_with fail
  refine (pick_ex _ _ hc0 hc1 (by decide) (by decide) _).mono ?_
  rintro e w1 ⟨k, hk, rfl, rfl⟩
  go_wp2_with fail
  go_ret
  exact ⟨k, hk, rfl, rfl⟩

set_option maxHeartbeats 1000000 in
theorem page_any (c : Int) (hc0 : -9223372036854775808 ≤ c) (hc1 : c ≤ 9223372036854775807) (w : World) :
    Calls Try.prog 30 #[.int .i64 c] w fun e w' => ∃ k : Int, -1 ≤ k ∧ k ≤ 16 ∧ e = .returned (.int .i64 k) ∧ w' = w := by
  go_enter Try.func30, Try.ntmps30
  go_wp2_with fail
  refine (pick_ex _ _ hc0 hc1 (by decide) (by decide) _).mono ?_
  rintro e w1 ⟨k, hk, rfl, hw1⟩
  subst w1
  go_wp2_with fail
  refine (pick_ex _ _ hc0 hc1 (by decide) (by decide) _).mono ?_
  rintro e w2 ⟨j, hj, rfl, hw2⟩
  subst w2
  have hw : IntKind.i64.wrap ((k : Int) - (j : Int)) = (k : Int) - (j : Int) := by rw [IntKind.wrap_i64]; omega
  go_wp2_with fail
  go_ret
  exact ⟨_, by omega, by omega, rfl, rfl⟩

end Go.Proofs.Ytinlkcmdbjcofab

/-
  'ends' and 'noise'.
-/
namespace Go.Proofs.Ytinlkcmdbjcofab
open Go.RowKit
set_option linter.unusedVariables false
attribute [local go_sem ↓] Go.wp_at_zero Go.wp_at_succ

section
variable {M : MT} {w0 w w' : World} {m i : Nat} {own : Nat → Nat × Nat} {s s' : RSt}

set_option maxHeartbeats 4000000 in
set_option maxRecDepth 100000 in
theorem ends_any (P : Api M) (h : St M w0 m i own s w) (hi : (i + 2) * 48 ≤ 140737488355328) (o : LStep) (ho : o.i64) (hK10 : o.K ≠ 10) {lo hi' : Nat} (env : Nat) (h1 : lo ≤ env) (h2 : env < hi') (h4 : env < 4) :
    Calls Try.prog 32 #[.pointer (some ⟨m, 0, none⟩), .agg #[.int .i64 o.K, .int .i64 o.V, .int .i64 o.A, .int .i64 o.B, .int .i64 o.C, .bool o.F], .int .i64 env] w fun e w' => e = .returned (.tuple #[]) ∧ ∃ s', Ns lo hi' s s' ∧ StN M w0 m (i + 1) own s' w w' := by
  obtain ⟨a0, a1⟩ := ho.2.1
  have hW0 : Below w.heap.size w (w.alloc (.cells #[.int .i64 o.K, .int .i64 o.V, .int .i64 o.A, .int .i64 o.B, .int .i64 o.C, .bool o.F] 31)) := (Below.refl _ _).alloc (Nat.le_refl _) _
  have hW := hW0.drew
  have hs0 := h.below P hW0
  have hs := h.below P hW
  have ht := h.top w.heap.size (Nat.le_refl _)
  have hbx := (Blk.new w [.int .i64 o.K, .int .i64 o.V, .int .i64 o.A, .int .i64 o.B, .int .i64 o.C, .bool o.F] 31).drew
  have ie : I64 (env : Int) := ⟨by omega, by omega⟩
  have y10 : (o.K == 10) = false := beq_eq_false_iff_ne.2 hK10
  clear hK10
  go_enter Try.func32, Try.ntmps32
  by_cases hK2 : o.K = 2
  · have y2 : (o.K == 2) = true := by simp [hK2]
    clear hK2
    go_wp2_with fail
    refine (handle_any _ a0 a1 _).mono ?_
    rintro e w5 ⟨hd, hhd, rfl, hw5⟩
    subst hw5
    go_wp2_with fail
    refine (hs0.revoke P hi env hd ie ⟨by omega, by omega⟩).mono ?_
    rintro e w6 ⟨rfl, hn⟩
    go_wp2_with fail
    go_end0
    exact ⟨rfl, _, .revoke env h1 h2 hd, hn.after hW0⟩
  have y2 : (o.K == 2) = false := beq_eq_false_iff_ne.2 hK2
  by_cases hK3 : o.K = 3
  · have y3 : (o.K == 3) = true := by simp [hK3]
    clear hK2 hK3
    go_wp2_with fail
    refine (handle_any _ a0 a1 _).mono ?_
    rintro e w5 ⟨hd, hhd, rfl, hw5⟩
    subst hw5
    go_wp2_with fail
    refine (hs0.drop P hi env hd ie ⟨by omega, by omega⟩).mono ?_
    rintro e w6 ⟨rfl, hn⟩
    go_wp2_with fail
    go_end0
    exact ⟨rfl, _, .drop env h1 h2 hd, hn.after hW0⟩
  have y3 : (o.K == 3) = false := beq_eq_false_iff_ne.2 hK3
  by_cases hK4 : o.K = 11
  · have y4 : (o.K == 11) = true := by simp [hK4]
    clear hK2 hK3 hK4
    go_wp2_with fail
    refine (hs0.kill P hi env ie).mono ?_
    rintro e w1 ⟨rfl, hn⟩
    go_wp2_with fail
    go_end0
    exact ⟨rfl, _, .kill env h1 h2, hn.after hW0⟩
  have y4 : (o.K == 11) = false := beq_eq_false_iff_ne.2 hK4
  by_cases hK5 : o.K = 12
  · have y5 : (o.K == 12) = true := by simp [hK5]
    clear hK2 hK3 hK4 hK5
    go_wp2_with fail
    refine (hs0.spawn P hi env ie).mono ?_
    rintro e w1 ⟨rfl, hn⟩
    go_wp2_with fail
    go_end0
    exact ⟨rfl, _, .spawn env h1 h2, hn.after hW0⟩
  · have y5 : (o.K == 12) = false := beq_eq_false_iff_ne.2 hK5
    clear hK2 hK3 hK4 hK5
    go_wp2_with fail
    go_end0
    exact ⟨rfl, _, .same, StN.of_below P h.mono hW0⟩
end
end Go.Proofs.Ytinlkcmdbjcofab

/-
  'noise'.
-/
namespace Go.Proofs.Ytinlkcmdbjcofab
open Go.RowKit
set_option linter.unusedVariables false
attribute [local go_sem ↓] Go.wp_at_zero Go.wp_at_succ

def box2 (w : World) (o : LStep) (a b c : Int) : World := (w.alloc (.cells #[.int .i64 o.K, .int .i64 o.V, .int .i64 o.A, .int .i64 o.B, .int .i64 o.C, .bool o.F] 31)).alloc (.cells #[.int .i64 a, .int .i64 b, .int .i64 c] 27)

section
variable {M : MT} {w0 w w' : World} {m i : Nat} {own : Nat → Nat × Nat} {s s' : RSt}

set_option maxHeartbeats 4000000 in
set_option maxRecDepth 100000 in
theorem noise_any (P : Api M) (h : St M w0 m i own s w) (hi : (i + 2) * 48 ≤ 140737488355328) (o : LStep) (ho : o.i64) (hK : o.K < 7 ∨ 10 < o.K) (a b c : Nat) (hb : b ≤ 8) (hc : c ≤ 4) (hc2 : 2 ≤ c) :
    Calls Try.prog 14 #[.pointer (some ⟨m, 0, none⟩), .agg #[.int .i64 o.K, .int .i64 o.V, .int .i64 o.A, .int .i64 o.B, .int .i64 o.C, .bool o.F], .agg #[.int .i64 a, .int .i64 b, .int .i64 c]] w fun e w' => e = .returned (.tuple #[]) ∧ ∃ s', Ns 1 c s s' ∧ StN M w0 m (i + 1) own s' w w' := by
  obtain ⟨⟨v0, v1⟩, ⟨a0, a1⟩, ⟨b0, b1⟩, ⟨c0, c1⟩⟩ := ho
  have hW0 : Below w.heap.size w (box2 w o a b c) := ((Below.refl _ _).alloc (Nat.le_refl _) _).alloc (by simp) _
  have ht := h.top w.heap.size (Nat.le_refl _)
  have ht2 := h.top (w.heap.size + 1) (by omega)
  have hc1' : IntKind.i64.wrap ((c : Int) - 1) = (c : Int) - 1 := by rw [IntKind.wrap_i64]; omega
  go_enter Try.func14, Try.ntmps14
  have ie4 : (c : Int) ≤ 4611686018427387904 := by omega
  have hs0 := h.below P hW0
  have y7 : (o.K == 7) = false := beq_eq_false_iff_ne.2 (by omega)
  have y8 : (o.K == 8) = false := beq_eq_false_iff_ne.2 (by omega)
  have y9 : (o.K == 9) = false := beq_eq_false_iff_ne.2 (by omega)
  have hK10 : o.K ≠ 10 := by omega
  clear hK
  go_wp2_with fail
  refine (pick_ex _ _ v0 v1 (by omega) (by omega) _).mono ?_
  rintro e w5 ⟨k, hk, rfl, hw5⟩
  subst w5
  obtain ⟨env, henv⟩ : ∃ env : Nat, (env : Int) = 1 + (k : Int) := ⟨1 + k, by omega⟩
  have hv1 : IntKind.i64.wrap (1 + (k : Int)) = (env : Int) := by rw [IntKind.wrap_i64]; omega
  have h1 : 1 ≤ env := by omega
  have h2 : env < c := by omega
  have ie : I64 (env : Int) := ⟨by omega, by omega⟩
  have hW := hW0.drew
  have hs := h.below P hW
  have hbx := ((Blk.new w [.int .i64 o.K, .int .i64 o.V, .int .i64 o.A, .int .i64 o.B, .int .i64 o.C, .bool o.F] 31).alloc (.cells #[.int .i64 a, .int .i64 b, .int .i64 c] 27)).drew
  have hcx := (Blk.at (w.alloc (.cells #[.int .i64 o.K, .int .i64 o.V, .int .i64 o.A, .int .i64 o.B, .int .i64 o.C, .bool o.F] 31)) [.int .i64 a, .int .i64 b, .int .i64 c] 27 (w.heap.size + 1) (by simp)).drew
  have hb1' : IntKind.i64.wrap ((b : Int) + 1) = (b : Int) + 1 := by rw [IntKind.wrap_i64]; omega
  clear henv hk
  by_cases hK0 : o.K = 0
  · have y0 : (o.K == 0) = true := by simp [hK0]
    clear hK0
    go_wp2_with fail
    refine (hs0.alloc P hi env ie).mono ?_
    rintro e w6 ⟨rfl, hn⟩
    go_wp2_with fail
    go_end0
    exact ⟨rfl, _, .alloc env h1 h2, hn.after hW0⟩
  have y0 : (o.K == 0) = false := beq_eq_false_iff_ne.2 hK0
  by_cases hK1 : o.K = 1
  · have y1 : (o.K == 1) = true := by simp [hK1]
    clear hK0 hK1
    go_wp2_with fail
    go_region_held3 (fun w' => w'.cell? ⟨w.heap.size, 2, none⟩ = some (.int .i64 o.A) ∧ w'.cell? ⟨w.heap.size, 3, none⟩ = some (.int .i64 o.B) ∧ w'.cell? ⟨w.heap.size, 5, none⟩ = some (.bool o.F) ∧ w'.cell? ⟨w.heap.size + 1, 2, none⟩ = some (.int .i64 c)) (go_keep)
      ((first
        | (go_at_call 29; refine (handle_any _ (by first | exact a0 | exact b0) (by first | exact a1 | exact b1) _).mono ?_; rintro e w5 ⟨hd, hhd, rfl, hw5⟩; subst hw5)
        | (go_at_call 15; refine (pick_ex _ _ (by first | exact b0 | exact c0) (by first | exact b1 | exact c1) (by first | decide | omega) (by first | decide | omega) _).mono ?_; rintro e w5 ⟨te, hte, rfl, hw5⟩; subst hw5)
        | (go_at_call 19; refine (hs.derive P hi env _ _ o.F ie ⟨by omega, by omega⟩ ⟨by omega, by omega⟩).mono ?_; rintro e w6 ⟨rfl, hn⟩
           have e2 := (hn.blk hbx (by rw [ht]; omega)).cell 2
           have e3 := (hn.blk hbx (by rw [ht]; omega)).cell 3
           have e5 := (hn.blk hbx (by rw [ht]; omega)).cell 5
           have f2 := (hn.blk hcx (by rw [ht2]; omega)).cell 2
           simp at e2 e3 e5 f2)))
    go_wp2_with fail
    go_end0
    exact ⟨rfl, _, .derive env h1 h2 _ _ _, hn.after hW⟩
  have y1 : (o.K == 1) = false := beq_eq_false_iff_ne.2 hK1
  by_cases hK4 : o.K = 4
  · have y4 : (o.K == 4) = true := by simp [hK4]
    clear hK0 hK1 hK4
    go_wp2_with fail
    go_region_held3 (fun w' => w'.cell? ⟨w.heap.size, 2, none⟩ = some (.int .i64 o.A) ∧ w'.cell? ⟨w.heap.size, 3, none⟩ = some (.int .i64 o.B) ∧ w'.cell? ⟨w.heap.size, 4, none⟩ = some (.int .i64 o.C) ∧ w'.cell? ⟨w.heap.size, 5, none⟩ = some (.bool o.F) ∧ w'.cell? ⟨w.heap.size + 1, 1, none⟩ = some (.int .i64 b)) (go_keep)
      ((first
        | (go_at_call 29; refine (handle_any _ (by first | exact a0 | exact b0) (by first | exact a1 | exact b1) _).mono ?_; rintro e w5 ⟨hd, hhd, rfl, hw5⟩; subst hw5)
        | (go_at_call 30; refine (page_any _ a0 a1 _).mono ?_; rintro e w5 ⟨pg, hpg0, hpg1, rfl, hw5⟩; subst hw5)
        | (go_at_call 15; refine (pick_ex _ _ (by first | exact b0 | exact c0) (by first | exact b1 | exact c1) (by first | decide | omega) (by first | decide | omega) _).mono ?_; rintro e w5 ⟨te, hte, rfl, hw5⟩; subst hw5)
        | (go_at_call 16; refine (hs.map P hi env _ _ o.F _ ie ⟨by omega, by omega⟩ ⟨by omega, by omega⟩ ⟨by omega, by omega⟩).mono ?_; rintro e w6 ⟨rfl, hn⟩
           have e2 := (hn.blk hbx (by rw [ht]; omega)).cell 2
           have e3 := (hn.blk hbx (by rw [ht]; omega)).cell 3
           have e4 := (hn.blk hbx (by rw [ht]; omega)).cell 4
           have e5 := (hn.blk hbx (by rw [ht]; omega)).cell 5
           have f1 := (hn.blk hcx (by rw [ht2]; omega)).cell 1
           simp at e2 e3 e4 e5 f1)))
    go_wp2_with fail
    go_end0
    exact ⟨rfl, _, .map env h1 h2 _ _ _ _, hn.after hW⟩
  have y4 : (o.K == 4) = false := beq_eq_false_iff_ne.2 hK4
  by_cases hK5 : o.K = 5
  · have y5 : (o.K == 5) = true := by simp [hK5]
    clear hK0 hK1 hK4 hK5
    go_wp2_with fail
    refine (page_any _ a0 a1 _).mono ?_
    rintro e w5 ⟨pg, hpg0, hpg1, rfl, hw5⟩
    subst w5
    go_wp2_with fail
    refine (hs0.unmap P hi env pg ie ⟨by omega, by omega⟩).mono ?_
    rintro e w6 ⟨rfl, hn⟩
    go_wp2_with fail
    go_end0
    exact ⟨rfl, _, .unmap env h1 h2 _, hn.after hW0⟩
  have y5 : (o.K == 5) = false := beq_eq_false_iff_ne.2 hK5
  by_cases hK6 : o.K = 6
  · have y6 : (o.K == 6) = true := by simp [hK6]
    clear hK0 hK1 hK4 hK5 hK6
    go_wp2_with fail
    go_region_held3 (fun w' => w'.cell? ⟨w.heap.size, 2, none⟩ = some (.int .i64 o.A) ∧ w'.cell? ⟨w.heap.size, 3, none⟩ = some (.int .i64 o.B) ∧ w'.cell? ⟨w.heap.size, 4, none⟩ = some (.int .i64 o.C)) (go_keep)
      ((first
        | (go_at_call 30; refine (page_any _ a0 a1 _).mono ?_; rintro e w5 ⟨pg, hpg0, hpg1, rfl, hw5⟩; subst hw5)
        | (go_at_call 15; refine (pick_ex _ _ (by first | exact b0 | exact c0) (by first | exact b1 | exact c1) (by first | decide | omega) (by first | decide | omega) _).mono ?_; rintro e w5 ⟨te, hte, rfl, hw5⟩; subst hw5)
        | (go_at_call 18; refine (hs.store P hi env _ _ _ ie ⟨by omega, by omega⟩ ⟨by omega, by omega⟩ ⟨by omega, by omega⟩).mono ?_; rintro e w6 ⟨rfl, hn⟩
           have e2 := (hn.blk hbx (by rw [ht]; omega)).cell 2
           have e3 := (hn.blk hbx (by rw [ht]; omega)).cell 3
           have e4 := (hn.blk hbx (by rw [ht]; omega)).cell 4
           simp at e2 e3 e4)))
    go_wp2_with fail
    go_end0
    exact ⟨rfl, _, .store env h1 h2 _ _ _, hn.after hW⟩
  · have y6 : (o.K == 6) = false := beq_eq_false_iff_ne.2 hK6
    clear hK0 hK1 hK4 hK5 hK6
    go_wp2_with fail
    refine (ends_any P hs0 hi o ⟨⟨v0, v1⟩, ⟨a0, a1⟩, ⟨b0, b1⟩, ⟨c0, c1⟩⟩ hK10 env h1 h2 (by omega)).mono ?_
    rintro e w6 ⟨rfl, s2, hns, hn⟩
    go_wp2_with fail
    go_end0
    exact ⟨rfl, s2, hns, hn.after hW0⟩
end
end Go.Proofs.Ytinlkcmdbjcofab

/-
  'any2': one call of any environment, where none is kept.
-/
namespace Go.Proofs.Ytinlkcmdbjcofab
open Go.RowKit
set_option linter.unusedVariables false
attribute [local go_sem ↓] Go.wp_at_zero Go.wp_at_succ

section
variable {M : MT} {w0 w w' : World} {m i : Nat} {own : Nat → Nat × Nat} {s s' : RSt}

theorem noise_raw (P : Api M) (h : St M w0 m i own s w) (hi : (i + 2) * 48 ≤ 140737488355328) (K V A B C : Int) (F : Bool) (iv : I64 V) (ia : I64 A) (ib : I64 B) (ic : I64 C) (hK : K < 7 ∨ 10 < K) (a b c : Nat) (hb : b ≤ 8) (hc : c ≤ 4) (hc2 : 2 ≤ c) :
    Calls Try.prog 14 #[.pointer (some ⟨m, 0, none⟩), .agg #[.int .i64 K, .int .i64 V, .int .i64 A, .int .i64 B, .int .i64 C, .bool F], .agg #[.int .i64 a, .int .i64 b, .int .i64 c]] w fun e w' => e = .returned (.tuple #[]) ∧ ∃ s', Ns 1 c s s' ∧ StN M w0 m (i + 1) own s' w w' :=
  noise_any P h hi ⟨K, V, A, B, C, F⟩ ⟨iv, ia, ib, ic⟩ hK a b c hb hc hc2

set_option maxHeartbeats 8000000 in
set_option maxRecDepth 100000 in
theorem any2_any (P : Api M) (h : St M w0 m i own s w) (hi : (i + 2) * 48 ≤ 140737488355328) (o : LStep) (ho : o.i64) (a b c : Nat) (hb : b ≤ 8) (hc : c ≤ 4) (hc2 : 2 ≤ c) :
    Calls Try.prog 12 #[.pointer (some ⟨m, 0, none⟩), .agg #[.int .i64 o.K, .int .i64 o.V, .int .i64 o.A, .int .i64 o.B, .int .i64 o.C, .bool o.F], .agg #[.int .i64 a, .int .i64 b, .int .i64 c]] w fun e w' => e = .returned (.tuple #[]) ∧ ∃ s', Ns 0 c s s' ∧ StN M w0 m (i + 1) own s' w w' := by
  have ho' := ho
  obtain ⟨⟨v0, v1⟩, ⟨a0, a1⟩, ⟨b0, b1⟩, ⟨c0, c1⟩⟩ := ho
  have hW0 : Below w.heap.size w (box2 w o a b c) := ((Below.refl _ _).alloc (Nat.le_refl _) _).alloc (by simp) _
  have ht := h.top w.heap.size (Nat.le_refl _)
  have ht2 := h.top (w.heap.size + 1) (by omega)
  have ie4 : (c : Int) ≤ 4611686018427387904 := by omega
  have ie3 : (0 : Int) < (c : Int) := by omega
  have hs0 := h.below P hW0
  have hW := hW0.drew
  have hs := h.below P hW
  have hbx := ((Blk.new w [.int .i64 o.K, .int .i64 o.V, .int .i64 o.A, .int .i64 o.B, .int .i64 o.C, .bool o.F] 31).alloc (.cells #[.int .i64 a, .int .i64 b, .int .i64 c] 27)).drew
  have hcx := (Blk.at (w.alloc (.cells #[.int .i64 o.K, .int .i64 o.V, .int .i64 o.A, .int .i64 o.B, .int .i64 o.C, .bool o.F] 31)) [.int .i64 a, .int .i64 b, .int .i64 c] 27 (w.heap.size + 1) (by simp)).drew
  have hb1' : IntKind.i64.wrap ((b : Int) + 1) = (b : Int) + 1 := by rw [IntKind.wrap_i64]; omega
  have ie : I64 0 := ⟨by omega, by omega⟩
  go_enter Try.func12, Try.ntmps12
  by_cases hK7 : 7 ≤ o.K
  · by_cases hK10 : o.K ≤ 10
    · go_wp2_with fail
      refine bodyPost_ret (v := .tuple #[]) (by simp [results, Try.results12]) rfl ?_
      exact ⟨rfl, _, .same, StN.of_below P h.mono hW0⟩
    · have hKb : 10 < o.K := by omega
      go_wp2_with fail
      refine (pick_ex _ _ v0 v1 ie3 ie4 _).mono ?_
      rintro e w5 ⟨k, hk, rfl, hw5⟩
      subst w5
      by_cases hk0 : (0 : Int) < (k : Int)
      · go_wp2_with fail
        go_region_held3 (fun w' => w'.cell? ⟨w.heap.size, 0, none⟩ = some (.int .i64 o.K) ∧ w'.cell? ⟨w.heap.size, 1, none⟩ = some (.int .i64 o.V) ∧ w'.cell? ⟨w.heap.size, 2, none⟩ = some (.int .i64 o.A) ∧ w'.cell? ⟨w.heap.size, 3, none⟩ = some (.int .i64 o.B) ∧ w'.cell? ⟨w.heap.size, 4, none⟩ = some (.int .i64 o.C) ∧ w'.cell? ⟨w.heap.size, 5, none⟩ = some (.bool o.F) ∧ w'.cell? ⟨w.heap.size + 1, 0, none⟩ = some (.int .i64 a) ∧ w'.cell? ⟨w.heap.size + 1, 1, none⟩ = some (.int .i64 b) ∧ w'.cell? ⟨w.heap.size + 1, 2, none⟩ = some (.int .i64 c)) (go_keep)
          ((first
            | (go_at_call 15; refine (pick_ex _ _ v0 v1 ie3 ie4 _).mono ?_; rintro e w5 ⟨k2, hk2, rfl, hw5⟩; subst hw5
               have hkw2 : IntKind.i64.wrap ((k2 : Int) - 1) = (k2 : Int) - 1 := by rw [IntKind.wrap_i64]; omega)
            | (go_at_call 14; refine (noise_raw P hs hi o.K ((k2 : Int) - 1) o.A o.B o.C o.F ⟨by omega, by omega⟩ ⟨a0, a1⟩ ⟨b0, b1⟩ ⟨c0, c1⟩ (by omega) a b c hb hc hc2).mono ?_; rintro e w6 ⟨rfl, s2, hns, hn⟩
               have e0 := (hn.blk hbx (by rw [ht]; omega)).cell 0
               have e1 := (hn.blk hbx (by rw [ht]; omega)).cell 1
               have e2 := (hn.blk hbx (by rw [ht]; omega)).cell 2
               have e3 := (hn.blk hbx (by rw [ht]; omega)).cell 3
               have e4 := (hn.blk hbx (by rw [ht]; omega)).cell 4
               have e5 := (hn.blk hbx (by rw [ht]; omega)).cell 5
               have f0 := (hn.blk hcx (by rw [ht2]; omega)).cell 0
               have f1 := (hn.blk hcx (by rw [ht2]; omega)).cell 1
               have f2 := (hn.blk hcx (by rw [ht2]; omega)).cell 2
               simp at e0 e1 e2 e3 e4 e5 f0 f1 f2)))
        go_wp2_with fail
        refine bodyPost_ret (v := .tuple #[]) (by simp [results, Try.results12]) rfl ?_
        exact ⟨rfl, s2, hns.low (by omega), hn.after hW⟩
      have hk1 : k = 0 := by omega
      subst hk1
      clear hk hk0
      by_cases hK0 : o.K = 0
      · have y0 : (o.K == 0) = true := by simp [hK0]
        clear hK0
        go_wp2_with fail
        refine (hs0.alloc P hi 0 ie).mono ?_
        rintro e w6 ⟨rfl, hn⟩
        go_wp2_with fail
        go_end0
        exact ⟨rfl, _, .alloc 0 (by omega) (by omega), hn.after hW0⟩
      have y0 : (o.K == 0) = false := beq_eq_false_iff_ne.2 hK0
      by_cases hK1 : o.K = 1
      · have y1 : (o.K == 1) = true := by simp [hK1]
        clear hK0 hK1
        go_wp2_with fail
        go_region_held3 (fun w' => w'.cell? ⟨w.heap.size, 2, none⟩ = some (.int .i64 o.A) ∧ w'.cell? ⟨w.heap.size, 3, none⟩ = some (.int .i64 o.B) ∧ w'.cell? ⟨w.heap.size, 5, none⟩ = some (.bool o.F) ∧ w'.cell? ⟨w.heap.size + 1, 2, none⟩ = some (.int .i64 c)) (go_keep)
          ((first
            | (go_at_call 29; refine (handle_any _ (by first | exact a0 | exact b0) (by first | exact a1 | exact b1) _).mono ?_; rintro e w5 ⟨hd, hhd, rfl, hw5⟩; subst hw5)
            | (go_at_call 15; refine (pick_ex _ _ (by first | exact b0 | exact c0) (by first | exact b1 | exact c1) (by first | decide | omega) (by first | decide | omega) _).mono ?_; rintro e w5 ⟨te, hte, rfl, hw5⟩; subst hw5)
            | (go_at_call 19; refine (hs.derive P hi 0 _ _ o.F ie ⟨by omega, by omega⟩ ⟨by omega, by omega⟩).mono ?_; rintro e w6 ⟨rfl, hn⟩
               have e2 := (hn.blk hbx (by rw [ht]; omega)).cell 2
               have e3 := (hn.blk hbx (by rw [ht]; omega)).cell 3
               have e5 := (hn.blk hbx (by rw [ht]; omega)).cell 5
               have f2 := (hn.blk hcx (by rw [ht2]; omega)).cell 2
               simp at e2 e3 e5 f2)))
        go_wp2_with fail
        go_end0
        exact ⟨rfl, _, .derive 0 (by omega) (by omega) _ _ _, hn.after hW⟩
      have y1 : (o.K == 1) = false := beq_eq_false_iff_ne.2 hK1
      by_cases hK4 : o.K = 4
      · have y4 : (o.K == 4) = true := by simp [hK4]
        clear hK0 hK1 hK4
        go_wp2_with fail
        go_region_held3 (fun w' => w'.cell? ⟨w.heap.size, 2, none⟩ = some (.int .i64 o.A) ∧ w'.cell? ⟨w.heap.size, 3, none⟩ = some (.int .i64 o.B) ∧ w'.cell? ⟨w.heap.size, 4, none⟩ = some (.int .i64 o.C) ∧ w'.cell? ⟨w.heap.size, 5, none⟩ = some (.bool o.F) ∧ w'.cell? ⟨w.heap.size + 1, 1, none⟩ = some (.int .i64 b)) (go_keep)
          ((first
            | (go_at_call 29; refine (handle_any _ (by first | exact a0 | exact b0) (by first | exact a1 | exact b1) _).mono ?_; rintro e w5 ⟨hd, hhd, rfl, hw5⟩; subst hw5)
            | (go_at_call 30; refine (page_any _ a0 a1 _).mono ?_; rintro e w5 ⟨pg, hpg0, hpg1, rfl, hw5⟩; subst hw5)
            | (go_at_call 15; refine (pick_ex _ _ (by first | exact b0 | exact c0) (by first | exact b1 | exact c1) (by first | decide | omega) (by first | decide | omega) _).mono ?_; rintro e w5 ⟨te, hte, rfl, hw5⟩; subst hw5)
            | (go_at_call 16; refine (hs.map P hi 0 _ _ o.F _ ie ⟨by omega, by omega⟩ ⟨by omega, by omega⟩ ⟨by omega, by omega⟩).mono ?_; rintro e w6 ⟨rfl, hn⟩
               have e2 := (hn.blk hbx (by rw [ht]; omega)).cell 2
               have e3 := (hn.blk hbx (by rw [ht]; omega)).cell 3
               have e4 := (hn.blk hbx (by rw [ht]; omega)).cell 4
               have e5 := (hn.blk hbx (by rw [ht]; omega)).cell 5
               have f1 := (hn.blk hcx (by rw [ht2]; omega)).cell 1
               simp at e2 e3 e4 e5 f1)))
        go_wp2_with fail
        go_end0
        exact ⟨rfl, _, .map 0 (by omega) (by omega) _ _ _ _, hn.after hW⟩
      have y4 : (o.K == 4) = false := beq_eq_false_iff_ne.2 hK4
      by_cases hK5 : o.K = 5
      · have y5 : (o.K == 5) = true := by simp [hK5]
        clear hK0 hK1 hK4 hK5
        go_wp2_with fail
        refine (page_any _ a0 a1 _).mono ?_
        rintro e w5 ⟨pg, hpg0, hpg1, rfl, hw5⟩
        subst w5
        go_wp2_with fail
        refine (hs0.unmap P hi 0 pg ie ⟨by omega, by omega⟩).mono ?_
        rintro e w6 ⟨rfl, hn⟩
        go_wp2_with fail
        go_end0
        exact ⟨rfl, _, .unmap 0 (by omega) (by omega) _, hn.after hW0⟩
      have y5 : (o.K == 5) = false := beq_eq_false_iff_ne.2 hK5
      by_cases hK6 : o.K = 6
      · have y6 : (o.K == 6) = true := by simp [hK6]
        clear hK0 hK1 hK4 hK5 hK6
        go_wp2_with fail
        go_region_held3 (fun w' => w'.cell? ⟨w.heap.size, 2, none⟩ = some (.int .i64 o.A) ∧ w'.cell? ⟨w.heap.size, 3, none⟩ = some (.int .i64 o.B) ∧ w'.cell? ⟨w.heap.size, 4, none⟩ = some (.int .i64 o.C)) (go_keep)
          ((first
            | (go_at_call 30; refine (page_any _ a0 a1 _).mono ?_; rintro e w5 ⟨pg, hpg0, hpg1, rfl, hw5⟩; subst hw5)
            | (go_at_call 15; refine (pick_ex _ _ (by first | exact b0 | exact c0) (by first | exact b1 | exact c1) (by first | decide | omega) (by first | decide | omega) _).mono ?_; rintro e w5 ⟨te, hte, rfl, hw5⟩; subst hw5)
            | (go_at_call 18; refine (hs.store P hi 0 _ _ _ ie ⟨by omega, by omega⟩ ⟨by omega, by omega⟩ ⟨by omega, by omega⟩).mono ?_; rintro e w6 ⟨rfl, hn⟩
               have e2 := (hn.blk hbx (by rw [ht]; omega)).cell 2
               have e3 := (hn.blk hbx (by rw [ht]; omega)).cell 3
               have e4 := (hn.blk hbx (by rw [ht]; omega)).cell 4
               simp at e2 e3 e4)))
        go_wp2_with fail
        go_end0
        exact ⟨rfl, _, .store 0 (by omega) (by omega) _ _ _, hn.after hW⟩
      · have y6 : (o.K == 6) = false := beq_eq_false_iff_ne.2 hK6
        have hK10n : o.K ≠ 10 := by omega
        clear hK0 hK1 hK4 hK5 hK6
        go_wp2_with fail
        refine (ends_any P hs0 hi o ho' hK10n (lo := 0) (hi' := c) 0 (by omega) (by omega) (by omega)).mono ?_
        rintro e w6 ⟨rfl, s2, hns, hn⟩
        go_wp2_with fail
        go_end0
        exact ⟨rfl, s2, hns, hn.after hW0⟩
  · have hKb : o.K < 7 := by omega
    go_wp2_with fail
    refine (pick_ex _ _ v0 v1 ie3 ie4 _).mono ?_
    rintro e w5 ⟨k, hk, rfl, hw5⟩
    subst w5
    by_cases hk0 : (0 : Int) < (k : Int)
    · go_wp2_with fail
      go_region_held3 (fun w' => w'.cell? ⟨w.heap.size, 0, none⟩ = some (.int .i64 o.K) ∧ w'.cell? ⟨w.heap.size, 1, none⟩ = some (.int .i64 o.V) ∧ w'.cell? ⟨w.heap.size, 2, none⟩ = some (.int .i64 o.A) ∧ w'.cell? ⟨w.heap.size, 3, none⟩ = some (.int .i64 o.B) ∧ w'.cell? ⟨w.heap.size, 4, none⟩ = some (.int .i64 o.C) ∧ w'.cell? ⟨w.heap.size, 5, none⟩ = some (.bool o.F) ∧ w'.cell? ⟨w.heap.size + 1, 0, none⟩ = some (.int .i64 a) ∧ w'.cell? ⟨w.heap.size + 1, 1, none⟩ = some (.int .i64 b) ∧ w'.cell? ⟨w.heap.size + 1, 2, none⟩ = some (.int .i64 c)) (go_keep)
        ((first
          | (go_at_call 15; refine (pick_ex _ _ v0 v1 ie3 ie4 _).mono ?_; rintro e w5 ⟨k2, hk2, rfl, hw5⟩; subst hw5
             have hkw2 : IntKind.i64.wrap ((k2 : Int) - 1) = (k2 : Int) - 1 := by rw [IntKind.wrap_i64]; omega)
          | (go_at_call 14; refine (noise_raw P hs hi o.K ((k2 : Int) - 1) o.A o.B o.C o.F ⟨by omega, by omega⟩ ⟨a0, a1⟩ ⟨b0, b1⟩ ⟨c0, c1⟩ (by omega) a b c hb hc hc2).mono ?_; rintro e w6 ⟨rfl, s2, hns, hn⟩
             have e0 := (hn.blk hbx (by rw [ht]; omega)).cell 0
             have e1 := (hn.blk hbx (by rw [ht]; omega)).cell 1
             have e2 := (hn.blk hbx (by rw [ht]; omega)).cell 2
             have e3 := (hn.blk hbx (by rw [ht]; omega)).cell 3
             have e4 := (hn.blk hbx (by rw [ht]; omega)).cell 4
             have e5 := (hn.blk hbx (by rw [ht]; omega)).cell 5
             have f0 := (hn.blk hcx (by rw [ht2]; omega)).cell 0
             have f1 := (hn.blk hcx (by rw [ht2]; omega)).cell 1
             have f2 := (hn.blk hcx (by rw [ht2]; omega)).cell 2
             simp at e0 e1 e2 e3 e4 e5 f0 f1 f2)))
      go_wp2_with fail
      refine bodyPost_ret (v := .tuple #[]) (by simp [results, Try.results12]) rfl ?_
      exact ⟨rfl, s2, hns.low (by omega), hn.after hW⟩
    have hk1 : k = 0 := by omega
    subst hk1
    clear hk hk0
    by_cases hK0 : o.K = 0
    · have y0 : (o.K == 0) = true := by simp [hK0]
      clear hK0
      go_wp2_with fail
      refine (hs0.alloc P hi 0 ie).mono ?_
      rintro e w6 ⟨rfl, hn⟩
      go_wp2_with fail
      go_end0
      exact ⟨rfl, _, .alloc 0 (by omega) (by omega), hn.after hW0⟩
    have y0 : (o.K == 0) = false := beq_eq_false_iff_ne.2 hK0
    by_cases hK1 : o.K = 1
    · have y1 : (o.K == 1) = true := by simp [hK1]
      clear hK0 hK1
      go_wp2_with fail
      go_region_held3 (fun w' => w'.cell? ⟨w.heap.size, 2, none⟩ = some (.int .i64 o.A) ∧ w'.cell? ⟨w.heap.size, 3, none⟩ = some (.int .i64 o.B) ∧ w'.cell? ⟨w.heap.size, 5, none⟩ = some (.bool o.F) ∧ w'.cell? ⟨w.heap.size + 1, 2, none⟩ = some (.int .i64 c)) (go_keep)
        ((first
          | (go_at_call 29; refine (handle_any _ (by first | exact a0 | exact b0) (by first | exact a1 | exact b1) _).mono ?_; rintro e w5 ⟨hd, hhd, rfl, hw5⟩; subst hw5)
          | (go_at_call 15; refine (pick_ex _ _ (by first | exact b0 | exact c0) (by first | exact b1 | exact c1) (by first | decide | omega) (by first | decide | omega) _).mono ?_; rintro e w5 ⟨te, hte, rfl, hw5⟩; subst hw5)
          | (go_at_call 19; refine (hs.derive P hi 0 _ _ o.F ie ⟨by omega, by omega⟩ ⟨by omega, by omega⟩).mono ?_; rintro e w6 ⟨rfl, hn⟩
             have e2 := (hn.blk hbx (by rw [ht]; omega)).cell 2
             have e3 := (hn.blk hbx (by rw [ht]; omega)).cell 3
             have e5 := (hn.blk hbx (by rw [ht]; omega)).cell 5
             have f2 := (hn.blk hcx (by rw [ht2]; omega)).cell 2
             simp at e2 e3 e5 f2)))
      go_wp2_with fail
      go_end0
      exact ⟨rfl, _, .derive 0 (by omega) (by omega) _ _ _, hn.after hW⟩
    have y1 : (o.K == 1) = false := beq_eq_false_iff_ne.2 hK1
    by_cases hK4 : o.K = 4
    · have y4 : (o.K == 4) = true := by simp [hK4]
      clear hK0 hK1 hK4
      go_wp2_with fail
      go_region_held3 (fun w' => w'.cell? ⟨w.heap.size, 2, none⟩ = some (.int .i64 o.A) ∧ w'.cell? ⟨w.heap.size, 3, none⟩ = some (.int .i64 o.B) ∧ w'.cell? ⟨w.heap.size, 4, none⟩ = some (.int .i64 o.C) ∧ w'.cell? ⟨w.heap.size, 5, none⟩ = some (.bool o.F) ∧ w'.cell? ⟨w.heap.size + 1, 1, none⟩ = some (.int .i64 b)) (go_keep)
        ((first
          | (go_at_call 29; refine (handle_any _ (by first | exact a0 | exact b0) (by first | exact a1 | exact b1) _).mono ?_; rintro e w5 ⟨hd, hhd, rfl, hw5⟩; subst hw5)
          | (go_at_call 30; refine (page_any _ a0 a1 _).mono ?_; rintro e w5 ⟨pg, hpg0, hpg1, rfl, hw5⟩; subst hw5)
          | (go_at_call 15; refine (pick_ex _ _ (by first | exact b0 | exact c0) (by first | exact b1 | exact c1) (by first | decide | omega) (by first | decide | omega) _).mono ?_; rintro e w5 ⟨te, hte, rfl, hw5⟩; subst hw5)
          | (go_at_call 16; refine (hs.map P hi 0 _ _ o.F _ ie ⟨by omega, by omega⟩ ⟨by omega, by omega⟩ ⟨by omega, by omega⟩).mono ?_; rintro e w6 ⟨rfl, hn⟩
             have e2 := (hn.blk hbx (by rw [ht]; omega)).cell 2
             have e3 := (hn.blk hbx (by rw [ht]; omega)).cell 3
             have e4 := (hn.blk hbx (by rw [ht]; omega)).cell 4
             have e5 := (hn.blk hbx (by rw [ht]; omega)).cell 5
             have f1 := (hn.blk hcx (by rw [ht2]; omega)).cell 1
             simp at e2 e3 e4 e5 f1)))
      go_wp2_with fail
      go_end0
      exact ⟨rfl, _, .map 0 (by omega) (by omega) _ _ _ _, hn.after hW⟩
    have y4 : (o.K == 4) = false := beq_eq_false_iff_ne.2 hK4
    by_cases hK5 : o.K = 5
    · have y5 : (o.K == 5) = true := by simp [hK5]
      clear hK0 hK1 hK4 hK5
      go_wp2_with fail
      refine (page_any _ a0 a1 _).mono ?_
      rintro e w5 ⟨pg, hpg0, hpg1, rfl, hw5⟩
      subst w5
      go_wp2_with fail
      refine (hs0.unmap P hi 0 pg ie ⟨by omega, by omega⟩).mono ?_
      rintro e w6 ⟨rfl, hn⟩
      go_wp2_with fail
      go_end0
      exact ⟨rfl, _, .unmap 0 (by omega) (by omega) _, hn.after hW0⟩
    have y5 : (o.K == 5) = false := beq_eq_false_iff_ne.2 hK5
    by_cases hK6 : o.K = 6
    · have y6 : (o.K == 6) = true := by simp [hK6]
      clear hK0 hK1 hK4 hK5 hK6
      go_wp2_with fail
      go_region_held3 (fun w' => w'.cell? ⟨w.heap.size, 2, none⟩ = some (.int .i64 o.A) ∧ w'.cell? ⟨w.heap.size, 3, none⟩ = some (.int .i64 o.B) ∧ w'.cell? ⟨w.heap.size, 4, none⟩ = some (.int .i64 o.C)) (go_keep)
        ((first
          | (go_at_call 30; refine (page_any _ a0 a1 _).mono ?_; rintro e w5 ⟨pg, hpg0, hpg1, rfl, hw5⟩; subst hw5)
          | (go_at_call 15; refine (pick_ex _ _ (by first | exact b0 | exact c0) (by first | exact b1 | exact c1) (by first | decide | omega) (by first | decide | omega) _).mono ?_; rintro e w5 ⟨te, hte, rfl, hw5⟩; subst hw5)
          | (go_at_call 18; refine (hs.store P hi 0 _ _ _ ie ⟨by omega, by omega⟩ ⟨by omega, by omega⟩ ⟨by omega, by omega⟩).mono ?_; rintro e w6 ⟨rfl, hn⟩
             have e2 := (hn.blk hbx (by rw [ht]; omega)).cell 2
             have e3 := (hn.blk hbx (by rw [ht]; omega)).cell 3
             have e4 := (hn.blk hbx (by rw [ht]; omega)).cell 4
             simp at e2 e3 e4)))
      go_wp2_with fail
      go_end0
      exact ⟨rfl, _, .store 0 (by omega) (by omega) _ _ _, hn.after hW⟩
    · have y6 : (o.K == 6) = false := beq_eq_false_iff_ne.2 hK6
      have hK10n : o.K ≠ 10 := by omega
      clear hK0 hK1 hK4 hK5 hK6
      go_wp2_with fail
      refine (ends_any P hs0 hi o ho' hK10n (lo := 0) (hi' := c) 0 (by omega) (by omega) (by omega)).mono ?_
      rintro e w6 ⟨rfl, s2, hns, hn⟩
      go_wp2_with fail
      go_end0
      exact ⟨rfl, s2, hns, hn.after hW0⟩
end
end Go.Proofs.Ytinlkcmdbjcofab

/-
  What the statements without the document's answer need, as plain data.
-/
namespace Go.Proofs.Ytinlkcmdbjcofab
open Go.RowKit
set_option linter.unusedVariables false

section
variable {s t : RSt}

theorem liveE_alive {env : Int} (h : aliveB s env = true) : liveE s env = 0 := by unfold liveE; rw [h]; rfl
/-- An environment of which a right is alive is alive. -/
theorem HInv.raw (hH : HInv s) {i : Nat} {r : RR} (hr : s.rights[i]? = some r) (hl : lv s.rights i = true) : rawE s r.env = 0 := (hH.live r.env).trans (liveE_alive (hH.alv i r hr hl))
/-- A right that is alive, named by its environment. -/
theorem rightE_ok (hI : RInv s) (hH : HInv s) {i : Nat} {r : RR} (hr : s.rights[i]? = some r) (hl : lv s.rights i = true) : rightE s r.env (i + 1) = ((i : Int), (0 : Int)) := by
  have hi := (List.getElem?_eq_some_iff.1 hr).1
  have hx := hH.raw hr hl
  unfold rightE
  rw [hx]
  have h1 : (1 : Int) ≤ (i : Int) + 1 ∧ (i : Int) + 1 ≤ s.rights.length := by omega
  have h2 : ((i : Int) + 1 - 1) = i := by omega
  simp only [ne_eq, not_true_eq_false, if_false, if_pos h1, h2, Int.toNat_natCast, hr, hl, if_true]

theorem entI_at (hok : SOk s) {q : Nat} {e : Ent} (he : s.slots[q]? = some e) (hu : e.used = true) : entI s e.env e.page = q := by
  rcases entI_cases s e.env e.page with h | ⟨q2, e2, h, he2, hp2⟩
  · exfalso
    have : s.slots.findIdx? (entP e.env e.page) = none := by
      unfold entI at h
      cases hx : s.slots.findIdx? (entP e.env e.page) with
      | none => rfl
      | some i => rw [hx] at h; simp at h
    rw [List.findIdx?_eq_none_iff] at this
    have := this e (List.mem_of_getElem? he)
    simp [entP, hu] at this
  · simp [entP] at hp2
    have := hok.uni q2 q e2 e he2 he hp2.1 hu hp2.2.1 hp2.2.2
    rw [h, this]

theorem load_at (hok : SOk s) {q : Nat} {e : Ent} (he : s.slots[q]? = some e) (hu : e.used = true) (hr : rawE s e.env = 0) {a : Int} (a0 : 0 ≤ a) (a3 : a ≤ 3) : loadR s e.env e.page a = (byteAt s e.fr a, 0) := by
  obtain ⟨p0, p1, _⟩ := hok.ent q e he hu
  unfold loadR
  rw [hr, if_neg (by simp), if_neg (by omega), if_neg (by omega), entI_at hok he hu, if_neg (by omega)]
  simp only [Int.toNat_natCast, he]
theorem store_at (hok : SOk s) {q : Nat} {e : Ent} (he : s.slots[q]? = some e) (hu : e.used = true) (hw : e.wr = true) (hr : rawE s e.env = 0) {a v : Int} (a0 : 0 ≤ a) (a3 : a ≤ 3) (v0 : 0 ≤ v) (v1 : v ≤ 255) : storeR s e.env e.page a v = (0, putByte s e.fr a v) := by
  obtain ⟨p0, p1, _⟩ := hok.ent q e he hu
  unfold storeR
  rw [hr, if_neg (by simp), if_neg (by omega), if_neg (by omega), if_neg (by omega), entI_at hok he hu, if_neg (by omega)]
  simp only [Int.toNat_natCast, he, hw, Bool.not_true, Bool.false_eq_true, if_false]

theorem byte_put (hok : SOk s) {f : Int} (f0 : 0 ≤ f) (f1 : f < s.nf) {a b v : Int} (a0 : 0 ≤ a) (a3 : a ≤ 3) (b0 : 0 ≤ b) : byteAt (putByte s f a v) f b = if b = a then v else byteAt s f b := by
  have hfl : f.toNat < s.bytes.length := by rw [hok.fix.by_]; omega
  obtain ⟨l, hl⟩ : ∃ l, s.bytes[f.toNat]? = some l := ⟨s.bytes[f.toNat], by simp⟩
  have hl4 := (hok.bys _ l hl).1
  unfold byteAt putByte
  simp only [hl, Option.getD_some, List.getElem?_set_self hfl]
  by_cases hb : b = a
  · subst hb
    rw [if_pos rfl, List.getElem?_set_self (by omega)]
    rfl
  · rw [if_neg hb, List.getElem?_set_ne (by omega)]

/-- Map, where it is done. -/
theorem map_done {env page hd slot : Int} {wt : Bool} {j : Nat} {r : RR} (h0 : rawE s env = 0) (hx : rightE s env hd = ((j : Int), (0 : Int))) (hr : s.rights[j]? = some r) (hw : wt = true → r.wr = true) (p0 : 0 ≤ page) (p1 : page ≤ 15) (q0 : 0 ≤ slot) (q1 : slot < s.ns) (hok : SOk s) :
    ∃ s1, mapR s env page hd wt slot = (0, s1) ∧ s1.slots[slot.toNat]? = some ⟨true, env, page, r.fr, wt⟩ ∧ s1.rights = s.rights ∧ s1.bytes = s.bytes ∧ s1.alive = s.alive ∧ s1.ne = s.ne ∧ s1.nf = s.nf ∧ s1.ns = s.ns ∧ s1.kept = s.kept := by
  have hq : (wt && !r.wr) = false := by
    cases wt
    · rfl
    · simp [hw rfl]
  refine ⟨{ goneS s env page with slots := (goneS s env page).slots.set slot.toNat ⟨true, env, page, r.fr, wt⟩ }, ?_, ?_, rfl, rfl, rfl, rfl, rfl, rfl, rfl⟩
  · unfold mapR
    rw [h0, hx]
    simp only [ne_eq, not_true_eq_false, if_false, Int.toNat_natCast, hr, hq, Bool.false_eq_true]
    rw [if_neg (by omega), if_neg (by omega)]
  · have hl : slot.toNat < (goneS s env page).slots.length := by have := (hok.gone env page).ns; have h3 : (goneS s env page).ns = s.ns := rfl; omega
    simp only [List.getElem?_set_self hl]
end
end Go.Proofs.Ytinlkcmdbjcofab

/-
  A new machine, and its first right.
-/
namespace Go.Proofs.Ytinlkcmdbjcofab
open Go.RowKit
set_option linter.unusedVariables false

theorem St.fresh {M : MT} {w0 w : World} {m a b c : Nat} {f : Nat → Option Nat} (hm : NewF M w0 w m f (RSt.fresh a b c)) (hb : Below w0.heap.size w0 w) (ha : a ≤ 16) (hb1 : 1 ≤ b) (hb8 : b ≤ 8) (hc : c ≤ 4) : ∃ own, St M w0 m 0 own (RSt.fresh a b c) w := by
  refine ⟨fun x => match f x with | some j => (2, j) | none => (0, 0), hm.2 _ 2 (fun b j hj => by simp only [hj]), sok_fresh ha hb1 hb8 hc, hinv_fresh a b c, by simp [RSt.fresh], fun x hx => ?_, fun x hx => ?_, hb⟩
  · cases hf : f x with
    | none => rfl
    | some j => have := (hm.1 x j hf).1; omega
  · cases hf : f x with
    | none => rfl
    | some j => have := (hm.1 x j hf).2; omega

theorem fresh_raw {a b c : Nat} {env : Int} (h0 : 0 ≤ env) (h1 : env < c) : rawE (RSt.fresh a b c) env = 0 := by
  refine (rawE_nok (nok_fresh a b c env)).trans (liveE_alive ?_)
  unfold aliveB
  have : (RSt.fresh a b c).alive[env.toNat]? = some true := by simp only [RSt.fresh, List.getElem?_replicate]; rw [if_pos (by omega)]
  rw [this]
  simp only [RSt.fresh, h0, h1, decide_true, Option.getD_some, Bool.and_self]

theorem fresh_alloc {a b c : Nat} (ha : 1 ≤ a) {env : Int} (h0 : 0 ≤ env) (h1 : env < c) : ∃ s1, allocR (RSt.fresh a b c) env = ((1, 0), s1) ∧ s1.rights = [⟨1, env, 0, true, -1, false⟩] ∧ s1.slots = (RSt.fresh a b c).slots ∧ s1.alive = (RSt.fresh a b c).alive ∧ s1.ne = c ∧ s1.nf = a ∧ s1.ns = b ∧ s1.bytes = (RSt.fresh a b c).bytes ∧ s1.kept = (RSt.fresh a b c).kept := by
  have hl : leastFree (RSt.fresh a b c) = some 0 := by
    unfold leastFree
    have : (RSt.fresh a b c).nf = (a - 1) + 1 := by show a = _; omega
    rw [this, List.range_succ_eq_map, List.find?_cons]
    have : freeB (RSt.fresh a b c) 0 = true := by
      unfold freeB owned RSt.fresh
      simp
    rw [this]
  have hb : (RSt.fresh a b c).bytes.set 0 [0, 0, 0, 0] = (RSt.fresh a b c).bytes := by
    apply List.ext_getElem?
    intro i
    rw [List.getElem?_set]
    split
    · rename_i h
      subst h
      split
      · simp only [RSt.fresh, List.getElem?_replicate]; rw [if_pos (by omega)]
      · rename_i h2; simp [RSt.fresh] at h2; omega
    · rfl
  unfold allocR firstS
  rw [fresh_raw h0 h1, hl]
  have hcn : cnt (RSt.fresh a b c).rights < 32 := by simp [RSt.fresh, cnt, cntTo]
  simp only [ne_eq, not_true_eq_false, if_false, if_pos hcn, Int.natCast_zero]
  refine ⟨_, rfl, ?_, rfl, rfl, rfl, rfl, rfl, ?_, rfl⟩
  · simp [addR, RSt.fresh]
  · exact hb
theorem first_right {s : RSt} {fr : Int} (hr : s.rights = [⟨1, 0, fr, true, -1, false⟩]) (hI : RInv s) (hH : HInv s) : s.rights[0]? = some ⟨1, 0, fr, true, -1, false⟩ ∧ lv s.rights 0 = true ∧ rightE s 0 1 = (((0 : Nat) : Int), (0 : Int)) ∧ rawE s 0 = 0 := by
  have h0 : s.rights[0]? = some ⟨1, 0, fr, true, -1, false⟩ := by rw [hr]; rfl
  have hl : lv s.rights ((0 : Nat) : Int) = true := by
    rw [lv_step hI.ord h0]
    simp only [Bool.not_false, Bool.true_and]
    exact lv_neg (by omega)
  have h1 := rightE_ok hI hH h0 hl
  have h2 := hH.raw h0 hl
  refine ⟨h0, hl, ?_, h2⟩
  have e : (((0 : Nat) : Int) + 1) = 1 := by omega
  rw [e] at h1
  exact h1
end Go.Proofs.Ytinlkcmdbjcofab
