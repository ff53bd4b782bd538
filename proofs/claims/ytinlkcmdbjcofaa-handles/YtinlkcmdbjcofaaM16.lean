import Derived.Test.YtinlkcmdbjcofaaM15
namespace Go.Proofs.Ytinlkcmdbjcofaa
open Go.RowKit
set_option linter.unusedVariables false
attribute [local go_sem ↓] Go.wp_at_zero Go.wp_at_succ

/-- Which machine a call is for. -/
def mach (M : Int) (n : Nat) : Nat := (((M.tmod n) + n).tmod n).toNat

theorem mach_lt (M : Int) (n : Nat) (h : 0 < n) : mach M n < n := by
  unfold mach
  have h1 := Int.tmod_lt_of_pos (M.tmod n + n) (show (0 : Int) < n by omega)
  have h2 := Int.lt_tmod_of_pos M (show (0 : Int) < n by omega)
  have h3 := Int.tmod_nonneg (n : Int) (show 0 ≤ M.tmod n + n by omega)
  omega

theorem mach_val (M : Int) (n : Nat) (h : 0 < n) : (((M.tmod n) + n).tmod n) = (mach M n : Int) := by
  unfold mach
  have h2 := Int.lt_tmod_of_pos M (show (0 : Int) < n by omega)
  have h3 := Int.tmod_nonneg (n : Int) (show 0 ≤ M.tmod n + n by omega)
  omega

end Go.Proofs.Ytinlkcmdbjcofaa

namespace Go.Proofs.Ytinlkcmdbjcofaa
open Go.RowKit
set_option linter.unusedVariables false
attribute [local go_sem ↓] Go.wp_at_zero Go.wp_at_succ

/-- A new machine: f says which blocks are its own. -/
def NewF (M : MT) (w w' : World) (p : Nat) (f : Nat → Option Nat) (s : RSt) : Prop :=
  (∀ b j, f b = some j → w.heap.size ≤ b ∧ b < w'.heap.size) ∧ ∀ (own : Nat → Nat × Nat) (id : Nat), (∀ b j, f b = some j → own b = (id, j)) → M own id w' p s
theorem NewF.of {M : MT} (P : Api M) {w w2 W : World} {p : Nat} {f : Nat → Option Nat} {s : RSt} (h : NewF M w w2 p f s) (hk : ∀ k, w.heap.size ≤ k → k < w2.heap.size → W.heap[k]? = w2.heap[k]?) (hs : w2.heap.size ≤ W.heap.size) : NewF M w W p f s := by
  refine ⟨fun b j hb => ⟨(h.1 b j hb).1, Nat.lt_of_lt_of_le (h.1 b j hb).2 hs⟩, fun own id ho => ?_⟩
  obtain ⟨own0, h0⟩ : ∃ own0 : Nat → Nat × Nat, own0 = fun b => match f b with | some j => (id, j) | none => (id + 1, 0) := ⟨_, rfl⟩
  have h1 : ∀ b j, f b = some j → own0 b = (id, j) := fun b j hb => by rw [h0]; simp only [hb]
  have h2 : ∀ b, (own0 b).1 = id → ∃ j, f b = some j := fun b hb => by
    rw [h0] at hb
    cases hf : f b with
    | none => simp only [hf] at hb; omega
    | some j => exact ⟨j, rfl⟩
  have m1 := h.2 own0 id h1
  have m2 := P.of (own' := own0) (w' := W) m1 (fun _ _ => rfl) (fun b hb ht => by
    obtain ⟨j, hj⟩ := h2 b ht
    exact hk b (h.1 b j hj).1 hb)
  exact P.retag m2 (fun b _ ht => by
    obtain ⟨j, hj⟩ := h2 b ht
    rw [ho b j hj, h1 b j hj])
theorem NewF.low {M : MT} {w0 w W : World} {p : Nat} {f : Nat → Option Nat} {s : RSt} (h : NewF M w W p f s) (hl : w0.heap.size ≤ w.heap.size) : NewF M w0 W p f s :=
  ⟨fun b j hb => ⟨Nat.le_trans hl (h.1 b j hb).1, (h.1 b j hb).2⟩, h.2⟩

end Go.Proofs.Ytinlkcmdbjcofaa

/-
  'built': the machine that a statement begins with.
-/
namespace Go.Proofs.Ytinlkcmdbjcofaa
open Go.RowKit
set_option linter.unusedVariables false
attribute [local go_sem ↓] Go.wp_at_zero Go.wp_at_succ

theorem cf_may (x y z : Int) : mayB (cfA x) (cfB y) (cfC z) = true := by
  have h1 := pk_lt x (show 0 < 16 by omega)
  have h2 := pk_lt y (show 0 < 8 by omega)
  have h3 := pk_lt z (show 0 < 3 by omega)
  unfold mayB cfA cfB cfC
  simp
  omega
theorem cfA_le (x : Int) : cfA x ≤ 16 := by have := pk_lt x (show 0 < 16 by omega); unfold cfA; omega
theorem cfB_le (x : Int) : cfB x ≤ 8 := by have := pk_lt x (show 0 < 8 by omega); unfold cfB; omega
theorem cfC_le (x : Int) : cfC x ≤ 4 := by have := pk_lt x (show 0 < 3 by omega); unfold cfC; omega
theorem cfC_ge (x : Int) : 1 ≤ cfC x := by unfold cfC; omega

set_option maxHeartbeats 1000000 in
set_option maxRecDepth 100000 in
theorem built_any {M : MT} (P : Api M) (x y z : Int) (hx0 : -9223372036854775808 ≤ x) (hx1 : x ≤ 9223372036854775807) (hy0 : -9223372036854775808 ≤ y) (hy1 : y ≤ 9223372036854775807) (hz0 : -9223372036854775808 ≤ z) (hz1 : z ≤ 9223372036854775807) (w : World) :
    Calls Try.prog 5 #[.agg #[.int .i64 x, .int .i64 y, .int .i64 z]] w fun e w' => ∃ (m : Nat) (f : Nat → Option Nat), e = .returned (.pointer (some ⟨m, 0, none⟩)) ∧ Below w.heap.size w w' ∧ NewF M w w' m f (RSt.fresh (cfA x) (cfB y) (cfC z)) := by
  go_enter Try.func5, Try.ntmps5
  go_wp2_with fail
  refine (config_any x y z hx0 hx1 hy0 hy1 hz0 hz1 _).mono ?_
  rintro e w1 ⟨rfl, hb1⟩
  go_wp2_with fail
  refine (P.new_yes (cfA x) (cfB y) (cfC z) _ (cf_may x y z)).mono ?_
  rintro e w2 ⟨m, f, rfl, hb2, hm⟩
  go_wp2_with fail
  refine (P.new_no 1 1 0 _ (by decide)).mono ?_
  rintro e w3 ⟨rfl, hb3⟩
  go_wp2_with fail
  go_ret
  have s1 := hb1.size
  have s2 := hb2.size
  simp at s1
  refine ⟨m, f, rfl, ?_, NewF.low (NewF.of P hm (fun k _ h2 => hb3.block k h2) hb3.size) (by omega)⟩
  exact (((Below.refl _ _).alloc (Nat.le_refl _) _).trans (hb1.mono (by simp))).trans ((hb2.mono (by omega)).trans (hb3.mono (by omega)))

end Go.Proofs.Ytinlkcmdbjcofaa

/-
  append: the elements that were there are as they were, in the old row too.
-/
namespace Go.Proofs.Ytinlkcmdbjcofaa
open Go.RowKit
set_option linter.unusedVariables false

section
variable {P : Program} (w : World)

theorem run_append_kept (t ty : TypeId) (e : TypeId) (i : TypeInfo) (z : Value) (size bytes : Nat) (ht : P.underlying t = some (.slice e)) (hi : P.info? e = some i) (hz : i.zero = some z)
    (hsize : i.size = size) (hby : i.bytes = bytes) (hzs : z.cells.size = size) (hsz : 0 < size)
    (v : Value) (n : Nat) (xs : List Value) (hown : w.ownsRow 0 e size v n xs)
    (ad : Addr) (m c : Nat) (news : List Value) (hl : news.length = m * size) (hnews : ∀ j u, news[j]? = some u → w.cell? (ad.add j) = some u) (h1 : ∀ u ∈ news, u.oneCell' = true)
    (hm : 0 < m) (h63 : n + m ≤ maxLen) (hbytes : (n + m) * bytes ≤ 140737488355328) (H : Nat) (hH : w.heap.size = H) :
    ∃ g cap w', (Builtin.append_ #[t, t] ty #[v, .slice (some ad) m c]).run P w = .ok (.slice (some ⟨g, 0, none⟩) (n + m) cap) w' ∧
      w'.ownsRow 0 e size (.slice (some ⟨g, 0, none⟩) (n + m) cap) (n + m) (xs ++ news) ∧ w.grownBy w' v.ownBlock ∧ (v.ownBlock = some g ∨ g = H) ∧ g < w'.heap.size ∧
      (∀ b, v.ownBlock = some b → ∀ j, j < n * size → w'.cell? ⟨b, j, none⟩ = w.cell? ⟨b, j, none⟩) := by
  obtain ⟨g, cap, w', hr, h2, h3, h4, h5⟩ := run_append_lies (P := P) w t ty 0 e i z size bytes ht hi hz hsize hby hzs hsz v n xs hown ad m c news hl hnews h1 hm h63 hbytes (Nat.zero_le _) H hH
  refine ⟨g, cap, w', hr, h2, h3, h4, h5, ?_⟩
  intro b hb j hj
  rcases hown.2 with ⟨rfl, _⟩ | ⟨g0, cap0, cur, rfl, _, hg, hnc, hcm, hcs, htake⟩
  · simp [Value.ownBlock] at hb
  · have hgb : g0 = b := by simpa [Value.ownBlock] using hb
    subst hgb
    subst hsize
    by_cases hroom : n + m ≤ cap0
    · have hfit : n * i.size + news.length ≤ cur.size := by rw [hl, hcs, ← Nat.add_mul]; exact Nat.mul_le_mul_right _ hroom
      have hr2 := run_append_room (P := P) w t ty e i ht hi g0 n cap0 cur hg ad m c news hl hnews h1 hroom hfit
      rw [hr] at hr2
      have hw : w' = _ := (Result.ok.inj hr2).2
      rw [hw, cell_of_row _ g0 j _ e (0, 0) (setRow_heap w g0 cur _ e _ hg), cell_of_row w g0 j cur e (0, 0) hg]
      have : n * i.size ≤ cur.toList.length := by simp; omega
      simp only [List.getElem?_toArray]
      rw [List.append_assoc, List.getElem?_append_left (by rw [List.length_take]; omega), List.getElem?_take, if_pos hj]
      simp
    · have holds : ∀ j u, xs[j]? = some u → w.cell? ((⟨g0, 0, none⟩ : Addr).add j) = some u := hown.cells (g := g0) rfl
      have hsm : n + m ≤ 9223372036854775807 := by simp only [maxLen] at h63; omega
      have hr2 := run_append_grow (P := P) w t ty e i z ht hi hz ⟨g0, 0, none⟩ n cap0 xs hown.1 holds ad m c news hl hnews (by omega) (by omega) (growslice_fits (by omega) (by rw [hby]; exact hbytes))
      rw [hr] at hr2
      have hw : w' = _ := (Result.ok.inj hr2).2
      have hlt : g0 < w.heap.size := (Array.getElem?_eq_some_iff.1 hg).1
      have hb : w'.heap[g0]? = w.heap[g0]? := by
        rw [hw]
        exact Below.heap_alloc w.drew _ g0 hlt
      exact World.cell?_of_block (a := ⟨g0, j, none⟩) hb

theorem wpList_append_kept {ops : Array Oper} {rest : List Oper} {o : Oper} {a : Act} {Q : Exit → Act → World → Prop} (hgd : o.guard = none) (s x : Operand) (t : TypeId)
    (ho : o.op = .call { callee := .builtin .append, args := #[s, x], argTypes := #[t, t] })
    (e : TypeId) (i : TypeInfo) (z : Value) (size bytes : Nat) (ht : P.underlying t = some (.slice e)) (hi : P.info? e = some i) (hz : i.zero = some z)
    (hsize : i.size = size) (hby : i.bytes = bytes) (hzs : z.cells.size = size) (hsz : 0 < size)
    (v : Value) (n : Nat) (xs : List Value) (hs : a.eval s = v) (hown : w.ownsRow 0 e size v n xs)
    (ad : Addr) (m c : Nat) (news : List Value) (hx : a.eval x = .slice (some ad) m c) (hl : news.length = m * size) (hnews : ∀ j u, news[j]? = some u → w.cell? (ad.add j) = some u) (h1 : ∀ u ∈ news, u.oneCell' = true)
    (hm : 0 < m) (h63 : n + m ≤ maxLen) (hbytes : (n + m) * bytes ≤ 140737488355328) (H : Nat) (hH : w.heap.size = H)
    (h : ∀ g cap w', w'.ownsRow 0 e size (.slice (some ⟨g, 0, none⟩) (n + m) cap) (n + m) (xs ++ news) → w.grownBy w' v.ownBlock → (v.ownBlock = some g ∨ g = H) → g < w'.heap.size →
      (∀ b, v.ownBlock = some b → ∀ j, j < n * size → w'.cell? ⟨b, j, none⟩ = w.cell? ⟨b, j, none⟩) → wpList P ops Q rest (a.put o.dst (.slice (some ⟨g, 0, none⟩) (n + m) cap)) w') : wpList P ops Q (o :: rest) a w := by
  refine wpList_plain hgd fun K hK => ?_
  obtain ⟨g, cap, w', hr, h2, h3, h4, h5, h6⟩ := run_append_kept (P := P) w t o.type e i z size bytes ht hi hz hsize hby hzs hsz v n xs hown ad m c news hl hnews h1 hm h63 hbytes H hH
  unfold Oper.wp execOp
  simp only [ho, resolve, invoke, builtin, Sem.run_bind, Sem.run_pure, Result.andThen_ok, List.map_toArray, List.map_cons, List.map_nil, hs, hx, hr]
  exact hK _ _ (h g cap w' h2 h3 h4 h5 h6)
end
end Go.Proofs.Ytinlkcmdbjcofaa

/-
  The lists that came out, and how their owner has marked them.
-/
namespace Go.Proofs.Ytinlkcmdbjcofaa
open Go.RowKit
set_option linter.unusedVariables false

theorem Row.cellAt' {w : World} {e k n g cap : Nat} {xs : List Value} (h : Row w (.slice (some ⟨g, 0, none⟩) n cap) e k n xs) (j : Nat) (hj : j < n * k) : w.cell? ⟨g, j, none⟩ = xs[j]? := World.ownsRow.cellAt h j hj
theorem Row.shape' {w : World} {v : Value} {e k n : Nat} {xs : List Value} (h : Row w v e k n xs) : ∃ ao cap, v = .slice ao n cap ∧ (n = 0 ∨ ∃ g, ao = some ⟨g, 0, none⟩) := by
  obtain ⟨ao, cap, g, hv, hao, _⟩ := h.view
  refine ⟨ao, cap, hv, ?_⟩
  rcases Nat.eq_zero_or_pos n with h0 | h0
  · exact .inl h0
  · exact .inr ⟨g, hao h0⟩

/-- A slice all of whose elements hold the k cells c; at most a of them; its row bears the mark t. -/
def SA (own : Nat → Nat × Nat) (t : Nat × Nat) (w : World) (c : List Value) (k a : Nat) (x : Value) : Prop :=
  ∃ ao n cap g, x = .slice ao n cap ∧ n ≤ a ∧ (n = 0 ∨ (ao = some ⟨g, 0, none⟩ ∧ own g = t ∧ g < w.heap.size ∧ ∀ i j, i < n → j < k → w.cell? ⟨g, i * k + j, none⟩ = c[j]?))

theorem SA.of {own own' : Nat → Nat × Nat} {t : Nat × Nat} {w w' : World} {c : List Value} {k a : Nat} {x : Value} (h : SA own t w c k a x) (ho : ∀ b, b < w.heap.size → own' b = own b) (hs : w.heap.size ≤ w'.heap.size)
    (hb : ∀ b, b < w.heap.size → own b = t → ∀ j, j < a * k → w'.cell? ⟨b, j, none⟩ = w.cell? ⟨b, j, none⟩) : SA own' t w' c k a x := by
  obtain ⟨ao, n, cap, g, rfl, hn, h⟩ := h
  refine ⟨ao, n, cap, g, rfl, hn, ?_⟩
  rcases h with h | ⟨h1, h2, h3, h4⟩
  · exact Or.inl h
  refine Or.inr ⟨h1, (ho g h3).trans h2, by omega, fun i j hi hj => ?_⟩
  rw [hb g h3 h2 _ ?_]
  · exact h4 i j hi hj
  · have : i * k + j < (i + 1) * k := by rw [Nat.add_mul]; omega
    have : (i + 1) * k ≤ a * k := Nat.mul_le_mul_right k (by omega)
    omega
theorem SA.mono {own : Nat → Nat × Nat} {t : Nat × Nat} {w : World} {c : List Value} {k a a' : Nat} {x : Value} (h : SA own t w c k a x) (ha : a ≤ a') : SA own t w c k a' x := by
  obtain ⟨ao, n, cap, g, rfl, hn, h⟩ := h
  exact ⟨ao, n, cap, g, rfl, by omega, h⟩

def mI (n : Int) : List Value := [.int .i64 n]
def mR (n : Int) : List Value := [.int .i64 n, .int .i64 0, .int .i64 0, .bool false]
def mE (n : Int) : List Value := [.bool false, .int .i64 n, .int .i64 0, .int .i64 0, .bool false]

section
variable {own : Nat → Nat × Nat} {t : Nat × Nat} {w : World}

theorem SA.shape {x : Value} {c : List Value} {k a : Nat} (h : SA own t w c k a x) : ∃ ao n cap, x = .slice ao n cap := by
  obtain ⟨ao, n, cap, _, h, _⟩ := h
  exact ⟨ao, n, cap, h⟩

end
end Go.Proofs.Ytinlkcmdbjcofaa

/-
  The statement's own list of rights ('book'), beside the machine.
-/
namespace Go.Proofs.Ytinlkcmdbjcofaa
open Go.RowKit
set_option linter.unusedVariables false
attribute [local go_sem ↓] Go.wp_at_zero Go.wp_at_succ

def gcells (r : RR) : List Value := [.int .i64 r.env, .int .i64 r.frm, .bool r.wr, .bool r.ended]
def alAt (s : RSt) (j : Nat) : Bool := s.alive[j]?.getD false
def bcells (m s : Nat) (rs : RSt) (vM : Value) : List Value := [.pointer (some ⟨m, 0, none⟩), .int .i64 rs.nf, .int .i64 s, .int .i64 rs.ne, vM, .bool (alAt rs 0), .bool (alAt rs 1), .bool (alAt rs 2), .bool (alAt rs 3)]

/-- 'own': (id, 0): the struct; 1: its list. -/
structure BRep (own : Nat → Nat × Nat) (id : Nat) (w : World) (b m s : Nat) (rs : RSt) (vM : Value) : Prop where
  blk : Blk w b (bcells m s rs vM) 33
  row : Row w vM 60 4 rs.rights.length (rs.rights.flatMap gcells)
  tb : own b = (id, 0)
  tM : Tg own vM (id, 1)

section
variable {own own' : Nat → Nat × Nat} {id : Nat} {w w' : World} {b m s : Nat} {rs : RSt} {vM : Value}

theorem BRep.of (h : BRep own id w b m s rs vM) (ho : ∀ x, x < w.heap.size → own' x = own x) (hb : ∀ x, x < w.heap.size → (own x).1 = id → w'.heap[x]? = w.heap[x]?) : BRep own' id w' b m s rs vM :=
  ⟨h.blk.of (hb b h.blk.lt (by rw [h.tb])), h.row.kept h.tM (fun x hx ht => hb x hx (by rw [ht])), (ho b h.blk.lt).trans h.tb, h.tM.congr h.row ho⟩
theorem BRep.below (h : BRep own id w b m s rs vM) (hb : Below w.heap.size w w') : BRep own id w' b m s rs vM := h.of (fun _ _ => rfl) (fun x hx _ => hb.block x hx)

theorem BRep.c0 (h : BRep own id w b m s rs vM) : w.cell? ⟨b, 0, none⟩ = some (.pointer (some ⟨m, 0, none⟩)) := (h.blk.cell 0).trans rfl
theorem BRep.c1 (h : BRep own id w b m s rs vM) : w.cell? ⟨b, 1, none⟩ = some (.int .i64 rs.nf) := (h.blk.cell 1).trans rfl
theorem BRep.c3 (h : BRep own id w b m s rs vM) : w.cell? ⟨b, 3, none⟩ = some (.int .i64 rs.ne) := (h.blk.cell 3).trans rfl
theorem BRep.c4 (h : BRep own id w b m s rs vM) : w.cell? ⟨b, 4, none⟩ = some vM := (h.blk.cell 4).trans rfl
theorem BRep.cal (h : BRep own id w b m s rs vM) (j : Nat) (hj : j < 4) : w.cell? ⟨b, 5 + j, none⟩ = some (.bool (alAt rs j)) := by
  rw [h.blk.cell]
  have : j = 0 ∨ j = 1 ∨ j = 2 ∨ j = 3 := by omega
  rcases this with rfl | rfl | rfl | rfl <;> rfl

/-- The cells of right i. -/
theorem BRep.right (h : BRep own id w b m s rs vM) {i : Nat} {r : RR} (hr : rs.rights[i]? = some r) :
    ∃ g cap, vM = .slice (some ⟨g, 0, none⟩) rs.rights.length cap ∧ own g = (id, 1) ∧ w.cell? ⟨g, i * 4, none⟩ = some (.int .i64 r.env) ∧ w.cell? ⟨g, i * 4 + 1, none⟩ = some (.int .i64 r.frm) ∧ w.cell? ⟨g, i * 4 + 2, none⟩ = some (.bool r.wr) ∧ w.cell? ⟨g, i * 4 + 3, none⟩ = some (.bool r.ended) ∧
      ∀ j, w.frozen? ⟨g, j, none⟩ = false := by
  have hi := (List.getElem?_eq_some_iff.1 hr).1
  obtain ⟨g, cap, hv, hc, hf⟩ := h.row.form (by omega)
  have hx : ∀ j, j < 4 → w.cell? ⟨g, i * 4 + j, none⟩ = (gcells r)[j]? := fun j hj => by rw [hc _ (by omega), flat_get gcells 4 (fun _ => rfl) rs.rights i j r hr hj]
  exact ⟨g, cap, hv, h.tM g (by rw [hv]; rfl), (hx 0 (by omega)).trans rfl, (hx 1 (by omega)).trans rfl, (hx 2 (by omega)).trans rfl, (hx 3 (by omega)).trans rfl, hf⟩

set_option maxHeartbeats 1000000 in
set_option maxRecDepth 100000 in
theorem bliving_any (h : BRep own id w b m s rs vM) (ho : Ordered rs.rights) (hm : rs.rights.length ≤ 4611686018427387904) (i : Int) (hi : i < rs.rights.length) (hi0 : -1 ≤ i) :
    Calls Try.prog 22 #[.pointer (some ⟨b, 0, none⟩), .int .i64 i] w fun e w' => e = .returned (.bool (lv rs.rights i)) ∧ w' = w := by
  have k3 := h.c4
  go_enter Try.func22, Try.ntmps22
  go_wp2_with fail
  go_loopg [1] (i + 1).toNat (fun k x wr => ∃ q : Int, x = .int .i64 q ∧ (q + 1).toNat ≤ k ∧ -1 ≤ q ∧ q < rs.rights.length ∧ lv rs.rights q = lv rs.rights i ∧ wr = w)
  case atStart => exact ⟨i, rfl, Nat.le_refl _, hi0, hi, rfl, rfl⟩
  case round =>
    obtain ⟨q, rfl, hk, hq0, hq1, hlv, rfl⟩ := hrel
    have HL : Hid (lv rs.rights q = lv rs.rights i) := hlv
    clear hlv
    by_cases hq : 0 ≤ q
    · obtain ⟨j, rfl⟩ := Int.eq_ofNat_of_zero_le hq
      have hj : j < rs.rights.length := by omega
      obtain ⟨r, hr⟩ : ∃ r, rs.rights[j]? = some r := ⟨rs.rights[j], by simp⟩
      obtain ⟨g, cap, hv, _, _, c4, _, c5, _⟩ := h.right hr
      have hst := lv_step ho hr
      have hbd := ho j r hr
      rw [hv] at k3
      have HS : Hid (lv rs.rights j = (!r.ended && lv rs.rights r.frm)) := hst
      clear hst hv
      cases he : r.ended
      · rw [he] at c5
        go_wp2_with fail
        go_roundg ((r.frm + 1).toNat)
        case measure => omega
        case rel => exact ⟨r.frm, rfl, Nat.le_refl _, hbd.1, by omega, by rw [← HL.out, HS.out, he]; rfl, rfl⟩
      · rw [he] at c5
        go_wp2_with fail
        go_ret
        exact ⟨ret_bool (by rw [← HL.out, HS.out, he]; rfl), rfl⟩
    · go_wp2_with fail
      go_ret
      exact ⟨ret_bool (by rw [← HL.out, lv_neg (by omega)]), rfl⟩

theorem fstTo_le (l : List RR) (q : Nat) : fstTo l q ≤ q := by
  unfold fstTo fstL
  have := List.length_filter_le (firstB l) (List.range q)
  simpa using this

set_option maxHeartbeats 2000000 in
set_option maxRecDepth 100000 in
theorem bcounts_any (h : BRep own id w b m s rs vM) (ho : Ordered rs.rights) (hm : rs.rights.length ≤ 4611686018427387904) :
    Calls Try.prog 42 #[.pointer (some ⟨b, 0, none⟩)] w fun e w' => e = .returned (.tuple #[.int .i64 (cnt rs.rights), .int .i64 (fstTo rs.rights rs.rights.length)]) ∧ w' = w := by
  have k4 := h.c4
  obtain ⟨ao, cap, hv, hcase⟩ := h.row.shape'
  rw [hv] at k4
  have Hv : Hid (vM = .slice ao rs.rights.length cap) := hv
  clear hv
  go_enter Try.func42, Try.ntmps42
  go_wp2_with fail
  go_loopg [4, 5, 6] rs.rights.length (fun k n f x wr => ∃ q : Nat, x = .int .i64 q ∧ q + k = rs.rights.length ∧ n = .int .i64 (cntTo rs.rights q) ∧ f = .int .i64 (fstTo rs.rights q) ∧ wr = w)
  case atStart => exact ⟨0, rfl, by omega, rfl, rfl, rfl⟩
  case round =>
    obtain ⟨q, rfl, hk, rfl, rfl, rfl⟩ := hrel
    have hle := cntTo_le rs.rights q
    have hlf := fstTo_le rs.rights q
    have HK : Hid (q + gk = rs.rights.length) := hk
    have hq : q ≤ rs.rights.length := by omega
    clear hk
    by_cases hlt : q < rs.rights.length
    · obtain ⟨r, hr⟩ : ∃ r, rs.rights[q]? = some r := ⟨rs.rights[q], by simp⟩
      obtain ⟨g, capr, hvr, _, c0, c1, _, _, _⟩ := h.right hr
      have HC : Hid (cntTo rs.rights (q + 1) = cntTo rs.rights q + if lv rs.rights q then 1 else 0) := cntTo_succ _ _
      have HF : Hid (fstTo rs.rights (q + 1) = fstTo rs.rights q + if lv rs.rights q && decide (r.frm < 0) then 1 else 0) := fstTo_succ hr
      rw [Hv.out] at hvr
      simp at hvr
      obtain ⟨rfl, rfl⟩ := hvr
      clear hr
      go_wp2_with fail
      refine (bliving_any h ho hm q (by omega) (by omega)).mono ?_
      rintro e w2 ⟨rfl, hw2⟩
      subst hw2
      cases hl : lv rs.rights q
      · go_wp2_with fail
        go_roundg (gk - 1)
        case measure => have := HK.out; omega
        case rel => exact ⟨q + 1, by go_num, by have := HK.out; omega, by rw [HC.out, hl]; rfl, by rw [HF.out, hl]; rfl, rfl⟩
      · by_cases hf : r.frm < 0
        · go_wp2_with fail
          go_roundg (gk - 1)
          case measure => have := HK.out; omega
          case rel => exact ⟨q + 1, by go_num, by have := HK.out; omega, by rw [HC.out, hl]; go_num, by rw [HF.out, hl, decide_eq_true hf]; go_num, rfl⟩
        · go_wp2_with fail
          go_roundg (gk - 1)
          case measure => have := HK.out; omega
          case rel => exact ⟨q + 1, by go_num, by have := HK.out; omega, by rw [HC.out, hl]; go_num, by rw [HF.out, hl, decide_eq_false (show ¬ r.frm < 0 by omega)]; rfl, rfl⟩
    · obtain rfl : q = rs.rights.length := by omega
      go_wp2_with fail
      go_ret2
      exact ⟨rfl, rfl⟩

/-- What an environment must be answered for that handle. -/
theorem may_cases (hnk : NoK rs) (env : Nat) (he : env < rs.ne) (hd : Int) (h4 : rs.ne ≤ 4) :
    (rightE rs env hd = (-1, 2) ∧ alAt rs env = false) ∨
    (rightE rs env hd = (-1, 9) ∧ alAt rs env = true ∧ (hd < 1 ∨ (rs.rights.length : Int) < hd)) ∨
    (∃ (j : Nat) (r : RR), hd = j + 1 ∧ rs.rights[j]? = some r ∧ alAt rs env = true ∧ ((rightE rs env hd = (-1, 9) ∧ (r.env ≠ env ∨ (r.env = env ∧ lv rs.rights j = false))) ∨ (rightE rs env hd = ((j : Int), 0) ∧ r.env = env ∧ lv rs.rights j = true))) := by
  have hal : aliveB rs env = alAt rs env := by
    unfold aliveB alAt
    simp [he]
  unfold rightE
  rw [rawE_nok (hnk env)]
  unfold liveE
  rw [hal]
  cases ha : alAt rs env
  · exact .inl ⟨by simp, rfl⟩
  · simp only [if_true, ne_eq, not_true_eq_false, if_false]
    by_cases h1 : 1 ≤ hd ∧ hd ≤ rs.rights.length
    · rw [if_pos h1]
      right; right
      obtain ⟨r, hr⟩ : ∃ r, rs.rights[(hd - 1).toNat]? = some r := ⟨rs.rights[(hd - 1).toNat]'(by omega), by simp⟩
      rw [hr]
      refine ⟨(hd - 1).toNat, r, by omega, hr, trivial, ?_⟩
      have hc : (((hd - 1).toNat : Nat) : Int) = hd - 1 := by omega
      rw [hc]
      by_cases hee : r.env = env
      · cases hl : lv rs.rights (hd - 1)
        · left; simp [hee]
        · right; simp [hee]
      · left; simp [hee]
    · rw [if_neg h1]
      right; left
      exact ⟨rfl, trivial, by omega⟩

set_option maxHeartbeats 2000000 in
set_option maxRecDepth 100000 in
theorem bmay_any (h : BRep own id w b m s rs vM) (hnk : NoK rs) (ho : Ordered rs.rights) (hm : rs.rights.length ≤ 4611686018427387904) (env : Nat) (he : env < rs.ne) (h4 : rs.ne ≤ 4) (hd : Int) (hd0 : 0 ≤ hd) (hd1 : hd ≤ 9223372036854775807) :
    Calls Try.prog 43 #[.pointer (some ⟨b, 0, none⟩), .int .i64 env, .int .i64 hd] w fun e w' => e = .returned (.int .i64 (rightE rs env hd).2) ∧ w' = w := by
  have k4 := h.c4
  have ka := h.cal env (by omega)
  obtain ⟨ao, cap, hv, hcase⟩ := h.row.shape'
  rw [hv] at k4
  have Hv : Hid (vM = .slice ao rs.rights.length cap) := hv
  have hi0 : (0 : Int) ≤ (env : Int) := by omega
  have hi1 : (env : Int) < 4 := by omega
  clear hv
  rcases may_cases (rs := rs) hnk env he hd h4 with ⟨hx, ha⟩ | ⟨hx, ha, hr⟩ | ⟨j, r, hdj, hr, ha, hc⟩
  · have HX : Hid (rightE rs env hd = (-1, 2)) := hx
    rw [ha] at ka
    clear hx ha
    go_enter Try.func43, Try.ntmps43
    go_wp2_with fail
    go_ret
    exact ⟨ret_int (by rw [HX.out]), rfl⟩
  · have HX : Hid (rightE rs env hd = (-1, 9)) := hx
    rw [ha] at ka
    clear hx ha
    rcases hr with hr | hr
    all_goals
      go_enter Try.func43, Try.ntmps43
      go_wp2_with fail
      go_ret
      exact ⟨ret_int (by rw [HX.out]), rfl⟩
  · rw [ha] at ka
    have hj := (List.getElem?_eq_some_iff.1 hr).1
    obtain ⟨g, capr, hvr, _, c0, c1, _, _, _⟩ := h.right hr
    rw [Hv.out] at hvr
    simp at hvr
    obtain ⟨rfl, rfl⟩ := hvr
    have hd1 : hd - 1 = (j : Int) := by omega
    have hd2 : 1 ≤ hd := by omega
    have hd3 : hd ≤ (rs.rights.length : Int) := by omega
    have hjj : (j : Int) < (rs.rights.length : Int) := by omega
    have hj0 : (0 : Int) ≤ (j : Int) := by omega
    clear ha hr hcase hdj
    rcases hc with ⟨hx, hc | ⟨hc, hl⟩⟩ | ⟨hx, hc, hl⟩
    · have HX : Hid (rightE rs env hd = (-1, 9)) := hx
      have hne : (r.env != (env : Int)) = true := by simpa using hc
      clear hx hc
      go_enter Try.func43, Try.ntmps43
      go_wp2_with fail
      go_ret
      exact ⟨ret_int (by rw [HX.out]), rfl⟩
    · have HX : Hid (rightE rs env hd = (-1, 9)) := hx
      have hne : (r.env != (env : Int)) = false := by simpa using hc
      have HL : Hid (lv rs.rights j = false) := hl
      clear hx hc hl
      go_enter Try.func43, Try.ntmps43
      go_wp2_with fail
      refine (bliving_any h ho hm j (by omega) (by omega)).mono ?_
      rintro e w2 ⟨rfl, hw2⟩
      subst hw2
      rw [HL.out]
      go_wp2_with fail
      go_ret
      exact ⟨ret_int (by rw [HX.out]), rfl⟩
    · have HX : Hid (rightE rs env hd = ((j : Int), 0)) := hx
      have hne : (r.env != (env : Int)) = false := by simpa using hc
      have HL : Hid (lv rs.rights j = true) := hl
      clear hx hc hl
      go_enter Try.func43, Try.ntmps43
      go_wp2_with fail
      refine (bliving_any h ho hm j (by omega) (by omega)).mono ?_
      rintro e w2 ⟨rfl, hw2⟩
      subst hw2
      rw [HL.out]
      go_wp2_with fail
      go_ret
      exact ⟨ret_int (by rw [HX.out]), rfl⟩
end
end Go.Proofs.Ytinlkcmdbjcofaa

namespace Go.Proofs.Ytinlkcmdbjcofaa
open Go.RowKit
set_option linter.unusedVariables false
attribute [local go_sem ↓] Go.wp_at_zero Go.wp_at_succ

/-- What a step of the book leaves: the program's machine bears 2, the book 1. -/
def BRes (M : MT) (own : Nat → Nat × Nat) (w w' : World) (b m s : Nat) (rs : RSt) : Prop :=
  ∃ (own' : Nat → Nat × Nat) (vM : Value), M own' 2 w' m rs ∧ BRep own' 1 w' b m s rs vM ∧ (∀ x, x < w.heap.size → own' x = own x) ∧ Touch w.heap.size (fun x => (own x).1 = 1 ∨ (own x).1 = 2) w w'

section
variable {own : Nat → Nat × Nat} {w w1 w2 : World} {b m s : Nat} {rs : RSt} {t t' : RSt} {nk N : Nat} {vM : Value} {M : MT}

/-- Behind the program's call: the book is as it was. -/
theorem book_mid (hb : BRep own 1 w b m s rs vM) (hn : MNext M own 2 w m w1 t') : ∃ (own1 : Nat → Nat × Nat), M own1 2 w1 m t' ∧ BRep own1 1 w1 b m s rs vM ∧ (∀ x, x < w.heap.size → own1 x = own x) ∧ Touch w.heap.size (fun x => (own x).1 = 1 ∨ (own x).1 = 2) w w1 := by
  obtain ⟨own1, h1, h2, h3⟩ := hn
  exact ⟨own1, h1, hb.of h2 (fun x hx ht => h3.block x hx (by rw [ht]; omega)), h2, h3.mono (Nat.le_refl _) (fun _ _ h => .inr h)⟩

theorem alloc_cases (hs : SOk rs) (hH : HInv rs) (env : Nat) (he : env < rs.ne) :
    (alAt rs env = false ∧ allocR rs env = ((0, 2), rs)) ∨ (alAt rs env = true ∧ (32 ≤ cnt rs.rights ∨ (cnt rs.rights < 32 ∧ rs.nf ≤ fstTo rs.rights rs.rights.length)) ∧ allocR rs env = ((0, 12), rs)) ∨
    (alAt rs env = true ∧ cnt rs.rights < 32 ∧ fstTo rs.rights rs.rights.length < rs.nf ∧ ∃ (s' : RSt) (f : Int), allocR rs env = (((rs.rights.length : Int) + 1, 0), s') ∧ s'.rights = rs.rights ++ [⟨rs.rights.length + 1, env, f, true, -1, false⟩] ∧ s'.alive = rs.alive ∧ s'.ne = rs.ne ∧ s'.nf = rs.nf) := by
  have hal : aliveB rs env = alAt rs env := by unfold aliveB alAt; simp [he]
  have hln := least_none hH.toHInv0 hs.inv
  unfold allocR firstS
  rw [rawE_nok (hH.nok env)]
  unfold liveE
  rw [hal]
  cases ha : alAt rs env
  · exact .inl ⟨rfl, by simp⟩
  · right
    simp only [if_true, ne_eq, not_true_eq_false, if_false]
    cases hl : leastFree rs with
    | none =>
      rw [hl] at hln
      have := hln.1 rfl
      exact .inl ⟨trivial, by omega, rfl⟩
    | some f =>
      rw [hl] at hln
      have hlt : fstTo rs.rights rs.rights.length < rs.nf := by
        by_cases h : rs.nf ≤ fstTo rs.rights rs.rights.length
        · exact absurd (hln.2 h) (by simp)
        · omega
      by_cases hc : cnt rs.rights < 32
      · right
        simp only [if_pos hc]
        exact ⟨trivial, hc, hlt, _, f, rfl, rfl, rfl, rfl, rfl⟩
      · left
        simp only [if_neg hc]
        exact ⟨trivial, .inl (by omega), trivial⟩

theorem Try.infoG : (Try.prog.info? 60).map (fun i => (i.zero, i.size, i.bytes)) = some (some (.agg #[.int .i64 0, .int .i64 0, .bool false, .bool false]), 4, 24) := by kernel_rfl
theorem oneCell_g (r : RR) : ∀ u ∈ gcells r, u.oneCell' = true := by
  intro u hu; simp [gcells] at hu; rcases hu with rfl | rfl | rfl | rfl <;> rfl

theorem set1_kept {own own2 : Nat → Nat × Nat} {B x : Nat} {t : Nat × Nat} (ho : ∀ b, b < B → own2 b = own b) (hx : B ≤ x) : ∀ b, b < B → set1 own2 x t b = own b := fun b hb => (set1_old hx b hb).trans (ho b hb)

/-- A right more in the book. -/
theorem book_add (P : Api M) {own1 : Nat → Nat × Nat} {s' : RSt} {r : RR} {o1 : Obj} {g cap : Nat} (hp : M own1 2 w1 m s') (hb : BRep own1 1 w1 b m s rs vM) (ho : ∀ x, x < w.heap.size → own1 x = own x) (ht : Touch w.heap.size (fun x => (own x).1 = 1 ∨ (own x).1 = 2) w w1)
    (hr : s'.rights = rs.rights ++ [r]) (ha : s'.alive = rs.alive) (hn : s'.ne = rs.ne) (hf : s'.nf = rs.nf)
    (hown : w2.ownsRow 0 60 4 (.slice (some ⟨g, 0, none⟩) (rs.rights.length + 1) cap) (rs.rights.length + 1) (rs.rights.flatMap gcells ++ gcells r)) (hg : (w1.alloc o1).grownBy w2 vM.ownBlock) (hat : vM.ownBlock = some g ∨ g = w1.heap.size + 1) :
    BRes M own w (w2.setCell ⟨b, 4, none⟩ (.slice (some ⟨g, 0, none⟩) (rs.rights.length + 1) cap)) b m s s' := by
  have hs1 := ht.size
  have hs2 := hg.size
  simp at hs2
  have hbl := hb.blk.lt
  have hW : ∀ x, x < w1.heap.size → own1 x ≠ (1, 0) → own1 x ≠ (1, 1) → (w2.setCell ⟨b, 4, none⟩ (.slice (some ⟨g, 0, none⟩) (rs.rights.length + 1) cap)).heap[x]? = w1.heap[x]? := fun x hx e1 e2 => by
    rw [Below.heap_setCell _ _ _ _ (fun e => e1 (by simp at e; rw [e]; exact hb.tb)), hg.block x (by simp; omega) (fun e => e2 (hb.tM x e.symm)), Below.heap_alloc _ _ _ hx]
  have hbk : Blk w2 b (bcells m s rs vM) 33 := (hb.blk.alloc o1).grown hg (fun e => by have := hb.tM _ e; rw [hb.tb] at this; simp at this)
  refine ⟨set1 own1 (w1.heap.size + 1) (1, 1), .slice (some ⟨g, 0, none⟩) (rs.rights.length + 1) cap, P.of hp (set1_old (by omega)) (fun x hx h2 => hW x hx (fun e => by rw [e] at h2; simp at h2) (fun e => by rw [e] at h2; simp at h2)), ⟨?_, ?_, (set1_old (by omega) b hbl).trans hb.tb, hb.tM.app (fun x hx => by have := hb.row.lt x hx; omega) hat⟩, set1_kept ho (by omega), ?_⟩
  · have := hbk.set 4 (.slice (some ⟨g, 0, none⟩) (rs.rights.length + 1) cap)
    have e : bcells m s s' (.slice (some ⟨g, 0, none⟩) (rs.rights.length + 1) cap) = (bcells m s rs vM).set 4 (.slice (some ⟨g, 0, none⟩) (rs.rights.length + 1) cap) := by
      unfold bcells alAt
      rw [ha, hn, hf]
      rfl
    rw [e]; exact this
  · rw [hr, List.length_append, List.flatMap_append]
    simp only [List.length_cons, List.length_nil, List.flatMap_cons, List.flatMap_nil, List.append_nil, Nat.zero_add]
    refine Row.other (w := w2) hown _ (fun e => ?_)
    simp [Value.ownBlock] at e
    rcases hat with h1 | h1
    · have := hb.tM g h1; rw [e, hb.tb] at this; simp at this
    · omega
  · refine ((ht.alloc hs1 o1).grown hg (by simp; omega) (fun k hk => ?_)).setCell (p := ⟨b, 4, none⟩) ?_ _
    · by_cases hl : k < w.heap.size
      · left; left; rw [← ho k hl, hb.tM k hk]
      · right; omega
    · by_cases hl : b < w.heap.size
      · left; left
        show (own b).1 = 1
        rw [← ho b hl, hb.tb]
      · right; show w.heap.size ≤ b; omega

set_option maxHeartbeats 2000000 in
set_option maxRecDepth 100000 in
theorem balloc_any (P : Api M) (hp : M own 2 w m rs) (hb : BRep own 1 w b m s rs vM) (hs : SOk rs) (hH : HInv rs) (hf : RFix rs nk) (hN : rs.rights.length ≤ N) (hm : (N + 2) * 48 ≤ 140737488355328) (env : Nat) (he : env < rs.ne) :
    Calls Try.prog 17 #[.pointer (some ⟨b, 0, none⟩), .int .i64 env] w fun e w' => e = .returned (.bool true) ∧ BRes M own w w' b m s (allocR rs env).2 := by
  have hF : Few rs := by unfold Few; omega
  have h4 := hf.ne
  have hnf := hf.nf
  have c0 := hb.c0
  obtain ⟨i0, i1, i2, i3, i4⟩ := info_parts Try.infoG
  have hi0 : (0 : Int) ≤ (env : Int) := by omega
  have hi1 : (env : Int) < 4 := by omega
  have hbc := hb
  go_enter Try.func17, Try.ntmps17
  go_wp2_with fail
  refine (P.alloc hp hs hF env ⟨by omega, by omega⟩).mono ?_
  rintro e w1 ⟨rfl, hn⟩
  obtain ⟨own1, hp1, hb1, ho1, ht1⟩ := book_mid hb hn
  have k1 := hb1.c1
  have k4 := hb1.c4
  have ka := hb1.cal env (by omega)
  obtain ⟨ao, cap, hv, hcase⟩ := hb1.row.shape'
  rw [hv] at k4
  have Hv : Hid (vM = .slice ao rs.rights.length cap) := hv
  clear hv c0
  rcases alloc_cases hs hH env he with ⟨ha, hx⟩ | ⟨ha, hc, hx⟩ | ⟨ha, hc1, hc2, s', f, hx, hr', ha', hn', hf'⟩
  · have HX : Hid (allocR rs env = ((0, 2), rs)) := hx
    rw [ha] at ka
    rw [HX.out]
    clear ha hx
    go_wp2_with fail
    refine (bcounts_any hb1 hs.inv.ord (by omega)).mono ?_
    rintro e w2 ⟨rfl, hw2⟩
    subst hw2
    go_wp2_with fail
    go_ret
    exact ⟨rfl, own1, vM, hp1, by rw [HX.out]; exact hb1, ho1, ht1⟩
  · have HX : Hid (allocR rs env = ((0, 12), rs)) := hx
    rw [ha] at ka
    rw [HX.out]
    clear ha hx
    rcases hc with hc | ⟨hc, hc2⟩
    all_goals
      go_wp2_with fail
      refine (bcounts_any hb1 hs.inv.ord (by omega)).mono ?_
      rintro e w2 ⟨rfl, hw2⟩
      subst hw2
      go_wp2_with fail
      go_ret
      exact ⟨rfl, own1, vM, hp1, by rw [HX.out]; exact hb1, ho1, ht1⟩
  · have HX : Hid (allocR rs env = (((rs.rights.length : Int) + 1, 0), s')) := hx
    rw [ha] at ka
    rw [HX.out]
    clear ha hx
    have hR := hb1.row
    rw [Hv.out] at hR
    have hR2 := hR.alloc (.cells (gcells ⟨rs.rights.length + 1, env, f, true, -1, false⟩).toArray 60)
    go_wp2_with fail
    refine (bcounts_any hb1 hs.inv.ord (by omega)).mono ?_
    rintro e w2 ⟨rfl, hw2⟩
    subst hw2
    go_wp2_with (at_builtin; refine wpList_append_lies _ rfl (.tmp 57) (.tmp 60) 30 rfl 0 60 i0 _ 4 24 Try.underlying30 i1 i2 i3 i4 rfl (by decide) (.slice ao rs.rights.length cap) rs.rights.length _ rfl hR2 ⟨w2.heap.size, 0, none⟩ 1 1 (gcells ⟨rs.rights.length + 1, env, f, true, -1, false⟩) rfl rfl ?c1 ?c2 (by omega) ?b1 ?b2 (by omega) (w2.heap.size + 1) (by simp) ?nx)
    case c1 => exact World.news_of_block (B := w2.heap.size) (cs := (gcells ⟨rs.rights.length + 1, env, f, true, -1, false⟩).toArray) (t := 60) (fr := (0, 0)) (Blk.new _ _ _)
    case c2 => exact oneCell_g _
    case b1 => unfold maxLen; omega
    case b2 => omega
    intro g cp w3 hown hgrow hat hlt3
    have hbk := (hb1.blk.alloc (.cells (gcells ⟨rs.rights.length + 1, env, f, true, -1, false⟩).toArray 60)).grown hgrow (fun e => by have := hb1.tM b (by rw [Hv.out]; exact e); rw [hb1.tb] at this; simp at this)
    have e0 := (hbk.cell 4).trans (show _ = some vM from rfl)
    have e1 := hbk.frozen 4
    rw [Hv.out] at e0
    have hfin := book_add P (by have := hp1; rw [HX.out] at this; exact this) hb1 ho1 ht1 hr' ha' hn' hf' hown (by rw [Hv.out]; exact hgrow) (by rw [Hv.out]; exact hat)
    go_wp2_with fail
    go_ret
    exact ⟨rfl, by rw [HX.out]; exact hfin⟩
end
end Go.Proofs.Ytinlkcmdbjcofaa

namespace Go.Proofs.Ytinlkcmdbjcofaa
open Go.RowKit
set_option linter.unusedVariables false
attribute [local go_sem ↓] Go.wp_at_zero Go.wp_at_succ

section
variable {own : Nat → Nat × Nat} {w w1 w2 : World} {b m s : Nat} {rs : RSt} {t t' : RSt} {nk N : Nat} {vM : Value} {M : MT}

theorem derive_cases (hnk : NoK rs) (env te : Nat) (he : env < rs.ne) (ht : te < rs.ne) (hd : Int) (wt : Bool) :
    (∃ x, (rightE rs env hd).2 = x ∧ (x = 2 ∨ x = 9) ∧ deriveR rs env hd te wt = ((0, x), rs)) ∨
    ∃ (j : Nat) (r : RR), hd = j + 1 ∧ rs.rights[j]? = some r ∧ (rightE rs env hd).2 = 0 ∧
      ((alAt rs te = false ∧ deriveR rs env hd te wt = ((0, 2), rs)) ∨ (alAt rs te = true ∧ wt = true ∧ r.wr = false ∧ deriveR rs env hd te wt = ((0, 10), rs)) ∨
       (alAt rs te = true ∧ (wt = false ∨ (wt = true ∧ r.wr = true)) ∧ 32 ≤ cnt rs.rights ∧ deriveR rs env hd te wt = ((0, 12), rs)) ∨
       (alAt rs te = true ∧ (wt = false ∨ (wt = true ∧ r.wr = true)) ∧ cnt rs.rights < 32 ∧ deriveR rs env hd te wt = (((rs.rights.length : Int) + 1, 0), addR rs te r.fr wt j))) := by
  have hal : aliveB rs te = alAt rs te := by unfold aliveB alAt; simp [ht]
  rcases rightE_cases2 hnk env hd with ⟨x, h1, h3⟩ | ⟨j, r, h1, hrr, hd1, hee, hl, ha⟩
  · left
    refine ⟨x, by rw [h1], h3, ?_⟩
    unfold deriveR
    rw [h1]
    have : x ≠ 0 := by omega
    simp [this]
  · right
    refine ⟨j, r, hd1, hrr, by rw [h1], ?_⟩
    unfold deriveR
    rw [rawE_nok (hnk te), h1]
    unfold liveE
    rw [hal]
    simp only [ne_eq, not_true_eq_false, if_false, Int.toNat_natCast, hrr]
    cases alAt rs te
    · left; simp
    · right
      simp only [if_true, not_true_eq_false, if_false]
      cases wt <;> cases hw : r.wr
      · right
        by_cases hc : 32 ≤ cnt rs.rights
        · left; simp [hc]
        · right; simp [hc]; omega
      · right
        by_cases hc : 32 ≤ cnt rs.rights
        · left; simp [hc]
        · right; simp [hc]; omega
      · left; simp
      · right
        by_cases hc : 32 ≤ cnt rs.rights
        · left; simp [hc]
        · right; simp [hc]; omega

set_option maxHeartbeats 4000000 in
set_option maxRecDepth 100000 in
theorem bderive_any (P : Api M) (hp : M own 2 w m rs) (hb : BRep own 1 w b m s rs vM) (hs : SOk rs) (hH : HInv rs) (hf : RFix rs nk) (hN : rs.rights.length ≤ N) (hm : (N + 2) * 48 ≤ 140737488355328) (env te : Nat) (he : env < rs.ne) (hto : te < rs.ne)
    (hd : Int) (hd0 : 0 ≤ hd) (hd1 : hd ≤ 9223372036854775807) (wt : Bool) :
    Calls Try.prog 18 #[.pointer (some ⟨b, 0, none⟩), .int .i64 env, .int .i64 hd, .int .i64 te, .bool wt] w fun e w' => e = .returned (.bool true) ∧ BRes M own w w' b m s (deriveR rs env hd te wt).2 := by
  have hF : Few rs := by unfold Few; omega
  have h4 := hf.ne
  have c0 := hb.c0
  obtain ⟨i0, i1, i2, i3, i4⟩ := info_parts Try.infoG
  have hi0 : (0 : Int) ≤ (te : Int) := by omega
  have hi1 : (te : Int) < 4 := by omega
  go_enter Try.func18, Try.ntmps18
  go_wp2_with fail
  refine (P.derive hp hs hF env hd te wt ⟨by omega, by omega⟩ ⟨by omega, hd1⟩ ⟨by omega, by omega⟩).mono ?_
  rintro e w1 ⟨rfl, hn⟩
  obtain ⟨own1, hp1, hb1, ho1, ht1⟩ := book_mid hb hn
  have k4 := hb1.c4
  have ka := hb1.cal te (by omega)
  obtain ⟨ao, cap, hv, hcase⟩ := hb1.row.shape'
  rw [hv] at k4
  have Hv : Hid (vM = .slice ao rs.rights.length cap) := hv
  clear hv c0
  rcases derive_cases (rs := rs) hH.nok env te he hto hd wt with ⟨x, hx2, hx, hdr⟩ | ⟨j, r, hdj, hr, hx2, hc⟩
  · have HX : Hid (deriveR rs env hd te wt = ((0, x), rs)) := hdr
    have HY : Hid ((rightE rs env hd).2 = x) := hx2
    rw [HX.out]
    clear hdr hx2
    rcases hx with rfl | rfl
    all_goals
      go_wp2_with fail
      refine (bcounts_any hb1 hs.inv.ord (by omega)).mono ?_
      rintro e w2 ⟨rfl, hw2⟩
      subst hw2
      go_wp2_with fail
      refine (bmay_any hb1 hH.nok hs.inv.ord (by omega) env he h4 hd hd0 hd1).mono ?_
      rintro e w3 ⟨rfl, hw3⟩
      subst hw3
      rw [HY.out]
      go_wp2_with fail
      go_ret
      exact ⟨rfl, own1, vM, hp1, by rw [HX.out]; exact hb1, ho1, ht1⟩
  · have HY : Hid ((rightE rs env hd).2 = 0) := hx2
    have hj := (List.getElem?_eq_some_iff.1 hr).1
    obtain ⟨g, capr, hvr, _, _, _, c2, _, _⟩ := hb1.right hr
    rw [Hv.out] at hvr
    simp at hvr
    obtain ⟨rfl, rfl⟩ := hvr
    have hd2 : hd - 1 = (j : Int) := by omega
    have hjj : (j : Int) < (rs.rights.length : Int) := by omega
    have hj0 : (0 : Int) ≤ (j : Int) := by omega
    clear hr hcase hdj hx2
    rcases hc with ⟨ha, hx⟩ | ⟨ha, hw1, hw2, hx⟩ | ⟨ha, hw, hc, hx⟩ | ⟨ha, hw, hc, hx⟩
    · have HX : Hid (deriveR rs env hd te wt = ((0, 2), rs)) := hx
      rw [HX.out]
      rw [ha] at ka
      clear hx ha
      go_wp2_with fail
      refine (bcounts_any hb1 hs.inv.ord (by omega)).mono ?_
      rintro e w2 ⟨rfl, hw2⟩
      subst hw2
      go_wp2_with fail
      refine (bmay_any hb1 hH.nok hs.inv.ord (by omega) env he h4 hd hd0 hd1).mono ?_
      rintro e w3 ⟨rfl, hw3⟩
      subst hw3
      rw [HY.out]
      go_wp2_with fail
      go_ret
      exact ⟨rfl, own1, vM, hp1, by rw [HX.out]; exact hb1, ho1, ht1⟩
    · have HX : Hid (deriveR rs env hd te wt = ((0, 10), rs)) := hx
      rw [HX.out]
      rw [ha] at ka
      rw [hw2] at c2
      subst hw1
      clear hx ha hw2
      go_wp2_with fail
      refine (bcounts_any hb1 hs.inv.ord (by omega)).mono ?_
      rintro e w2 ⟨rfl, hw2⟩
      subst hw2
      go_wp2_with fail
      refine (bmay_any hb1 hH.nok hs.inv.ord (by omega) env he h4 hd hd0 hd1).mono ?_
      rintro e w3 ⟨rfl, hw3⟩
      subst hw3
      rw [HY.out]
      go_wp2_with fail
      go_ret
      exact ⟨rfl, own1, vM, hp1, by rw [HX.out]; exact hb1, ho1, ht1⟩
    · have HX : Hid (deriveR rs env hd te wt = ((0, 12), rs)) := hx
      rw [HX.out]
      rw [ha] at ka
      clear hx ha
      rcases hw with rfl | ⟨rfl, hw⟩
      all_goals
        try rw [hw] at c2
        go_wp2_with fail
        refine (bcounts_any hb1 hs.inv.ord (by omega)).mono ?_
        rintro e w2 ⟨rfl, hw2⟩
        subst hw2
        go_wp2_with fail
        refine (bmay_any hb1 hH.nok hs.inv.ord (by omega) env he h4 hd hd0 hd1).mono ?_
        rintro e w3 ⟨rfl, hw3⟩
        subst hw3
        rw [HY.out]
        go_wp2_with fail
        go_ret
        exact ⟨rfl, own1, vM, hp1, by rw [HX.out]; exact hb1, ho1, ht1⟩
    · have HX : Hid (deriveR rs env hd te wt = (((rs.rights.length : Int) + 1, 0), addR rs te r.fr wt j)) := hx
      rw [HX.out]
      rw [ha] at ka
      clear hx ha
      have hR := hb1.row
      rw [Hv.out] at hR
      rcases hw with rfl | ⟨rfl, hw⟩
      · have hR2 := hR.alloc (.cells (gcells ⟨rs.rights.length + 1, te, r.fr, false, j, false⟩).toArray 60)
        go_wp2_with fail
        refine (bcounts_any hb1 hs.inv.ord (by omega)).mono ?_
        rintro e w2 ⟨rfl, hw2⟩
        subst hw2
        go_wp2_with fail
        refine (bmay_any hb1 hH.nok hs.inv.ord (by omega) env he h4 hd hd0 hd1).mono ?_
        rintro e w3 ⟨rfl, hw3⟩
        subst hw3
        rw [HY.out]
        go_wp2_with (at_builtin; refine wpList_append_lies _ rfl (.tmp 78) (.tmp 84) 30 rfl 0 60 i0 _ 4 24 Try.underlying30 i1 i2 i3 i4 rfl (by decide) (.slice (some ⟨g, 0, none⟩) rs.rights.length cap) rs.rights.length _ rfl hR2 ⟨w3.heap.size, 0, none⟩ 1 1 (gcells ⟨rs.rights.length + 1, te, r.fr, false, j, false⟩) rfl rfl ?c1 ?c2 (by omega) ?b1 ?b2 (by omega) (w3.heap.size + 1) (by simp) ?nx)
        case c1 => exact World.news_of_block (B := w3.heap.size) (cs := (gcells ⟨rs.rights.length + 1, te, r.fr, false, j, false⟩).toArray) (t := 60) (fr := (0, 0)) (Blk.new _ _ _)
        case c2 => exact oneCell_g _
        case b1 => unfold maxLen; omega
        case b2 => omega
        intro g1 cp w4 hown hgrow hat hlt3
        have hbk := (hb1.blk.alloc (.cells (gcells ⟨rs.rights.length + 1, te, r.fr, false, j, false⟩).toArray 60)).grown hgrow (fun e => by have := hb1.tM b (by rw [Hv.out]; exact e); rw [hb1.tb] at this; simp at this)
        have e0 := (hbk.cell 4).trans (show _ = some vM from rfl)
        have e1 := hbk.frozen 4
        rw [Hv.out] at e0
        have hfin := book_add P (s' := addR rs te r.fr false j) (by have := hp1; rw [HX.out] at this; exact this) hb1 ho1 ht1 rfl rfl rfl rfl hown (by rw [Hv.out]; exact hgrow) (by rw [Hv.out]; exact hat)
        go_wp2_with fail
        go_ret
        exact ⟨rfl, by rw [HX.out]; exact hfin⟩
      · rw [hw] at c2
        have hR2 := hR.alloc (.cells (gcells ⟨rs.rights.length + 1, te, r.fr, true, j, false⟩).toArray 60)
        go_wp2_with fail
        refine (bcounts_any hb1 hs.inv.ord (by omega)).mono ?_
        rintro e w2 ⟨rfl, hw2⟩
        subst hw2
        go_wp2_with fail
        refine (bmay_any hb1 hH.nok hs.inv.ord (by omega) env he h4 hd hd0 hd1).mono ?_
        rintro e w3 ⟨rfl, hw3⟩
        subst hw3
        rw [HY.out]
        go_wp2_with (at_builtin; refine wpList_append_lies _ rfl (.tmp 78) (.tmp 84) 30 rfl 0 60 i0 _ 4 24 Try.underlying30 i1 i2 i3 i4 rfl (by decide) (.slice (some ⟨g, 0, none⟩) rs.rights.length cap) rs.rights.length _ rfl hR2 ⟨w3.heap.size, 0, none⟩ 1 1 (gcells ⟨rs.rights.length + 1, te, r.fr, true, j, false⟩) rfl rfl ?c1t ?c2t (by omega) ?b1t ?b2t (by omega) (w3.heap.size + 1) (by simp) ?nxt)
        case c1t => exact World.news_of_block (B := w3.heap.size) (cs := (gcells ⟨rs.rights.length + 1, te, r.fr, true, j, false⟩).toArray) (t := 60) (fr := (0, 0)) (Blk.new _ _ _)
        case c2t => exact oneCell_g _
        case b1t => unfold maxLen; omega
        case b2t => omega
        intro g1 cp w4 hown hgrow hat hlt3
        have hbk := (hb1.blk.alloc (.cells (gcells ⟨rs.rights.length + 1, te, r.fr, true, j, false⟩).toArray 60)).grown hgrow (fun e => by have := hb1.tM b (by rw [Hv.out]; exact e); rw [hb1.tb] at this; simp at this)
        have e0 := (hbk.cell 4).trans (show _ = some vM from rfl)
        have e1 := hbk.frozen 4
        rw [Hv.out] at e0
        have hfin := book_add P (s' := addR rs te r.fr true j) (by have := hp1; rw [HX.out] at this; exact this) hb1 ho1 ht1 rfl rfl rfl rfl hown (by rw [Hv.out]; exact hgrow) (by rw [Hv.out]; exact hat)
        go_wp2_with fail
        go_ret
        exact ⟨rfl, by rw [HX.out]; exact hfin⟩
end
end Go.Proofs.Ytinlkcmdbjcofaa
