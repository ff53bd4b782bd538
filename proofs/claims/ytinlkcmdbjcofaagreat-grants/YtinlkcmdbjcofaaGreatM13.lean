import Derived.Deep.MidRow
import Derived.Deep.WholeRow
import Derived.Test.YtinlkcmdbjcofaaGreatM12
/-
  The program's kept memory: package kept, what it tells.
-/
namespace Go.Proofs.YtinlkcmdbjcofaaGreat
open Go.RowKit
set_option linter.unusedVariables false
attribute [local go_sem ↓] Go.wp_at_zero Go.wp_at_succ

/-- l lies in c from o on. -/
def lay (c : List Value) (o : Nat) (l : List Value) : List Value := c.take o ++ (l ++ c.drop (o + l.length))
theorem lay_in {c l : List Value} {o j : Nat} (ho : o ≤ c.length) (hj : j < l.length) : (lay c o l)[o + j]? = l[j]? := by
  unfold lay
  rw [List.getElem?_append_right (by simp; omega), List.length_take, Nat.min_eq_left ho, show o + j - o = j by omega, List.getElem?_append_left hj]
theorem lay_set {c l : List Value} {o j : Nat} (ho : o ≤ c.length) (hj : j < l.length) (u : Value) : (lay c o l).set (o + j) u = lay c o (l.set j u) := by
  unfold lay
  rw [List.set_append_right _ _ (by simp; omega), List.length_take, Nat.min_eq_left ho, show o + j - o = j by omega, List.set_append_left _ _ hj, List.length_set]
theorem lay_same {c l : List Value} {o : Nat} (ho : o + l.length ≤ c.length) (h : ∀ j, j < l.length → c[o + j]? = l[j]?) : lay c o l = c := by
  apply List.ext_getElem?
  intro q
  unfold lay
  by_cases h1 : q < o
  · rw [List.getElem?_append_left (by simp; omega), List.getElem?_take_of_lt h1]
  · rw [List.getElem?_append_right (by simp; omega), List.length_take, Nat.min_eq_left (by omega)]
    by_cases h2 : q - o < l.length
    · rw [List.getElem?_append_left h2, ← h (q - o) h2, show o + (q - o) = q by omega]
    · rw [List.getElem?_append_right (by omega), List.getElem?_drop, show o + l.length + (q - o - l.length) = q by omega]
theorem lay_get {c l : List Value} {o q : Nat} (ho : o + l.length ≤ c.length) : (lay c o l)[q]? = if o ≤ q ∧ q < o + l.length then l[q - o]? else c[q]? := by
  by_cases h1 : o ≤ q ∧ q < o + l.length
  · rw [if_pos h1]
    have := lay_in (c := c) (l := l) (o := o) (j := q - o) (by omega) (by omega)
    rw [show o + (q - o) = q by omega] at this
    exact this
  · rw [if_neg h1]
    unfold lay
    by_cases h2 : q < o
    · rw [List.getElem?_append_left (by simp; omega), List.getElem?_take_of_lt h2]
    · rw [List.getElem?_append_right (by simp; omega), List.length_take, Nat.min_eq_left (by omega), List.getElem?_append_right (by omega), List.getElem?_drop, show o + l.length + (q - o - l.length) = q by omega]

/-- The memory at ⟨b, o⟩ of a block; c: the block's cells, but for the memory's own. -/
structure MemAt (own : Nat → Nat × Nat) (t : Nat × Nat) (w : World) (b o : Nat) (T : TypeId) (c : List Value) (vI : Value) (k : PK) : Prop where
  blk : Blk w b (lay c o (k.cells vI)) T
  hc : o + 134 ≤ c.length
  row : Row w vI 3 1 k.inl.length (k.inl.map (.int .i64))
  tag : Tg own vI t
  ne : own b ≠ t
/-- What a call that turns the memory leaves. -/
def MemNext (own : Nat → Nat × Nat) (t : Nat × Nat) (w : World) (b o : Nat) (T : TypeId) (c : List Value) (vI : Value) (w' : World) (k' : PK) : Prop :=
  ∃ (own' : Nat → Nat × Nat) (vI' : Value), MemAt own' t w' b o T c vI' k' ∧ (∀ x, x < w.heap.size → own' x = own x) ∧ Touch w.heap.size (fun x => x = b ∨ vI.ownBlock = some x) w w'

section
variable {own : Nat → Nat × Nat} {t : Nat × Nat} {w : World} {b o : Nat} {T : TypeId} {c : List Value} {vI : Value} {k : PK}

theorem MemAt.of {own' : Nat → Nat × Nat} {w' : World} (h : MemAt own t w b o T c vI k) (ho : ∀ x, x < w.heap.size → own' x = own x) (hb : w'.heap[b]? = w.heap[b]?) (hr : ∀ x, x < w.heap.size → own x = t → w'.heap[x]? = w.heap[x]?) : MemAt own' t w' b o T c vI k :=
  ⟨h.blk.of hb, h.hc, h.row.kept h.tag hr, h.tag.congr h.row ho, by rw [ho b h.blk.lt]; exact h.ne⟩
theorem MemAt.below {w' : World} (h : MemAt own t w b o T c vI k) (hb : Below w.heap.size w w') : MemAt own t w' b o T c vI k :=
  h.of (fun _ _ => rfl) (hb.block b h.blk.lt) (fun x hx _ => hb.block x hx)
theorem MemAt.cell (h : MemAt own t w b o T c vI k) {j : Nat} (hj : j < 134) : w.cell? ⟨b, o + j, none⟩ = (k.cells vI)[j]? := (h.blk.cell _).trans (lay_in (by have := h.hc; omega) (by rw [PK.cells_len]; exact hj))
theorem MemAt.quota (h : MemAt own t w b o T c vI k) : w.cell? ⟨b, o, none⟩ = some (.int .i64 k.quota) := (h.cell (j := 0) (by omega)).trans rfl
theorem MemAt.policy (h : MemAt own t w b o T c vI k) : w.cell? ⟨b, o + 1, none⟩ = some (.int .i64 k.policy) := (h.cell (j := 1) (by omega)).trans rfl
theorem MemAt.inl (h : MemAt own t w b o T c vI k) : w.cell? ⟨b, o + 130, none⟩ = some vI := (h.cell (j := 130) (by omega)).trans (PK.cell_in k vI)
theorem MemAt.refills (h : MemAt own t w b o T c vI k) : w.cell? ⟨b, o + 131, none⟩ = some (.int .i64 k.refills) := (h.cell (j := 131) (by omega)).trans (PK.cell_refills k vI)
theorem MemAt.ins (h : MemAt own t w b o T c vI k) : w.cell? ⟨b, o + 132, none⟩ = some (.int .i64 k.ins) := (h.cell (j := 132) (by omega)).trans (PK.cell_ins k vI)
theorem MemAt.outs (h : MemAt own t w b o T c vI k) : w.cell? ⟨b, o + 133, none⟩ = some (.int .i64 k.outs) := (h.cell (j := 133) (by omega)).trans (PK.cell_outs k vI)
theorem MemAt.page (h : MemAt own t w b o T c vI k) {p : Nat} {g : PG} (hp : p < 16) (hg : k.pages[p]? = some g) {j : Nat} (hj : j < 8) : w.cell? ⟨b, o + 2 + p * 8 + j, none⟩ = g.cells[j]? := by
  rw [show o + 2 + p * 8 + j = o + (2 + p * 8 + j) by omega]
  exact (h.cell (by omega)).trans (PK.cell_page hp hg hj)
theorem MemAt.nin (h : MemAt own t w b o T c vI k) : vI.ownBlock ≠ some b := fun e => h.ne (h.tag b e)
/-- A cell of the memory is written, other than the list's. -/
theorem MemAt.set (h : MemAt own t w b o T c vI k) {j : Nat} (hj : j < 134) {u : Value} {k' : PK} (hk : k'.cells vI = (k.cells vI).set j u) (hi : k'.inl = k.inl) : MemAt own t (w.setCell ⟨b, o + j, none⟩ u) b o T c vI k' := by
  refine ⟨?_, h.hc, ?_, h.tag, h.ne⟩
  · rw [hk, ← lay_set (by have := h.hc; omega) (by rw [PK.cells_len]; exact hj)]
    exact h.blk.set _ _
  · rw [hi]
    exact h.row.other _ h.nin
/-- The list is written. -/
theorem MemAt.setIn (h : MemAt own t w b o T c vI k) {v' : Value} {l : List Int} (hr : Row w v' 3 1 l.length (l.map (.int .i64))) (ht : Tg own v' t) : MemAt own t (w.setCell ⟨b, o + 130, none⟩ v') b o T c v' { k with inl := l } := by
  refine ⟨?_, h.hc, hr.other _ (fun e => h.ne (ht b e)), ht, h.ne⟩
  rw [PK.set_in k vI v' l, ← lay_set (by have := h.hc; omega) (by rw [PK.cells_len]; omega)]
  exact h.blk.set _ _
theorem MemNext.of (h : MemAt own t w b o T c vI k) {w' : World} {k' : PK} (h' : MemAt own t w' b o T c vI k') (ht : Touch w.heap.size (fun x => x = b ∨ vI.ownBlock = some x) w w') : MemNext own t w b o T c vI w' k' := ⟨own, vI, h', fun _ _ => rfl, ht⟩
/-- Other blocks may be made ahead. -/
theorem MemNext.after {w1 w2 : World} {k2 : PK} (hb : Below w.heap.size w w1) (h2 : MemNext own t w1 b o T c vI w2 k2) : MemNext own t w b o T c vI w2 k2 := by
  obtain ⟨own2, v2, a, d, e⟩ := h2
  exact ⟨own2, v2, a, fun x hx => d x (Nat.lt_of_lt_of_le hx hb.size), (Touch.of_below hb _).trans (e.mono hb.size (fun _ _ h => h))⟩

set_option maxHeartbeats 1000000 in
set_option maxRecDepth 100000 in
theorem hasRoom_any (h : MemAt own t w b o T c vI k) (hn : k.inl.length ≤ 16) :
    Calls Tryz.prog 143 #[.pointer (some ⟨b, o, none⟩)] w fun e w' => e = .returned (.bool (decide ((k.inl.length : Int) < k.quota))) ∧ Below w.heap.size w w' := by
  have k0 := h.quota
  have k1 := h.inl
  obtain ⟨ao, cap, hv, _⟩ := h.row.shape
  rw [hv] at k1
  clear hv
  go_enter Tryz.func143, Tryz.ntmps143
  go_wp2_with fail
  go_quiet (fail)
  go_wp2_with fail
  go_ret
  exact ⟨rfl, below_drewN (Below.refl _ _) _⟩

set_option maxHeartbeats 1000000 in
set_option maxRecDepth 100000 in
theorem changed_any (h : MemAt own t w b o T c vI k) {p : Nat} {g : PG} (hp : p < 16) (hg : k.pages[p]? = some g) :
    Calls Tryz.prog 138 #[.pointer (some ⟨b, o, none⟩), .int .i64 p] w fun e w' => e = .returned (.bool g.chg) ∧ w' = w := by
  have c1 := h.page hp hg (j := 1) (by omega)
  simp [PG.cells] at c1
  have hp' : (p : Int) < 16 := by omega
  clear hg
  go_enter Tryz.func138, Tryz.ntmps138
  go_wp2_with fail
  go_ret
  exact ⟨rfl, rfl⟩

def frameV (k : PK) (p : Nat) : Value := if hasI k.inl p then .tuple #[.int .i64 (((k.pages[p]?).map PG.frame).getD 0), .bool true] else .tuple #[.int .i64 0, .bool false]

set_option maxHeartbeats 1000000 in
set_option maxRecDepth 100000 in
theorem mframe_any (h : MemAt own t w b o T c vI k) (hn : k.inl.length ≤ 16) {p : Nat} {g : PG} (hp : p < 16) (hg : k.pages[p]? = some g) :
    Calls Tryz.prog 126 #[.pointer (some ⟨b, o, none⟩), .int .i64 p] w fun e w' => e = .returned (frameV k p) ∧ w' = w := by
  have c0 := h.page hp hg (j := 0) (by omega)
  simp [PG.cells] at c0
  have k1 := h.inl
  have HG : Hid (k.pages[p]? = some g) := hg
  have hp' : (p : Int) < 16 := by omega
  obtain ⟨ao, cap, hv, hcase⟩ := h.row.shape
  have hrow := h.row
  rw [hv] at k1 hrow
  clear hv hg
  rcases hcase with h0 | ⟨gi, rfl⟩
  all_goals
    go_enter Tryz.func126, Tryz.ntmps126
    go_wp2_with fail
    go_loopg [13] k.inl.length (fun m x wr => ∃ q : Nat, x = .int .i64 q ∧ q + m = k.inl.length ∧ (∀ i y, i < q → k.inl[i]? = some y → (y == (p : Int)) = false) ∧ wr = w)
    case atStart => exact ⟨0, rfl, by omega, fun i y hi _ => by omega, rfl⟩
    case round =>
      obtain ⟨q, rfl, hk, hno, rfl⟩ := hrel
      have HK : Hid (q + gk = k.inl.length) := hk
      have HN : Hid (∀ i y, i < q → k.inl[i]? = some y → (y == (p : Int)) = false) := hno
      have hq : q ≤ k.inl.length := by omega
      clear hk hno
      by_cases hlt : q < k.inl.length
      · first
        | (exfalso; omega; done)
        | (obtain ⟨x, hx⟩ : ∃ x, k.inl[q]? = some x := ⟨k.inl[q], by simp⟩
           have cx : wr.cell? ⟨gi, q, none⟩ = some (.int .i64 x) := by rw [hrow.cellAt q (by omega), List.getElem?_map, hx]; rfl
           have HX : Hid (k.inl[q]? = some x) := hx
           clear hx
           cases he : (x == (p : Int))
           · go_wp2_with fail
             go_roundg (gk - 1)
             case measure => have := HK.out; omega
             case rel => exact ⟨q + 1, by go_num, by have := HK.out; omega, fun i y hi hy => by
               rcases Nat.lt_or_ge i q with h1 | h1
               · exact HN.out i y h1 hy
               · obtain rfl : i = q := by omega
                 rw [HX.out] at hy
                 simp at hy
                 subst hy
                 exact he, rfl⟩
           · have HF : Hid (frameV k p = .tuple #[.int .i64 g.frame, .bool true]) := by
               have : hasI k.inl p = true := by
                 unfold hasI
                 rw [List.any_eq_true]
                 exact ⟨x, List.mem_of_getElem? HX.out, he⟩
               simp [Hid, frameV, this, HG.out]
             go_wp2_with fail
             go_ret2
             exact ⟨by rw [HF.out]; first | done | rfl, rfl⟩)
      · have HF : Hid (frameV k p = .tuple #[.int .i64 0, .bool false]) := by
          have : hasI k.inl p = false := by
            unfold hasI
            rw [List.any_eq_false]
            intro x hx
            obtain ⟨i, hi, rfl⟩ := List.getElem_of_mem hx
            rw [HN.out i k.inl[i] (by omega) (by simp)]; simp
          simp [Hid, frameV, this]
        go_wp2_with fail
        go_ret2
        exact ⟨by rw [HF.out]; first | done | rfl, rfl⟩

set_option maxHeartbeats 1000000 in
set_option maxRecDepth 100000 in
theorem chosen_any (h : MemAt own t w b o T c vI k) (hn : k.inl.length ≤ 16) {q : Nat} {g : PG} (h0 : 0 < k.inl.length) (hc : chosen k.policy k.inl = q) (hq : q < 16) (hg : k.pages[q]? = some g) :
    Calls Tryz.prog 141 #[.pointer (some ⟨b, o, none⟩)] w fun e w' => e = .returned (.tuple #[.int .i64 q, .int .i64 g.frame, .bool true]) ∧ Below w.heap.size w w' := by
  have c0 := h.page hq hg (j := 0) (by omega)
  simp [PG.cells] at c0
  have k1 := h.inl
  have k2 := h.policy
  have hq' : (q : Int) < 16 := by omega
  obtain ⟨ao, cap, hv, hcase⟩ := h.row.shape
  obtain ⟨gi, rfl⟩ : ∃ gi, ao = some ⟨gi, 0, none⟩ := by
    rcases hcase with h1 | h1
    · omega
    · exact h1
  have hrow := h.row
  rw [hv] at k1 hrow
  have hne : ((k.inl.length : Int) == 0) = false := by rw [beq_eq_false_iff_ne]; omega
  obtain ⟨x0, hx0⟩ : ∃ x, k.inl[0]? = some x := ⟨k.inl[0], by simp⟩
  obtain ⟨x1, hx1⟩ : ∃ x, k.inl[k.inl.length - 1]? = some x := ⟨k.inl[k.inl.length - 1], by simp⟩
  have d0 : w.cell? ⟨gi, 0, none⟩ = some (.int .i64 x0) := by rw [hrow.cellAt 0 (by omega), List.getElem?_map, hx0]; rfl
  have d1 : w.cell? ⟨gi, k.inl.length - 1, none⟩ = some (.int .i64 x1) := by rw [hrow.cellAt _ (by omega), List.getElem?_map, hx1]; rfl
  have hl1 : ((k.inl.length : Int) - 1) = ((k.inl.length - 1 : Nat) : Int) := by omega
  have hll : (0 : Int) < (k.inl.length : Int) := by omega
  unfold chosen at hc
  clear hv hg hcase
  cases hp : (k.policy == 2)
  · rw [hp, hx0] at hc
    simp at hc
    subst hc
    clear hx0 hx1 d1
    go_enter Tryz.func141, Tryz.ntmps141
    go_wp2_with fail
    go_quiet (fail)
    go_wp2_with fail
    exact bodyPost_ret (v := .tuple #[.int .i64 q, .int .i64 g.frame, .bool true]) (by simp [results, Tryz.results141, go_sem]) rfl ⟨rfl, below_drewN (Below.refl _ _) _⟩
  · rw [hp, hx1] at hc
    simp at hc
    subst hc
    clear hx0 hx1
    go_enter Tryz.func141, Tryz.ntmps141
    go_wp2_with fail
    go_quiet (fail)
    go_wp2_with fail
    go_quiet (fail)
    go_wp2_with fail
    exact bodyPost_ret (v := .tuple #[.int .i64 q, .int .i64 g.frame, .bool true]) (by simp [results, Tryz.results141, go_sem]) rfl ⟨rfl, below_drewN (below_drewN (Below.refl _ _) _) _⟩

set_option maxHeartbeats 1000000 in
set_option maxRecDepth 100000 in
theorem chosen_none (h : MemAt own t w b o T c vI k) (h0 : k.inl.length = 0) :
    Calls Tryz.prog 141 #[.pointer (some ⟨b, o, none⟩)] w fun e w' => e = .returned (.tuple #[.int .i64 0, .int .i64 0, .bool false]) ∧ w' = w := by
  have k1 := h.inl
  obtain ⟨ao, cap, hv, hcase⟩ := h.row.shape
  rw [hv, h0] at k1
  clear hv hcase
  go_enter Tryz.func141, Tryz.ntmps141
  go_wp2_with fail
  exact bodyPost_ret (v := .tuple #[.int .i64 0, .int .i64 0, .bool false]) (by simp [results, Tryz.results141, go_sem]) rfl ⟨rfl, rfl⟩

end
end Go.Proofs.YtinlkcmdbjcofaaGreat

/-
  An environment of the program's machine is written, whole or its memory alone.
-/
namespace Go.Proofs.YtinlkcmdbjcofaaGreat
open Go.RowKit
set_option linter.unusedVariables false

theorem oneCell_mem (k : PK) (v : Value) (hv : v.oneCell' = true) : ∀ u ∈ k.cells v, u.oneCell' = true := by
  intro u hu
  simp only [PK.cells, PK.pcells, PG.cells, List.mem_cons, List.mem_append, List.mem_flatMap, List.not_mem_nil, or_false] at hu
  rcases hu with rfl | rfl | ⟨q, _, hu⟩ | rfl | rfl | rfl | rfl
  · rfl
  · rfl
  · rcases hu with rfl | rfl | rfl | rfl | rfl | rfl | rfl | rfl <;> rfl
  · exact hv
  · rfl
  · rfl
  · rfl
theorem oneCell_env (e : PEnv) (v : Value) (hv : v.oneCell' = true) : ∀ u ∈ ecells (e, v), u.oneCell' = true := by
  intro u hu
  simp only [ecells, List.mem_cons] at hu
  rcases hu with rfl | rfl | hu
  · rfl
  · rfl
  · exact oneCell_mem e.mem v hv u hu
theorem lay_len {c l : List Value} {o : Nat} (h : o + l.length ≤ c.length) : (lay c o l).length = c.length := by
  unfold lay
  simp; omega
theorem heap_setCells (b x : Nat) (hne : x ≠ b) : ∀ (vs : List Value) (o : Nat) (w : World), (w.setCells b o vs).heap[x]? = w.heap[x]?
  | [], _, _ => rfl
  | v :: r, o, w => by
    rw [World.setCells, heap_setCells b x hne r (o + 1)]
    exact Below.heap_setCell _ _ _ _ (by simpa using hne)
theorem Touch.setCells {B : Nat} {S : Nat → Prop} {b : Nat} (hp : S b ∨ B ≤ b) : ∀ (vs : List Value) (o : Nat) {a w : World}, Touch B S a w → Touch B S a (w.setCells b o vs)
  | [], _, _, _, h => h
  | v :: r, o, a, w, h => by
    rw [World.setCells]
    exact Touch.setCells hp r (o + 1) (h.setCell (p := ⟨b, o, none⟩) hp v)
theorem Blk.setCells {b : Nat} {T : TypeId} : ∀ (vs : List Value) (o : Nat) {w : World} {cs : List Value}, Blk w b cs T → o + vs.length ≤ cs.length → Blk (w.setCells b o vs) b (lay cs o vs) T
  | [], o, w, cs, h, hl => by
    have : lay cs o [] = cs := by unfold lay; simp
    rw [this]; exact h
  | v :: r, o, w, cs, h, hl => by
    have hl' : o + 1 + r.length ≤ cs.length := by simp at hl; omega
    have e : lay cs o (v :: r) = lay (cs.set o v) (o + 1) r := by
      apply List.ext_getElem?
      intro q
      rw [lay_get (by simp; omega), lay_get (by simp; omega)]
      by_cases h1 : o ≤ q ∧ q < o + (v :: r).length
      · rw [if_pos h1]
        by_cases h2 : q = o
        · subst h2
          rw [if_neg (by omega), List.getElem?_set_self (by omega)]
          simp
        · rw [if_pos (by simp at h1; omega), show q - o = (q - (o + 1)) + 1 by omega, List.getElem?_cons_succ]
      · rw [if_neg h1, if_neg (by simp at h1 ⊢; omega), List.getElem?_set_ne (by simp at h1; omega)]
    rw [World.setCells, e]
    exact Blk.setCells r (o + 1) (h.set o v) (by simp; omega)

section
variable {own own' : Nat → Nat × Nat} {id : Nat} {w W : World} {p : Nat} {s : PSt} {gE : Nat} {vF vL vT : Value} {L : List (PEnv × Value)}

theorem env_lay {j : Nat} {x : PEnv × Value} (hj : j < L.length) : lay (L.flatMap ecells) (j * 136) (ecells x) = (L.set j x).flatMap ecells := by
  apply List.ext_getElem?
  intro q
  have hl := flat_length ecells 136 ecells_len L
  rw [lay_get (by rw [ecells_len, hl]; omega), ecells_len, flat_at ecells 136 (by omega) ecells_len, flat_at ecells 136 (by omega) ecells_len, List.getElem?_set]
  by_cases h1 : j * 136 ≤ q ∧ q < j * 136 + 136
  · rw [if_pos h1, if_pos (by omega), if_pos hj]
    show _ = (ecells x)[q % 136]?
    congr 1; omega
  · rw [if_neg h1, if_neg (by omega)]
theorem mem_lay {j : Nat} {e : PEnv} {v v' : Value} {k' : PK} (he : L[j]? = some (e, v)) : lay (L.flatMap ecells) (j * 136 + 2) (k'.cells v') = (L.set j ({ e with mem := k' }, v')).flatMap ecells := by
  have hj := (List.getElem?_eq_some_iff.1 he).1
  apply List.ext_getElem?
  intro q
  have hl := flat_length ecells 136 ecells_len L
  rw [lay_get (by rw [PK.cells_len, hl]; omega), PK.cells_len, flat_at ecells 136 (by omega) ecells_len, flat_at ecells 136 (by omega) ecells_len, List.getElem?_set]
  by_cases h1 : j * 136 + 2 ≤ q ∧ q < j * 136 + 2 + 134
  · rw [if_pos h1, if_pos (by omega), if_pos hj]
    show _ = (ecells ({ e with mem := k' }, v'))[q % 136]?
    rw [show q % 136 = (q - (j * 136 + 2)) + 1 + 1 by omega]
    rfl
  · rw [if_neg h1]
    by_cases h2 : j = q / 136
    · rw [if_pos h2, if_pos hj, ← h2, he]
      show (ecells (e, v))[q % 136]? = (ecells ({ e with mem := k' }, v'))[q % 136]?
      have : q % 136 = 0 ∨ q % 136 = 1 := by omega
      rcases this with h | h <;> rw [h] <;> rfl
    · rw [if_neg h2]

theorem tag_ne {id a b : Nat} (h : a ≠ b) : ((id, a) : Nat × Nat) ≠ (id, b) := fun e => h (congrArg Prod.snd e)
/-- Environment j has turned. -/
theorem PRep.envd (h : PRep own id w p s gE vF vL vT L) {j : Nat} {x : PEnv × Value} (hj : j < L.length) (ho : ∀ b, b < w.heap.size → own' b = own b) (hW : ∀ b, b < w.heap.size → own b ≠ (id, 1) → own b ≠ (id, 5 + j) → W.heap[b]? = w.heap[b]?)
    (hB : Blk W gE ((L.set j x).flatMap ecells) 66) (hx : Row W x.2 3 1 x.1.mem.inl.length (x.1.mem.inl.map (.int .i64)) ∧ Tg own' x.2 (id, 5 + j)) :
    PRep own' id W p { s with envs := s.envs.set j x.1 } gE vF vL vT (L.set j x) := by
  have hst := h.st.of ho (hW p h.st.blk.lt (by rw [h.tm]; exact tag_ne (by omega)) (by rw [h.tm]; exact tag_ne (by omega))) (fun x hx ht => hW x hx (by rw [ht]; exact tag_ne (by omega)) (by rw [ht]; exact tag_ne (by omega)))
  have htb := h.tb.of ho (hW p h.st.blk.lt (by rw [h.tm]; exact tag_ne (by omega)) (by rw [h.tm]; exact tag_ne (by omega))) (fun x hx ht => hW x hx (by rw [ht]; exact tag_ne (by omega)) (by rw [ht]; exact tag_ne (by omega)))
  have hlen : (s.envs.set j x.1).length = s.envs.length := List.length_set ..
  refine ⟨?_, ?_, ?_, hB, h.rF.kept h.tF (fun x hx ht => hW x hx (by rw [ht]; exact tag_ne (by omega)) (by rw [ht]; exact tag_ne (by omega))), (ho p h.st.blk.lt).trans h.tm, (ho gE h.bE.lt).trans h.tE, h.tF.congr h.rF ho, fun i e v hi => ?_⟩
  · show StoreAt own' (id, 3) W p 2 57 [.slice (some ⟨gE, 0, none⟩) (s.envs.set j x.1).length (s.envs.set j x.1).length, vF, vL, .int .i64 s.last, vT, .int .i64 s.turn] vL s.hs s.last
    rw [hlen]; exact hst
  · show TableAt own' (id, 4) W p 4 57 [.slice (some ⟨gE, 0, none⟩) (s.envs.set j x.1).length (s.envs.set j x.1).length, vF, vL, .int .i64 s.last, vT, .int .i64 s.turn] vT s.slots s.turn
    rw [hlen]; exact htb
  · show (L.set j x).map Prod.fst = s.envs.set j x.1
    rw [List.map_set, h.hL]
  · by_cases hji : j = i
    · subst hji
      rw [List.getElem?_set_self hj] at hi
      simp only [Option.some.injEq] at hi
      rw [hi] at hx
      exact hx
    · rw [List.getElem?_set_ne hji] at hi
      obtain ⟨r1, r2⟩ := h.rI i e v hi
      exact ⟨r1.kept r2 (fun x hx ht => hW x hx (by rw [ht]; exact tag_ne (by omega)) (by rw [ht]; exact tag_ne (by omega))), r2.congr r1 ho⟩

/-- Environment j is written whole. -/
theorem PRep.layEnv (h : PRep own id w p s gE vF vL vT L) {j : Nat} (hj : j < L.length) {e : PEnv} {v : Value} (hr : Row w v 3 1 e.mem.inl.length (e.mem.inl.map (.int .i64))) (ht : Tg own v (id, 5 + j)) :
    PRep own id (w.setCells gE (j * 136) (ecells (e, v))) p { s with envs := s.envs.set j e } gE vF vL vT (L.set j (e, v)) := by
  have hl := flat_length ecells 136 ecells_len L
  refine h.envd (x := (e, v)) hj (fun _ _ => rfl) (fun b hb h1 h2 => heap_setCells gE b (fun e => h1 (by rw [e]; exact h.tE)) _ _ _) ?_ ⟨hr.of (fun b hb => heap_setCells gE b (fun e2 => by have := ht b hb; rw [e2, h.tE] at this; simp at this; omega) _ _ _), ht⟩
  rw [← env_lay hj]
  exact h.bE.setCells _ _ (by rw [ecells_len, hl]; omega)

theorem PRep.wroteE (h : PRep own id w p s gE vF vL vT L) (o : Nat) (vs : List Value) : Touch w.heap.size (fun b => (own b).1 = id) w (w.setCells gE o vs) :=
  Touch.setCells (b := gE) (S := fun b => (own b).1 = id) (.inl (by rw [h.tE])) vs o (Touch.refl _ _ _)
/-- A store of many cells among the environments, as the walk meets it. -/
theorem PRep.storeE (h : PRep own id w p s gE vF vL vT L) {o : Nat} {vs : List Value} (hl : o + vs.length ≤ s.envs.length * 136) (h1 : ∀ v ∈ vs, v.oneCell' = true) : Sem.run Tryz.prog (storeCells ⟨gE, o, none⟩ vs) w = .ok () (w.setCells gE o vs) := by
  have hlen := flat_length ecells 136 ecells_len L
  rw [h.len] at hlen
  have := run_storeCells_cells (P := Tryz.prog) gE o vs 0 w (fun j hj => by rw [h.bE.cell, List.getElem?_eq_getElem (by rw [hlen]; omega)]; rfl) (fun j _ => h.bE.frozen _) h1
  simpa using this
/-- The memory of environment j. -/
theorem PRep.mem (h : PRep own id w p s gE vF vL vT L) {j : Nat} {e : PEnv} {v : Value} (he : L[j]? = some (e, v)) : MemAt own (id, 5 + j) w gE (j * 136 + 2) 66 (L.flatMap ecells) v e.mem := by
  have hj := (List.getElem?_eq_some_iff.1 he).1
  have hl := flat_length ecells 136 ecells_len L
  obtain ⟨r1, r2⟩ := h.rI j e v he
  refine ⟨?_, by rw [hl]; omega, r1, r2, by rw [h.tE]; exact tag_ne (by omega)⟩
  rw [mem_lay he]
  have : L.set j ({ e with mem := e.mem }, v) = L := by
    apply List.ext_getElem?
    intro i
    rw [List.getElem?_set]
    split
    · rename_i hji
      subst hji
      rw [he]
    · rfl
  rw [this]; exact h.bE
/-- The memory of environment j has turned. -/
theorem PRep.memNext {w' : World} {k' : PK} (h : PRep own id w p s gE vF vL vT L) {j : Nat} {e : PEnv} {v : Value} (he : L[j]? = some (e, v)) (hn : MemNext own (id, 5 + j) w gE (j * 136 + 2) 66 (L.flatMap ecells) v w' k') :
    PNext own id w p w' { s with envs := s.envs.set j { e with mem := k' } } := by
  have hj := (List.getElem?_eq_some_iff.1 he).1
  obtain ⟨own', v', h1, h2, h3⟩ := hn
  have hb := h1.blk
  rw [mem_lay he] at hb
  refine ⟨own', gE, vF, vL, vT, L.set j ({ e with mem := k' }, v'), h.envd (x := ({ e with mem := k' }, v')) hj h2 (fun b hb n1 n2 => h3.block b hb (fun hh => ?_)) hb ⟨h1.row, h1.tag⟩, h2, h3.mono (Nat.le_refl _) (fun b hb hh => ?_)⟩
  · rcases hh with hh | hh
    · exact n1 (by rw [hh]; exact h.tE)
    · exact n2 ((h.rI j e v he).2 b hh)
  · rcases hh with hh | hh
    · rw [hh, h.tE]
    · rw [(h.rI j e v he).2 b hh]
end
end Go.Proofs.YtinlkcmdbjcofaaGreat

namespace Go.Proofs.YtinlkcmdbjcofaaGreat
open Go.RowKit
set_option linter.unusedVariables false
attribute [local go_sem ↓] Go.wp_at_zero Go.wp_at_succ

section
variable {own : Nat → Nat × Nat} {id : Nat} {w : World} {p : Nat} {s : PSt} {gE : Nat} {vF vL vT : Value} {L : List (PEnv × Value)}

/-- Rights have ended: only these are left. -/
def endP (s : PSt) (hs' : List PH) : PSt := { s with hs := hs', slots := s.slots.map (swP hs') }
theorem endAllP_le (hs : List PH) (hd : List Int) : (endAllP hs hd).length ≤ hs.length := (eaTo_len hs hd hs.length).1
theorem PWf.ends (h : PWf s) {hs' : List PH} (hl : hs'.length ≤ s.hs.length) : PWf { s with hs := hs' } := ⟨h.ne, h.nf, h.sl, h.uni, h.fr, h.bys, h.l0, h.l1, by have := h.size; show (hs'.length + 1) * 48 ≤ _; omega, h.t0, h.t1⟩

def revokeP (s : PSt) (env hd : Int) : Int × PSt := match rightP s env hd with
  | (none, e) => (e, s)
  | (some y, _) => (0, endP s (endAllP s.hs (hdTo s.hs (fun x => x.par == y.h) s.hs.length)))
def dropP (s : PSt) (env hd : Int) : Int × PSt := match rightP s env hd with
  | (none, e) => (e, s)
  | (some y, _) => (0, endP s (endAllP s.hs [y.h]))

set_option maxHeartbeats 4000000 in
set_option maxRecDepth 100000 in
theorem prevoke_any (h : PRep own id w p s gE vF vL vT L) (hw : PWf s) (env hd : Int) :
    Calls Tryz.prog 30 #[.pointer (some ⟨p, 0, none⟩), .int .i64 env, .int .i64 hd] w fun e w' => e = .returned (.int .i64 (revokeP s env hd).1) ∧ PNext own id w p w' (revokeP s env hd).2 := by
  have hsz := hw.size
  rcases rightP_cases s env hd with ⟨x, hx, hx2⟩ | ⟨y, hx, -, -⟩
  · have hx0 : (x != 0) = true := by simpa using hx2
    have HP : Hid (revokeP s env hd = (x, s)) := by simp [Hid, revokeP, hx]
    have HX : Hid (rightP s env hd = (none, x)) := hx
    clear hx hx2
    go_enter Tryz.func30, Tryz.ntmps30
    go_wp2_with fail
    refine (needRight_any h hw env hd).mono ?_
    rintro e w2 ⟨rfl, hb2⟩
    rw [HX.out]
    simp only [rightV]
    go_wp2_with fail
    go_ret
    exact ⟨ret_int (by rw [HP.out]), by rw [HP.out]; exact PNext.of_below h (hb2.alloc hb2.size _)⟩
  · have HX : Hid (rightP s env hd = (some y, 0)) := hx
    have HP : Hid (revokeP s env hd = (0, endP s (endAllP s.hs (hdTo s.hs (fun x => x.par == y.h) s.hs.length)))) := by simp [Hid, revokeP, hx]
    clear hx
    go_enter Tryz.func30, Tryz.ntmps30
    go_wp2_with fail
    refine (needRight_any h hw env hd).mono ?_
    rintro e w2 ⟨rfl, hb2⟩
    rw [HX.out]
    simp only [rightV]
    have h3 := (h.below hb2).below ((Below.refl _ _).alloc (Nat.le_refl _) (.cells #[.int .i64 y.h, .int .i64 y.env, .int .i64 y.fr, .bool y.wr] 111))
    have hplt := h3.st.blk.lt
    have hvlt := (h.below hb2).st.row.lt
    have hplt2 := (h.below hb2).st.blk.lt
    have h3d := h3.below (Below.refl _ _).drew
    have hbx := Blk.new w2 [.int .i64 y.h, .int .i64 y.env, .int .i64 y.fr, .bool y.wr] 111
    go_wp2_with fail
    go_region_held3 (fun w' => w'.cell? ⟨w2.heap.size, 0, none⟩ = some (.int .i64 y.h)) (go_keep)
      ((first
        | (go_at_call 81; refine (endDerived_any h3d.st hsz y.h).mono ?_; rintro e w5 ⟨rfl, hn⟩
           have hb5 : Blk w5 w2.heap.size [.int .i64 y.h, .int .i64 y.env, .int .i64 y.fr, .bool y.wr] 111 := by
             obtain ⟨_, _, _, _, ht5⟩ := hn
             exact hbx.of (ht5.block _ (by show w2.heap.size < (w2.alloc _).heap.size; simp) (fun e => by
               rcases e with e | e
               · omega
               · have := hvlt _ e; omega))
           have a0 := hb5.cell 0
           simp at a0)))
    obtain ⟨own', gE', vF', vL', vT', L', h6, ho6, ht6⟩ := h3d.next hn
    have hw6 := hw.ends (endAllP_le s.hs (hdTo s.hs (fun x => x.par == y.h) s.hs.length))
    go_wp2_with fail
    refine (unbacked_any h6 hw6).mono ?_
    rintro e w7 ⟨rfl, h7, ht7⟩
    go_wp2_with fail
    go_ret
    exact ⟨ret_int (by rw [HP.out]), by rw [HP.out]; exact PNext.after (Touch.of_below (hb2.alloc hb2.size _).drew _) (PNext.then ho6 ht6 ⟨own', _, _, _, _, _, h7, fun _ _ => rfl, h6.touch (ht7.tab p)⟩)⟩

set_option maxHeartbeats 4000000 in
set_option maxRecDepth 100000 in
theorem pdrop_any (h : PRep own id w p s gE vF vL vT L) (hw : PWf s) (env hd : Int) :
    Calls Tryz.prog 32 #[.pointer (some ⟨p, 0, none⟩), .int .i64 env, .int .i64 hd] w fun e w' => e = .returned (.int .i64 (dropP s env hd).1) ∧ PNext own id w p w' (dropP s env hd).2 := by
  have hsz := hw.size
  rcases rightP_cases s env hd with ⟨x, hx, hx2⟩ | ⟨y, hx, -, -⟩
  · have hx0 : (x != 0) = true := by simpa using hx2
    have HP : Hid (dropP s env hd = (x, s)) := by simp [Hid, dropP, hx]
    have HX : Hid (rightP s env hd = (none, x)) := hx
    clear hx hx2
    go_enter Tryz.func32, Tryz.ntmps32
    go_wp2_with fail
    refine (needRight_any h hw env hd).mono ?_
    rintro e w2 ⟨rfl, hb2⟩
    rw [HX.out]
    simp only [rightV]
    go_wp2_with fail
    go_ret
    exact ⟨ret_int (by rw [HP.out]), by rw [HP.out]; exact PNext.of_below h (hb2.alloc hb2.size _)⟩
  · have HX : Hid (rightP s env hd = (some y, 0)) := hx
    have HP : Hid (dropP s env hd = (0, endP s (endAllP s.hs [y.h]))) := by simp [Hid, dropP, hx]
    clear hx
    go_enter Tryz.func32, Tryz.ntmps32
    go_wp2_with fail
    refine (needRight_any h hw env hd).mono ?_
    rintro e w2 ⟨rfl, hb2⟩
    rw [HX.out]
    simp only [rightV]
    have h3 := (h.below hb2).below ((Below.refl _ _).alloc (Nat.le_refl _) (.cells #[.int .i64 y.h, .int .i64 y.env, .int .i64 y.fr, .bool y.wr] 111))
    have hplt := h3.st.blk.lt
    have hvlt := (h.below hb2).st.row.lt
    have hplt2 := (h.below hb2).st.blk.lt
    have h3d := h3.below (Below.refl _ _).drew
    have hbx := Blk.new w2 [.int .i64 y.h, .int .i64 y.env, .int .i64 y.fr, .bool y.wr] 111
    go_wp2_with fail
    go_region_held3 (fun w' => w'.cell? ⟨w2.heap.size, 0, none⟩ = some (.int .i64 y.h)) (go_keep)
      ((first
        | (go_at_call 84; refine (end_any h3d.st hsz y.h).mono ?_; rintro e w5 ⟨rfl, hn⟩
           have hb5 : Blk w5 w2.heap.size [.int .i64 y.h, .int .i64 y.env, .int .i64 y.fr, .bool y.wr] 111 := by
             obtain ⟨_, _, _, _, ht5⟩ := hn
             exact hbx.of (ht5.block _ (by show w2.heap.size < (w2.alloc _).heap.size; simp) (fun e => by
               rcases e with e | e
               · omega
               · have := hvlt _ e; omega))
           have a0 := hb5.cell 0
           simp at a0)))
    obtain ⟨own', gE', vF', vL', vT', L', h6, ho6, ht6⟩ := h3d.next hn
    have hw6 := hw.ends (endAllP_le s.hs [y.h])
    go_wp2_with fail
    refine (unbacked_any h6 hw6).mono ?_
    rintro e w7 ⟨rfl, h7, ht7⟩
    go_wp2_with fail
    go_ret
    exact ⟨ret_int (by rw [HP.out]), by rw [HP.out]; exact PNext.after (Touch.of_below (hb2.alloc hb2.size _).drew _) (PNext.then ho6 ht6 ⟨own', _, _, _, _, _, h7, fun _ _ => rfl, h6.touch (ht7.tab p)⟩)⟩

def killP (s : PSt) (env : Int) : Int × PSt :=
  if aliveP s env then (0, { endP s (endAllP s.hs (hdTo s.hs (fun x => x.env == env) s.hs.length)) with envs := s.envs.set env.toNat ⟨false, false, PK.none⟩ }) else (2, s)
def spawnP (s : PSt) (env : Int) : Int × PSt :=
  if isEnvP s env then if aliveP s env then (3, s) else (0, { s with envs := s.envs.set env.toNat ⟨true, false, PK.none⟩ }) else (2, s)

def zenv (b : Bool) : List Value := ecells (⟨b, false, PK.none⟩, .slice none 0 0)
theorem Tryz.infoEnvZ : (Tryz.prog.info? 66).map (fun i => (i.zero, i.size)) = some (some (.agg (zenv false).toArray), 136) := by kernel_rfl
theorem zenv_set : (zenv false).set 0 (.bool true) = zenv true := by
  unfold zenv ecells
  rw [List.set_cons_zero]
theorem zenv_len (b : Bool) : (zenv b).length = 136 := ecells_len _
theorem zenv_one (b : Bool) : ∀ v ∈ zenv b, v.oneCell' = true := oneCell_env _ _ rfl

set_option maxHeartbeats 4000000 in
set_option maxRecDepth 100000 in
theorem pspawn_any (h : PRep own id w p s gE vF vL vT L) (hw : PWf s) (env : Int) :
    Calls Tryz.prog 36 #[.pointer (some ⟨p, 0, none⟩), .int .i64 env] w fun e w' => e = .returned (.int .i64 (spawnP s env).1) ∧ PNext own id w p w' (spawnP s env).2 := by
  have k0 := h.c0
  cases hie : isEnvP s env
  · have HE : Hid (isEnvP s env = false) := hie
    have HP : Hid (spawnP s env = (2, s)) := by simp [Hid, spawnP, hie]
    clear hie
    go_enter Tryz.func36, Tryz.ntmps36
    go_wp2_with fail
    refine (isEnv_any h hw env).mono ?_
    rintro e w2 ⟨rfl, hw2⟩
    subst hw2
    rw [HE.out]
    go_wp2_with fail
    go_ret
    exact ⟨ret_int (by rw [HP.out]), by rw [HP.out]; exact PNext.refl h⟩
  · have HE : Hid (isEnvP s env = true) := hie
    obtain ⟨j, rfl, hj⟩ := isEnvP_nat hie
    obtain ⟨x, hx⟩ : ∃ a, s.envs[j]? = some a := ⟨s.envs[j], by simp⟩
    obtain ⟨c0, _⟩ := h.env hx
    have hl : (j : Int) < (s.envs.length : Int) := by omega
    obtain ⟨hz, hzs⟩ := zero_of_info Tryz.infoEnvZ
    rcases Bool.eq_false_or_eq_true x.alive with ha | ha
    · have HP : Hid (spawnP s j = (3, s)) := by simp [Hid, spawnP, aliveP, hie, hx, ha]
      rw [ha] at c0
      clear hie hx ha hz hzs
      go_enter Tryz.func36, Tryz.ntmps36
      go_wp2_with fail
      refine (isEnv_any h hw j).mono ?_
      rintro e w2 ⟨rfl, hw2⟩
      subst hw2
      rw [HE.out]
      go_wp2_with fail
      go_ret
      exact ⟨ret_int (by rw [HP.out]), by rw [HP.out]; exact PNext.refl h⟩
    · have HP : Hid (spawnP s j = (0, { s with envs := s.envs.set j ⟨true, false, PK.none⟩ })) := by simp [Hid, spawnP, aliveP, hie, hx, ha]
      rw [ha] at c0
      have hst : Sem.run Tryz.prog (storeCells ⟨gE, j * 136, none⟩ ((zenv false).set 0 (.bool true))) w = .ok () (w.setCells gE (j * 136) (zenv true)) := by
        rw [zenv_set]
        exact h.storeE (by rw [zenv_len]; omega) (zenv_one true)
      have HR : PRep own id (w.setCells gE (j * 136) (zenv true)) p { s with envs := s.envs.set j ⟨true, false, PK.none⟩ } gE vF vL vT (L.set j (⟨true, false, PK.none⟩, .slice none 0 0)) := h.layEnv (by rw [h.len]; exact hj) (Row.nil _ _ _) (Tg.nil _ _)
      have hRR : Hid (PNext own id w p (w.setCells gE (j * 136) (zenv true)) { s with envs := s.envs.set j ⟨true, false, PK.none⟩ }) := ⟨own, gE, vF, vL, vT, L.set j (⟨true, false, PK.none⟩, .slice none 0 0), HR, fun _ _ => rfl, h.wroteE _ _⟩
      have hR := h
      clear hie hx ha h HR
      go_enter Tryz.func36, Tryz.ntmps36
      go_wp2_with fail
      refine (isEnv_any hR hw j).mono ?_
      rintro e w2 ⟨rfl, hw2⟩
      subst hw2
      rw [HE.out]
      go_wp2_with fail
      go_ret
      exact ⟨ret_int (by rw [HP.out]), by rw [HP.out]; exact hRR.out⟩

set_option maxHeartbeats 4000000 in
set_option maxRecDepth 100000 in
theorem pkill_any (h : PRep own id w p s gE vF vL vT L) (hw : PWf s) (env : Int) :
    Calls Tryz.prog 34 #[.pointer (some ⟨p, 0, none⟩), .int .i64 env] w fun e w' => e = .returned (.int .i64 (killP s env).1) ∧ PNext own id w p w' (killP s env).2 := by
  have hsz := hw.size
  cases hal : aliveP s env
  · have HA : Hid (aliveP s env = false) := hal
    have HP : Hid (killP s env = (2, s)) := by simp [Hid, killP, hal]
    clear hal
    go_enter Tryz.func34, Tryz.ntmps34
    go_wp2_with fail
    refine (isAlive_any h hw env).mono ?_
    rintro e w2 ⟨rfl, hw2⟩
    subst hw2
    rw [HA.out]
    go_wp2_with fail
    go_ret
    exact ⟨ret_int (by rw [HP.out]), by rw [HP.out]; exact PNext.refl h⟩
  · have HA : Hid (aliveP s env = true) := hal
    obtain ⟨j, x, rfl, hx, -, -⟩ := aliveP_nat hal
    have hj := (List.getElem?_eq_some_iff.1 hx).1
    have HP : Hid (killP s j = (0, { endP s (endAllP s.hs (hdTo s.hs (fun x => x.env == (j : Int)) s.hs.length)) with envs := s.envs.set j ⟨false, false, PK.none⟩ })) := by simp [Hid, killP, hal]
    have hl : (j : Int) < (s.envs.length : Int) := by omega
    obtain ⟨hz, hzs⟩ := zero_of_info Tryz.infoEnvZ
    clear hal hx
    go_enter Tryz.func34, Tryz.ntmps34
    go_wp2_with fail
    refine (isAlive_any h hw j).mono ?_
    rintro e w2 ⟨rfl, hw2⟩
    subst hw2
    rw [HA.out]
    go_wp2_with fail
    refine (endOf_any h.st hsz j).mono ?_
    rintro e w3 ⟨rfl, hn⟩
    obtain ⟨own', gE', vF', vL', vT', L', h6, ho3, ht6⟩ := h.next hn
    have hw6 := hw.ends (endAllP_le s.hs (hdTo s.hs (fun x => x.env == (j : Int)) s.hs.length))
    go_wp2_with fail
    refine (unbacked_any h6 hw6).mono ?_
    rintro e w7 ⟨rfl, h3, ht7⟩
    have ht3 := ht6.next ho3 (h6.touch (ht7.tab p))
    have k0 := h3.c0
    have hst : Sem.run Tryz.prog (storeCells ⟨gE', j * 136, none⟩ (zenv false)) w7 = .ok () (w7.setCells gE' (j * 136) (zenv false)) := h3.storeE (by rw [zenv_len]; show j * 136 + 136 ≤ s.envs.length * 136; omega) (zenv_one false)
    have HR := h3.layEnv (j := j) (e := ⟨false, false, PK.none⟩) (by rw [h3.len]; exact hj) (Row.nil _ _ _) (Tg.nil _ _)
    have hRR : Hid (PNext own id w2 p (w7.setCells gE' (j * 136) (zenv false)) { endP s (endAllP s.hs (hdTo s.hs (fun x => x.env == (j : Int)) s.hs.length)) with envs := s.envs.set j ⟨false, false, PK.none⟩ }) := ⟨own', gE', vF', vL', vT', _, HR, ho3, ht3.next ho3 (h3.wroteE _ _)⟩
    clear HR h3 h6 hw6 hn h
    go_wp2_with fail
    go_ret
    exact ⟨ret_int (by rw [HP.out]), by rw [HP.out]; exact hRR.out⟩

set_option maxHeartbeats 4000000 in
set_option maxRecDepth 100000 in
theorem prights_any (h : PRep own id w p s gE vF vL vT L) (hw : PWf s) (env : Int) :
    Calls Tryz.prog 38 #[.pointer (some ⟨p, 0, none⟩), .int .i64 env] w fun e w' => ∃ v, Below w.heap.size w w' ∧ (∀ x, v.ownBlock = some x → w.heap.size ≤ x) ∧
      ((aliveP s env = false ∧ v = .slice none 0 0 ∧ e = .returned (.tuple #[v, .int .i64 2])) ∨ (aliveP s env = true ∧ Row w' v 111 4 (ofP s.hs env).length ((ofP s.hs env).flatMap PH.rc) ∧ e = .returned (.tuple #[v, .int .i64 0]))) := by
  have hsz := hw.size
  cases hal : aliveP s env
  · have HA : Hid (aliveP s env = false) := hal
    clear hal
    go_enter Tryz.func38, Tryz.ntmps38
    go_wp2_with fail
    refine (isAlive_any h hw env).mono ?_
    rintro e w2 ⟨rfl, hw2⟩
    subst hw2
    rw [HA.out]
    go_wp2_with fail
    go_ret2
    exact ⟨_, Below.refl _ _, by simp [Value.ownBlock], .inl ⟨trivial, rfl, rfl⟩⟩
  · have HA : Hid (aliveP s env = true) := hal
    clear hal
    go_enter Tryz.func38, Tryz.ntmps38
    go_wp2_with fail
    refine (isAlive_any h hw env).mono ?_
    rintro e w2 ⟨rfl, hw2⟩
    subst hw2
    rw [HA.out]
    go_wp2_with fail
    refine (of_any h.st hsz env).mono ?_
    rintro e w3 ⟨v, rfl, hb3, hrow, hnew⟩
    go_wp2_with fail
    go_ret2
    exact ⟨v, hb3, hnew, .inr ⟨trivial, hrow, rfl⟩⟩
end
end Go.Proofs.YtinlkcmdbjcofaaGreat

namespace Go.Proofs.YtinlkcmdbjcofaaGreat
open Go.RowKit
set_option linter.unusedVariables false
attribute [local go_sem ↓] Go.wp_at_zero Go.wp_at_succ

section
variable {own : Nat → Nat × Nat} {id : Nat} {w : World} {p : Nat} {s : PSt} {gE : Nat} {vF vL vT : Value} {L : List (PEnv × Value)}

def pageP (s : PSt) (env page : Int) : Int := if rawP s env ≠ 0 then rawP s env else if page < 0 ∨ 15 < page then 7 else 0
def placeP (s : PSt) (env page a : Int) : Int := if pageP s env page ≠ 0 then pageP s env page else if a < 0 ∨ 3 < a then 8 else 0
theorem pageP_cases (s : PSt) (env page : Int) : (∃ x, pageP s env page = x ∧ x ≠ 0) ∨ (pageP s env page = 0 ∧ aliveP s env = true ∧ 0 ≤ page ∧ page ≤ 15) := by
  unfold pageP
  rcases rawP_cases s env with ⟨hr, -⟩ | ⟨hr, -⟩ | ⟨hr, ha, -⟩
  · exact .inl ⟨2, by simp [hr], by omega⟩
  · exact .inl ⟨4, by simp [hr], by omega⟩
  · by_cases h : page < 0 ∨ 15 < page
    · exact .inl ⟨7, by simp [hr, h], by omega⟩
    · exact .inr ⟨by simp [hr, h], ha, by omega, by omega⟩
theorem placeP_cases (s : PSt) (env page a : Int) : (∃ x, placeP s env page a = x ∧ x ≠ 0) ∨ (placeP s env page a = 0 ∧ pageP s env page = 0 ∧ 0 ≤ a ∧ a ≤ 3) := by
  unfold placeP
  rcases pageP_cases s env page with ⟨x, hx, h⟩ | ⟨hx, -, -, -⟩
  · exact .inl ⟨x, by rw [hx]; simp [h], h⟩
  · by_cases h : a < 0 ∨ 3 < a
    · exact .inl ⟨8, by simp [hx, h], by omega⟩
    · exact .inr ⟨by simp [hx, h], hx, by omega, by omega⟩

set_option maxHeartbeats 1000000 in
set_option maxRecDepth 100000 in
theorem needPage_any (h : PRep own id w p s gE vF vL vT L) (hw : PWf s) (env page : Int) :
    Calls Tryz.prog 92 #[.pointer (some ⟨p, 0, none⟩), .int .i64 env, .int .i64 page] w fun e w' => e = .returned (.int .i64 (pageP s env page)) ∧ w' = w := by
  by_cases hr : rawP s env = 0
  case neg =>
    have hr0 : (rawP s env != 0) = true := by simpa using hr
    have HP : Hid (pageP s env page = rawP s env) := by simp [Hid, pageP, hr]
    obtain ⟨rv, hrv⟩ : ∃ rv, rawP s env = rv := ⟨_, rfl⟩
    have HR : Hid (rawP s env = rv) := hrv
    rw [hrv] at hr0 HP
    clear hr hrv
    go_enter Tryz.func92, Tryz.ntmps92
    go_wp2_with fail
    refine (needRaw_any h hw env).mono ?_
    rintro e w2 ⟨rfl, hw2⟩
    subst hw2
    rw [HR.out]
    go_wp2_with fail
    go_ret
    exact ⟨ret_int (by rw [HP.out]), rfl⟩
  case pos =>
    have HR : Hid (rawP s env = 0) := hr
    have HP : Hid (pageP s env page = if page < 0 ∨ 15 < page then 7 else 0) := by simp [Hid, pageP, hr]
    clear hr
    go_enter Tryz.func92, Tryz.ntmps92
    go_wp2_with fail
    refine (needRaw_any h hw env).mono ?_
    rintro e w2 ⟨rfl, hw2⟩
    subst hw2
    rw [HR.out]
    by_cases h0 : page < 0
    · rw [if_pos (.inl h0)] at HP
      go_wp2_with fail
      go_ret
      exact ⟨ret_int (by rw [HP.out]), rfl⟩
    · by_cases h1 : 16 ≤ page
      · rw [if_pos (.inr (by omega))] at HP
        go_wp2_with fail
        go_ret
        exact ⟨ret_int (by rw [HP.out]), rfl⟩
      · rw [if_neg (by omega)] at HP
        go_wp2_with fail
        go_ret
        exact ⟨ret_int (by rw [HP.out]), rfl⟩

set_option maxHeartbeats 1000000 in
set_option maxRecDepth 100000 in
theorem needPlace_any (h : PRep own id w p s gE vF vL vT L) (hw : PWf s) (env page a : Int) :
    Calls Tryz.prog 98 #[.pointer (some ⟨p, 0, none⟩), .int .i64 env, .int .i64 page, .int .i64 a] w fun e w' => e = .returned (.int .i64 (placeP s env page a)) ∧ w' = w := by
  rcases pageP_cases s env page with ⟨x, hx, hx2⟩ | ⟨hx, -, -, -⟩
  · have hx0 : (x != 0) = true := by simpa using hx2
    have HR : Hid (pageP s env page = x) := hx
    have HP : Hid (placeP s env page a = x) := by simp [Hid, placeP, hx, hx2]
    clear hx hx2
    go_enter Tryz.func98, Tryz.ntmps98
    go_wp2_with fail
    refine (needPage_any h hw env page).mono ?_
    rintro e w2 ⟨rfl, hw2⟩
    subst hw2
    rw [HR.out]
    go_wp2_with fail
    go_ret
    exact ⟨ret_int (by rw [HP.out]), rfl⟩
  · have HR : Hid (pageP s env page = 0) := hx
    have HP : Hid (placeP s env page a = if a < 0 ∨ 3 < a then 8 else 0) := by simp [Hid, placeP, hx]
    clear hx
    go_enter Tryz.func98, Tryz.ntmps98
    go_wp2_with fail
    refine (needPage_any h hw env page).mono ?_
    rintro e w2 ⟨rfl, hw2⟩
    subst hw2
    rw [HR.out]
    by_cases h0 : a < 0
    · rw [if_pos (.inl h0)] at HP
      go_wp2_with fail
      go_ret
      exact ⟨ret_int (by rw [HP.out]), rfl⟩
    · by_cases h1 : 4 ≤ a
      · rw [if_pos (.inr (by omega))] at HP
        go_wp2_with fail
        go_ret
        exact ⟨ret_int (by rw [HP.out]), rfl⟩
      · rw [if_neg (by omega)] at HP
        go_wp2_with fail
        go_ret
        exact ⟨ret_int (by rw [HP.out]), rfl⟩

def unmapP (s : PSt) (env page : Int) : Int × PSt := if pageP s env page ≠ 0 then (pageP s env page, s) else (0, { s with slots := s.slots.map (remE env page) })

set_option maxHeartbeats 1000000 in
set_option maxRecDepth 100000 in
theorem punmap_any (h : PRep own id w p s gE vF vL vT L) (hw : PWf s) (env page : Int) :
    Calls Tryz.prog 44 #[.pointer (some ⟨p, 0, none⟩), .int .i64 env, .int .i64 page] w fun e w' => e = .returned (.int .i64 (unmapP s env page).1) ∧ PNext own id w p w' (unmapP s env page).2 := by
  rcases pageP_cases s env page with ⟨x, hx, hx2⟩ | ⟨hx, -, -, -⟩
  · have hx0 : (x != 0) = true := by simpa using hx2
    have HR : Hid (pageP s env page = x) := hx
    have HP : Hid (unmapP s env page = (x, s)) := by simp [Hid, unmapP, hx, hx2]
    clear hx hx2
    go_enter Tryz.func44, Tryz.ntmps44
    go_wp2_with fail
    refine (needPage_any h hw env page).mono ?_
    rintro e w2 ⟨rfl, hw2⟩
    subst hw2
    rw [HR.out]
    go_wp2_with fail
    go_ret
    exact ⟨ret_int (by rw [HP.out]), by rw [HP.out]; exact PNext.refl h⟩
  · have HR : Hid (pageP s env page = 0) := hx
    have HP : Hid (unmapP s env page = (0, { s with slots := s.slots.map (remE env page) })) := by simp [Hid, unmapP, hx]
    clear hx
    go_enter Tryz.func44, Tryz.ntmps44
    go_wp2_with fail
    refine (needPage_any h hw env page).mono ?_
    rintro e w2 ⟨rfl, hw2⟩
    subst hw2
    rw [HR.out]
    go_wp2_with fail
    refine (tremove_any h.tb hw.sl env page).mono ?_
    rintro e w3 ⟨rfl, h3, ht3⟩
    rw [remP_map hw.uni] at h3
    go_wp2_with fail
    go_ret
    exact ⟨ret_int (by rw [HP.out]), by rw [HP.out]; exact ⟨own, _, _, _, _, _, h.turned h3 (ht3.tab p), fun _ _ => rfl, h.touch (ht3.tab p)⟩⟩

set_option maxHeartbeats 1000000 in
set_option maxRecDepth 100000 in
theorem ptable_any (h : PRep own id w p s gE vF vL vT L) (hw : PWf s) :
    Calls Tryz.prog 50 #[.pointer (some ⟨p, 0, none⟩)] w fun e w' => ∃ v, e = .returned v ∧ Below w.heap.size w w' ∧ (∀ x, v.ownBlock = some x → w.heap.size ≤ x) ∧ Row w' v 74 5 s.slots.length (s.slots.flatMap Ent.cells) := by
  go_enter Tryz.func50, Tryz.ntmps50
  go_wp2_with fail
  refine (tlist_any h.tb hw.sl).mono ?_
  rintro e w2 ⟨v, rfl, hb, hn, hr⟩
  go_wp2_with fail
  go_ret
  exact ⟨v, rfl, hb, hn, hr⟩

def mapP (s : PSt) (env page hd : Int) (wt : Bool) (slot : Int) : Int × PSt :=
  if pageP s env page ≠ 0 then (pageP s env page, s) else match findP s.hs env hd with
    | none => (9, s)
    | some y => if wt && !y.wr then (10, s) else if slot < 0 ∨ (s.slots.length : Int) ≤ slot then (11, s) else (0, { s with slots := putP s.slots slot.toNat ⟨true, env, page, y.fr, wt⟩ })

set_option maxHeartbeats 4000000 in
set_option maxRecDepth 100000 in
theorem pmap_any (h : PRep own id w p s gE vF vL vT L) (hw : PWf s) (env page hd : Int) (wt : Bool) (slot : Int) :
    Calls Tryz.prog 42 #[.pointer (some ⟨p, 0, none⟩), .int .i64 env, .int .i64 page, .int .i64 hd, .bool wt, .int .i64 slot] w fun e w' => e = .returned (.int .i64 (mapP s env page hd wt slot).1) ∧ PNext own id w p w' (mapP s env page hd wt slot).2 := by
  have hsz := hw.size
  have hsl := hw.sl
  rcases pageP_cases s env page with ⟨x, hx, hx2⟩ | ⟨hx, -, -, -⟩
  · have hx0 : (x != 0) = true := by simpa using hx2
    have HR : Hid (pageP s env page = x) := hx
    have HP : Hid (mapP s env page hd wt slot = (x, s)) := by simp [Hid, mapP, hx, hx2]
    clear hx hx2
    go_enter Tryz.func42, Tryz.ntmps42
    go_wp2_with fail
    refine (needPage_any h hw env page).mono ?_
    rintro e w2 ⟨rfl, hw2⟩
    subst hw2
    rw [HR.out]
    go_wp2_with fail
    go_ret
    exact ⟨ret_int (by rw [HP.out]), by rw [HP.out]; exact PNext.refl h⟩
  have HR : Hid (pageP s env page = 0) := hx
  cases hf : findP s.hs env hd with
  | none =>
    have HF : Hid (findP s.hs env hd = none) := hf
    have HP : Hid (mapP s env page hd wt slot = (9, s)) := by simp [Hid, mapP, hx, hf]
    clear hx hf
    go_enter Tryz.func42, Tryz.ntmps42
    go_wp2_with fail
    refine (needPage_any h hw env page).mono ?_
    rintro e w2 ⟨rfl, hw2⟩
    subst hw2
    rw [HR.out]
    go_wp2_with fail
    refine (find_any h.st (by omega) env hd).mono ?_
    rintro e w3 ⟨rfl, hb3⟩
    rw [HF.out]
    simp only [findV]
    go_wp2_with fail
    go_ret
    exact ⟨ret_int (by rw [HP.out]), by rw [HP.out]; exact PNext.of_below h (hb3.alloc hb3.size _)⟩
  | some y =>
    have HF : Hid (findP s.hs env hd = some y) := hf
    have HP : Hid (mapP s env page hd wt slot = if wt && !y.wr then (10, s) else if slot < 0 ∨ (s.slots.length : Int) ≤ slot then (11, s) else (0, { s with slots := putP s.slots slot.toNat ⟨true, env, page, y.fr, wt⟩ })) := by simp [Hid, mapP, hx, hf]
    clear hx hf
    go_enter Tryz.func42, Tryz.ntmps42
    go_wp2_with fail
    refine (needPage_any h hw env page).mono ?_
    rintro e w2 ⟨rfl, hw2⟩
    subst hw2
    rw [HR.out]
    go_wp2_with fail
    refine (find_any h.st (by omega) env hd).mono ?_
    rintro e w3 ⟨rfl, hb3⟩
    rw [HF.out]
    simp only [findV]
    have hba : Below w2.heap.size w2 (w3.alloc (.cells #[.int .i64 y.h, .int .i64 y.env, .int .i64 y.fr, .bool y.wr] 111)) := hb3.alloc hb3.size _
    have h4 := h.below hba
    have hbx := Blk.new w3 [.int .i64 y.h, .int .i64 y.env, .int .i64 y.fr, .bool y.wr] 111
    cases hq : (wt && !y.wr)
    · rw [hq] at HP
      simp only [Bool.false_eq_true, if_false] at HP
      have hcase : wt = false ∨ (wt = true ∧ y.wr = true) := by
        cases hwt : wt <;> cases hrw : y.wr <;> simp_all
      clear hq
      by_cases hc : slot < 0 ∨ (s.slots.length : Int) ≤ slot
      · rw [if_pos hc] at HP
        have hcd : (decide (0 ≤ slot) && decide (slot < s.slots.length)) = false := by simp; omega
        clear hc
        rcases hcase with rfl | ⟨rfl, hrw⟩
        all_goals
          try rw [hrw] at h4 hbx hba ⊢
          go_wp2_with fail
          refine (thas_any h4.tb hsl slot).mono ?_
          rintro e w5 ⟨rfl, hw5⟩
          subst hw5
          rw [hcd]
          go_wp2_with fail
          go_ret
          exact ⟨ret_int (by rw [HP.out]), by rw [HP.out]; exact PNext.of_below h hba⟩
      · rw [if_neg hc] at HP
        have hcd : (decide (0 ≤ slot) && decide (slot < s.slots.length)) = true := by simp; omega
        obtain ⟨k, rfl⟩ := Int.eq_ofNat_of_zero_le (show 0 ≤ slot by omega)
        have hk : k < s.slots.length := by omega
        simp only [Int.toNat_natCast] at *
        clear hc
        rcases hcase with rfl | ⟨rfl, hrw⟩
        all_goals
          try rw [hrw] at h4 hbx hba ⊢
          go_wp2_with fail
          refine (thas_any h4.tb hsl k).mono ?_
          rintro e w5 ⟨rfl, hw5⟩
          subst hw5
          rw [hcd]
          have h4d := h4.below (Below.refl _ _).drew
          have hbxd := hbx.drew
          have hvlt : ∀ x, vT.ownBlock = some x → x < w3.heap.size := fun x hx => Nat.lt_of_lt_of_le (h.tb.row.lt x hx) hb3.size
          have hxl := hbxd.lt
          go_wp2_with fail
          go_region_held3 (fun w' => w'.cell? ⟨w3.heap.size, 2, none⟩ = some (.int .i64 y.fr)) (go_keep)
            ((first
              | (go_at_call 95; refine (tput_any h4d.tb hsl k hk _ _ _ _ _).mono ?_; rintro e w6 ⟨rfl, h6, ht6⟩
                 have hby := hbxd.of (ht6.block _ hxl (fun e => by have := hvlt _ e; omega))
                 have e2 := hby.cell 2
                 simp at e2)))
          go_wp2_with fail
          go_ret
          exact ⟨ret_int (by rw [HP.out]), by rw [HP.out]; exact PNext.after (Touch.of_below hba.drew _) ⟨own, _, _, _, _, _, h4d.turned h6 (ht6.tab p), fun _ _ => rfl, h4d.touch (ht6.tab p)⟩⟩
    · rw [hq] at HP
      simp only [if_true] at HP
      obtain ⟨rfl, hrw⟩ : wt = true ∧ y.wr = false := by cases hwt : wt <;> cases hrw : y.wr <;> simp_all
      rw [hrw]
      clear hq
      go_wp2_with fail
      go_ret
      exact ⟨ret_int (by rw [HP.out]), by rw [HP.out]; exact PNext.of_below h (hb3.alloc hb3.size _)⟩
end
end Go.Proofs.YtinlkcmdbjcofaaGreat
