/-
  The program's store of rights: package rights.
-/
import Derived.Test.YtkonobbhohfjlaaRefG
import Derived.Test.YtkonobbhohfjlaaWBegin
import Derived.Deep.RegionLaw
namespace Go.Proofs.Ytkonobbhohfjlaa
open Go.RowKit
set_option linter.unusedVariables false

/-- A right that is alive. -/
structure PH where
  h : Int
  env : Int
  fr : Int
  wr : Bool
  par : Int

def PH.cells (x : PH) : List Value := [.int .i64 x.h, .int .i64 x.env, .int .i64 x.fr, .bool x.wr, .int .i64 x.par]
def PH.rc (x : PH) : List Value := [.int .i64 x.h, .int .i64 x.env, .int .i64 x.fr, .bool x.wr]

/-- The store at ⟨b, o⟩ of a block whose cells are cs: its list of rights, the last handle. -/
structure StoreAt (own : Nat → Nat × Nat) (t : Nat × Nat) (w : World) (b o : Nat) (T : TypeId) (cs : List Value) (vL : Value) (hs : List PH) (last : Int) : Prop where
  blk : Blk w b cs T
  c0 : cs[o]? = some vL
  c1 : cs[o + 1]? = some (.int .i64 last)
  row : Row w vL 133 5 hs.length (hs.flatMap PH.cells)
  tag : Tg own vL t
  ne : own b ≠ t

section
variable {own : Nat → Nat × Nat} {t : Nat × Nat} {w : World} {b o : Nat} {T : TypeId} {cs : List Value} {vL : Value} {hs : List PH} {last : Int}

theorem StoreAt.of {own' : Nat → Nat × Nat} {w' : World} (h : StoreAt own t w b o T cs vL hs last) (ho : ∀ x, x < w.heap.size → own' x = own x) (hb : w'.heap[b]? = w.heap[b]?) (hr : ∀ x, x < w.heap.size → own x = t → w'.heap[x]? = w.heap[x]?) : StoreAt own' t w' b o T cs vL hs last :=
  ⟨h.blk.of hb, h.c0, h.c1, h.row.kept h.tag hr, h.tag.congr h.row ho, by rw [ho b h.blk.lt]; exact h.ne⟩
theorem StoreAt.below {w' : World} (h : StoreAt own t w b o T cs vL hs last) (hb : Below w.heap.size w w') : StoreAt own t w' b o T cs vL hs last :=
  h.of (fun _ _ => rfl) (hb.block b h.blk.lt) (fun x hx _ => hb.block x hx)

theorem StoreAt.held (h : StoreAt own t w b o T cs vL hs last) {i : Nat} {x : PH} (hx : hs[i]? = some x) :
    ∃ g cap, vL = .slice (some ⟨g, 0, none⟩) hs.length cap ∧ own g = t ∧ w.cell? ⟨g, i * 5, none⟩ = some (.int .i64 x.h) ∧ w.cell? ⟨g, i * 5 + 1, none⟩ = some (.int .i64 x.env) ∧ w.cell? ⟨g, i * 5 + 2, none⟩ = some (.int .i64 x.fr) ∧
      w.cell? ⟨g, i * 5 + 3, none⟩ = some (.bool x.wr) ∧ w.cell? ⟨g, i * 5 + 4, none⟩ = some (.int .i64 x.par) := by
  have hi := (List.getElem?_eq_some_iff.1 hx).1
  obtain ⟨g, cap, hv, hc, hf⟩ := h.row.form (by omega)
  have hy : ∀ j, j < 5 → w.cell? ⟨g, i * 5 + j, none⟩ = x.cells[j]? := fun j hj => by
    rw [hc _ (by omega), flat_get PH.cells 5 (fun _ => rfl) _ _ j _ hx hj]
  exact ⟨g, cap, hv, h.tag g (by rw [hv]; rfl), hy 0 (by omega), hy 1 (by omega), hy 2 (by omega), hy 3 (by omega), hy 4 (by omega)⟩

/-- The list's shape: empty, or somewhere. -/
theorem StoreAt.shape (h : StoreAt own t w b o T cs vL hs last) : ∃ ao cap, vL = .slice ao hs.length cap ∧ (hs.length = 0 ∨ ∃ g, ao = some ⟨g, 0, none⟩) := by
  obtain ⟨ao, cap, g, hv, hao, _⟩ := h.row.view
  refine ⟨ao, cap, hv, ?_⟩
  rcases Nat.eq_zero_or_pos hs.length with h0 | h0
  · exact .inl h0
  · exact .inr ⟨g, hao h0⟩
theorem StoreAt.heldAt {g cap : Nat} (h : StoreAt own t w b o T cs vL hs last) (hv : vL = .slice (some ⟨g, 0, none⟩) hs.length cap) {i : Nat} {x : PH} (hx : hs[i]? = some x) :
    w.cell? ⟨g, i * 5, none⟩ = some (.int .i64 x.h) ∧ w.cell? ⟨g, i * 5 + 1, none⟩ = some (.int .i64 x.env) ∧ w.cell? ⟨g, i * 5 + 2, none⟩ = some (.int .i64 x.fr) ∧
      w.cell? ⟨g, i * 5 + 3, none⟩ = some (.bool x.wr) ∧ w.cell? ⟨g, i * 5 + 4, none⟩ = some (.int .i64 x.par) := by
  obtain ⟨g', cap', hv', _, h0, h1, h2, h3, h4⟩ := h.held hx
  rw [hv] at hv'
  simp at hv'
  obtain ⟨rfl, _⟩ := hv'
  exact ⟨h0, h1, h2, h3, h4⟩

set_option maxHeartbeats 1000000 in
set_option maxRecDepth 100000 in
theorem full_any (h : StoreAt own t w b o T cs vL hs last) (hm : hs.length ≤ 4611686018427387904) :
    Calls Try.prog 81 #[.pointer (some ⟨b, o, none⟩)] w fun e w' => e = .returned (.bool (decide (32 ≤ hs.length))) ∧ w' = w := by
  have k0 := (h.blk.cell o).trans h.c0
  obtain ⟨ao, cap, g, hv, _⟩ := h.row.view
  rw [hv] at k0
  clear hv
  go_enter Try.func81, Try.ntmps81
  go_wp2_with fail
  go_ret
  exact ⟨ret_bool (by rw [Bool.eq_iff_iff]; simp; omega), rfl⟩

def freeP (hs : List PH) (f : Int) : Bool := hs.all fun x => !(x.fr == f)

set_option maxHeartbeats 1000000 in
set_option maxRecDepth 100000 in
theorem pfree_any (h : StoreAt own t w b o T cs vL hs last) (hm : hs.length ≤ 4611686018427387904) (f : Int) :
    Calls Try.prog 104 #[.pointer (some ⟨b, o, none⟩), .int .i64 f] w fun e w' => e = .returned (.bool (freeP hs f)) ∧ Below w.heap.size w w' := by
  have k0 := (h.blk.cell o).trans h.c0
  obtain ⟨ao, cap, hv, hcase⟩ := h.shape
  rw [hv] at k0
  have Hv : Hid (vL = .slice ao hs.length cap) := hv
  clear hv
  rcases hcase with h0 | ⟨g, rfl⟩
  all_goals
    go_enter Try.func104, Try.ntmps104
    go_wp2_with fail
    go_loopg [12] hs.length (fun k x wr => ∃ q : Nat, x = .int .i64 q ∧ q + k = hs.length ∧ (∀ i y, i < q → hs[i]? = some y → (y.fr == f) = false) ∧ Below w.heap.size w wr)
    case atStart => exact ⟨0, rfl, by omega, fun i y hi _ => by omega, Below.refl _ _⟩
    case round =>
      obtain ⟨q, rfl, hk, hno, hbl⟩ := hrel
      have HK : Hid (q + gk = hs.length) := hk
      have HN : Hid (∀ i y, i < q → hs[i]? = some y → (y.fr == f) = false) := hno
      have hq : q ≤ hs.length := by omega
      clear hk hno
      by_cases hlt : q < hs.length
      · first
        | (exfalso; omega; done)
        | (obtain ⟨x, hx⟩ : ∃ x, hs[q]? = some x := ⟨hs[q], by simp⟩
           obtain ⟨c0, c1, c2, c3, c4⟩ := (h.below hbl).heldAt Hv.out hx
           cases he : (x.fr == f)
           · have HX : Hid (hs[q]? = some x) := hx
             clear hx
             go_wp2_with fail
             go_roundg (gk - 1)
             case measure => have := HK.out; omega
             case rel => exact ⟨q + 1, by go_num, by have := HK.out; omega, fun i y hi hy => by
               rcases Nat.lt_or_ge i q with h1 | h1
               · exact HN.out i y h1 hy
               · obtain rfl : i = q := by omega
                 rw [HX.out] at hy
                 simp at hy
                 subst hy
                 exact he, hbl.alloc hbl.size _⟩
           · have HF : Hid (freeP hs f = false) := by
               unfold Hid freeP
               rw [List.all_eq_false]
               exact ⟨x, List.mem_of_getElem? hx, by simp [he]⟩
             clear hx
             go_wp2_with fail
             go_ret
             exact ⟨ret_bool HF.out.symm, hbl.alloc hbl.size _⟩)
      · go_wp2_with fail
        go_ret
        exact ⟨ret_bool (by
          unfold freeP
          rw [eq_comm, List.all_eq_true]
          intro x hx
          obtain ⟨i, hi, rfl⟩ := List.getElem_of_mem hx
          rw [HN.out i hs[i] (by omega) (by simp)]; rfl), hbl⟩
end
end Go.Proofs.Ytkonobbhohfjlaa
