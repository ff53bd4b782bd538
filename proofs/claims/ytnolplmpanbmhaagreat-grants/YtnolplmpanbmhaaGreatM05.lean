import Derived.Deep.RegionLaw
import Derived.Test.YtnolplmpanbmhaaGreatM04
/-
  The program's store of rights: package rights.
-/
namespace Go.Proofs.YtnolplmpanbmhaaGreat
open Go.RowKit
set_option linter.unusedVariables false

/-- A right that is alive. -/
structure PH where
  h : Int
  env : Int
  fr : Int
  wr : Bool
  par : Int

def PH.cells (x : PH) : List Value := [.int .i64 x.h, .int .i64 x.env, .int .i64 x.fr, .bool x.wr, .int .i64 x.par]
def PH.rc (x : PH) : List Value := [.int .i64 x.h, .int .i64 x.env, .int .i64 x.fr, .bool x.wr]

/-- The store at ⟨b, o⟩ of a block whose cells are cs: its list of rights, the last handle. -/
structure StoreAt (own : Nat → Nat × Nat) (t : Nat × Nat) (w : World) (b o : Nat) (T : TypeId) (cs : List Value) (vL : Value) (hs : List PH) (last : Int) : Prop where
  blk : Blk w b cs T
  c0 : cs[o]? = some vL
  c1 : cs[o + 1]? = some (.int .i64 last)
  row : Row w vL 132 5 hs.length (hs.flatMap PH.cells)
  tag : Tg own vL t
  ne : own b ≠ t

section
variable {own : Nat → Nat × Nat} {t : Nat × Nat} {w : World} {b o : Nat} {T : TypeId} {cs : List Value} {vL : Value} {hs : List PH} {last : Int}

theorem StoreAt.of {own' : Nat → Nat × Nat} {w' : World} (h : StoreAt own t w b o T cs vL hs last) (ho : ∀ x, x < w.heap.size → own' x = own x) (hb : w'.heap[b]? = w.heap[b]?) (hr : ∀ x, x < w.heap.size → own x = t → w'.heap[x]? = w.heap[x]?) : StoreAt own' t w' b o T cs vL hs last :=
  ⟨h.blk.of hb, h.c0, h.c1, h.row.kept h.tag hr, h.tag.congr h.row ho, by rw [ho b h.blk.lt]; exact h.ne⟩
theorem StoreAt.below {w' : World} (h : StoreAt own t w b o T cs vL hs last) (hb : Below w.heap.size w w') : StoreAt own t w' b o T cs vL hs last :=
  h.of (fun _ _ => rfl) (hb.block b h.blk.lt) (fun x hx _ => hb.block x hx)

theorem StoreAt.held (h : StoreAt own t w b o T cs vL hs last) {i : Nat} {x : PH} (hx : hs[i]? = some x) :
    ∃ g cap, vL = .slice (some ⟨g, 0, none⟩) hs.length cap ∧ own g = t ∧ w.cell? ⟨g, i * 5, none⟩ = some (.int .i64 x.h) ∧ w.cell? ⟨g, i * 5 + 1, none⟩ = some (.int .i64 x.env) ∧ w.cell? ⟨g, i * 5 + 2, none⟩ = some (.int .i64 x.fr) ∧
      w.cell? ⟨g, i * 5 + 3, none⟩ = some (.bool x.wr) ∧ w.cell? ⟨g, i * 5 + 4, none⟩ = some (.int .i64 x.par) := by
  have hi := (List.getElem?_eq_some_iff.1 hx).1
  obtain ⟨g, cap, hv, hc, hf⟩ := h.row.form (by omega)
  have hy : ∀ j, j < 5 → w.cell? ⟨g, i * 5 + j, none⟩ = x.cells[j]? := fun j hj => by
    rw [hc _ (by omega), flat_get PH.cells 5 (fun _ => rfl) _ _ j _ hx hj]
  exact ⟨g, cap, hv, h.tag g (by rw [hv]; rfl), hy 0 (by omega), hy 1 (by omega), hy 2 (by omega), hy 3 (by omega), hy 4 (by omega)⟩

/-- The list's shape: empty, or somewhere. -/
theorem StoreAt.shape (h : StoreAt own t w b o T cs vL hs last) : ∃ ao cap, vL = .slice ao hs.length cap ∧ (hs.length = 0 ∨ ∃ g, ao = some ⟨g, 0, none⟩) := by
  obtain ⟨ao, cap, g, hv, hao, _⟩ := h.row.view
  refine ⟨ao, cap, hv, ?_⟩
  rcases Nat.eq_zero_or_pos hs.length with h0 | h0
  · exact .inl h0
  · exact .inr ⟨g, hao h0⟩
theorem StoreAt.heldAt {g cap : Nat} (h : StoreAt own t w b o T cs vL hs last) (hv : vL = .slice (some ⟨g, 0, none⟩) hs.length cap) {i : Nat} {x : PH} (hx : hs[i]? = some x) :
    w.cell? ⟨g, i * 5, none⟩ = some (.int .i64 x.h) ∧ w.cell? ⟨g, i * 5 + 1, none⟩ = some (.int .i64 x.env) ∧ w.cell? ⟨g, i * 5 + 2, none⟩ = some (.int .i64 x.fr) ∧
      w.cell? ⟨g, i * 5 + 3, none⟩ = some (.bool x.wr) ∧ w.cell? ⟨g, i * 5 + 4, none⟩ = some (.int .i64 x.par) := by
  obtain ⟨g', cap', hv', _, h0, h1, h2, h3, h4⟩ := h.held hx
  rw [hv] at hv'
  simp at hv'
  obtain ⟨rfl, _⟩ := hv'
  exact ⟨h0, h1, h2, h3, h4⟩

set_option maxHeartbeats 1000000 in
set_option maxRecDepth 100000 in
theorem full_any (h : StoreAt own t w b o T cs vL hs last) (hm : hs.length ≤ 4611686018427387904) :
    Calls Tryz.prog 68 #[.pointer (some ⟨b, o, none⟩)] w fun e w' => e = .returned (.bool (decide (32 ≤ hs.length))) ∧ w' = w := by
  have k0 := (h.blk.cell o).trans h.c0
  obtain ⟨ao, cap, g, hv, _⟩ := h.row.view
  rw [hv] at k0
  clear hv
  go_enter Tryz.func68, Tryz.ntmps68
  go_wp2_with fail
  go_ret
  exact ⟨ret_bool (by rw [Bool.eq_iff_iff]; simp; omega), rfl⟩

def freeP (hs : List PH) (f : Int) : Bool := hs.all fun x => !(x.fr == f)

set_option maxHeartbeats 1000000 in
set_option maxRecDepth 100000 in
theorem pfree_any (h : StoreAt own t w b o T cs vL hs last) (hm : hs.length ≤ 4611686018427387904) (f : Int) :
    Calls Tryz.prog 102 #[.pointer (some ⟨b, o, none⟩), .int .i64 f] w fun e w' => e = .returned (.bool (freeP hs f)) ∧ Below w.heap.size w w' := by
  have k0 := (h.blk.cell o).trans h.c0
  obtain ⟨ao, cap, hv, hcase⟩ := h.shape
  rw [hv] at k0
  have Hv : Hid (vL = .slice ao hs.length cap) := hv
  clear hv
  rcases hcase with h0 | ⟨g, rfl⟩
  all_goals
    go_enter Tryz.func102, Tryz.ntmps102
    go_wp2_with fail
    go_loopg [12] hs.length (fun k x wr => ∃ q : Nat, x = .int .i64 q ∧ q + k = hs.length ∧ (∀ i y, i < q → hs[i]? = some y → (y.fr == f) = false) ∧ Below w.heap.size w wr)
    case atStart => exact ⟨0, rfl, by omega, fun i y hi _ => by omega, Below.refl _ _⟩
    case round =>
      obtain ⟨q, rfl, hk, hno, hbl⟩ := hrel
      have HK : Hid (q + gk = hs.length) := hk
      have HN : Hid (∀ i y, i < q → hs[i]? = some y → (y.fr == f) = false) := hno
      have hq : q ≤ hs.length := by omega
      clear hk hno
      by_cases hlt : q < hs.length
      · first
        | (exfalso; omega; done)
        | (obtain ⟨x, hx⟩ : ∃ x, hs[q]? = some x := ⟨hs[q], by simp⟩
           obtain ⟨c0, c1, c2, c3, c4⟩ := (h.below hbl).heldAt Hv.out hx
           cases he : (x.fr == f)
           · have HX : Hid (hs[q]? = some x) := hx
             clear hx
             go_wp2_with fail
             go_roundg (gk - 1)
             case measure => have := HK.out; omega
             case rel => exact ⟨q + 1, by go_num, by have := HK.out; omega, fun i y hi hy => by
               rcases Nat.lt_or_ge i q with h1 | h1
               · exact HN.out i y h1 hy
               · obtain rfl : i = q := by omega
                 rw [HX.out] at hy
                 simp at hy
                 subst hy
                 exact he, hbl.alloc hbl.size _⟩
           · have HF : Hid (freeP hs f = false) := by
               unfold Hid freeP
               rw [List.all_eq_false]
               exact ⟨x, List.mem_of_getElem? hx, by simp [he]⟩
             clear hx
             go_wp2_with fail
             go_ret
             exact ⟨ret_bool HF.out.symm, hbl.alloc hbl.size _⟩)
      · go_wp2_with fail
        go_ret
        exact ⟨ret_bool (by
          unfold freeP
          rw [eq_comm, List.all_eq_true]
          intro x hx
          obtain ⟨i, hi, rfl⟩ := List.getElem_of_mem hx
          rw [HN.out i hs[i] (by omega) (by simp)]; rfl), hbl⟩
end
end Go.Proofs.YtnolplmpanbmhaaGreat

namespace Go.Proofs.YtnolplmpanbmhaaGreat
open Go.RowKit
set_option linter.unusedVariables false

theorem Row.shape {w : World} {v : Value} {e k n : Nat} {xs : List Value} (h : Row w v e k n xs) : ∃ ao cap, v = .slice ao n cap ∧ (n = 0 ∨ ∃ g, ao = some ⟨g, 0, none⟩) := by
  obtain ⟨ao, cap, g, hv, hao, _⟩ := h.view
  refine ⟨ao, cap, hv, ?_⟩
  rcases Nat.eq_zero_or_pos n with h0 | h0
  · exact .inl h0
  · exact .inr ⟨g, hao h0⟩
theorem Row.cellAt {w : World} {e k n g cap : Nat} {xs : List Value} (h : Row w (.slice (some ⟨g, 0, none⟩) n cap) e k n xs) (j : Nat) (hj : j < n * k) : w.cell? ⟨g, j, none⟩ = xs[j]? := World.ownsRow.cellAt h j hj

def hasI (l : List Int) (n : Int) : Bool := l.any fun x => x == n

set_option maxHeartbeats 1000000 in
set_option maxRecDepth 100000 in
theorem has_any {w : World} {v : Value} {l : List Int} (h : Row w v 3 1 l.length (l.map (.int .i64))) (hm : l.length ≤ 4611686018427387904) (n : Int) :
    Calls Tryz.prog 111 #[v, .int .i64 n] w fun e w' => e = .returned (.bool (hasI l n)) ∧ w' = w := by
  obtain ⟨ao, cap, hv, hcase⟩ := h.shape
  subst hv
  rcases hcase with h0 | ⟨g, rfl⟩
  all_goals
    go_enter Tryz.func111, Tryz.ntmps111
    go_wp2_with fail
    go_loopg [9] l.length (fun k x wr => ∃ q : Nat, x = .int .i64 q ∧ q + k = l.length ∧ (∀ i y, i < q → l[i]? = some y → (y == n) = false) ∧ wr = w)
    case atStart => exact ⟨0, rfl, by omega, fun i y hi _ => by omega, rfl⟩
    case round =>
      obtain ⟨q, rfl, hk, hno, rfl⟩ := hrel
      have HK : Hid (q + gk = l.length) := hk
      have HN : Hid (∀ i y, i < q → l[i]? = some y → (y == n) = false) := hno
      have hq : q ≤ l.length := by omega
      clear hk hno
      by_cases hlt : q < l.length
      · first
        | (exfalso; omega; done)
        | (obtain ⟨x, hx⟩ : ∃ x, l[q]? = some x := ⟨l[q], by simp⟩
           have c0 : wr.cell? ⟨g, q, none⟩ = some (.int .i64 x) := by rw [h.cellAt q (by omega), List.getElem?_map, hx]; rfl
           have HX : Hid (l[q]? = some x) := hx
           clear hx
           cases he : (x == n)
           · go_wp2_with fail
             go_roundg (gk - 1)
             case measure => have := HK.out; omega
             case rel => exact ⟨q + 1, by go_num, by have := HK.out; omega, fun i y hi hy => by
               rcases Nat.lt_or_ge i q with h1 | h1
               · exact HN.out i y h1 hy
               · obtain rfl : i = q := by omega
                 rw [HX.out] at hy
                 simp at hy
                 subst hy
                 exact he, rfl⟩
           · have HF : Hid (hasI l n = true) := by
               unfold Hid hasI
               rw [List.any_eq_true]
               exact ⟨x, List.mem_of_getElem? HX.out, he⟩
             go_wp2_with fail
             go_ret
             exact ⟨ret_bool HF.out.symm, rfl⟩)
      · go_wp2_with fail
        go_ret
        exact ⟨ret_bool (by
          unfold hasI
          rw [eq_comm, List.any_eq_false]
          intro x hx
          obtain ⟨i, hi, rfl⟩ := List.getElem_of_mem hx
          rw [HN.out i l[i] (by omega) (by simp)]; simp), rfl⟩

section
variable {own : Nat → Nat × Nat} {t : Nat × Nat} {w : World} {b o : Nat} {T : TypeId} {cs : List Value} {vL : Value} {hs : List PH} {last : Int}

/-- The right that a handle names. -/
def findP (hs : List PH) (env hd : Int) : Option PH := hs.find? fun x => x.h == hd && x.env == env
def findV (x : Option PH) : Value := match x with
  | some x => .tuple #[.agg #[.int .i64 x.h, .int .i64 x.env, .int .i64 x.fr, .bool x.wr], .bool true]
  | none => .tuple #[.agg #[.int .i64 0, .int .i64 0, .int .i64 0, .bool false], .bool false]

theorem findP_take_none {hs : List PH} {env hd : Int} (hno : ∀ i y, i < hs.length → hs[i]? = some y → (y.h == hd && y.env == env) = false) : findP hs env hd = none := by
  unfold findP
  rw [List.find?_eq_none]
  intro x hx
  obtain ⟨i, hi, rfl⟩ := List.getElem_of_mem hx
  rw [hno i hs[i] hi (by simp)]; simp
theorem findP_hit {hs : List PH} {env hd : Int} {q : Nat} {x : PH} (hx : hs[q]? = some x) (hno : ∀ i y, i < q → hs[i]? = some y → (y.h == hd && y.env == env) = false) (hy : (x.h == hd && x.env == env) = true) : findP hs env hd = some x := by
  obtain ⟨hq, he⟩ := List.getElem?_eq_some_iff.1 hx
  unfold findP
  rw [List.find?_eq_some_iff_append]
  refine ⟨hy, hs.take q, hs.drop (q + 1), ?_, ?_⟩
  · conv => lhs; rw [← List.take_append_drop q hs, List.drop_eq_getElem_cons hq, he]
  · intro y hy'
    obtain ⟨i, hi, rfl⟩ := List.getElem_of_mem hy'
    rw [List.length_take] at hi
    rw [List.getElem_take]
    rw [hno i _ (by omega) (List.getElem?_eq_getElem (by omega))]; rfl

set_option maxHeartbeats 2000000 in
set_option maxRecDepth 100000 in
theorem find_any (h : StoreAt own t w b o T cs vL hs last) (hm : hs.length ≤ 4611686018427387904) (env hd : Int) :
    Calls Tryz.prog 89 #[.pointer (some ⟨b, o, none⟩), .int .i64 env, .int .i64 hd] w fun e w' => e = .returned (findV (findP hs env hd)) ∧ Below w.heap.size w w' := by
  have k0 := (h.blk.cell o).trans h.c0
  obtain ⟨ao, cap, hv, hcase⟩ := h.shape
  rw [hv] at k0
  have hbl0 := h.blk.lt
  have Hv : Hid (vL = .slice ao hs.length cap) := hv
  clear hv
  rcases hcase with h0 | ⟨g, rfl⟩
  all_goals
    go_enter Tryz.func89, Tryz.ntmps89
    go_wp2_with fail
    go_loopg [15] hs.length (fun k x wr => ∃ q : Nat, x = .int .i64 q ∧ q + k = hs.length ∧ (∀ i y, i < q → hs[i]? = some y → (y.h == hd && y.env == env) = false) ∧ Below w.heap.size w wr ∧ Blk wr w.heap.size [.int .i64 0, .int .i64 0, .int .i64 0, .bool false] 107)
    case atStart => exact ⟨0, rfl, by omega, fun i y hi _ => by omega, (Below.refl _ _).alloc (Nat.le_refl _) _, Blk.new _ _ _⟩
    case round =>
      obtain ⟨q, rfl, hk, hno, hbl, hrb⟩ := hrel
      have HK : Hid (q + gk = hs.length) := hk
      have HN : Hid (∀ i y, i < q → hs[i]? = some y → (y.h == hd && y.env == env) = false) := hno
      have hq : q ≤ hs.length := by omega
      have hrl := hrb.lt
      have r0 := hrb.cell 0
      have r1 := hrb.cell 1
      have r2 := hrb.cell 2
      have r3 := hrb.cell 3
      simp at r0 r1 r2 r3
      have s0 := hrb.frozen 0
      have s1 := hrb.frozen 1
      have s2 := hrb.frozen 2
      have s3 := hrb.frozen 3
      clear hk hno
      by_cases hlt : q < hs.length
      · first
        | (exfalso; omega; done)
        | (obtain ⟨x, hx⟩ : ∃ x, hs[q]? = some x := ⟨hs[q], by simp⟩
           obtain ⟨c0, c1, c2, c3, c4⟩ := (h.below hbl).heldAt Hv.out hx
           have HX : Hid (hs[q]? = some x) := hx
           clear hx
           have hnext : (x.h == hd && x.env == env) = false → ∀ i y, i < q + 1 → hs[i]? = some y → (y.h == hd && y.env == env) = false := fun hf i y hi hy => by
             rcases Nat.lt_or_ge i q with h1 | h1
             · exact HN.out i y h1 hy
             · obtain rfl : i = q := by omega
               rw [HX.out] at hy
               simp at hy
               subst hy
               exact hf
           have HNX : Hid ((x.h == hd && x.env == env) = false → ∀ i y, i < q + 1 → hs[i]? = some y → (y.h == hd && y.env == env) = false) := hnext
           clear hnext
           cases he : (x.h == hd)
           · go_wp2_with fail
             go_roundg (gk - 1)
             case measure => have := HK.out; omega
             case rel => exact ⟨q + 1, by go_num, by have := HK.out; omega, HNX.out (by simp [he]), hbl.alloc hbl.size _, hrb.alloc _⟩
           · cases hf : (x.env == env)
             · go_wp2_with fail
               go_roundg (gk - 1)
               case measure => have := HK.out; omega
               case rel => exact ⟨q + 1, by go_num, by have := HK.out; omega, HNX.out (by simp [hf]), hbl.alloc hbl.size _, hrb.alloc _⟩
             · have HF : Hid (findP hs env hd = some x) := findP_hit HX.out HN.out (by simp [he, hf])
               clear HNX HN
               go_wp2_with fail
               exact bodyPost_ret (v := .tuple #[.agg #[.int .i64 x.h, .int .i64 x.env, .int .i64 x.fr, .bool x.wr], .bool true]) (by simp [results, Tryz.results89, go_sem, r0, r1, r2, r3, hrl]) rfl ⟨by rw [HF.out]; rfl, ((((hbl.setCell (by simp) _).setCell (by simp) _).setCell (by simp) _).setCell (by simp) _).alloc (by simpa using hbl.size) _⟩)
      · have HF : Hid (findP hs env hd = none) := findP_take_none (fun i y hi => HN.out i y (by omega))
        go_wp2_with fail
        exact bodyPost_ret (v := .tuple #[.agg #[.int .i64 0, .int .i64 0, .int .i64 0, .bool false], .bool false]) (by simp [results, Tryz.results89, go_sem, r0, r1, r2, r3]) rfl ⟨by rw [HF.out]; rfl, (((hbl.setCell (by simp) _).setCell (by simp) _).setCell (by simp) _).setCell (by simp) _⟩
end
end Go.Proofs.YtnolplmpanbmhaaGreat

namespace Go.Proofs.YtnolplmpanbmhaaGreat
open Go.RowKit
set_option linter.unusedVariables false
attribute [local go_sem ↓] Go.wp_at_zero Go.wp_at_succ

theorem Tryz.infoHeld : (Tryz.prog.info? 132).map (fun i => (i.zero, i.size, i.bytes)) = some (some (.agg #[.int .i64 0, .int .i64 0, .int .i64 0, .bool false, .int .i64 0]), 5, 40) := by kernel_rfl
theorem Tryz.infoInt : (Tryz.prog.info? 3).map (fun i => (i.zero, i.size, i.bytes)) = some (some (.int .i64 0), 1, 8) := by kernel_rfl
theorem oneCell_ph (x : PH) : ∀ u ∈ x.cells, u.oneCell' = true := by
  intro u hu; simp [PH.cells] at hu; rcases hu with rfl | rfl | rfl | rfl | rfl <;> rfl
theorem oneCell_rc (x : PH) : ∀ u ∈ x.rc, u.oneCell' = true := by
  intro u hu; simp [PH.rc] at hu; rcases hu with rfl | rfl | rfl | rfl <;> rfl
theorem oneCell_int (n : Int) : ∀ u ∈ [Value.int .i64 n], u.oneCell' = true := by
  intro u hu; simp at hu; subst hu; rfl

section
variable {own : Nat → Nat × Nat} {t : Nat × Nat} {w : World} {b o : Nat} {T : TypeId} {cs : List Value} {vL : Value} {hs : List PH} {last : Int}

/-- The rights of env. -/
def ofP (hs : List PH) (env : Int) : List PH := hs.filter fun x => x.env == env

def ofTo (hs : List PH) (env : Int) (q : Nat) : List PH := (hs.take q).filter fun x => x.env == env

theorem take_filter_succ {hs : List PH} {p : PH → Bool} {q : Nat} {x : PH} (hx : hs[q]? = some x) : (hs.take (q + 1)).filter p = (hs.take q).filter p ++ if p x then [x] else [] := by
  obtain ⟨hq, he⟩ := List.getElem?_eq_some_iff.1 hx
  rw [List.take_succ_eq_append_getElem hq, List.filter_append, he]
  cases hp : p x <;> simp [hp]

set_option maxHeartbeats 4000000 in
set_option maxRecDepth 100000 in
theorem of_any (h : StoreAt own t w b o T cs vL hs last) (hm : (hs.length + 1) * 48 ≤ 140737488355328) (env : Int) :
    Calls Tryz.prog 85 #[.pointer (some ⟨b, o, none⟩), .int .i64 env] w fun e w' => ∃ v, e = .returned v ∧ Below w.heap.size w w' ∧ Row w' v 107 4 (ofP hs env).length ((ofP hs env).flatMap PH.rc) ∧ ∀ x, v.ownBlock = some x → w.heap.size ≤ x := by
  obtain ⟨i0, hi, hz0, hz1, hz2⟩ := info_parts Tryz.infoRt
  have k0 := (h.blk.cell o).trans h.c0
  obtain ⟨ao, cap, hv, hcase⟩ := h.shape
  rw [hv] at k0
  have Hv : Hid (vL = .slice ao hs.length cap) := hv
  clear hv
  rcases hcase with h0 | ⟨g, rfl⟩
  all_goals
    go_enter Tryz.func85, Tryz.ntmps85
    go_wp2_with fail
    go_loopg [5, 13] hs.length (fun k v x wr => ∃ q : Nat, x = .int .i64 q ∧ q + k = hs.length ∧ Below w.heap.size w wr ∧ Row wr v 107 4 (ofTo hs env q).length ((ofTo hs env q).flatMap PH.rc) ∧ ∀ x, v.ownBlock = some x → w.heap.size ≤ x)
    case atStart => exact ⟨0, rfl, by omega, Below.refl _ _, Row.nil _ _ _, by simp [Value.ownBlock]⟩
    case round =>
      obtain ⟨q, rfl, hk, hbl, hrow, hnew⟩ := hrel
      have HK : Hid (q + gk = hs.length) := hk
      have hq : q ≤ hs.length := by omega
      have hle : (ofTo hs env q).length ≤ q := by unfold ofTo; have := List.length_filter_le (fun x : PH => x.env == env) (hs.take q); simp at this; omega
      have hsz := hbl.size
      obtain ⟨ao5, cap5, hv5, _⟩ := hrow.shape
      subst hv5
      clear hk
      by_cases hlt : q < hs.length
      · first
        | (exfalso; omega; done)
        | (obtain ⟨x, hx⟩ : ∃ x, hs[q]? = some x := ⟨hs[q], by simp⟩
           obtain ⟨c0, c1, c2, c3, c4⟩ := (h.below hbl).heldAt Hv.out hx
           have HS : Hid (ofTo hs env (q + 1) = ofTo hs env q ++ if x.env == env then [x] else []) := take_filter_succ hx
           clear hx
           cases he : (x.env == env)
           · have HW : Hid (ofTo hs env (q + 1) = ofTo hs env q) := by have := HS.out; rw [he] at this; simpa [Hid] using this
             clear HS
             go_wp2_with fail
             go_roundg (gk - 1)
             case measure => have := HK.out; omega
             case rel => exact ⟨q + 1, by go_num, by have := HK.out; omega, hbl.alloc hsz _, by rw [HW.out]; exact hrow.alloc _, hnew⟩
           · have HW : Hid (ofTo hs env (q + 1) = ofTo hs env q ++ [x]) := by have := HS.out; rw [he] at this; simpa [Hid] using this
             have hR' := (hrow.alloc (.cells x.cells.toArray 132)).alloc (.cells x.rc.toArray 107)
             clear HS hrow
             go_wp2_with (at_builtin; refine wpList_append_lies _ rfl (.tmp 22) (.tmp 25) 74 rfl 0 107 i0 _ 4 32 Tryz.underlying74 hi hz0 hz1 hz2 rfl (by decide) (.slice ao5 (ofTo hs env q).length cap5) (ofTo hs env q).length _ rfl hR' ⟨wr.heap.size + 1, 0, none⟩ 1 1 x.rc rfl rfl ?c1 ?c2 (by omega) ?b1 ?b2 (by omega) (wr.heap.size + 2) (by simp) ?nx)
             case c1 => exact World.news_of_block (B := wr.heap.size + 1) (cs := x.rc.toArray) (t := 107) (fr := (0, 0)) (Blk.at _ _ _ _ (by simp))
             case c2 => exact oneCell_rc _
             case b1 => unfold maxLen; omega
             case b2 => omega
             case nx =>
               intro g1 cap1 w4 hown hgrow hat hlt1
               go_wp2
               go_roundg (gk - 1)
               case measure => have := HK.out; omega
               case rel =>
                 refine ⟨q + 1, by go_num, by have := HK.out; omega, ((hbl.alloc hsz _).alloc (by simp; omega) _).grown hgrow (by simp; omega) hnew, ?_, ?_⟩
                 · rw [HW.out]
                   simp only [List.length_append, List.flatMap_append, List.length_cons, List.length_nil, List.flatMap_cons, List.flatMap_nil, List.append_nil]
                   exact hown
                 · intro x hb
                   simp [Value.ownBlock] at hb
                   subst hb
                   rcases hat with h | h
                   · exact hnew _ h
                   · omega)
      · have hqe : q = hs.length := by omega
        have HW : Hid (ofTo hs env q = ofP hs env) := by rw [hqe]; simp [Hid, ofP, ofTo]
        clear hqe
        go_wp2_with fail
        go_ret
        exact ⟨_, rfl, hbl, by rw [← HW.out]; exact hrow, hnew⟩

/-- A right more. -/
def addP (hs : List PH) (last : Int) (env fr : Int) (wt : Bool) (par : Int) : List PH := hs ++ [⟨last + 1, env, fr, wt, par⟩]

/-- What a call that turns the store leaves. -/
def StoreNext (own : Nat → Nat × Nat) (t : Nat × Nat) (w : World) (b o : Nat) (T : TypeId) (cs : List Value) (vL : Value) (w' : World) (hs' : List PH) (last' : Int) : Prop :=
  ∃ (own' : Nat → Nat × Nat) (vL' : Value), StoreAt own' t w' b o T ((cs.set o vL').set (o + 1) (.int .i64 last')) vL' hs' last' ∧ (∀ x, x < w.heap.size → own' x = own x) ∧ Touch w.heap.size (fun x => x = b ∨ vL.ownBlock = some x) w w'

theorem add_end {W0 w4 : World} {g1 cap1 : Nat} {vL0 : Value} {x : PH} {last' : Int} {o1 : Obj} (h : StoreAt own t w b o T cs vL hs last) (Hv : vL = vL0) (hblk2 : Blk W0 b (cs.set (o + 1) (.int .i64 last')) T) (ht2 : Touch w.heap.size (fun x => x = b ∨ vL.ownBlock = some x) w W0)
    (hown : w4.ownsRow 0 132 5 (.slice (some ⟨g1, 0, none⟩) (hs.length + 1) cap1) (hs.length + 1) (hs.flatMap PH.cells ++ x.cells)) (hgrow : (W0.alloc o1).drew.grownBy w4 vL0.ownBlock) (hat : vL0.ownBlock = some g1 ∨ g1 = W0.heap.size + 1)
    (hw4 : Blk w4 b (cs.set (o + 1) (.int .i64 last')) T) : StoreNext own t w b o T cs vL (w4.setCell ⟨b, o, none⟩ (.slice (some ⟨g1, 0, none⟩) (hs.length + 1) cap1)) (hs ++ [x]) last' := by
  subst Hv
  have hs0 := ht2.size
  have hblt := h.blk.lt
  obtain ⟨ho0, _⟩ := List.getElem?_eq_some_iff.1 h.c0
  obtain ⟨ho1, _⟩ := List.getElem?_eq_some_iff.1 h.c1
  refine ⟨set1 own (W0.heap.size + 1) t, .slice (some ⟨g1, 0, none⟩) (hs.length + 1) cap1, ⟨?_, ?_, ?_, ?_, ?_, ?_⟩, set1_old (by omega), ?_⟩
  · have := hw4.set o (.slice (some ⟨g1, 0, none⟩) (hs.length + 1) cap1)
    rwa [List.set_comm _ _ (by omega)] at this
  · rw [List.getElem?_set_ne (by omega), List.getElem?_set_self ho0]
  · rw [List.getElem?_set_self (by simpa using ho1)]
  · refine Row.other ?_ _ (fun e => ?_)
    · show w4.ownsRow 0 _ _ _ _ _
      simpa using hown
    · simp [Value.ownBlock] at e
      rcases hat with h1 | h1
      · exact h.ne (h.tag b (by rw [h1, e]))
      · omega
  · exact h.tag.app (fun x hx => by have := h.row.lt x hx; omega) hat
  · rw [set1_old (n := w.heap.size) (by omega) b hblt]; exact h.ne
  · exact (((ht2.alloc (by omega) _).drew.grown hgrow (by show w.heap.size ≤ (W0.alloc o1).heap.size; simp; omega) (fun k hk => .inl (.inr hk))).setCell (.inl (.inl rfl)) _)

set_option maxHeartbeats 4000000 in
set_option maxRecDepth 100000 in
theorem add_any (h : StoreAt own t w b o T cs vL hs last) (hm : (hs.length + 1) * 48 ≤ 140737488355328) (hl0 : 0 ≤ last) (hl1 : last ≤ 4611686018427387904) (x0 env fr : Int) (wt : Bool) (par : Int) :
    Calls Tryz.prog 103 #[.pointer (some ⟨b, o, none⟩), .agg #[.int .i64 x0, .int .i64 env, .int .i64 fr, .bool wt], .int .i64 par] w fun e w' => e = .returned (.int .i64 (last + 1)) ∧ StoreNext own t w b o T cs vL w' (addP hs last env fr wt par) (last + 1) := by
  obtain ⟨i0, hi, hz0, hz1, hz2⟩ := info_parts Tryz.infoHeld
  have k0 := (h.blk.cell o).trans h.c0
  have k1 := (h.blk.cell (o + 1)).trans h.c1
  have f0 := h.blk.frozen o
  have f1 := h.blk.frozen (o + 1)
  have hblt := h.blk.lt
  obtain ⟨ao, cap, hv, _⟩ := h.shape
  rw [hv] at k0
  have Hv : Hid (vL = .slice ao hs.length cap) := hv
  clear hv
  go_enter Tryz.func103, Tryz.ntmps103
  go_wp2_with fail
  have hrow2 : Row ((w.setCell ⟨b, o + 1, none⟩ (.int .i64 (last + 1))).alloc (.cells #[.int .i64 (last + 1), .int .i64 env, .int .i64 fr, .bool wt] 107)) (.slice ao hs.length cap) 132 5 hs.length (hs.flatMap PH.cells) := by
    rw [← Hv.out]
    exact (h.row.other _ (fun e => h.ne (h.tag b e))).alloc _
  have hblk2 : Blk ((w.setCell ⟨b, o + 1, none⟩ (.int .i64 (last + 1))).alloc (.cells #[.int .i64 (last + 1), .int .i64 env, .int .i64 fr, .bool wt] 107)) b (cs.set (o + 1) (.int .i64 (last + 1))) T := (h.blk.set _ _).alloc _
  have hne2 : (Value.slice ao hs.length cap).ownBlock ≠ some b := by rw [← Hv.out]; exact fun e => h.ne (h.tag b e)
  have hlt2 : ∀ x, (Value.slice ao hs.length cap).ownBlock = some x → x < w.heap.size := by rw [← Hv.out]; exact h.row.lt
  have htg2 : Tg own (.slice ao hs.length cap) t := by rw [← Hv.out]; exact h.tag
  have ht2 : Touch w.heap.size (fun x => x = b ∨ vL.ownBlock = some x) w ((w.setCell ⟨b, o + 1, none⟩ (.int .i64 (last + 1))).alloc (.cells #[.int .i64 (last + 1), .int .i64 env, .int .i64 fr, .bool wt] 107)) := ((Touch.refl _ _ _).setCell (.inl (.inl rfl)) _).alloc (by simp) _
  have hbox := Blk.at (w.setCell ⟨b, o + 1, none⟩ (.int .i64 (last + 1))) [.int .i64 (last + 1), .int .i64 env, .int .i64 fr, .bool wt] 107 w.heap.size (by simp)
  have hsz2 : ((w.setCell ⟨b, o + 1, none⟩ (.int .i64 (last + 1))).alloc (.cells #[.int .i64 (last + 1), .int .i64 env, .int .i64 fr, .bool wt] 107)).heap.size = w.heap.size + 1 := by simp
  obtain ⟨W0, hW0⟩ : ∃ W0, (w.setCell ⟨b, o + 1, none⟩ (.int .i64 (last + 1))).alloc (.cells #[.int .i64 (last + 1), .int .i64 env, .int .i64 fr, .bool wt] 107) = W0 := ⟨_, rfl⟩
  have hbox0 : Blk ((w.setCell ⟨b, o + 1, none⟩ (.int .i64 (last + 1))).alloc (.cells #[.int .i64 (last + 1), .int .i64 env, .int .i64 fr, .bool wt] 107)) w.heap.size [.int .i64 (last + 1), .int .i64 env, .int .i64 fr, .bool wt] 107 := hbox
  rw [hW0] at hrow2 hblk2 ht2 hsz2 hbox0 ⊢
  clear hbox hW0
  have c0 : W0.cell? ⟨b, o, none⟩ = some (.slice ao hs.length cap) := by rw [hblk2.cell o, List.getElem?_set_ne (by omega), h.c0, Hv.out]
  have d0 := hbox0.cell 0
  have d1 := hbox0.cell 1
  have d2 := hbox0.cell 2
  have d3 := hbox0.cell 3
  simp at d0 d1 d2 d3
  have e0 := hblk2.frozen o
  have hR3 := (hrow2.alloc (.cells (PH.cells ⟨last + 1, env, fr, wt, par⟩).toArray 132)).drew
  have hN3 := (Blk.new W0 (PH.cells ⟨last + 1, env, fr, wt, par⟩) 132).drew
  have hbW : b < W0.heap.size := by omega
  have hxW : w.heap.size < W0.heap.size := by omega
  have Hsz2 : Hid (W0.heap.size = w.heap.size + 1) := hsz2
  clear k0 k1 f0 f1 hsz2
  go_region_law
    ((refine step_append_lies _ (by rfl) (.tmp 23) (.tmp 27) 53 (by rfl) 0 132 i0 _ 5 40 Tryz.underlying53 hi hz0 hz1 hz2 rfl (by decide) (.slice ao hs.length cap) hs.length _ (by rfl) hR3 ⟨W0.heap.size, 0, none⟩ 1 1 (PH.cells ⟨last + 1, env, fr, wt, par⟩) (by rfl) rfl (World.news_of_block hN3) (oneCell_ph _) (by omega) (by unfold maxLen; omega) (by omega) (by omega) (W0.heap.size + 1) (by simp) ?_
      intro g1 cap1 w4 hown hgrow hat hlt
      have hw4 := (hblk2.alloc (.cells (PH.cells ⟨last + 1, env, fr, wt, par⟩).toArray 132)).drew.grown hgrow hne2
      have u0 := (hw4.cell o)
      rw [List.getElem?_set_ne (by omega), h.c0, Hv.out] at u0
      have u1 := hw4.frozen o
      have hx4 := (hbox0.alloc (.cells (PH.cells ⟨last + 1, env, fr, wt, par⟩).toArray 132)).drew.grown hgrow (fun e => by have := hlt2 _ e; omega)
      have v0 := hx4.cell 0
      simp at v0))
  all_goals
    go_wp2
    go_ret
    exact ⟨rfl, add_end h Hv.out hblk2 ht2 hown hgrow hat hw4⟩
end
end Go.Proofs.YtnolplmpanbmhaaGreat

namespace Go.Proofs.YtnolplmpanbmhaaGreat
open Go.RowKit
set_option linter.unusedVariables false

def eaStep (hd : List Int) (st : List PH × List Int) (x : PH) : List PH × List Int :=
  if hasI hd x.h || hasI st.2 x.par then (st.1, st.2 ++ [x.h]) else (st.1 ++ [x], st.2)
def eaTo (hs : List PH) (hd : List Int) (q : Nat) : List PH × List Int := (hs.take q).foldl (eaStep hd) ([], [])
/-- What is left when the rights with these handles end, and all that comes of them. -/
def endAllP (hs : List PH) (hd : List Int) : List PH := (eaTo hs hd hs.length).1
theorem eaTo_succ {hs : List PH} (hd : List Int) {q : Nat} {x : PH} (hx : hs[q]? = some x) : eaTo hs hd (q + 1) = eaStep hd (eaTo hs hd q) x := by
  obtain ⟨hq, he⟩ := List.getElem?_eq_some_iff.1 hx
  unfold eaTo
  rw [List.take_succ_eq_append_getElem hq, List.foldl_append, he]
  rfl
theorem eaTo_len (hs : List PH) (hd : List Int) (q : Nat) : (eaTo hs hd q).1.length ≤ q ∧ (eaTo hs hd q).2.length ≤ q := by
  induction q with
  | zero => simp [eaTo]
  | succ q ih =>
    cases hx : hs[q]? with
    | none =>
      have h1 := List.getElem?_eq_none_iff.1 hx
      have : eaTo hs hd (q + 1) = eaTo hs hd q := by unfold eaTo; rw [List.take_of_length_le (by omega), List.take_of_length_le h1]
      rw [this]; omega
    | some x =>
      rw [eaTo_succ hd hx]
      unfold eaStep
      split <;> simp <;> omega

section
variable {own : Nat → Nat × Nat} {t : Nat × Nat} {w : World} {b o : Nat} {T : TypeId} {cs : List Value} {vL : Value} {hs : List PH} {last : Int}

theorem set_same {l : List Value} {i : Nat} {v : Value} (h : l[i]? = some v) : l.set i v = l := by
  obtain ⟨hlt, hx⟩ := List.getElem?_eq_some_iff.1 h
  conv => lhs; rw [← hx]
  exact List.set_getElem_self hlt

theorem endAll_end {wr : World} {vl : Value} {L : List PH} (h : StoreAt own t w b o T cs vL hs last) (hbl : Below w.heap.size w wr) (hrl : Row wr vl 132 5 L.length (L.flatMap PH.cells)) (hnl : ∀ x, vl.ownBlock = some x → w.heap.size ≤ x) :
    StoreNext own t w b o T cs vL (wr.setCell ⟨b, o, none⟩ vl) L last := by
  have hblt := h.blk.lt
  have hf := h.below hbl
  obtain ⟨ho0, _⟩ := List.getElem?_eq_some_iff.1 h.c0
  have hc1 : (cs.set o vl)[o + 1]? = some (.int .i64 last) := by rw [List.getElem?_set_ne (by omega)]; exact h.c1
  have hag : ∀ x, x < w.heap.size → (if vl.ownBlock = some x then t else own x) = own x := fun x hx => if_neg (fun e => by have := hnl x e; omega)
  refine ⟨fun x => if vl.ownBlock = some x then t else own x, vl, ?_, hag, (Touch.of_below hbl _).setCell (.inl (.inl rfl)) _⟩
  rw [set_same hc1]
  exact ⟨hf.blk.set o vl, List.getElem?_set_self ho0, hc1, hrl.other _ (fun e => by have := hnl b e; omega), fun x hx => by simp [hx], by show (if vl.ownBlock = some b then t else own b) ≠ t; rw [hag b hblt]; exact h.ne⟩

set_option maxHeartbeats 8000000 in
set_option maxRecDepth 100000 in
theorem endAll_any (h : StoreAt own t w b o T cs vL hs last) (hm : (hs.length + 1) * 48 ≤ 140737488355328) (vH : Value) (hd : List Int) (hH : Row w vH 3 1 hd.length (hd.map (.int .i64))) (hm2 : hd.length ≤ 4611686018427387904) :
    Calls Tryz.prog 105 #[.pointer (some ⟨b, o, none⟩), vH] w fun e w' => e = .returned (.tuple #[]) ∧ StoreNext own t w b o T cs vL w' (endAllP hs hd) last := by
  obtain ⟨i0, hi, hz0, hz1, hz2⟩ := info_parts Tryz.infoHeld
  obtain ⟨i1, gi, gz0, gz1, gz2⟩ := info_parts Tryz.infoInt
  have k0 := (h.blk.cell o).trans h.c0
  have hblt := h.blk.lt
  obtain ⟨ao, cap, hv, hcase⟩ := h.shape
  obtain ⟨aoH, capH, hvH, _⟩ := hH.shape
  subst hvH
  rw [hv] at k0
  have Hv : Hid (vL = .slice ao hs.length cap) := hv
  clear hv
  rcases hcase with h0 | ⟨g, rfl⟩
  all_goals
    go_enter Tryz.func105, Tryz.ntmps105
    go_wp2_with fail
    go_loopg [4, 5, 15] hs.length (fun k vl ve x wr => ∃ q : Nat, x = .int .i64 q ∧ q + k = hs.length ∧ Below w.heap.size w wr ∧ Row wr vl 132 5 (eaTo hs hd q).1.length ((eaTo hs hd q).1.flatMap PH.cells) ∧ Row wr ve 3 1 (eaTo hs hd q).2.length ((eaTo hs hd q).2.map (.int .i64)) ∧
      (∀ x, vl.ownBlock = some x → w.heap.size ≤ x) ∧ (∀ x, ve.ownBlock = some x → w.heap.size ≤ x) ∧ (∀ x, vl.ownBlock = some x → ve.ownBlock ≠ some x))
    case atStart => exact ⟨0, rfl, by omega, Below.refl _ _, Row.nil _ _ _, Row.nil _ _ _, by simp [Value.ownBlock], by simp [Value.ownBlock], by simp [Value.ownBlock]⟩
    case round =>
      obtain ⟨q, rfl, hk, hbl, hrl, hre, hnl, hne, hdj⟩ := hrel
      have HK : Hid (q + gk = hs.length) := hk
      have hq : q ≤ hs.length := by omega
      obtain ⟨hl1, hl2⟩ := eaTo_len hs hd q
      have hsz := hbl.size
      obtain ⟨aol, capl, hvl, _⟩ := hrl.shape
      obtain ⟨aoe, cape, hve, _⟩ := hre.shape
      subst hvl
      subst hve
      clear hk
      by_cases hlt : q < hs.length
      · first
        | (exfalso; omega; done)
        | (obtain ⟨x, hx⟩ : ∃ x, hs[q]? = some x := ⟨hs[q], by simp⟩
           obtain ⟨c0, c1, c2, c3, c4⟩ := (h.below hbl).heldAt Hv.out hx
           have HS : Hid (eaTo hs hd (q + 1) = eaStep hd (eaTo hs hd q) x) := eaTo_succ hd hx
           have hH' := (hH.of fun x hx => hbl.block x (hH.lt x hx)).alloc (.cells #[.int .i64 x.h, .int .i64 x.env, .int .i64 x.fr, .bool x.wr, .int .i64 x.par] 132)
           have hre' := hre.alloc (.cells #[.int .i64 x.h, .int .i64 x.env, .int .i64 x.fr, .bool x.wr, .int .i64 x.par] 132)
           have hrl' := hrl.alloc (.cells #[.int .i64 x.h, .int .i64 x.env, .int .i64 x.fr, .bool x.wr, .int .i64 x.par] 132)
           clear hx
           go_wp2_with fail
           refine (has_any hH' hm2 x.h).mono ?_
           rintro e w3 ⟨rfl, hw3⟩
           subst hw3
           go_wp2_with fail
           refine (has_any hre' (by omega) x.par).mono ?_
           rintro e w4 ⟨rfl, hw4⟩
           subst hw4
           cases hin : (hasI hd x.h || hasI (eaTo hs hd q).2 x.par)
           · have HW : Hid (eaTo hs hd (q + 1) = ((eaTo hs hd q).1 ++ [x], (eaTo hs hd q).2)) := by have := HS.out; unfold eaStep at this; rw [hin] at this; simpa [Hid] using this
             obtain ⟨g1, g2⟩ : hasI hd x.h = false ∧ hasI (eaTo hs hd q).2 x.par = false := by simpa using hin
             rw [g1, g2]
             have hrl2 := hrl'.alloc (.cells x.cells.toArray 132)
             clear hin g1 g2 HS
             go_wp2_with (at_builtin; refine wpList_append_lies _ rfl (.tmp 38) (.tmp 40) 53 rfl 0 132 i0 _ 5 40 Tryz.underlying53 hi hz0 hz1 hz2 rfl (by decide) (.slice aol (eaTo hs hd q).1.length capl) (eaTo hs hd q).1.length _ rfl hrl2 ⟨wr.heap.size + 1, 0, none⟩ 1 1 x.cells rfl rfl ?c1 ?c2 (by omega) ?b1 ?b2 (by omega) (wr.heap.size + 2) (by simp) ?nx)
             case c1 => exact World.news_of_block (B := wr.heap.size + 1) (cs := x.cells.toArray) (t := 132) (fr := (0, 0)) (Blk.at _ _ _ _ (by simp))
             case c2 => exact oneCell_ph _
             case b1 => unfold maxLen; omega
             case b2 => omega
             case nx =>
               intro g1 cap1 w4 hown hgrow hat hlt1
               go_wp2
               go_roundg (gk - 1)
               case measure => have := HK.out; omega
               case rel =>
                 refine ⟨q + 1, by go_num, by have := HK.out; omega, ((hbl.alloc hsz _).alloc (by simp; omega) _).grown hgrow (by simp; omega) hnl, ?_, ?_, ?_, ?_, ?_⟩
                 · rw [HW.out]
                   simp only [List.length_append, List.flatMap_append, List.length_cons, List.length_nil, List.flatMap_cons, List.flatMap_nil, List.append_nil]
                   exact hown
                 · rw [HW.out]
                   exact (hre'.alloc _).of fun y hy => hgrow.block y (Nat.lt_of_lt_of_le (hre.lt y hy) (by simp; omega)) (fun e => hdj y e.symm hy)
                 · intro y hb
                   simp [Value.ownBlock] at hb
                   subst hb
                   rcases hat with h | h
                   · exact hnl _ h
                   · omega
                 · exact hne
                 · intro y hb
                   simp [Value.ownBlock] at hb
                   subst hb
                   intro hy
                   have hy2 := hre.lt _ hy
                   rcases hat with h | h
                   · exact hdj _ h hy
                   · omega
           · have HW : Hid (eaTo hs hd (q + 1) = ((eaTo hs hd q).1, (eaTo hs hd q).2 ++ [x.h])) := by have := HS.out; unfold eaStep at this; rw [hin] at this; simpa [Hid] using this
             have hre2 := hre'.alloc (.cells [.int .i64 x.h].toArray 3)
             have hN := Blk.at (wr.alloc (.cells #[.int .i64 x.h, .int .i64 x.env, .int .i64 x.fr, .bool x.wr, .int .i64 x.par] 132)) [Value.int .i64 x.h] 3 (wr.heap.size + 1) (by simp)
             have hcs : hasI hd x.h = true ∨ (hasI hd x.h = false ∧ hasI (eaTo hs hd q).2 x.par = true) := by
               cases hq1 : hasI hd x.h
               · rw [hq1] at hin; exact .inr ⟨rfl, by simpa using hin⟩
               · exact .inl rfl
             clear hin HS
             rcases hcs with g1 | ⟨g1, g2⟩
             all_goals
               rw [g1]
               try rw [g2]
               clear g1
               go_wp2_with (at_builtin; refine wpList_append_lies _ rfl (.tmp 32) (.tmp 36) 66 rfl 0 3 i1 _ 1 8 Tryz.underlying66 gi gz0 gz1 gz2 rfl (by decide) (.slice aoe (eaTo hs hd q).2.length cape) (eaTo hs hd q).2.length _ rfl hre2 ⟨wr.heap.size + 1, 0, none⟩ 1 1 [.int .i64 x.h] rfl rfl ?c1 ?c2 (by omega) ?b1 ?b2 (by omega) (wr.heap.size + 2) (by simp) ?nx)
               case c1 => exact World.news_of_block hN
               case c2 => exact oneCell_int _
               case b1 => unfold maxLen; omega
               case b2 => omega
               case nx =>
                 intro g1 cap1 w4 hown hgrow hat hlt1
                 go_wp2
                 go_roundg (gk - 1)
                 case measure => have := HK.out; omega
                 case rel =>
                   refine ⟨q + 1, by go_num, by have := HK.out; omega, ((hbl.alloc hsz (.cells #[.int .i64 x.h, .int .i64 x.env, .int .i64 x.fr, .bool x.wr, .int .i64 x.par] 132)).alloc (by simp; omega) (.cells [.int .i64 x.h].toArray 3)).grown hgrow (by simp; omega) hne, ?_, ?_, ?_, ?_, ?_⟩
                   · rw [HW.out]
                     exact (hrl'.alloc _).of fun y hy => hgrow.block y (Nat.lt_of_lt_of_le (hrl.lt y hy) (by simp; omega)) (fun e => hdj y hy e.symm)
                   · rw [HW.out]
                     simp only [List.length_append, List.map_append, List.length_cons, List.length_nil, List.map_cons, List.map_nil]
                     exact hown
                   · exact hnl
                   · intro y hb
                     simp [Value.ownBlock] at hb
                     subst hb
                     rcases hat with h | h
                     · exact hne _ h
                     · omega
                   · intro y hy hb
                     simp [Value.ownBlock] at hb
                     subst hb
                     have hy2 := hrl.lt _ hy
                     rcases hat with h | h
                     · exact hdj _ hy h
                     · omega)
      · have hqe : q = hs.length := by omega
        have HW : Hid ((eaTo hs hd q).1 = endAllP hs hd) := by rw [hqe]; rfl
        have hf := h.below hbl
        have j0 := (hf.blk.cell o).trans hf.c0
        rw [Hv.out] at j0
        have j1 := hf.blk.frozen o
        clear hqe
        go_wp2_with fail
        go_end0
        exact ⟨rfl, by rw [← HW.out]; exact endAll_end h hbl hrl hnl⟩
end
end Go.Proofs.YtnolplmpanbmhaaGreat

namespace Go.Proofs.YtnolplmpanbmhaaGreat
open Go.RowKit
set_option linter.unusedVariables false

section
variable {own : Nat → Nat × Nat} {t : Nat × Nat} {w : World} {b o : Nat} {T : TypeId} {cs : List Value} {vL : Value} {hs : List PH} {last : Int}

theorem StoreNext.after {w1 w2 : World} {hs' : List PH} {last' : Int} (hb : Below w.heap.size w w1) (h : StoreNext own t w1 b o T cs vL w2 hs' last') : StoreNext own t w b o T cs vL w2 hs' last' := by
  obtain ⟨own', vL', h1, h2, h3⟩ := h
  exact ⟨own', vL', h1, fun x hx => h2 x (Nat.lt_of_lt_of_le hx hb.size), (Touch.of_below hb _).trans (h3.mono hb.size (fun _ _ h => h))⟩

set_option maxHeartbeats 2000000 in
set_option maxRecDepth 100000 in
theorem pfirst_any (h : StoreAt own t w b o T cs vL hs last) (hm : (hs.length + 1) * 48 ≤ 140737488355328) (hl0 : 0 ≤ last) (hl1 : last ≤ 4611686018427387904) (env fr : Int) :
    Calls Tryz.prog 69 #[.pointer (some ⟨b, o, none⟩), .int .i64 env, .int .i64 fr] w fun e w' => e = .returned (.int .i64 (last + 1)) ∧ StoreNext own t w b o T cs vL w' (addP hs last env fr true 0) (last + 1) := by
  go_enter Tryz.func69, Tryz.ntmps69
  go_wp2_with fail
  refine (add_any h hm hl0 hl1 0 env fr true 0).mono ?_
  rintro e w2 ⟨rfl, hn⟩
  go_wp2_with fail
  go_ret
  exact ⟨rfl, hn⟩

set_option maxHeartbeats 2000000 in
set_option maxRecDepth 100000 in
theorem psderive_any (h : StoreAt own t w b o T cs vL hs last) (hm : (hs.length + 1) * 48 ≤ 140737488355328) (hl0 : 0 ≤ last) (hl1 : last ≤ 4611686018427387904) (ph penv pfr : Int) (pwr : Bool) (env : Int) (wt : Bool) :
    Calls Tryz.prog 73 #[.pointer (some ⟨b, o, none⟩), .agg #[.int .i64 ph, .int .i64 penv, .int .i64 pfr, .bool pwr], .int .i64 env, .bool wt] w fun e w' => e = .returned (.int .i64 (last + 1)) ∧ StoreNext own t w b o T cs vL w' (addP hs last env pfr wt ph) (last + 1) := by
  have h' := h.below ((Below.refl _ _).alloc (Nat.le_refl _) (.cells #[.int .i64 ph, .int .i64 penv, .int .i64 pfr, .bool pwr] 107))
  go_enter Tryz.func73, Tryz.ntmps73
  go_wp2_with fail
  refine (add_any h' hm hl0 hl1 0 env pfr wt ph).mono ?_
  rintro e w2 ⟨rfl, hn⟩
  go_wp2_with fail
  go_ret
  exact ⟨rfl, hn.after ((Below.refl _ _).alloc (Nat.le_refl _) _)⟩

set_option maxHeartbeats 2000000 in
set_option maxRecDepth 100000 in
theorem end_any (h : StoreAt own t w b o T cs vL hs last) (hm : (hs.length + 1) * 48 ≤ 140737488355328) (hd : Int) :
    Calls Tryz.prog 80 #[.pointer (some ⟨b, o, none⟩), .int .i64 hd] w fun e w' => e = .returned (.tuple #[]) ∧ StoreNext own t w b o T cs vL w' (endAllP hs [hd]) last := by
  have h' := h.below ((Below.refl _ _).alloc (Nat.le_refl _) (.cells #[.int .i64 hd] 3))
  have hrow : Row (w.alloc (.cells #[.int .i64 hd] 3)) (.slice (some ⟨w.heap.size, 0, none⟩) 1 1) 3 1 1 ([hd].map (.int .i64)) := World.ownsRow_lit w _ 1 (by omega) (by simp [maxLen]) rfl
  go_enter Tryz.func80, Tryz.ntmps80
  go_wp2_with fail
  refine (endAll_any h' hm (.slice (some ⟨w.heap.size, 0, none⟩) 1 1) [hd] hrow (by simp)).mono ?_
  rintro e w2 ⟨rfl, hn⟩
  go_wp2_with fail
  go_end0
  exact ⟨rfl, hn.after ((Below.refl _ _).alloc (Nat.le_refl _) _)⟩

/-- The handles of those among the first q of which p holds. -/
def hdTo (hs : List PH) (p : PH → Bool) (q : Nat) : List Int := ((hs.take q).filter p).map PH.h
theorem hdTo_succ {hs : List PH} (p : PH → Bool) {q : Nat} {x : PH} (hx : hs[q]? = some x) : hdTo hs p (q + 1) = hdTo hs p q ++ if p x then [x.h] else [] := by
  unfold hdTo
  rw [take_filter_succ hx, List.map_append]
  cases p x <;> rfl
theorem hdTo_len (hs : List PH) (p : PH → Bool) (q : Nat) : (hdTo hs p q).length ≤ q := by
  unfold hdTo
  have := List.length_filter_le p (hs.take q)
  simp at this ⊢
  omega

set_option maxHeartbeats 4000000 in
set_option maxRecDepth 100000 in
theorem endDerived_any (h : StoreAt own t w b o T cs vL hs last) (hm : (hs.length + 1) * 48 ≤ 140737488355328) (key : Int) :
    Calls Tryz.prog 77 #[.pointer (some ⟨b, o, none⟩), .int .i64 key] w fun e w' => e = .returned (.tuple #[]) ∧ StoreNext own t w b o T cs vL w' (endAllP hs (hdTo hs (fun x => x.par == key) hs.length)) last := by
  obtain ⟨i1, gi, gz0, gz1, gz2⟩ := info_parts Tryz.infoInt
  have k0 := (h.blk.cell o).trans h.c0
  obtain ⟨ao, cap, hv, hcase⟩ := h.shape
  rw [hv] at k0
  have Hv : Hid (vL = .slice ao hs.length cap) := hv
  clear hv
  rcases hcase with h0 | ⟨g, rfl⟩
  all_goals
    go_enter Tryz.func77, Tryz.ntmps77
    go_wp2_with fail
    go_loopg [4, 12] hs.length (fun k v x wr => ∃ q : Nat, x = .int .i64 q ∧ q + k = hs.length ∧ Below w.heap.size w wr ∧ Row wr v 3 1 (hdTo hs (fun x => x.par == key) q).length ((hdTo hs (fun x => x.par == key) q).map (.int .i64)) ∧ ∀ x, v.ownBlock = some x → w.heap.size ≤ x)
    case atStart => exact ⟨0, rfl, by omega, Below.refl _ _, Row.nil _ _ _, by simp [Value.ownBlock]⟩
    case round =>
      obtain ⟨q, rfl, hk, hbl, hrow, hnew⟩ := hrel
      have HK : Hid (q + gk = hs.length) := hk
      have hq : q ≤ hs.length := by omega
      have hle := hdTo_len hs (fun x => x.par == key) q
      have hsz := hbl.size
      obtain ⟨ao5, cap5, hv5, _⟩ := hrow.shape
      subst hv5
      clear hk
      by_cases hlt : q < hs.length
      · first
        | (exfalso; omega; done)
        | (obtain ⟨x, hx⟩ : ∃ x, hs[q]? = some x := ⟨hs[q], by simp⟩
           obtain ⟨c0, c1, c2, c3, c4⟩ := (h.below hbl).heldAt Hv.out hx
           have HS : Hid (hdTo hs (fun x => x.par == key) (q + 1) = hdTo hs (fun x => x.par == key) q ++ if x.par == key then [x.h] else []) := hdTo_succ _ hx
           clear hx
           cases he : (x.par == key)
           · have HW : Hid (hdTo hs (fun x => x.par == key) (q + 1) = hdTo hs (fun x => x.par == key) q) := by have := HS.out; rw [he] at this; simpa [Hid] using this
             clear HS
             go_wp2_with fail
             go_roundg (gk - 1)
             case measure => have := HK.out; omega
             case rel => exact ⟨q + 1, by go_num, by have := HK.out; omega, hbl.alloc hsz _, by rw [HW.out]; exact hrow.alloc _, hnew⟩
           · have HW : Hid (hdTo hs (fun x => x.par == key) (q + 1) = hdTo hs (fun x => x.par == key) q ++ [x.h]) := by have := HS.out; rw [he] at this; simpa [Hid] using this
             have hR' := (hrow.alloc (.cells #[.int .i64 x.h, .int .i64 x.env, .int .i64 x.fr, .bool x.wr, .int .i64 x.par] 132)).alloc (.cells [.int .i64 x.h].toArray 3)
             have hN := Blk.at (wr.alloc (.cells #[.int .i64 x.h, .int .i64 x.env, .int .i64 x.fr, .bool x.wr, .int .i64 x.par] 132)) [Value.int .i64 x.h] 3 (wr.heap.size + 1) (by simp)
             clear HS hrow
             go_wp2_with (at_builtin; refine wpList_append_lies _ rfl (.tmp 20) (.tmp 24) 66 rfl 0 3 i1 _ 1 8 Tryz.underlying66 gi gz0 gz1 gz2 rfl (by decide) (.slice ao5 (hdTo hs (fun x => x.par == key) q).length cap5) (hdTo hs (fun x => x.par == key) q).length _ rfl hR' ⟨wr.heap.size + 1, 0, none⟩ 1 1 [.int .i64 x.h] rfl rfl ?c1 ?c2 (by omega) ?b1 ?b2 (by omega) (wr.heap.size + 2) (by simp) ?nx)
             case c1 => exact World.news_of_block hN
             case c2 => exact oneCell_int _
             case b1 => unfold maxLen; omega
             case b2 => omega
             case nx =>
               intro g1 cap1 w4 hown hgrow hat hlt1
               go_wp2
               go_roundg (gk - 1)
               case measure => have := HK.out; omega
               case rel =>
                 refine ⟨q + 1, by go_num, by have := HK.out; omega, ((hbl.alloc hsz (.cells #[.int .i64 x.h, .int .i64 x.env, .int .i64 x.fr, .bool x.wr, .int .i64 x.par] 132)).alloc (by simp; omega) (.cells [.int .i64 x.h].toArray 3)).grown hgrow (by simp; omega) hnew, ?_, ?_⟩
                 · rw [HW.out]
                   simp only [List.length_append, List.map_append, List.length_cons, List.length_nil, List.map_cons, List.map_nil]
                   exact hown
                 · intro x hb
                   simp [Value.ownBlock] at hb
                   subst hb
                   rcases hat with h | h
                   · exact hnew _ h
                   · omega)
      · have hqe : q = hs.length := by omega
        have HQ : Hid (hdTo hs (fun x => x.par == key) q = hdTo hs (fun x => x.par == key) hs.length) := by rw [hqe]; exact rfl
        clear hqe
        have h' := h.below hbl
        go_wp2_with fail
        refine (endAll_any h' hm _ _ hrow (by omega)).mono ?_
        rintro e w2 ⟨rfl, hn⟩
        go_wp2_with fail
        go_end0
        rw [← HQ.out]
        exact ⟨rfl, hn.after hbl⟩

set_option maxHeartbeats 4000000 in
set_option maxRecDepth 100000 in
theorem endOf_any (h : StoreAt own t w b o T cs vL hs last) (hm : (hs.length + 1) * 48 ≤ 140737488355328) (key : Int) :
    Calls Tryz.prog 82 #[.pointer (some ⟨b, o, none⟩), .int .i64 key] w fun e w' => e = .returned (.tuple #[]) ∧ StoreNext own t w b o T cs vL w' (endAllP hs (hdTo hs (fun x => x.env == key) hs.length)) last := by
  obtain ⟨i1, gi, gz0, gz1, gz2⟩ := info_parts Tryz.infoInt
  have k0 := (h.blk.cell o).trans h.c0
  obtain ⟨ao, cap, hv, hcase⟩ := h.shape
  rw [hv] at k0
  have Hv : Hid (vL = .slice ao hs.length cap) := hv
  clear hv
  rcases hcase with h0 | ⟨g, rfl⟩
  all_goals
    go_enter Tryz.func82, Tryz.ntmps82
    go_wp2_with fail
    go_loopg [4, 12] hs.length (fun k v x wr => ∃ q : Nat, x = .int .i64 q ∧ q + k = hs.length ∧ Below w.heap.size w wr ∧ Row wr v 3 1 (hdTo hs (fun x => x.env == key) q).length ((hdTo hs (fun x => x.env == key) q).map (.int .i64)) ∧ ∀ x, v.ownBlock = some x → w.heap.size ≤ x)
    case atStart => exact ⟨0, rfl, by omega, Below.refl _ _, Row.nil _ _ _, by simp [Value.ownBlock]⟩
    case round =>
      obtain ⟨q, rfl, hk, hbl, hrow, hnew⟩ := hrel
      have HK : Hid (q + gk = hs.length) := hk
      have hq : q ≤ hs.length := by omega
      have hle := hdTo_len hs (fun x => x.env == key) q
      have hsz := hbl.size
      obtain ⟨ao5, cap5, hv5, _⟩ := hrow.shape
      subst hv5
      clear hk
      by_cases hlt : q < hs.length
      · first
        | (exfalso; omega; done)
        | (obtain ⟨x, hx⟩ : ∃ x, hs[q]? = some x := ⟨hs[q], by simp⟩
           obtain ⟨c0, c1, c2, c3, c4⟩ := (h.below hbl).heldAt Hv.out hx
           have HS : Hid (hdTo hs (fun x => x.env == key) (q + 1) = hdTo hs (fun x => x.env == key) q ++ if x.env == key then [x.h] else []) := hdTo_succ _ hx
           clear hx
           cases he : (x.env == key)
           · have HW : Hid (hdTo hs (fun x => x.env == key) (q + 1) = hdTo hs (fun x => x.env == key) q) := by have := HS.out; rw [he] at this; simpa [Hid] using this
             clear HS
             go_wp2_with fail
             go_roundg (gk - 1)
             case measure => have := HK.out; omega
             case rel => exact ⟨q + 1, by go_num, by have := HK.out; omega, hbl.alloc hsz _, by rw [HW.out]; exact hrow.alloc _, hnew⟩
           · have HW : Hid (hdTo hs (fun x => x.env == key) (q + 1) = hdTo hs (fun x => x.env == key) q ++ [x.h]) := by have := HS.out; rw [he] at this; simpa [Hid] using this
             have hR' := (hrow.alloc (.cells #[.int .i64 x.h, .int .i64 x.env, .int .i64 x.fr, .bool x.wr, .int .i64 x.par] 132)).alloc (.cells [.int .i64 x.h].toArray 3)
             have hN := Blk.at (wr.alloc (.cells #[.int .i64 x.h, .int .i64 x.env, .int .i64 x.fr, .bool x.wr, .int .i64 x.par] 132)) [Value.int .i64 x.h] 3 (wr.heap.size + 1) (by simp)
             clear HS hrow
             go_wp2_with (at_builtin; refine wpList_append_lies _ rfl (.tmp 21) (.tmp 25) 66 rfl 0 3 i1 _ 1 8 Tryz.underlying66 gi gz0 gz1 gz2 rfl (by decide) (.slice ao5 (hdTo hs (fun x => x.env == key) q).length cap5) (hdTo hs (fun x => x.env == key) q).length _ rfl hR' ⟨wr.heap.size + 1, 0, none⟩ 1 1 [.int .i64 x.h] rfl rfl ?c1 ?c2 (by omega) ?b1 ?b2 (by omega) (wr.heap.size + 2) (by simp) ?nx)
             case c1 => exact World.news_of_block hN
             case c2 => exact oneCell_int _
             case b1 => unfold maxLen; omega
             case b2 => omega
             case nx =>
               intro g1 cap1 w4 hown hgrow hat hlt1
               go_wp2
               go_roundg (gk - 1)
               case measure => have := HK.out; omega
               case rel =>
                 refine ⟨q + 1, by go_num, by have := HK.out; omega, ((hbl.alloc hsz (.cells #[.int .i64 x.h, .int .i64 x.env, .int .i64 x.fr, .bool x.wr, .int .i64 x.par] 132)).alloc (by simp; omega) (.cells [.int .i64 x.h].toArray 3)).grown hgrow (by simp; omega) hnew, ?_, ?_⟩
                 · rw [HW.out]
                   simp only [List.length_append, List.map_append, List.length_cons, List.length_nil, List.map_cons, List.map_nil]
                   exact hown
                 · intro x hb
                   simp [Value.ownBlock] at hb
                   subst hb
                   rcases hat with h | h
                   · exact hnew _ h
                   · omega)
      · have hqe : q = hs.length := by omega
        have HQ : Hid (hdTo hs (fun x => x.env == key) q = hdTo hs (fun x => x.env == key) hs.length) := by rw [hqe]; exact rfl
        clear hqe
        have h' := h.below hbl
        go_wp2_with fail
        refine (endAll_any h' hm _ _ hrow (by omega)).mono ?_
        rintro e w2 ⟨rfl, hn⟩
        go_wp2_with fail
        go_end0
        rw [← HQ.out]
        exact ⟨rfl, hn.after hbl⟩
end
end Go.Proofs.YtnolplmpanbmhaaGreat
