import Derived.Test.YtkonobbhohfjlaaPStore
namespace Go.Proofs.Ytkonobbhohfjlaa
open Go.RowKit
set_option linter.unusedVariables false

theorem Row.shape {w : World} {v : Value} {e k n : Nat} {xs : List Value} (h : Row w v e k n xs) : ∃ ao cap, v = .slice ao n cap ∧ (n = 0 ∨ ∃ g, ao = some ⟨g, 0, none⟩) := by
  obtain ⟨ao, cap, g, hv, hao, _⟩ := h.view
  refine ⟨ao, cap, hv, ?_⟩
  rcases Nat.eq_zero_or_pos n with h0 | h0
  · exact .inl h0
  · exact .inr ⟨g, hao h0⟩
theorem Row.cellAt {w : World} {e k n g cap : Nat} {xs : List Value} (h : Row w (.slice (some ⟨g, 0, none⟩) n cap) e k n xs) (j : Nat) (hj : j < n * k) : w.cell? ⟨g, j, none⟩ = xs[j]? := World.ownsRow.cellAt h j hj

def hasI (l : List Int) (n : Int) : Bool := l.any fun x => x == n

set_option maxHeartbeats 1000000 in
set_option maxRecDepth 100000 in
theorem has_any {w : World} {v : Value} {l : List Int} (h : Row w v 3 1 l.length (l.map (.int .i64))) (hm : l.length ≤ 4611686018427387904) (n : Int) :
    Calls Try.prog 112 #[v, .int .i64 n] w fun e w' => e = .returned (.bool (hasI l n)) ∧ w' = w := by
  obtain ⟨ao, cap, hv, hcase⟩ := h.shape
  subst hv
  rcases hcase with h0 | ⟨g, rfl⟩
  all_goals
    go_enter Try.func112, Try.ntmps112
    go_wp2_with fail
    go_loopg [9] l.length (fun k x wr => ∃ q : Nat, x = .int .i64 q ∧ q + k = l.length ∧ (∀ i y, i < q → l[i]? = some y → (y == n) = false) ∧ wr = w)
    case atStart => exact ⟨0, rfl, by omega, fun i y hi _ => by omega, rfl⟩
    case round =>
      obtain ⟨q, rfl, hk, hno, rfl⟩ := hrel
      have HK : Hid (q + gk = l.length) := hk
      have HN : Hid (∀ i y, i < q → l[i]? = some y → (y == n) = false) := hno
      have hq : q ≤ l.length := by omega
      clear hk hno
      by_cases hlt : q < l.length
      · first
        | (exfalso; omega; done)
        | (obtain ⟨x, hx⟩ : ∃ x, l[q]? = some x := ⟨l[q], by simp⟩
           have c0 : wr.cell? ⟨g, q, none⟩ = some (.int .i64 x) := by rw [h.cellAt q (by omega), List.getElem?_map, hx]; rfl
           have HX : Hid (l[q]? = some x) := hx
           clear hx
           cases he : (x == n)
           · go_wp2_with fail
             go_roundg (gk - 1)
             case measure => have := HK.out; omega
             case rel => exact ⟨q + 1, by go_num, by have := HK.out; omega, fun i y hi hy => by
               rcases Nat.lt_or_ge i q with h1 | h1
               · exact HN.out i y h1 hy
               · obtain rfl : i = q := by omega
                 rw [HX.out] at hy
                 simp at hy
                 subst hy
                 exact he, rfl⟩
           · have HF : Hid (hasI l n = true) := by
               unfold Hid hasI
               rw [List.any_eq_true]
               exact ⟨x, List.mem_of_getElem? HX.out, he⟩
             go_wp2_with fail
             go_ret
             exact ⟨ret_bool HF.out.symm, rfl⟩)
      · go_wp2_with fail
        go_ret
        exact ⟨ret_bool (by
          unfold hasI
          rw [eq_comm, List.any_eq_false]
          intro x hx
          obtain ⟨i, hi, rfl⟩ := List.getElem_of_mem hx
          rw [HN.out i l[i] (by omega) (by simp)]; simp), rfl⟩

section
variable {own : Nat → Nat × Nat} {t : Nat × Nat} {w : World} {b o : Nat} {T : TypeId} {cs : List Value} {vL : Value} {hs : List PH} {last : Int}

/-- The right that a handle names. -/
def findP (hs : List PH) (env hd : Int) : Option PH := hs.find? fun x => x.h == hd && x.env == env
def findV (x : Option PH) : Value := match x with
  | some x => .tuple #[.agg #[.int .i64 x.h, .int .i64 x.env, .int .i64 x.fr, .bool x.wr], .bool true]
  | none => .tuple #[.agg #[.int .i64 0, .int .i64 0, .int .i64 0, .bool false], .bool false]

theorem findP_take_none {hs : List PH} {env hd : Int} (hno : ∀ i y, i < hs.length → hs[i]? = some y → (y.h == hd && y.env == env) = false) : findP hs env hd = none := by
  unfold findP
  rw [List.find?_eq_none]
  intro x hx
  obtain ⟨i, hi, rfl⟩ := List.getElem_of_mem hx
  rw [hno i hs[i] hi (by simp)]; simp
theorem findP_hit {hs : List PH} {env hd : Int} {q : Nat} {x : PH} (hx : hs[q]? = some x) (hno : ∀ i y, i < q → hs[i]? = some y → (y.h == hd && y.env == env) = false) (hy : (x.h == hd && x.env == env) = true) : findP hs env hd = some x := by
  obtain ⟨hq, he⟩ := List.getElem?_eq_some_iff.1 hx
  unfold findP
  rw [List.find?_eq_some_iff_append]
  refine ⟨hy, hs.take q, hs.drop (q + 1), ?_, ?_⟩
  · conv => lhs; rw [← List.take_append_drop q hs, List.drop_eq_getElem_cons hq, he]
  · intro y hy'
    obtain ⟨i, hi, rfl⟩ := List.getElem_of_mem hy'
    rw [List.length_take] at hi
    rw [List.getElem_take]
    rw [hno i _ (by omega) (List.getElem?_eq_getElem (by omega))]; rfl

set_option maxHeartbeats 2000000 in
set_option maxRecDepth 100000 in
theorem find_any (h : StoreAt own t w b o T cs vL hs last) (hm : hs.length ≤ 4611686018427387904) (env hd : Int) :
    Calls Try.prog 106 #[.pointer (some ⟨b, o, none⟩), .int .i64 env, .int .i64 hd] w fun e w' => e = .returned (findV (findP hs env hd)) ∧ Below w.heap.size w w' := by
  have k0 := (h.blk.cell o).trans h.c0
  obtain ⟨ao, cap, hv, hcase⟩ := h.shape
  rw [hv] at k0
  have hbl0 := h.blk.lt
  have Hv : Hid (vL = .slice ao hs.length cap) := hv
  clear hv
  rcases hcase with h0 | ⟨g, rfl⟩
  all_goals
    go_enter Try.func106, Try.ntmps106
    go_wp2_with fail
    go_loopg [15] hs.length (fun k x wr => ∃ q : Nat, x = .int .i64 q ∧ q + k = hs.length ∧ (∀ i y, i < q → hs[i]? = some y → (y.h == hd && y.env == env) = false) ∧ Below w.heap.size w wr ∧ Blk wr w.heap.size [.int .i64 0, .int .i64 0, .int .i64 0, .bool false] 64)
    case atStart => exact ⟨0, rfl, by omega, fun i y hi _ => by omega, (Below.refl _ _).alloc (Nat.le_refl _) _, Blk.new _ _ _⟩
    case round =>
      obtain ⟨q, rfl, hk, hno, hbl, hrb⟩ := hrel
      have HK : Hid (q + gk = hs.length) := hk
      have HN : Hid (∀ i y, i < q → hs[i]? = some y → (y.h == hd && y.env == env) = false) := hno
      have hq : q ≤ hs.length := by omega
      have hrl := hrb.lt
      have r0 := hrb.cell 0
      have r1 := hrb.cell 1
      have r2 := hrb.cell 2
      have r3 := hrb.cell 3
      simp at r0 r1 r2 r3
      have s0 := hrb.frozen 0
      have s1 := hrb.frozen 1
      have s2 := hrb.frozen 2
      have s3 := hrb.frozen 3
      clear hk hno
      by_cases hlt : q < hs.length
      · first
        | (exfalso; omega; done)
        | (obtain ⟨x, hx⟩ : ∃ x, hs[q]? = some x := ⟨hs[q], by simp⟩
           obtain ⟨c0, c1, c2, c3, c4⟩ := (h.below hbl).heldAt Hv.out hx
           have HX : Hid (hs[q]? = some x) := hx
           clear hx
           have hnext : (x.h == hd && x.env == env) = false → ∀ i y, i < q + 1 → hs[i]? = some y → (y.h == hd && y.env == env) = false := fun hf i y hi hy => by
             rcases Nat.lt_or_ge i q with h1 | h1
             · exact HN.out i y h1 hy
             · obtain rfl : i = q := by omega
               rw [HX.out] at hy
               simp at hy
               subst hy
               exact hf
           have HNX : Hid ((x.h == hd && x.env == env) = false → ∀ i y, i < q + 1 → hs[i]? = some y → (y.h == hd && y.env == env) = false) := hnext
           clear hnext
           cases he : (x.h == hd)
           · go_wp2_with fail
             go_roundg (gk - 1)
             case measure => have := HK.out; omega
             case rel => exact ⟨q + 1, by go_num, by have := HK.out; omega, HNX.out (by simp [he]), hbl.alloc hbl.size _, hrb.alloc _⟩
           · cases hf : (x.env == env)
             · go_wp2_with fail
               go_roundg (gk - 1)
               case measure => have := HK.out; omega
               case rel => exact ⟨q + 1, by go_num, by have := HK.out; omega, HNX.out (by simp [hf]), hbl.alloc hbl.size _, hrb.alloc _⟩
             · have HF : Hid (findP hs env hd = some x) := findP_hit HX.out HN.out (by simp [he, hf])
               clear HNX HN
               go_wp2_with fail
               exact bodyPost_ret (v := .tuple #[.agg #[.int .i64 x.h, .int .i64 x.env, .int .i64 x.fr, .bool x.wr], .bool true]) (by simp [results, Try.results106, go_sem, r0, r1, r2, r3, hrl]) rfl ⟨by rw [HF.out]; rfl, ((((hbl.setCell (by simp) _).setCell (by simp) _).setCell (by simp) _).setCell (by simp) _).alloc (by simpa using hbl.size) _⟩)
      · have HF : Hid (findP hs env hd = none) := findP_take_none (fun i y hi => HN.out i y (by omega))
        go_wp2_with fail
        exact bodyPost_ret (v := .tuple #[.agg #[.int .i64 0, .int .i64 0, .int .i64 0, .bool false], .bool false]) (by simp [results, Try.results106, go_sem, r0, r1, r2, r3]) rfl ⟨by rw [HF.out]; rfl, (((hbl.setCell (by simp) _).setCell (by simp) _).setCell (by simp) _).setCell (by simp) _⟩
end
end Go.Proofs.Ytkonobbhohfjlaa
