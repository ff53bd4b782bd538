import Derived.Test.YtinlkcmdbjcofabM16
/-
  'noise'.
-/
namespace Go.Proofs.Ytinlkcmdbjcofab
open Go.RowKit
set_option linter.unusedVariables false
attribute [local go_sem ↓] Go.wp_at_zero Go.wp_at_succ

def box3 (w : World) (o : LStep) (a b c : Int) : World := (w.alloc (.cells #[.int .i64 o.K, .int .i64 o.V, .int .i64 o.A, .int .i64 o.B, .int .i64 o.C, .bool o.F] 31)).alloc (.cells #[.int .i64 a, .int .i64 b, .int .i64 c] 27)

section
variable {M : MT} {w0 w w' : World} {m i : Nat} {own : Nat → Nat × Nat} {s s' : RSt}

set_option maxHeartbeats 4000000 in
set_option maxRecDepth 100000 in
theorem noiseK_any (P : Api M) (h : SK M w0 m i own s w) (hi : (i + 2) * 48 ≤ 140737488355328) (o : LStep) (ho : o.i64) (a b c : Nat) (hb : b ≤ 8) (hc : c ≤ 4) (hc2 : 2 ≤ c) :
    Calls Try.prog 14 #[.pointer (some ⟨m, 0, none⟩), .agg #[.int .i64 o.K, .int .i64 o.V, .int .i64 o.A, .int .i64 o.B, .int .i64 o.C, .bool o.F], .agg #[.int .i64 a, .int .i64 b, .int .i64 c]] w fun e w' => e = .returned (.tuple #[]) ∧ ∃ s', Nk s s' ∧ SKN M w0 m (i + 1) own s' w w' := by
  obtain ⟨⟨v0, v1⟩, ⟨a0, a1⟩, ⟨b0, b1⟩, ⟨c0, c1⟩⟩ := ho
  have hW0 : Below w.heap.size w (box3 w o a b c) := ((Below.refl _ _).alloc (Nat.le_refl _) _).alloc (by simp) _
  have ht := h.top w.heap.size (Nat.le_refl _)
  have ht2 := h.top (w.heap.size + 1) (by omega)
  have hc1' : IntKind.i64.wrap ((c : Int) - 1) = (c : Int) - 1 := by rw [IntKind.wrap_i64]; omega
  go_enter Try.func14, Try.ntmps14
  have ie4 : (c : Int) ≤ 4611686018427387904 := by omega
  have hs0 := h.below P hW0
  go_wp2_with fail
  refine (pick_ex _ _ v0 v1 (by omega) (by omega) _).mono ?_
  rintro e w5 ⟨k, hk, rfl, hw5⟩
  subst w5
  obtain ⟨env, henv⟩ : ∃ env : Nat, (env : Int) = 1 + (k : Int) := ⟨1 + k, by omega⟩
  have hv1 : IntKind.i64.wrap (1 + (k : Int)) = (env : Int) := by rw [IntKind.wrap_i64]; omega
  have h1 : 1 ≤ env := by omega
  have h2 : env < c := by omega
  have ie : I64 (env : Int) := ⟨by omega, by omega⟩
  have hW := hW0.drew
  have hs := h.below P hW
  have hbx := ((Blk.new w [.int .i64 o.K, .int .i64 o.V, .int .i64 o.A, .int .i64 o.B, .int .i64 o.C, .bool o.F] 31).alloc (.cells #[.int .i64 a, .int .i64 b, .int .i64 c] 27)).drew
  have hcx := (Blk.at (w.alloc (.cells #[.int .i64 o.K, .int .i64 o.V, .int .i64 o.A, .int .i64 o.B, .int .i64 o.C, .bool o.F] 31)) [.int .i64 a, .int .i64 b, .int .i64 c] 27 (w.heap.size + 1) (by simp)).drew
  have hb1' : IntKind.i64.wrap ((b : Int) + 1) = (b : Int) + 1 := by rw [IntKind.wrap_i64]; omega
  clear henv hk
  by_cases hK0 : o.K = 0
  · have y0 : (o.K == 0) = true := by simp [hK0]
    clear hK0
    go_wp2_with fail
    refine (hs0.alloc P hi env ie).mono ?_
    rintro e w6 ⟨rfl, hn⟩
    go_wp2_with fail
    go_end0
    exact ⟨rfl, _, nk_alloc _, hn.after hW0⟩
  have y0 : (o.K == 0) = false := beq_eq_false_iff_ne.2 hK0
  by_cases hK1 : o.K = 1
  · have y1 : (o.K == 1) = true := by simp [hK1]
    clear hK0 hK1
    go_wp2_with fail
    go_region_held3 (fun w' => w'.cell? ⟨w.heap.size, 2, none⟩ = some (.int .i64 o.A) ∧ w'.cell? ⟨w.heap.size, 3, none⟩ = some (.int .i64 o.B) ∧ w'.cell? ⟨w.heap.size, 5, none⟩ = some (.bool o.F) ∧ w'.cell? ⟨w.heap.size + 1, 2, none⟩ = some (.int .i64 c)) (go_keep)
      ((first
        | (go_at_call 29; refine (handle_any _ (by first | exact a0 | exact b0) (by first | exact a1 | exact b1) _).mono ?_; rintro e w5 ⟨hd, hhd, rfl, hw5⟩; subst hw5)
        | (go_at_call 15; refine (pick_ex _ _ (by first | exact b0 | exact c0) (by first | exact b1 | exact c1) (by first | decide | omega) (by first | decide | omega) _).mono ?_; rintro e w5 ⟨te, hte, rfl, hw5⟩; subst hw5)
        | (go_at_call 19; refine (hs.derive P hi env _ _ o.F ie ⟨by omega, by omega⟩ ⟨by omega, by omega⟩).mono ?_; rintro e w6 ⟨rfl, hn⟩
           have e2 := (hn.blk hbx (by rw [ht]; omega)).cell 2
           have e3 := (hn.blk hbx (by rw [ht]; omega)).cell 3
           have e5 := (hn.blk hbx (by rw [ht]; omega)).cell 5
           have f2 := (hn.blk hcx (by rw [ht2]; omega)).cell 2
           simp at e2 e3 e5 f2)))
    go_wp2_with fail
    go_end0
    exact ⟨rfl, _, nk_derive _ _ _ _, hn.after hW⟩
  have y1 : (o.K == 1) = false := beq_eq_false_iff_ne.2 hK1
  by_cases hK4 : o.K = 4
  · have y4 : (o.K == 4) = true := by simp [hK4]
    clear hK0 hK1 hK4
    go_wp2_with fail
    go_region_held3 (fun w' => w'.cell? ⟨w.heap.size, 2, none⟩ = some (.int .i64 o.A) ∧ w'.cell? ⟨w.heap.size, 3, none⟩ = some (.int .i64 o.B) ∧ w'.cell? ⟨w.heap.size, 4, none⟩ = some (.int .i64 o.C) ∧ w'.cell? ⟨w.heap.size, 5, none⟩ = some (.bool o.F) ∧ w'.cell? ⟨w.heap.size + 1, 1, none⟩ = some (.int .i64 b)) (go_keep)
      ((first
        | (go_at_call 29; refine (handle_any _ (by first | exact a0 | exact b0) (by first | exact a1 | exact b1) _).mono ?_; rintro e w5 ⟨hd, hhd, rfl, hw5⟩; subst hw5)
        | (go_at_call 30; refine (page_any _ a0 a1 _).mono ?_; rintro e w5 ⟨pg, hpg0, hpg1, rfl, hw5⟩; subst hw5)
        | (go_at_call 15; refine (pick_ex _ _ (by first | exact b0 | exact c0) (by first | exact b1 | exact c1) (by first | decide | omega) (by first | decide | omega) _).mono ?_; rintro e w5 ⟨te, hte, rfl, hw5⟩; subst hw5)
        | (go_at_call 16; refine (hs.map P hi env _ _ o.F _ ie ⟨by omega, by omega⟩ ⟨by omega, by omega⟩ ⟨by omega, by omega⟩).mono ?_; rintro e w6 ⟨rfl, hn⟩
           have e2 := (hn.blk hbx (by rw [ht]; omega)).cell 2
           have e3 := (hn.blk hbx (by rw [ht]; omega)).cell 3
           have e4 := (hn.blk hbx (by rw [ht]; omega)).cell 4
           have e5 := (hn.blk hbx (by rw [ht]; omega)).cell 5
           have f1 := (hn.blk hcx (by rw [ht2]; omega)).cell 1
           simp at e2 e3 e4 e5 f1)))
    go_wp2_with fail
    go_end0
    exact ⟨rfl, _, nk_map _ _ _ _ _, hn.after hW⟩
  have y4 : (o.K == 4) = false := beq_eq_false_iff_ne.2 hK4
  by_cases hK5 : o.K = 5
  · have y5 : (o.K == 5) = true := by simp [hK5]
    clear hK0 hK1 hK4 hK5
    go_wp2_with fail
    refine (page_any _ a0 a1 _).mono ?_
    rintro e w5 ⟨pg, hpg0, hpg1, rfl, hw5⟩
    subst w5
    go_wp2_with fail
    refine (hs0.unmap P hi env pg ie ⟨by omega, by omega⟩).mono ?_
    rintro e w6 ⟨rfl, hn⟩
    go_wp2_with fail
    go_end0
    exact ⟨rfl, _, nk_unmap _ _, hn.after hW0⟩
  have y5 : (o.K == 5) = false := beq_eq_false_iff_ne.2 hK5
  by_cases hK7 : o.K = 7
  · have y7 : (o.K == 7) = true := by simp [hK7]
    have y6 : (o.K == 6) = false := by simp [hK7]
    clear hK0 hK1 hK4 hK5 hK7
    go_wp2_with fail
    go_region_held3 (fun w' => w'.cell? ⟨w.heap.size, 2, none⟩ = some (.int .i64 o.A) ∧ w'.cell? ⟨w.heap.size, 3, none⟩ = some (.int .i64 o.B)) (go_keep)
      ((first
        | (go_at_call 15; refine (pick_ex _ _ (by first | exact a0 | exact b0) (by first | exact a1 | exact b1) (by first | decide | omega) (by first | decide | omega) _).mono ?_; rintro e w5 ⟨te, hte, rfl, hw5⟩; subst hw5)
        | (go_at_call 36; refine (hs.keep P hi env _ _ ie ⟨by omega, by omega⟩ ⟨by omega, by omega⟩).mono ?_; rintro e w6 ⟨rfl, hn⟩
           have e2 := (hn.blk hbx (by rw [ht]; omega)).cell 2
           have e3 := (hn.blk hbx (by rw [ht]; omega)).cell 3
           simp at e2 e3)))
    go_wp2_with fail
    go_end0
    exact ⟨rfl, _, nk_keep h1 _ _, hn.after hW⟩
  have y7 : (o.K == 7) = false := beq_eq_false_iff_ne.2 hK7
  by_cases hK8 : o.K = 8
  · have y8 : (o.K == 8) = true := by simp [hK8]
    have y6 : (o.K == 6) = false := by simp [hK8]
    clear hK0 hK1 hK4 hK5 hK7 hK8
    go_wp2_with fail
    refine (pick_ex _ _ a0 a1 (by decide) (by decide) _).mono ?_
    rintro e w5 ⟨te, hte, rfl, hw5⟩
    subst w5
    go_wp2_with fail
    refine (hs0.read P hi env te ie ⟨by omega, by omega⟩).mono ?_
    rintro e w6 ⟨rfl, hn⟩
    go_wp2_with fail
    go_end0
    exact ⟨rfl, _, nk_read h.hok h1 _, hn.after hW0⟩
  have y8 : (o.K == 8) = false := beq_eq_false_iff_ne.2 hK8
  by_cases hK9 : o.K = 9
  · have y9 : (o.K == 9) = true := by simp [hK9]
    have y6 : (o.K == 6) = false := by simp [hK9]
    clear hK0 hK1 hK4 hK5 hK7 hK8 hK9
    go_wp2_with fail
    go_region_held3 (fun w' => w'.cell? ⟨w.heap.size, 2, none⟩ = some (.int .i64 o.A) ∧ w'.cell? ⟨w.heap.size, 3, none⟩ = some (.int .i64 o.B)) (go_keep)
      ((first
        | (go_at_call 15; refine (pick_ex _ _ (by first | exact a0 | exact b0) (by first | exact a1 | exact b1) (by first | decide | omega) (by first | decide | omega) _).mono ?_; rintro e w5 ⟨te, hte, rfl, hw5⟩; subst hw5)
        | (go_at_call 38; refine (hs.write P hi env _ _ ie ⟨by omega, by omega⟩ ⟨by omega, by omega⟩).mono ?_; rintro e w6 ⟨rfl, hn⟩
           have e2 := (hn.blk hbx (by rw [ht]; omega)).cell 2
           have e3 := (hn.blk hbx (by rw [ht]; omega)).cell 3
           simp at e2 e3)))
    go_wp2_with fail
    go_end0
    exact ⟨rfl, _, nk_write h.hok h1 _ _, hn.after hW⟩
  have y9 : (o.K == 9) = false := beq_eq_false_iff_ne.2 hK9
  by_cases hK6 : o.K = 6
  · have y6 : (o.K == 6) = true := by simp [hK6]
    clear hK0 hK1 hK4 hK5 hK6 hK7 hK8 hK9
    go_wp2_with fail
    go_region_held3 (fun w' => w'.cell? ⟨w.heap.size, 2, none⟩ = some (.int .i64 o.A) ∧ w'.cell? ⟨w.heap.size, 3, none⟩ = some (.int .i64 o.B) ∧ w'.cell? ⟨w.heap.size, 4, none⟩ = some (.int .i64 o.C)) (go_keep)
      ((first
        | (go_at_call 30; refine (page_any _ a0 a1 _).mono ?_; rintro e w5 ⟨pg, hpg0, hpg1, rfl, hw5⟩; subst hw5)
        | (go_at_call 15; refine (pick_ex _ _ (by first | exact b0 | exact c0) (by first | exact b1 | exact c1) (by first | decide | omega) (by first | decide | omega) _).mono ?_; rintro e w5 ⟨te, hte, rfl, hw5⟩; subst hw5)
        | (go_at_call 18; refine (hs.store P hi env _ _ _ ie ⟨by omega, by omega⟩ ⟨by omega, by omega⟩ ⟨by omega, by omega⟩).mono ?_; rintro e w6 ⟨rfl, hn⟩
           have e2 := (hn.blk hbx (by rw [ht]; omega)).cell 2
           have e3 := (hn.blk hbx (by rw [ht]; omega)).cell 3
           have e4 := (hn.blk hbx (by rw [ht]; omega)).cell 4
           simp at e2 e3 e4)))
    go_wp2_with fail
    go_end0
    exact ⟨rfl, _, nk_store _ _ _ _, hn.after hW⟩
  · have y6 : (o.K == 6) = false := beq_eq_false_iff_ne.2 hK6
    clear hK0 hK1 hK4 hK5 hK6 hK7 hK8 hK9
    go_wp2_with fail
    refine (endsK_any P hs0 hi o ⟨⟨v0, v1⟩, ⟨a0, a1⟩, ⟨b0, b1⟩, ⟨c0, c1⟩⟩ env h1 (by omega)).mono ?_
    rintro e w6 ⟨rfl, s2, hns, hn⟩
    go_wp2_with fail
    go_end0
    exact ⟨rfl, s2, hns, hn.after hW0⟩
end
end Go.Proofs.Ytinlkcmdbjcofab

/-
  A kept memory as a statement knows it; its accesses.
-/
namespace Go.Proofs.Ytinlkcmdbjcofab
open Go.RowKit
set_option linter.unusedVariables false
attribute [local go_sem ↓] Go.wp_at_zero Go.wp_at_succ

def flcells (m a b c : Nat) (bytes : List Int) (dl : List Bool) (has : Bool) (q : Int) : List Value := [.pointer (some ⟨m, 0, none⟩), .int .i64 a, .int .i64 b, .int .i64 c] ++ (bytes.map (.int .i64) ++ (dl.map .bool ++ [.bool has, .int .i64 q]))
theorem fc_byte {m a b c : Nat} {bytes : List Int} {dl : List Bool} {has : Bool} {q : Int} {j : Nat} (hj : j < bytes.length) : (flcells m a b c bytes dl has q)[4 + j]? = (bytes[j]?).map (.int .i64) := by
  unfold flcells
  rw [List.getElem?_append_right (by simp), List.getElem?_append_left (by simp; omega), List.getElem?_map]
  simp
theorem fc_dirty {m a b c : Nat} {bytes : List Int} {dl : List Bool} {has : Bool} {q : Int} {j : Nat} (hb : bytes.length = 64) (hj : j < dl.length) : (flcells m a b c bytes dl has q)[68 + j]? = (dl[j]?).map .bool := by
  unfold flcells
  rw [List.getElem?_append_right (by simp; omega), List.getElem?_append_right (by simp [hb]; omega), List.getElem?_append_left (by simp [hb]; omega), List.getElem?_map]
  simp [hb]
  congr 2; omega
theorem fc_has {m a b c : Nat} {bytes : List Int} {dl : List Bool} {has : Bool} {q : Int} (hb : bytes.length = 64) (hd : dl.length = 16) : (flcells m a b c bytes dl has q)[84]? = some (.bool has) := by
  unfold flcells
  rw [List.getElem?_append_right (by simp), List.getElem?_append_right (by simp [hb]), List.getElem?_append_right (by simp [hb, hd])]
  simp [hb, hd]
theorem fc_quota {m a b c : Nat} {bytes : List Int} {dl : List Bool} {has : Bool} {q : Int} (hb : bytes.length = 64) (hd : dl.length = 16) : (flcells m a b c bytes dl has q)[85]? = some (.int .i64 q) := by
  unfold flcells
  rw [List.getElem?_append_right (by simp), List.getElem?_append_right (by simp [hb]), List.getElem?_append_right (by simp [hb, hd])]
  simp [hb, hd]
theorem fc_setByte {m a b c : Nat} {bytes : List Int} {dl : List Bool} {has : Bool} {q : Int} {j : Nat} (hj : j < bytes.length) (v : Int) : (flcells m a b c bytes dl has q).set (4 + j) (.int .i64 v) = flcells m a b c (bytes.set j v) dl has q := by
  unfold flcells
  rw [List.set_append_right _ _ (by simp), List.set_append_left _ _ (by simp; omega)]
  simp
theorem fc_setDirty {m a b c : Nat} {bytes : List Int} {dl : List Bool} {has : Bool} {q : Int} {j : Nat} (hb : bytes.length = 64) (hj : j < dl.length) (v : Bool) : (flcells m a b c bytes dl has q).set (68 + j) (.bool v) = flcells m a b c bytes (dl.set j v) has q := by
  unfold flcells
  rw [List.set_append_right _ _ (by simp; omega), List.set_append_right _ _ (by simp [hb]; omega), List.set_append_left _ _ (by simp [hb]; omega)]
  have e : 68 + j - [Value.pointer (some ⟨m, 0, none⟩), .int .i64 a, .int .i64 b, .int .i64 c].length - (bytes.map (Value.int .i64)).length = j := by simp [hb]; omega
  rw [e, List.map_set]
theorem fc_setHas {m a b c : Nat} {bytes : List Int} {dl : List Bool} {has : Bool} {q : Int} (hb : bytes.length = 64) (hd : dl.length = 16) (v : Bool) : (flcells m a b c bytes dl has q).set 84 (.bool v) = flcells m a b c bytes dl v q := by
  unfold flcells
  rw [List.set_append_right _ _ (by simp), List.set_append_right _ _ (by simp [hb]), List.set_append_right _ _ (by simp [hb, hd])]
  simp [hb, hd]
theorem fc_setQuota {m a b c : Nat} {bytes : List Int} {dl : List Bool} {has : Bool} {q : Int} (hb : bytes.length = 64) (hd : dl.length = 16) (v : Int) : (flcells m a b c bytes dl has q).set 85 (.int .i64 v) = flcells m a b c bytes dl has v := by
  unfold flcells
  rw [List.set_append_right _ _ (by simp), List.set_append_right _ _ (by simp [hb]), List.set_append_right _ _ (by simp [hb, hd])]
  simp [hb, hd]

section
variable {M : MT} {w0 w w' : World} {m i bf : Nat} {own : Nat → Nat × Nat} {s s' : RSt} {k : KSt} {has : Bool} {a b c : Nat}
theorem SK.put (P : Api M) (h : SK M w0 m i own s w) {bf j : Nat} (hb : (own bf).1 ≠ 2) (h0 : w0.heap.size ≤ bf) (v : Value) : SK M w0 m i own s (w.setCell ⟨bf, j, none⟩ v) := by
  refine ⟨P.of h.rep (fun _ _ => rfl) (fun x _ hx => Below.heap_setCell _ _ _ _ (fun e => hb (by simp at e; rw [← e]; exact hx))), h.hok, h.sz, h.bot, fun x hx => h.top x (by simpa using hx), h.bel.setCell h0 _⟩

/-- Environment 0 of the machine at m is kept, with k; at bf lies what the statement knows of it. -/
structure FK (M : MT) (w0 : World) (m bf i : Nat) (own : Nat → Nat × Nat) (s : RSt) (w : World) (k : KSt) (has : Bool) (a b c : Nat) : Prop where
  sk : SK M w0 m i own s w
  ke : keptO s 0 = some k
  blk : Blk w bf (flcells m a b c k.bytes k.dty has k.quota) 52
  tag : (own bf).1 = 0
  new : w0.heap.size ≤ bf
  hs : has = true → 0 < k.inp.length
  nq : (k.inp.length : Int) ≤ k.quota
  nf : s.nf = a
  ns : s.ns = b
  ne : s.ne = c
theorem FK.at (h : FK M w0 m bf i own s w k has a b c) : s.kept[0]? = some (some k) := keptO_get (i := 0) h.ke
theorem FK.len (h : FK M w0 m bf i own s w k has a b c) : KLen0 k (-1) k.uses.length := (h.sk.hok.kok.k1 0 k h.at).len
theorem FK.mono (h : FK M w0 m bf i own s w k has a b c) {j : Nat} (hj : i ≤ j) : FK M w0 m bf j own s w k has a b c := ⟨h.sk.mono hj, h.ke, h.blk, h.tag, h.new, h.hs, h.nq, h.nf, h.ns, h.ne⟩
theorem FK.below (P : Api M) (h : FK M w0 m bf i own s w k has a b c) (hb : Below w.heap.size w w') : FK M w0 m bf i own s w' k has a b c := ⟨h.sk.below P hb, h.ke, h.blk.below hb h.blk.lt, h.tag, h.new, h.hs, h.nq, h.nf, h.ns, h.ne⟩
/-- What the others do. -/
theorem FK.noise (h : FK M w0 m bf i own s w k has a b c) {j : Nat} (hn : Nk s s') (hs : SKN M w0 m j own s' w w') : ∃ own', FK M w0 m bf j own' s' w' k has a b c ∧ (∀ x, x < w.heap.size → own' x = own x) ∧ (∀ x, x < w.heap.size → (own x).1 ≠ 2 → w'.heap[x]? = w.heap[x]?) ∧ w.heap.size ≤ w'.heap.size := by
  obtain ⟨own', h1, h2, h3, h4⟩ := hs
  have hl := h.blk.lt
  exact ⟨own', ⟨h1, hn.1.trans h.ke, h.blk.of (h3 bf hl (by rw [h.tag]; omega)), by rw [h2 bf hl]; exact h.tag, h.new, h.hs, h.nq, hn.2.1.trans h.nf, hn.2.2.1.trans h.ns, hn.2.2.2.trans h.ne⟩, h2, h3, h4⟩

set_option maxHeartbeats 1000000 in
theorem answered_ok (has : Bool) {q : Int} {bytes : List Int} {dl : List Bool} {a b c : Nat} (hb : bytes.length = 64) (hd : dl.length = 16) (hk : Blk w bf (flcells m a b c bytes dl has q) 52) :
    Calls Try.prog 51 #[.pointer (some ⟨bf, 0, none⟩), .int .i64 0] w fun e w' => e = .returned (.bool true) ∧ w' = w.setCell ⟨bf, 84, none⟩ (.bool true) := by
  have k84 := (hk.cell 84).trans (fc_has hb hd)
  have z84 := hk.frozen 84
  go_enter Try.func51, Try.ntmps51
  go_wp2_with fail
  go_ret
  exact ⟨rfl, rfl⟩
set_option maxHeartbeats 1000000 in
theorem answered_full {q : Int} {bytes : List Int} {dl : List Bool} {a b c : Nat} (hb : bytes.length = 64) (hd : dl.length = 16) (hk : Blk w bf (flcells m a b c bytes dl false q) 52) :
    Calls Try.prog 51 #[.pointer (some ⟨bf, 0, none⟩), .int .i64 12] w fun e w' => e = .returned (.bool true) ∧ w' = w := by
  have k84 := (hk.cell 84).trans (fc_has hb hd)
  go_enter Try.func51, Try.ntmps51
  go_wp2_with fail
  go_ret
  exact ⟨rfl, rfl⟩

/-- What an access leaves: refused, and nothing has turned; or an access. -/
def Acced (s : RSt) (k : KSt) (has : Bool) (page : Nat) (wt : Bool) (s' : RSt) (k' : KSt) (has' : Bool) : Prop :=
  (has = false ∧ has' = false ∧ s' = s ∧ k' = k ∧ k.inp.length = 0 ∧ (if (k.inp.length : Int) < k.quota then firstS s ((0 : Nat) : Int) else none) = none) ∨ (has' = true ∧ Acc s k 0 page wt s' k')
theorem keptO_acc {s' : RSt} {k' : KSt} {page : Nat} {wt : Bool} (h : Acc s k 0 page wt s' k') (hg : s.kept[0]? = some (some k)) : keptO s' 0 = some k' := keptO_at (i := 0) (by rw [h.kept, List.getElem?_set_self (kept_lt hg)])

set_option maxHeartbeats 4000000 in
set_option maxRecDepth 100000 in
theorem facc_any (P : Api M) (h : FK M w0 m bf i own s w k has a b c) (hi : (i + 2) * 48 ≤ 140737488355328) (o : LStep) (ho : o.i64) :
    Calls Try.prog 23 #[.pointer (some ⟨bf, 0, none⟩), .agg #[.int .i64 o.K, .int .i64 o.V, .int .i64 o.A, .int .i64 o.B, .int .i64 o.C, .bool o.F]] w fun e w' => e = .returned (.bool true) ∧ ∃ own' s' k' has', FK M w0 m bf (i + 1) own' s' w' k' has' a b c ∧ Acced s k has (pk o.A 64 / 4) o.F s' k' has' ∧
      (∀ x, x < w.heap.size → own' x = own x) ∧ (∀ x, x < w.heap.size → (own x).1 ≠ 2 → x ≠ bf → w'.heap[x]? = w.heap[x]?) ∧ w.heap.size ≤ w'.heap.size := by
  obtain ⟨⟨v0, v1⟩, ⟨a0, a1⟩, ⟨b0, b1⟩, ⟨c0, c1⟩⟩ := ho
  have hA := pk_lt o.A (show 0 < 64 by omega)
  have hB := pk_lt o.B (show 0 < 256 by omega)
  have hba : Below w.heap.size w (w.alloc (.cells #[.int .i64 o.K, .int .i64 o.V, .int .i64 o.A, .int .i64 o.B, .int .i64 o.C, .bool o.F] 31)) := (Below.refl _ _).alloc (Nat.le_refl _) _
  have hf := h.below P hba
  have hL := h.len
  have hbl := h.blk.lt
  have m0 := hf.blk.cell 0
  simp [flcells] at m0
  have pA := pick_any o.A a0 a1 64 (by omega) (by omega)
  have pB := pick_any o.B b0 b1 256 (by omega) (by omega)
  obtain ⟨A, hAe⟩ : ∃ A, pk o.A 64 = A := ⟨_, rfl⟩
  obtain ⟨B, hBe⟩ : ∃ B, pk o.B 256 = B := ⟨_, rfl⟩
  rw [hAe] at pA hA ⊢
  rw [hBe] at pB hB
  have ie : I64 0 := by unfold I64; omega
  have iA : I64 (A : Int) := ⟨by omega, by omega⟩
  have iB : I64 (B : Int) := ⟨by omega, by omega⟩
  have hkB := h.at
  obtain ⟨F, hF⟩ : ∃ F, o.F = F := ⟨_, rfl⟩
  rw [hF] at hba hf m0 ⊢
  clear hF
  cases F
  · rcases read_cases h.sk.hok h.ke hA with ⟨hr, hn0, hnf⟩ | ⟨s', k', hr, hacc, hby⟩
    · have hno : has = false := by
        cases hh : has with
        | false => rfl
        | true => have := h.hs hh; omega
      subst hno
      go_enter Try.func23, Try.ntmps23
      go_wp2_with fail
      refine (pA _).mono ?_
      rintro e w1 ⟨rfl, hw1⟩
      subst w1
      go_wp2_with fail
      refine (hf.sk.read P hi 0 A ie iA).mono ?_
      rintro e w2 ⟨rfl, hn⟩
      rw [hr] at hn ⊢
      have hb2 := hn.blk hf.blk (by rw [hf.tag]; omega)
      have hb2l := hb2.lt
      obtain ⟨own2, h1, h2, h3, h4⟩ := hn.after hba
      go_wp2_with fail
      refine (answered_full hL.by_ hL.dty hb2).mono ?_
      rintro e w3 ⟨rfl, hw3⟩
      subst w3
      go_wp2_with fail
      go_ret
      exact ⟨rfl, own2, s, k, false, ⟨h1, h.ke, hb2, by rw [h2 bf hbl]; exact h.tag, h.new, h.hs, h.nq, h.nf, h.ns, h.ne⟩, .inl ⟨rfl, rfl, rfl, rfl, hn0, hnf⟩, h2, fun x hx hx2 _ => h3 x hx hx2, h4⟩
    · have HR : Hid (readR s 0 A = (((k.bytes[A]?).getD 0, 0), s')) := hr
      have hk' := keptO_acc hacc hkB
      go_enter Try.func23, Try.ntmps23
      go_wp2_with fail
      refine (pA _).mono ?_
      rintro e w1 ⟨rfl, hw1⟩
      subst w1
      go_wp2_with fail
      refine (hf.sk.read P hi 0 A ie iA).mono ?_
      rintro e w2 ⟨rfl, hn⟩
      rw [hr] at hn ⊢
      clear hr
      have hb2 := hn.blk hf.blk (by rw [hf.tag]; omega)
      obtain ⟨own2, h1, h2, h3, h4⟩ := hn.after hba
      have hg2 : (own2 bf).1 = 0 := by rw [h2 bf hbl]; exact h.tag
      obtain ⟨x, hx⟩ : ∃ x, k.bytes[A]? = some x := ⟨k.bytes[A]'(by rw [hL.by_]; exact hA), by simp⟩
      have e84 := fc_setHas (m := m) (a := a) (b := b) (c := c) (has := has) (q := k.quota) hL.by_ hL.dty true
      have hb3 := hb2.set 84 (.bool true)
      rw [e84] at hb3
      have c4 := (hb3.cell (4 + A)).trans (fc_byte (by rw [hL.by_]; exact hA))
      rw [hx] at c4 ⊢
      simp only [Option.map_some] at c4
      simp only [Option.getD_some]
      have hA1 : (A : Int) < 64 := by omega
      have hA0 : (0 : Int) ≤ (A : Int) := by omega
      have hxx : (x == x) = true := by simp
      clear hx
      have hst := h1.put P (bf := bf) (j := 84) (by rw [hg2]; omega) h.new (.bool true)
      obtain ⟨n1, n2, n3⟩ := (read_ok h.sk.hok h.sk.sz 0 A)
      rw [HR.out] at n1 n2 n3
      go_wp2_with fail
      refine (answered_ok has hL.by_ hL.dty hb2).mono ?_
      rintro e w3 ⟨rfl, hw3⟩
      obtain ⟨w4, hw4⟩ : ∃ w4, w2.setCell ⟨bf, 84, none⟩ (.bool true) = w4 := ⟨_, rfl⟩
      rw [hw4] at hw3 hb3 c4 hst
      subst w3
      go_wp2_with fail
      go_ret
      refine ⟨rfl, own2, s', k', true, ⟨hst, hk', ?_, hg2, h.new, fun _ => hacc.in1, by rw [hacc.qt]; exact hacc.inq h.nq, hacc.nf.trans h.nf, hacc.ns.trans h.ns, hacc.ne.trans h.ne⟩, .inr ⟨rfl, hacc⟩, h2, fun x hx hx2 hne => ?_, by rw [← hw4]; simpa using h4⟩
      · rw [hby, hacc.dty, dty_same, hacc.qt]; exact hb3
      · rw [← hw4]
        exact (Below.heap_setCell _ _ _ _ (fun e => hne (by simpa using e))).trans (h3 x hx hx2)
  · rcases write_cases h.sk.hok h.ke hA hB with ⟨hr, hn0, hnf⟩ | ⟨s', k', hr, hacc, hby⟩
    · have hno : has = false := by
        cases hh : has with
        | false => rfl
        | true => have := h.hs hh; omega
      subst hno
      go_enter Try.func23, Try.ntmps23
      go_wp2_with fail
      refine (pA _).mono ?_
      rintro e w1 ⟨rfl, hw1⟩
      subst w1
      go_wp2_with fail
      refine (pB _).mono ?_
      rintro e w1 ⟨rfl, hw1⟩
      subst w1
      go_wp2_with fail
      refine (hf.sk.write P hi 0 A B ie iA iB).mono ?_
      rintro e w2 ⟨rfl, hn⟩
      rw [hr] at hn ⊢
      have hb2 := hn.blk hf.blk (by rw [hf.tag]; omega)
      have hb2l := hb2.lt
      obtain ⟨own2, h1, h2, h3, h4⟩ := hn.after hba
      go_wp2_with fail
      refine (answered_full hL.by_ hL.dty hb2).mono ?_
      rintro e w3 ⟨rfl, hw3⟩
      subst w3
      go_wp2_with fail
      go_ret
      exact ⟨rfl, own2, s, k, false, ⟨h1, h.ke, hb2, by rw [h2 bf hbl]; exact h.tag, h.new, h.hs, h.nq, h.nf, h.ns, h.ne⟩, .inl ⟨rfl, rfl, rfl, rfl, hn0, hnf⟩, h2, fun x hx hx2 _ => h3 x hx hx2, h4⟩
    · have HR : Hid (writeR s 0 A B = (0, s')) := hr
      have hk' := keptO_acc hacc hkB
      go_enter Try.func23, Try.ntmps23
      go_wp2_with fail
      refine (pA _).mono ?_
      rintro e w1 ⟨rfl, hw1⟩
      subst w1
      go_wp2_with fail
      refine (pB _).mono ?_
      rintro e w1 ⟨rfl, hw1⟩
      subst w1
      go_wp2_with fail
      refine (hf.sk.write P hi 0 A B ie iA iB).mono ?_
      rintro e w2 ⟨rfl, hn⟩
      rw [hr] at hn ⊢
      clear hr
      have hb2 := hn.blk hf.blk (by rw [hf.tag]; omega)
      obtain ⟨own2, h1, h2, h3, h4⟩ := hn.after hba
      have hg2 : (own2 bf).1 = 0 := by rw [h2 bf hbl]; exact h.tag
      obtain ⟨x, hx⟩ : ∃ x, k.bytes[A]? = some x := ⟨k.bytes[A]'(by rw [hL.by_]; exact hA), by simp⟩
      obtain ⟨d, hd⟩ : ∃ d, k.dty[A / 4]? = some d := ⟨k.dty[A / 4]'(by rw [hL.dty]; omega), by simp⟩
      have hb3 := hb2.set 84 (.bool true)
      rw [fc_setHas hL.by_ hL.dty true] at hb3
      have c4 := (hb3.cell (4 + A)).trans (fc_byte (by rw [hL.by_]; exact hA))
      have c5 := (hb3.cell (68 + A / 4)).trans (fc_dirty hL.by_ (by rw [hL.dty]; omega))
      rw [hx] at c4
      rw [hd] at c5
      simp only [Option.map_some] at c4 c5
      have z4 := hb3.frozen (4 + A)
      have z5 := hb3.frozen (68 + A / 4)
      have hA1 : (A : Int) < 64 := by omega
      have hA0 : (0 : Int) ≤ (A : Int) := by omega
      have hA2 : (A : Int).tdiv 4 = ((A / 4 : Nat) : Int) := by rw [Int.tdiv_eq_ediv_of_nonneg (by omega)]; omega
      have hA3 : ((A / 4 : Nat) : Int) < 16 := by omega
      have hA4 : (0 : Int) ≤ ((A / 4 : Nat) : Int) := by omega
      have hst := ((h1.put P (bf := bf) (j := 84) (by rw [hg2]; omega) h.new (.bool true)).put P (bf := bf) (j := 4 + A) (by rw [hg2]; omega) h.new (.int .i64 B)).put P (bf := bf) (j := 68 + A / 4) (by rw [hg2]; omega) h.new (.bool true)
      have hb4 := (hb3.set (4 + A) (.int .i64 B))
      rw [fc_setByte (by rw [hL.by_]; exact hA)] at hb4
      have hb5 := hb4.set (68 + A / 4) (.bool true)
      rw [fc_setDirty (by simp [hL.by_]) (by rw [hL.dty]; omega)] at hb5
      have hh3 : ∀ x, x < w.heap.size → (own x).1 ≠ 2 → x ≠ bf → (((w2.setCell ⟨bf, 84, none⟩ (.bool true)).setCell ⟨bf, 4 + A, none⟩ (.int .i64 B)).setCell ⟨bf, 68 + A / 4, none⟩ (.bool true)).heap[x]? = w.heap[x]? := fun x hx hx2 hne => by
        rw [Below.heap_setCell _ _ _ _ (by simpa using hne), Below.heap_setCell _ _ _ _ (by simpa using hne), Below.heap_setCell _ _ _ _ (by simpa using hne)]
        exact h3 x hx hx2
      clear hx hd
      go_wp2_with fail
      refine (answered_ok has hL.by_ hL.dty hb2).mono ?_
      rintro e w3 ⟨rfl, hw3⟩
      obtain ⟨w4, hw4⟩ : ∃ w4, w2.setCell ⟨bf, 84, none⟩ (.bool true) = w4 := ⟨_, rfl⟩
      rw [hw4] at hw3 hb3 hb4 hb5 c4 c5 z4 z5 hst hh3
      subst w3
      go_wp2_with fail
      go_ret
      refine ⟨rfl, own2, s', k', true, ⟨hst, hk', ?_, hg2, h.new, fun _ => hacc.in1, by rw [hacc.qt]; exact hacc.inq h.nq, hacc.nf.trans h.nf, hacc.ns.trans h.ns, hacc.ne.trans h.ne⟩, .inr ⟨rfl, hacc⟩, h2, hh3, by rw [← hw4]; simpa using h4⟩
      rw [hby, hacc.dty, hacc.qt, Bool.or_true]; exact hb5
end
end Go.Proofs.Ytinlkcmdbjcofab

/-
  What the statements without the document's answer need, as plain data.
-/
namespace Go.Proofs.Ytinlkcmdbjcofab
open Go.RowKit
set_option linter.unusedVariables false

section
variable {s t : RSt}

theorem liveE_alive {env : Int} (h : aliveB s env = true) : liveE s env = 0 := by unfold liveE; rw [h]; rfl
/-- An environment of which a right is alive is alive. -/
theorem HInv.raw (hH : HInv s) {i : Nat} {r : RR} (hr : s.rights[i]? = some r) (hl : lv s.rights i = true) : rawE s r.env = 0 := (hH.live r.env).trans (liveE_alive (hH.alv i r hr hl))
/-- A right that is alive, named by its environment. -/
theorem rightE_ok (hI : RInv s) (hH : HInv s) {i : Nat} {r : RR} (hr : s.rights[i]? = some r) (hl : lv s.rights i = true) : rightE s r.env (i + 1) = ((i : Int), (0 : Int)) := by
  have hi := (List.getElem?_eq_some_iff.1 hr).1
  have hx := hH.raw hr hl
  unfold rightE
  rw [hx]
  have h1 : (1 : Int) ≤ (i : Int) + 1 ∧ (i : Int) + 1 ≤ s.rights.length := by omega
  have h2 : ((i : Int) + 1 - 1) = i := by omega
  simp only [ne_eq, not_true_eq_false, if_false, if_pos h1, h2, Int.toNat_natCast, hr, hl, if_true]

theorem entI_at (hok : SOk s) {q : Nat} {e : Ent} (he : s.slots[q]? = some e) (hu : e.used = true) : entI s e.env e.page = q := by
  rcases entI_cases s e.env e.page with h | ⟨q2, e2, h, he2, hp2⟩
  · exfalso
    have : s.slots.findIdx? (entP e.env e.page) = none := by
      unfold entI at h
      cases hx : s.slots.findIdx? (entP e.env e.page) with
      | none => rfl
      | some i => rw [hx] at h; simp at h
    rw [List.findIdx?_eq_none_iff] at this
    have := this e (List.mem_of_getElem? he)
    simp [entP, hu] at this
  · simp [entP] at hp2
    have := hok.uni q2 q e2 e he2 he hp2.1 hu hp2.2.1 hp2.2.2
    rw [h, this]

theorem load_at (hok : SOk s) {q : Nat} {e : Ent} (he : s.slots[q]? = some e) (hu : e.used = true) (hr : rawE s e.env = 0) {a : Int} (a0 : 0 ≤ a) (a3 : a ≤ 3) : loadR s e.env e.page a = (byteAt s e.fr a, 0) := by
  obtain ⟨p0, p1, _⟩ := hok.ent q e he hu
  unfold loadR
  rw [hr, if_neg (by simp), if_neg (by omega), if_neg (by omega), entI_at hok he hu, if_neg (by omega)]
  simp only [Int.toNat_natCast, he]
theorem store_at (hok : SOk s) {q : Nat} {e : Ent} (he : s.slots[q]? = some e) (hu : e.used = true) (hw : e.wr = true) (hr : rawE s e.env = 0) {a v : Int} (a0 : 0 ≤ a) (a3 : a ≤ 3) (v0 : 0 ≤ v) (v1 : v ≤ 255) : storeR s e.env e.page a v = (0, putByte s e.fr a v) := by
  obtain ⟨p0, p1, _⟩ := hok.ent q e he hu
  unfold storeR
  rw [hr, if_neg (by simp), if_neg (by omega), if_neg (by omega), if_neg (by omega), entI_at hok he hu, if_neg (by omega)]
  simp only [Int.toNat_natCast, he, hw, Bool.not_true, Bool.false_eq_true, if_false]

theorem byte_put (hok : SOk s) {f : Int} (f0 : 0 ≤ f) (f1 : f < s.nf) {a b v : Int} (a0 : 0 ≤ a) (a3 : a ≤ 3) (b0 : 0 ≤ b) : byteAt (putByte s f a v) f b = if b = a then v else byteAt s f b := by
  have hfl : f.toNat < s.bytes.length := by rw [hok.fix.by_]; omega
  obtain ⟨l, hl⟩ : ∃ l, s.bytes[f.toNat]? = some l := ⟨s.bytes[f.toNat], by simp⟩
  have hl4 := (hok.bys _ l hl).1
  unfold byteAt putByte
  simp only [hl, Option.getD_some, List.getElem?_set_self hfl]
  by_cases hb : b = a
  · subst hb
    rw [if_pos rfl, List.getElem?_set_self (by omega)]
    rfl
  · rw [if_neg hb, List.getElem?_set_ne (by omega)]

/-- Map, where it is done. -/
theorem map_done {env page hd slot : Int} {wt : Bool} {j : Nat} {r : RR} (h0 : rawE s env = 0) (hx : rightE s env hd = ((j : Int), (0 : Int))) (hr : s.rights[j]? = some r) (hw : wt = true → r.wr = true) (p0 : 0 ≤ page) (p1 : page ≤ 15) (q0 : 0 ≤ slot) (q1 : slot < s.ns) (hok : SOk s) :
    ∃ s1, mapR s env page hd wt slot = (0, s1) ∧ s1.slots[slot.toNat]? = some ⟨true, env, page, r.fr, wt⟩ ∧ s1.rights = s.rights ∧ s1.bytes = s.bytes ∧ s1.alive = s.alive ∧ s1.ne = s.ne ∧ s1.nf = s.nf ∧ s1.ns = s.ns ∧ s1.kept = s.kept := by
  have hq : (wt && !r.wr) = false := by
    cases wt
    · rfl
    · simp [hw rfl]
  refine ⟨{ goneS s env page with slots := (goneS s env page).slots.set slot.toNat ⟨true, env, page, r.fr, wt⟩ }, ?_, ?_, rfl, rfl, rfl, rfl, rfl, rfl, rfl⟩
  · unfold mapR
    rw [h0, hx]
    simp only [ne_eq, not_true_eq_false, if_false, Int.toNat_natCast, hr, hq, Bool.false_eq_true]
    rw [if_neg (by omega), if_neg (by omega)]
  · have hl : slot.toNat < (goneS s env page).slots.length := by have := (hok.gone env page).ns; have h3 : (goneS s env page).ns = s.ns := rfl; omega
    simp only [List.getElem?_set_self hl]
end
end Go.Proofs.Ytinlkcmdbjcofab

/-
  A new machine, and its first right.
-/
namespace Go.Proofs.Ytinlkcmdbjcofab
open Go.RowKit
set_option linter.unusedVariables false

theorem St.fresh {M : MT} {w0 w : World} {m a b c : Nat} {f : Nat → Option Nat} (hm : NewF M w0 w m f (RSt.fresh a b c)) (hb : Below w0.heap.size w0 w) (ha : a ≤ 16) (hb1 : 1 ≤ b) (hb8 : b ≤ 8) (hc : c ≤ 4) : ∃ own, St M w0 m 0 own (RSt.fresh a b c) w := by
  refine ⟨fun x => match f x with | some j => (2, j) | none => (0, 0), hm.2 _ 2 (fun b j hj => by simp only [hj]), sok_fresh ha hb1 hb8 hc, hinv_fresh a b c, by simp [RSt.fresh], fun x hx => ?_, fun x hx => ?_, hb⟩
  · cases hf : f x with
    | none => rfl
    | some j => have := (hm.1 x j hf).1; omega
  · cases hf : f x with
    | none => rfl
    | some j => have := (hm.1 x j hf).2; omega

theorem fresh_raw {a b c : Nat} {env : Int} (h0 : 0 ≤ env) (h1 : env < c) : rawE (RSt.fresh a b c) env = 0 := by
  refine (rawE_nok (nok_fresh a b c env)).trans (liveE_alive ?_)
  unfold aliveB
  have : (RSt.fresh a b c).alive[env.toNat]? = some true := by simp only [RSt.fresh, List.getElem?_replicate]; rw [if_pos (by omega)]
  rw [this]
  simp only [RSt.fresh, h0, h1, decide_true, Option.getD_some, Bool.and_self]

theorem fresh_alloc {a b c : Nat} (ha : 1 ≤ a) {env : Int} (h0 : 0 ≤ env) (h1 : env < c) : ∃ s1, allocR (RSt.fresh a b c) env = ((1, 0), s1) ∧ s1.rights = [⟨1, env, 0, true, -1, false⟩] ∧ s1.slots = (RSt.fresh a b c).slots ∧ s1.alive = (RSt.fresh a b c).alive ∧ s1.ne = c ∧ s1.nf = a ∧ s1.ns = b ∧ s1.bytes = (RSt.fresh a b c).bytes ∧ s1.kept = (RSt.fresh a b c).kept := by
  have hl : leastFree (RSt.fresh a b c) = some 0 := by
    unfold leastFree
    have : (RSt.fresh a b c).nf = (a - 1) + 1 := by show a = _; omega
    rw [this, List.range_succ_eq_map, List.find?_cons]
    have : freeB (RSt.fresh a b c) 0 = true := by
      unfold freeB owned RSt.fresh
      simp
    rw [this]
  have hb : (RSt.fresh a b c).bytes.set 0 [0, 0, 0, 0] = (RSt.fresh a b c).bytes := by
    apply List.ext_getElem?
    intro i
    rw [List.getElem?_set]
    split
    · rename_i h
      subst h
      split
      · simp only [RSt.fresh, List.getElem?_replicate]; rw [if_pos (by omega)]
      · rename_i h2; simp [RSt.fresh] at h2; omega
    · rfl
  unfold allocR firstS
  rw [fresh_raw h0 h1, hl]
  have hcn : cnt (RSt.fresh a b c).rights < 32 := by simp [RSt.fresh, cnt, cntTo]
  simp only [ne_eq, not_true_eq_false, if_false, if_pos hcn, Int.natCast_zero]
  refine ⟨_, rfl, ?_, rfl, rfl, rfl, rfl, rfl, ?_, rfl⟩
  · simp [addR, RSt.fresh]
  · exact hb
theorem first_right {s : RSt} {fr : Int} (hr : s.rights = [⟨1, 0, fr, true, -1, false⟩]) (hI : RInv s) (hH : HInv s) : s.rights[0]? = some ⟨1, 0, fr, true, -1, false⟩ ∧ lv s.rights 0 = true ∧ rightE s 0 1 = (((0 : Nat) : Int), (0 : Int)) ∧ rawE s 0 = 0 := by
  have h0 : s.rights[0]? = some ⟨1, 0, fr, true, -1, false⟩ := by rw [hr]; rfl
  have hl : lv s.rights ((0 : Nat) : Int) = true := by
    rw [lv_step hI.ord h0]
    simp only [Bool.not_false, Bool.true_and]
    exact lv_neg (by omega)
  have h1 := rightE_ok hI hH h0 hl
  have h2 := hH.raw h0 hl
  refine ⟨h0, hl, ?_, h2⟩
  have e : (((0 : Nat) : Int) + 1) = 1 := by omega
  rw [e] at h1
  exact h1
end Go.Proofs.Ytinlkcmdbjcofab

/-
  'kept', 'works', 'all'.
-/
namespace Go.Proofs.Ytinlkcmdbjcofab
open Go.RowKit
set_option linter.unusedVariables false
attribute [local go_sem ↓] Go.wp_at_zero Go.wp_at_succ

theorem fresh_listR (a b c : Nat) (env : Int) : listR (RSt.fresh a b c) env = [] := by
  unfold listR listTo RSt.fresh
  simp
theorem fresh_keep {a b c : Nat} (hc : 1 ≤ c) {q p : Nat} (hq1 : 1 ≤ q) (hq2 : q ≤ 16) (hp : p ≤ 2) : keepR (RSt.fresh a b c) 0 q p = (0, putK (RSt.fresh a b c) 0 (KSt.new q p)) := by
  unfold keepR
  rw [fresh_raw (Int.le_refl 0) (by omega), fresh_listR]
  simp only [ne_eq, not_true_eq_false, if_false, if_neg (show ¬ ((q : Int) < 1 ∨ 16 < (q : Int) ∨ (p : Int) < 0 ∨ 2 < (p : Int)) by omega), List.length_nil, Nat.lt_irrefl, Int.toNat_zero]
theorem fresh_first {a b c : Nat} (ha : 1 ≤ a) (k : KSt) : firstS (putK (RSt.fresh a b c) 0 k) ((0 : Nat) : Int) ≠ none := by
  have hl : leastFree (putK (RSt.fresh a b c) 0 k) = some 0 := by
    unfold leastFree
    have : (putK (RSt.fresh a b c) 0 k).nf = (a - 1) + 1 := by show a = _; omega
    rw [this, List.range_succ_eq_map, List.find?_cons]
    have : freeB (putK (RSt.fresh a b c) 0 k) 0 = true := by
      unfold freeB owned putK RSt.fresh
      simp
    rw [this]
  unfold firstS
  rw [hl]
  have hcn : cnt (putK (RSt.fresh a b c) 0 k).rights < 32 := by simp [putK, RSt.fresh, cnt, cntTo]
  simp only [if_pos hcn]
  simp

theorem SK.fresh {M : MT} {w0 w : World} {m a b c : Nat} {f : Nat → Option Nat} (hm : NewF M w0 w m f (RSt.fresh a b c)) (hb : Below w0.heap.size w0 w) (ha : a ≤ 16) (hb1 : 1 ≤ b) (hb8 : b ≤ 8) (hc : c ≤ 4) : ∃ own, SK M w0 m 0 own (RSt.fresh a b c) w ∧ ∀ x, f x = none → (own x).1 = 0 := by
  refine ⟨fun x => match f x with | some j => (2, j) | none => (0, 0), ⟨hm.2 _ 2 (fun b j hj => by simp only [hj]), sok_fresh ha hb1 hb8 hc, sz_fresh a b c, fun x hx => ?_, fun x hx => ?_, hb⟩, fun x hx => by simp only [hx]⟩
  · cases hf : f x with
    | none => rfl
    | some j => have := (hm.1 x j hf).1; omega
  · cases hf : f x with
    | none => rfl
    | some j => have := (hm.1 x j hf).2; omega

set_option maxHeartbeats 4000000 in
set_option maxRecDepth 100000 in
theorem kept_any {M : MT} (P : Api M) (x y z qu po : Int) (hx : I64 x) (hy : I64 y) (hz : I64 z) (hq : I64 qu) (hp : I64 po) (w : World) :
    Calls Try.prog 21 #[.agg #[.int .i64 x, .int .i64 y, .int .i64 z], .int .i64 qu, .int .i64 po] w fun e w' => ∃ m bf own k, e = .returned (.pointer (some ⟨bf, 0, none⟩)) ∧
      FK M w m bf 1 own (putK (RSt.fresh (cfA x) (cfB y) (cfC z)) 0 k) w' k false (cfA x) (cfB y) (cfC z) ∧ k.inp = [] ∧ w.heap.size ≤ w'.heap.size := by
  obtain ⟨hx0, hx1⟩ := hx
  obtain ⟨hy0, hy1⟩ := hy
  obtain ⟨hz0, hz1⟩ := hz
  obtain ⟨hq0, hq1⟩ := hq
  obtain ⟨hp0, hp1⟩ := hp
  have la := cfA_le x
  have lb := cfB_le y
  have lc := cfC_le z
  have la1 : 1 ≤ cfA x := by unfold cfA; omega
  have lb1 : 1 ≤ cfB y := by unfold cfB; omega
  have lc1 : 2 ≤ cfC z := by unfold cfC; omega
  have HCF := config_any x y z hx0 hx1 hy0 hy1 hz0 hz1
  have HBU := fun w => built_any P x y z hx0 hx1 hy0 hy1 hz0 hz1 w
  obtain ⟨fa, hfa⟩ : ∃ v, cfA x = v := ⟨_, rfl⟩
  obtain ⟨fb, hfb⟩ : ∃ v, cfB y = v := ⟨_, rfl⟩
  obtain ⟨fc, hfc⟩ : ∃ v, cfC z = v := ⟨_, rfl⟩
  rw [hfa, hfb, hfc]
  rw [hfa] at la la1 HCF HBU
  rw [hfb] at lb lb1 HCF HBU
  rw [hfc] at lc lc1 HCF HBU
  clear hfa hfb hfc
  go_enter Try.func21, Try.ntmps21
  go_wp2_with fail
  refine (HBU _).mono ?_
  rintro e w1 ⟨m, f, rfl, hb1, hm1⟩
  have hbx := (Blk.new w [.int .i64 x, .int .i64 y, .int .i64 z] 23).below hb1 (by simp)
  have e0 := hbx.cell 0
  have e1 := hbx.cell 1
  have e2 := hbx.cell 2
  simp at e0 e1 e2
  have hs1 : w.heap.size < w1.heap.size := hbx.lt
  have hbw1 : Below w.heap.size w w1 := ((Below.refl _ _).alloc (Nat.le_refl _) _).trans (hb1.mono (by simp))
  have hmm : NewF M w w1 m f (RSt.fresh fa fb fc) := hm1.low (by simp)
  have hf0 : f w.heap.size = none := by
    cases hf : f w.heap.size with
    | none => rfl
    | some j => have := (hm1.1 _ j hf).1; simp at this; omega
  clear hb1 hm1
  obtain ⟨own0, hst0, hnone⟩ := SK.fresh hmm hbw1 la lb1 lb lc
  have hz0 := hnone _ hf0
  clear hmm hnone
  have hqk := pk_lt qu (show 0 < 16 by omega)
  have hpk := pk_lt po (show 0 < 3 by omega)
  have pQ := pick_any qu hq0 hq1 16 (by omega) (by omega)
  have pP := pick_any po hp0 hp1 3 (by omega) (by omega)
  obtain ⟨Q, hQ⟩ : ∃ Q, pk qu 16 = Q := ⟨_, rfl⟩
  obtain ⟨PO, hPO⟩ : ∃ PO, pk po 3 = PO := ⟨_, rfl⟩
  rw [hQ] at pQ hqk
  rw [hPO] at pP hpk
  clear hQ hPO
  go_wp2_with fail
  refine (pQ _).mono ?_
  rintro e w2 ⟨rfl, hw2⟩
  subst w2
  have hwq : IntKind.i64.wrap (1 + (Q : Int)) = ((Q + 1 : Nat) : Int) := by rw [IntKind.wrap_i64]; omega
  go_wp2_with fail
  refine (pP _).mono ?_
  rintro e w2 ⟨rfl, hw2⟩
  subst w2
  have hk := fresh_keep (a := fa) (b := fb) (c := fc) (by omega) (q := Q + 1) (p := PO) (by omega) (by omega) (by omega)
  obtain ⟨kn, hkn⟩ : ∃ kn, KSt.new ((Q + 1 : Nat) : Int) PO = kn := ⟨_, rfl⟩
  have hki : kn.inp = [] := by rw [← hkn]; rfl
  have hkb : kn.bytes = List.replicate 64 0 := by rw [← hkn]; rfl
  have hkd : kn.dty = List.replicate 16 false := by rw [← hkn]; rfl
  have hkq : kn.quota = ((Q + 1 : Nat) : Int) := by rw [← hkn]; rfl
  rw [hkn] at hk
  have ie : I64 0 := by unfold I64; omega
  clear hkn
  go_wp2_with fail
  refine (hst0.keep P (by omega) 0 ((Q + 1 : Nat) : Int) PO ie ⟨by omega, by omega⟩ ⟨by omega, by omega⟩).mono ?_
  rintro e w3 ⟨rfl, hn⟩
  rw [hk] at hn ⊢
  have hk0 : keptO (putK (RSt.fresh fa fb fc) 0 kn) 0 = some kn := keptO_putK (env := 0) (by simp [RSt.fresh]; omega)
  obtain ⟨own3, h1, h2, h3, h4⟩ := hn
  have hbx3 := hbx.of (h3 _ hs1 (by rw [hz0]; omega))
  have e0 := hbx3.cell 0
  have e1 := hbx3.cell 1
  have e2 := hbx3.cell 2
  simp at e0 e1 e2
  clear hst0 h2 h3 hbx pP pQ HBU
  go_wp2_with fail
  refine (HCF _).mono ?_
  rintro e w4 ⟨rfl, hb4⟩
  have h5 := h1.below P hb4
  have hs4 := hb4.size
  have ht4 := h5.top w4.heap.size (Nat.le_refl _)
  have hba : Below w4.heap.size w4 (w4.alloc (.cells (flcells m fa fb fc kn.bytes kn.dty false kn.quota).toArray 52)) := (Below.refl _ _).alloc (Nat.le_refl _) _
  have h6 := h5.below P hba
  have hbf := Blk.new w4 (flcells m fa fb fc kn.bytes kn.dty false kn.quota) 52
  have hFK : FK M w m w4.heap.size 1 own3 (putK (RSt.fresh fa fb fc) 0 kn) (w4.alloc (.cells (flcells m fa fb fc kn.bytes kn.dty false kn.quota).toArray 52)) kn false fa fb fc :=
    ⟨h6, hk0, hbf, ht4, by omega, fun h => by simp at h, by rw [hki, hkq]; simp; omega, rfl, rfl, rfl⟩
  rw [hkb, hkd, hkq] at hFK
  clear h1 h5 h6 hbf hba hbx3 e0 e1 e2 hb4 hk hk0 HCF
  go_wp2_with fail
  go_ret
  exact ⟨m, w4.heap.size, own3, kn, rfl, hFK, hki, by simp; omega⟩
end Go.Proofs.Ytinlkcmdbjcofab
