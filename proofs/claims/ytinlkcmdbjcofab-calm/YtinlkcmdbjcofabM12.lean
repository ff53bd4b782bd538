import Derived.Test.YtinlkcmdbjcofabM11
/-
  The program's machine: Read, Write.
-/
namespace Go.Proofs.Ytinlkcmdbjcofab
open Go.RowKit
set_option linter.unusedVariables false
attribute [local go_sem ↓] Go.wp_at_zero Go.wp_at_succ
section
variable {own : Nat → Nat × Nat} {id : Nat} {w : World} {p : Nat} {s s1 : PSt} {gE : Nat} {vF vL vT : Value} {L : List (PEnv × Value)}

def adrP (s : PSt) (env a : Int) : Int := if heldP s env ≠ 0 then heldP s env else if a < 0 ∨ 63 < a then 6 else 0

set_option maxHeartbeats 1000000 in
set_option maxRecDepth 100000 in
theorem needAddress_any (h : PRep own id w p s gE vF vL vT L) (hw : PWf s) (env a : Int) :
    Calls Try.prog 72 #[.pointer (some ⟨p, 0, none⟩), .int .i64 env, .int .i64 a] w fun e w' => e = .returned (.int .i64 (adrP s env a)) ∧ w' = w := by
  by_cases hr : heldP s env = 0
  case neg =>
    have hr0 : (heldP s env != 0) = true := by simpa using hr
    have HP : Hid (adrP s env a = heldP s env) := by simp [Hid, adrP, hr]
    obtain ⟨rv, hrv⟩ : ∃ rv, heldP s env = rv := ⟨_, rfl⟩
    have HR : Hid (heldP s env = rv) := hrv
    rw [hrv] at hr0 HP
    clear hr hrv
    go_enter Try.func72, Try.ntmps72
    go_wp2_with fail
    refine (needKept_any h hw env).mono ?_
    rintro e w2 ⟨rfl, hw2⟩
    subst hw2
    rw [HR.out]
    go_wp2_with fail
    go_ret
    exact ⟨ret_int (by rw [HP.out]), rfl⟩
  case pos =>
    have HR : Hid (heldP s env = 0) := hr
    have HP : Hid (adrP s env a = if a < 0 ∨ 63 < a then 6 else 0) := by simp [Hid, adrP, hr]
    clear hr
    go_enter Try.func72, Try.ntmps72
    go_wp2_with fail
    refine (needKept_any h hw env).mono ?_
    rintro e w2 ⟨rfl, hw2⟩
    subst hw2
    rw [HR.out]
    by_cases h0 : a < 0
    · rw [if_pos (.inl h0)] at HP
      go_wp2_with fail
      go_ret
      exact ⟨ret_int (by rw [HP.out]), rfl⟩
    · by_cases h1 : 64 ≤ a
      · rw [if_pos (.inr (by omega))] at HP
        go_wp2_with fail
        go_ret
        exact ⟨ret_int (by rw [HP.out]), rfl⟩
      · rw [if_neg (by omega)] at HP
        go_wp2_with fail
        go_ret
        exact ⟨ret_int (by rw [HP.out]), rfl⟩

set_option maxHeartbeats 4000000 in
set_option maxRecDepth 100000 in
theorem pread_no (h : PRep own id w p s gE vF vL vT L) (hw : PWf s) (env a : Int) (hx : adrP s env a ≠ 0) :
    Calls Try.prog 37 #[.pointer (some ⟨p, 0, none⟩), .int .i64 env, .int .i64 a] w fun e w' => e = .returned (.tuple #[.int .i64 0, .int .i64 (adrP s env a)]) ∧ w' = w := by
  obtain ⟨x, hxv⟩ : ∃ x, adrP s env a = x := ⟨_, rfl⟩
  have HR : Hid (adrP s env a = x) := hxv
  rw [hxv] at hx ⊢
  have hx0 : (x != 0) = true := by simpa using hx
  clear hx hxv
  go_enter Try.func37, Try.ntmps37
  go_wp2_with fail
  refine (needAddress_any h hw env a).mono ?_
  rintro e w2 ⟨rfl, hw2⟩
  subst hw2
  rw [HR.out]
  go_wp2_with fail
  go_ret2
  exact ⟨rfl, rfl⟩
set_option maxHeartbeats 4000000 in
set_option maxRecDepth 100000 in
theorem pread_full (h : PRep own id w p s gE vF vL vT L) (hw : PWf s) {j A : Nat} (hA : A < 64) (hx : adrP s j A = 0)
    (hcall : Calls Try.prog 73 #[.pointer (some ⟨p, 0, none⟩), .int .i64 j, .int .i64 (A / 4 : Nat), .bool false] w fun e' w' => e' = .returned (.tuple #[.int .i64 0, .int .i64 12]) ∧ Below w.heap.size w w') :
    Calls Try.prog 37 #[.pointer (some ⟨p, 0, none⟩), .int .i64 j, .int .i64 A] w fun e w' => e = .returned (.tuple #[.int .i64 0, .int .i64 12]) ∧ Below w.heap.size w w' := by
  have HR : Hid (adrP s j A = 0) := hx
  have hA2 : (A : Int).tdiv 4 = ((A / 4 : Nat) : Int) := by rw [Int.tdiv_eq_ediv_of_nonneg (by omega)]; omega
  clear hx
  go_enter Try.func37, Try.ntmps37
  go_wp2_with fail
  refine (needAddress_any h hw j A).mono ?_
  rintro e w2 ⟨rfl, hw2⟩
  subst hw2
  rw [HR.out]
  go_wp2_with fail
  refine hcall.mono ?_
  rintro e w3 ⟨rfl, hb3⟩
  go_wp2_with fail
  go_ret2
  exact ⟨rfl, hb3⟩
set_option maxHeartbeats 4000000 in
set_option maxRecDepth 100000 in
theorem pread_of (h : PRep own id w p s gE vF vL vT L) (hw : PWf s) {j A f : Nat} (hA : A < 64) (hx : adrP s j A = 0)
    (hcall : Calls Try.prog 73 #[.pointer (some ⟨p, 0, none⟩), .int .i64 j, .int .i64 (A / 4 : Nat), .bool false] w fun e' w' => e' = .returned (.tuple #[.int .i64 f, .int .i64 0]) ∧ PNext own id w p w' s1)
    {l : List Int} (hl : s1.bytes[f]? = some l) {x : Int} (hlx : l[A % 4]? = some x) (hx0 : 0 ≤ x) (hx1 : x ≤ 255) :
    Calls Try.prog 37 #[.pointer (some ⟨p, 0, none⟩), .int .i64 j, .int .i64 A] w fun e w' => e = .returned (.tuple #[.int .i64 x, .int .i64 0]) ∧ PNext own id w p w' s1 := by
  have HR : Hid (adrP s j A = 0) := hx
  have hA2 : (A : Int).tdiv 4 = ((A / 4 : Nat) : Int) := by rw [Int.tdiv_eq_ediv_of_nonneg (by omega)]; omega
  have hA3 : (A : Int).tmod 4 = ((A % 4 : Nat) : Int) := by rw [Int.tmod_eq_emod_of_nonneg (by omega)]; omega
  clear hx
  go_enter Try.func37, Try.ntmps37
  go_wp2_with fail
  refine (needAddress_any h hw j A).mono ?_
  rintro e w2 ⟨rfl, hw2⟩
  subst hw2
  rw [HR.out]
  go_wp2_with fail
  refine hcall.mono ?_
  rintro e w3 ⟨rfl, own3, gE3, vF3, vL3, vT3, L3, h3, ho3, ht3⟩
  have hfl := (List.getElem?_eq_some_iff.1 hl).1
  obtain ⟨g, cap, hv, hc, hfz⟩ := h3.rF.form (by omega)
  have cx : w3.cell? ⟨g, f * 4 + A % 4, none⟩ = some (.int .u8 x) := by
    rw [hc _ (by omega), flat_get fcells 4 (fun _ => rfl) _ _ (A % 4) _ hl (by omega), fcells_at _ (by omega), hlx]; rfl
  have k1 := h3.c1
  rw [hv] at k1
  have hll : (f : Int) < (s1.bytes.length : Int) := by omega
  have hk4 : ((A % 4 : Nat) : Int) < 4 := by omega
  have hwr : IntKind.i64.wrap x = x := by rw [IntKind.wrap_i64]; omega
  clear hv hfz hc hl hlx
  go_wp2_with fail
  go_ret2
  exact ⟨rfl, own3, gE3, vF3, vL3, vT3, L3, h3, ho3, ht3⟩

set_option maxHeartbeats 4000000 in
set_option maxRecDepth 100000 in
theorem pwrite_no (h : PRep own id w p s gE vF vL vT L) (hw : PWf s) (env a v : Int) (hx : adrP s env a ≠ 0) :
    Calls Try.prog 38 #[.pointer (some ⟨p, 0, none⟩), .int .i64 env, .int .i64 a, .int .i64 v] w fun e w' => e = .returned (.int .i64 (adrP s env a)) ∧ w' = w := by
  obtain ⟨x, hxv⟩ : ∃ x, adrP s env a = x := ⟨_, rfl⟩
  have HR : Hid (adrP s env a = x) := hxv
  rw [hxv] at hx ⊢
  have hx0 : (x != 0) = true := by simpa using hx
  clear hx hxv
  go_enter Try.func38, Try.ntmps38
  go_wp2_with fail
  refine (needAddress_any h hw env a).mono ?_
  rintro e w2 ⟨rfl, hw2⟩
  subst hw2
  rw [HR.out]
  go_wp2_with fail
  go_ret
  exact ⟨rfl, rfl⟩
set_option maxHeartbeats 4000000 in
set_option maxRecDepth 100000 in
theorem pwrite_arg (h : PRep own id w p s gE vF vL vT L) (hw : PWf s) (env a v : Int) (hx : adrP s env a = 0) (hv : byteOk v = false) :
    Calls Try.prog 38 #[.pointer (some ⟨p, 0, none⟩), .int .i64 env, .int .i64 a, .int .i64 v] w fun e w' => e = .returned (.int .i64 6) ∧ w' = w := by
  have HR : Hid (adrP s env a = 0) := hx
  have HB : Hid (byteOk v = false) := hv
  clear hx hv
  go_enter Try.func38, Try.ntmps38
  go_wp2_with fail
  refine (needAddress_any h hw env a).mono ?_
  rintro e w2 ⟨rfl, hw2⟩
  subst hw2
  rw [HR.out]
  go_wp2_with fail
  refine (isByte_any v _).mono ?_
  rintro e w2 ⟨rfl, hw2⟩
  subst hw2
  rw [HB.out]
  go_wp2_with fail
  go_ret
  exact ⟨rfl, rfl⟩
set_option maxHeartbeats 4000000 in
set_option maxRecDepth 100000 in
theorem pwrite_full (h : PRep own id w p s gE vF vL vT L) (hw : PWf s) {j A : Nat} (hA : A < 64) (v : Int) (hx : adrP s j A = 0) (hv : byteOk v = true)
    (hcall : Calls Try.prog 73 #[.pointer (some ⟨p, 0, none⟩), .int .i64 j, .int .i64 (A / 4 : Nat), .bool true] w fun e' w' => e' = .returned (.tuple #[.int .i64 0, .int .i64 12]) ∧ Below w.heap.size w w') :
    Calls Try.prog 38 #[.pointer (some ⟨p, 0, none⟩), .int .i64 j, .int .i64 A, .int .i64 v] w fun e w' => e = .returned (.int .i64 12) ∧ Below w.heap.size w w' := by
  have HR : Hid (adrP s j A = 0) := hx
  have HB : Hid (byteOk v = true) := hv
  have hA2 : (A : Int).tdiv 4 = ((A / 4 : Nat) : Int) := by rw [Int.tdiv_eq_ediv_of_nonneg (by omega)]; omega
  clear hx hv
  go_enter Try.func38, Try.ntmps38
  go_wp2_with fail
  refine (needAddress_any h hw j A).mono ?_
  rintro e w2 ⟨rfl, hw2⟩
  subst hw2
  rw [HR.out]
  go_wp2_with fail
  refine (isByte_any v _).mono ?_
  rintro e w2 ⟨rfl, hw2⟩
  subst hw2
  rw [HB.out]
  go_wp2_with fail
  refine hcall.mono ?_
  rintro e w3 ⟨rfl, hb3⟩
  go_wp2_with fail
  go_ret
  exact ⟨rfl, hb3⟩
set_option maxHeartbeats 4000000 in
set_option maxRecDepth 100000 in
theorem pwrite_of (h : PRep own id w p s gE vF vL vT L) (hw : PWf s) {j A f : Nat} (hA : A < 64) (v : Int) (hx : adrP s j A = 0) (hv : byteOk v = true)
    (hcall : Calls Try.prog 73 #[.pointer (some ⟨p, 0, none⟩), .int .i64 j, .int .i64 (A / 4 : Nat), .bool true] w fun e' w' => e' = .returned (.tuple #[.int .i64 f, .int .i64 0]) ∧ PNext own id w p w' s1)
    {l : List Int} (hl : s1.bytes[f]? = some l) (hl4 : l.length = 4) :
    Calls Try.prog 38 #[.pointer (some ⟨p, 0, none⟩), .int .i64 j, .int .i64 A, .int .i64 v] w fun e w' => e = .returned (.int .i64 0) ∧ PNext own id w p w' { s1 with bytes := s1.bytes.set f (l.set (A % 4) v) } := by
  have HR : Hid (adrP s j A = 0) := hx
  have HB : Hid (byteOk v = true) := hv
  have hwp : IntKind.u8.wrap v = v := by simp [byteOk] at hv; rw [IntKind.wrap_u8]; omega
  have hA2 : (A : Int).tdiv 4 = ((A / 4 : Nat) : Int) := by rw [Int.tdiv_eq_ediv_of_nonneg (by omega)]; omega
  have hA3 : (A : Int).tmod 4 = ((A % 4 : Nat) : Int) := by rw [Int.tmod_eq_emod_of_nonneg (by omega)]; omega
  clear hx hv
  go_enter Try.func38, Try.ntmps38
  go_wp2_with fail
  refine (needAddress_any h hw j A).mono ?_
  rintro e w2 ⟨rfl, hw2⟩
  subst hw2
  rw [HR.out]
  go_wp2_with fail
  refine (isByte_any v _).mono ?_
  rintro e w2 ⟨rfl, hw2⟩
  subst hw2
  rw [HB.out]
  go_wp2_with fail
  refine hcall.mono ?_
  rintro e w3 ⟨rfl, own3, gE3, vF3, vL3, vT3, L3, h3, ho3, ht3⟩
  have hfl := (List.getElem?_eq_some_iff.1 hl).1
  obtain ⟨g, cap, hvF, hc, hfz⟩ := h3.rF.form (by omega)
  have hg : own3 g = (id, 2) := h3.tF g (by rw [hvF]; rfl)
  have cx : ∃ u, w3.cell? ⟨g, f * 4 + A % 4, none⟩ = some u := by
    rw [hc _ (by omega), flat_get fcells 4 (fun _ => rfl) _ _ (A % 4) _ hl (by omega), fcells_at _ (by omega)]
    exact ⟨_, rfl⟩
  obtain ⟨u, cx⟩ := cx
  have z0 := hfz (f * 4 + A % 4)
  have hst : PRep own3 id (w3.setCell ⟨g, f * 4 + A % 4, none⟩ (.int .u8 v)) p { s1 with bytes := s1.bytes.set f (l.set (A % 4) v) } gE3 vF3 vL3 vT3 L3 := by
    refine h3.framed (fun b hb h4 => Below.heap_setCell _ _ _ _ (fun e => h4 (by simp at e; rw [e]; exact hg))) ?_
    have h1 := h3.rF
    rw [hvF] at h1 ⊢
    rw [List.length_set, flat_byte _ _ _ _ _ hl (by omega) hl4]
    exact h1.set _ _
  have hin : (own3 g).1 = id := by rw [hg]
  have HN : Hid (PNext own id w2 p (w3.setCell ⟨g, f * 4 + A % 4, none⟩ (.int .u8 v)) { s1 with bytes := s1.bytes.set f (l.set (A % 4) v) }) :=
    ⟨own3, gE3, vF3, vL3, vT3, L3, hst, ho3, ht3.next ho3 ((Touch.refl _ (fun b => (own3 b).1 = id) _).setCell (p := ⟨g, f * 4 + A % 4, none⟩) (.inl hin) _)⟩
  have k1 := h3.c1
  rw [hvF] at k1
  have hll : (f : Int) < (s1.bytes.length : Int) := by omega
  have hk4 : ((A % 4 : Nat) : Int) < 4 := by omega
  have n1 : p ≠ g := fun e => by have := h3.tm; rw [e, hg] at this; simp at this
  have n2 : g ≠ p := fun e => n1 e.symm
  clear hvF hfz hc hl hst
  go_wp2_with fail
  go_ret
  exact ⟨rfl, HN.out⟩
end
end Go.Proofs.Ytinlkcmdbjcofab

/-
  The program's machine: Counts, Dirty, Clean, Keep.
-/
namespace Go.Proofs.Ytinlkcmdbjcofab
open Go.RowKit
set_option linter.unusedVariables false
attribute [local go_sem ↓] Go.wp_at_zero Go.wp_at_succ
section
variable {own : Nat → Nat × Nat} {id : Nat} {w : World} {p : Nat} {s s1 : PSt} {gE : Nat} {vF vL vT : Value} {L : List (PEnv × Value)}

set_option maxHeartbeats 4000000 in
set_option maxRecDepth 100000 in
theorem pcounts_no (h : PRep own id w p s gE vF vL vT L) (hw : PWf s) (env : Int) (hx : heldP s env ≠ 0) :
    Calls Try.prog 52 #[.pointer (some ⟨p, 0, none⟩), .int .i64 env] w fun e w' => e = .returned (.tuple #[.agg #[.int .i64 0, .int .i64 0, .int .i64 0, .int .i64 0], .int .i64 (heldP s env)]) ∧ Below w.heap.size w w' := by
  obtain ⟨x, hxv⟩ : ∃ x, heldP s env = x := ⟨_, rfl⟩
  have HR : Hid (heldP s env = x) := hxv
  rw [hxv] at hx ⊢
  have hx0 : (x != 0) = true := by simpa using hx
  have h1 := h.below ((Below.refl _ _).alloc (Nat.le_refl _) (.cells #[.int .i64 0, .int .i64 0, .int .i64 0, .int .i64 0] 91))
  clear hx hxv
  go_enter Try.func52, Try.ntmps52
  go_wp2_with fail
  refine (needKept_any h1 hw env).mono ?_
  rintro e w2 ⟨rfl, hw2⟩
  subst hw2
  rw [HR.out]
  go_wp2_with fail
  exact bodyPost_ret (v := .tuple #[.agg #[.int .i64 0, .int .i64 0, .int .i64 0, .int .i64 0], .int .i64 x]) (by simp [results, Try.results52, go_sem]) rfl ⟨rfl, (Below.refl _ _).alloc (Nat.le_refl _) _⟩

set_option maxHeartbeats 4000000 in
set_option maxRecDepth 100000 in
theorem pcounts_yes (h : PRep own id w p s gE vF vL vT L) (hw : PWf s) {j : Nat} {e : PEnv} (he : s.envs[j]? = some e) (hm : MWf s.bytes.length e.mem) (hx : heldP s j = 0) :
    Calls Try.prog 52 #[.pointer (some ⟨p, 0, none⟩), .int .i64 j] w fun e' w' => e' = .returned (.tuple #[.agg #[.int .i64 e.mem.refills, .int .i64 e.mem.ins, .int .i64 e.mem.outs, .int .i64 e.mem.inl.length], .int .i64 0]) ∧ Below w.heap.size w w' := by
  have HR : Hid (heldP s j = 0) := hx
  have hj := (List.getElem?_eq_some_iff.1 he).1
  have hlj : (j : Int) < (s.envs.length : Int) := by omega
  obtain ⟨v, hv⟩ := h.pair he
  have hb0 : Below w.heap.size w (w.alloc (.cells #[.int .i64 0, .int .i64 0, .int .i64 0, .int .i64 0] 91)) := (Below.refl _ _).alloc (Nat.le_refl _) _
  have h1 := h.below hb0
  have hZ := Blk.new w [.int .i64 0, .int .i64 0, .int .i64 0, .int .i64 0] 91
  have k1 := h1.c0
  have hM := h1.mem hv
  clear hx
  go_enter Try.func52, Try.ntmps52
  go_wp2_with fail
  refine (needKept_any h1 hw j).mono ?_
  rintro e1 w2 ⟨rfl, hw2⟩
  rw [hw2]
  clear hw2
  rw [HR.out]
  go_wp2_with fail
  refine (mcounts_any hM hm.nl).mono ?_
  rintro e2 w3 ⟨rfl, hb3⟩
  have hZ3 := hZ.below hb3 (by simp)
  have z0 := hZ3.cell 0
  have z1 := hZ3.cell 1
  have z2 := hZ3.cell 2
  have z3 := hZ3.cell 3
  simp at z0 z1 z2 z3
  have y0 := hZ3.frozen 0
  have y1 := hZ3.frozen 1
  have y2 := hZ3.frozen 2
  have y3 := hZ3.frozen 3
  have hzl := hZ3.lt
  have hbl3 : Below w.heap.size w w3 := hb0.trans (hb3.mono (by simp))
  go_wp2_with fail
  refine bodyPost_ret (v := .tuple #[.agg #[.int .i64 e.mem.refills, .int .i64 e.mem.ins, .int .i64 e.mem.outs, .int .i64 e.mem.inl.length], .int .i64 0]) (by simp [results, Try.results52, go_sem, z0, z1, z2, z3]) rfl ⟨rfl, ?_⟩
  exact (((hbl3.setCell (Nat.le_refl _) _).setCell (Nat.le_refl _) _).setCell (Nat.le_refl _) _).setCell (Nat.le_refl _) _

set_option maxHeartbeats 4000000 in
set_option maxRecDepth 100000 in
theorem pdirty_no (h : PRep own id w p s gE vF vL vT L) (hw : PWf s) (env : Int) (hx : heldP s env ≠ 0) :
    Calls Try.prog 57 #[.pointer (some ⟨p, 0, none⟩), .int .i64 env] w fun e w' => e = .returned (.tuple #[.slice none 0 0, .int .i64 (heldP s env)]) ∧ w' = w := by
  obtain ⟨x, hxv⟩ : ∃ x, heldP s env = x := ⟨_, rfl⟩
  have HR : Hid (heldP s env = x) := hxv
  rw [hxv] at hx ⊢
  have hx0 : (x != 0) = true := by simpa using hx
  clear hx hxv
  go_enter Try.func57, Try.ntmps57
  go_wp2_with fail
  refine (needKept_any h hw env).mono ?_
  rintro e w2 ⟨rfl, hw2⟩
  subst hw2
  rw [HR.out]
  go_wp2_with fail
  go_ret2
  exact ⟨rfl, rfl⟩
set_option maxHeartbeats 4000000 in
set_option maxRecDepth 100000 in
theorem pdirty_yes (h : PRep own id w p s gE vF vL vT L) (hw : PWf s) {j : Nat} {e : PEnv} (he : s.envs[j]? = some e) (hm : MWf s.bytes.length e.mem) (hx : heldP s j = 0) :
    Calls Try.prog 57 #[.pointer (some ⟨p, 0, none⟩), .int .i64 j] w fun e' w' => ∃ v, e' = .returned (.tuple #[v, .int .i64 0]) ∧ Below w.heap.size w w' ∧ (∀ x, v.ownBlock = some x → w.heap.size ≤ x) ∧ Row w' v 3 1 (dirtyP e.mem 16).length ((dirtyP e.mem 16).map (.int .i64)) := by
  have HR : Hid (heldP s j = 0) := hx
  have hj := (List.getElem?_eq_some_iff.1 he).1
  have hlj : (j : Int) < (s.envs.length : Int) := by omega
  obtain ⟨v, hv⟩ := h.pair he
  have k1 := h.c0
  have hM := h.mem hv
  clear hx
  go_enter Try.func57, Try.ntmps57
  go_wp2_with fail
  refine (needKept_any h hw j).mono ?_
  rintro e1 w2 ⟨rfl, hw2⟩
  subst hw2
  rw [HR.out]
  go_wp2_with fail
  refine (mdirty_any hM hm.np).mono ?_
  rintro e2 w3 ⟨v3, rfl, hb3, hn3, hr3⟩
  obtain ⟨ao, cap, hv3, _⟩ := hr3.shape
  subst hv3
  go_wp2_with fail
  go_ret2
  exact ⟨_, rfl, hb3, hn3, hr3⟩

set_option maxHeartbeats 4000000 in
set_option maxRecDepth 100000 in
theorem pclean_no (h : PRep own id w p s gE vF vL vT L) (hw : PWf s) (env : Int) (hx : heldP s env ≠ 0) :
    Calls Try.prog 55 #[.pointer (some ⟨p, 0, none⟩), .int .i64 env] w fun e w' => e = .returned (.int .i64 (heldP s env)) ∧ w' = w := by
  obtain ⟨x, hxv⟩ : ∃ x, heldP s env = x := ⟨_, rfl⟩
  have HR : Hid (heldP s env = x) := hxv
  rw [hxv] at hx ⊢
  have hx0 : (x != 0) = true := by simpa using hx
  clear hx hxv
  go_enter Try.func55, Try.ntmps55
  go_wp2_with fail
  refine (needKept_any h hw env).mono ?_
  rintro e w2 ⟨rfl, hw2⟩
  subst hw2
  rw [HR.out]
  go_wp2_with fail
  go_ret
  exact ⟨rfl, rfl⟩
set_option maxHeartbeats 4000000 in
set_option maxRecDepth 100000 in
theorem pclean_yes (h : PRep own id w p s gE vF vL vT L) (hw : PWf s) {j : Nat} {e : PEnv} (he : s.envs[j]? = some e) (hm : MWf s.bytes.length e.mem) (hx : heldP s j = 0) :
    Calls Try.prog 55 #[.pointer (some ⟨p, 0, none⟩), .int .i64 j] w fun e' w' => e' = .returned (.int .i64 0) ∧ PNext own id w p w' (setM s j e e.mem.clean) := by
  have HR : Hid (heldP s j = 0) := hx
  have hj := (List.getElem?_eq_some_iff.1 he).1
  have hlj : (j : Int) < (s.envs.length : Int) := by omega
  obtain ⟨v, hv⟩ := h.pair he
  have k1 := h.c0
  have hM := h.mem hv
  clear hx
  go_enter Try.func55, Try.ntmps55
  go_wp2_with fail
  refine (needKept_any h hw j).mono ?_
  rintro e1 w2 ⟨rfl, hw2⟩
  subst hw2
  rw [HR.out]
  go_wp2_with fail
  refine (mclean_any hM hm.np).mono ?_
  rintro e2 w3 ⟨rfl, hn3⟩
  have hn := h.memNext hv hn3
  go_wp2_with fail
  go_ret
  exact ⟨rfl, hn⟩
end
end Go.Proofs.Ytinlkcmdbjcofab

/-
  The program's machine: Squeeze.
-/
namespace Go.Proofs.Ytinlkcmdbjcofab
open Go.RowKit
set_option linter.unusedVariables false
attribute [local go_sem ↓] Go.wp_at_zero Go.wp_at_succ

def quotaOk (v : Int) : Bool := decide (1 ≤ v) && decide (v ≤ 16)
set_option maxHeartbeats 1000000 in
set_option maxRecDepth 100000 in
theorem isQuota_any (v : Int) (w : World) : Calls Try.prog 68 #[.int .i64 v] w fun e w' => e = .returned (.bool (quotaOk v)) ∧ w' = w := by
  by_cases h1 : 1 ≤ v
  · have HE : Hid (quotaOk v = decide (v ≤ 16)) := by simp [Hid, quotaOk, h1]
    go_enter Try.func68, Try.ntmps68
    go_wp2_with fail
    go_ret
    exact ⟨ret_bool (by rw [HE.out]), rfl⟩
  · have HE : Hid (quotaOk v = false) := by simp [Hid, quotaOk]; omega
    go_enter Try.func68, Try.ntmps68
    go_wp2_with fail
    go_ret
    exact ⟨ret_bool (by rw [HE.out]), rfl⟩

/-- A page goes out, and its frame becomes free. -/
def upP (s : PSt) (j : Nat) : PSt := match s.envs[j]? with
  | none => s
  | some e => match e.mem.pages[(chosen e.mem.policy e.mem.inl).toNat]? with
    | none => s
    | some g => { outP s j e (chosen e.mem.policy e.mem.inl).toNat (s.bytes[g.frame.toNat]?.getD []) with hs := notP s.hs g.frame }
def upN : Nat → PSt → Nat → PSt
  | 0, s, _ => s
  | n + 1, s, j => upP (upN n s j) j
/-- What giveUp asks. -/
def UpOk (s : PSt) (j : Nat) : Prop := PWf s ∧ ∃ (e : PEnv) (q f : Nat) (g : PG) (l : List Int), s.envs[j]? = some e ∧ MWf s.bytes.length e.mem ∧ 0 < e.mem.inl.length ∧ chosen e.mem.policy e.mem.inl = q ∧ q < 16 ∧ e.mem.pages[q]? = some g ∧ g.frame = f ∧ s.bytes[f]? = some l

section
variable {own : Nat → Nat × Nat} {id : Nat} {w : World} {p : Nat} {s s1 : PSt} {gE : Nat} {vF vL vT : Value} {L : List (PEnv × Value)}

set_option maxHeartbeats 4000000 in
set_option maxRecDepth 100000 in
theorem giveUp_any (h : PRep own id w p s gE vF vL vT L) {j : Nat} (hok : UpOk s j) :
    Calls Try.prog 86 #[.pointer (some ⟨p, 0, none⟩), .int .i64 j] w fun e' w' => e' = .returned (.tuple #[]) ∧ PNext own id w p w' (upP s j) := by
  obtain ⟨hw, e, q, f, g, l, he, hm, h0, hq, hq16, hg, hf, hl⟩ := hok
  have HP : Hid (upP s j = { outP s j e q l with hs := notP s.hs f }) := by
    unfold Hid upP
    rw [he]
    simp only [hq, Int.toNat_natCast, hg, hf, hl, Option.getD_some]
  have hsz := hw.size
  go_enter Try.func86, Try.ntmps86
  go_wp2_with fail
  refine (putOut_any h hw he hm h0 hq hq16 hg hf hl).mono ?_
  rintro e1 w1 ⟨rfl, own1, gE1, vF1, vL1, vT1, L1, h1, ho1, ht1⟩
  go_wp2_with fail
  refine (endFirst_any h1.st hsz f).mono ?_
  rintro e2 w2 ⟨rfl, hn⟩
  have hn2 := h1.next hn
  go_wp2_with fail
  go_end0
  refine ⟨rfl, ?_⟩
  rw [HP.out]
  exact PNext.then ho1 ht1 hn2

set_option maxHeartbeats 4000000 in
set_option maxRecDepth 100000 in
theorem psqueeze_no (h : PRep own id w p s gE vF vL vT L) (hw : PWf s) (env q : Int) (hx : heldP s env ≠ 0) :
    Calls Try.prog 62 #[.pointer (some ⟨p, 0, none⟩), .int .i64 env, .int .i64 q] w fun e w' => e = .returned (.int .i64 (heldP s env)) ∧ w' = w := by
  obtain ⟨x, hxv⟩ : ∃ x, heldP s env = x := ⟨_, rfl⟩
  have HR : Hid (heldP s env = x) := hxv
  rw [hxv] at hx ⊢
  have hx0 : (x != 0) = true := by simpa using hx
  clear hx hxv
  go_enter Try.func62, Try.ntmps62
  go_wp2_with fail
  refine (needKept_any h hw env).mono ?_
  rintro e w2 ⟨rfl, hw2⟩
  subst hw2
  rw [HR.out]
  go_wp2_with fail
  go_ret
  exact ⟨rfl, rfl⟩
set_option maxHeartbeats 4000000 in
set_option maxRecDepth 100000 in
theorem psqueeze_arg (h : PRep own id w p s gE vF vL vT L) (hw : PWf s) (env q : Int) (hx : heldP s env = 0) (hq : quotaOk q = false) :
    Calls Try.prog 62 #[.pointer (some ⟨p, 0, none⟩), .int .i64 env, .int .i64 q] w fun e w' => e = .returned (.int .i64 6) ∧ w' = w := by
  have HR : Hid (heldP s env = 0) := hx
  have HQ : Hid (quotaOk q = false) := hq
  clear hx hq
  go_enter Try.func62, Try.ntmps62
  go_wp2_with fail
  refine (needKept_any h hw env).mono ?_
  rintro e w2 ⟨rfl, hw2⟩
  subst hw2
  rw [HR.out]
  go_wp2_with fail
  refine (isQuota_any q _).mono ?_
  rintro e w2 ⟨rfl, hw2⟩
  subst hw2
  rw [HQ.out]
  go_wp2_with fail
  go_ret
  exact ⟨rfl, rfl⟩
set_option maxHeartbeats 4000000 in
set_option maxRecDepth 100000 in
theorem psqueeze_yes (h : PRep own id w p s gE vF vL vT L) (hw : PWf s) {j : Nat} {e : PEnv} (he : s.envs[j]? = some e) (hm : MWf s.bytes.length e.mem) (q : Int) (hx : heldP s j = 0) (hq : quotaOk q = true) {n : Nat} (hn : n = ((e.mem.inl.length : Int) - q).toNat)
    (hok : ∀ i, i < n → UpOk (upN i (setM s j e { e.mem with quota := q }) j) j) :
    Calls Try.prog 62 #[.pointer (some ⟨p, 0, none⟩), .int .i64 j, .int .i64 q] w fun e' w' => e' = .returned (.int .i64 0) ∧ PNext own id w p w' (upN n (setM s j e { e.mem with quota := q }) j) := by
  have HR : Hid (heldP s j = 0) := hx
  have HQ : Hid (quotaOk q = true) := hq
  have hq2 : 1 ≤ q ∧ q ≤ 16 := by simpa [quotaOk] using hq
  obtain ⟨hq0, hq16⟩ := hq2
  have hj := (List.getElem?_eq_some_iff.1 he).1
  have hlj : (j : Int) < (s.envs.length : Int) := by omega
  obtain ⟨v, hv⟩ := h.pair he
  have k1 := h.c0
  have hM := h.mem hv
  have hnl := hm.nl
  obtain ⟨bd, hbd⟩ : ∃ bd, (e.mem.inl.length : Int) - q = bd := ⟨_, rfl⟩
  have hbd1 : bd ≤ 16 := by omega
  have HBD : Hid ((e.mem.inl.length : Int) - q = bd) := hbd
  rw [hbd] at hn
  have hn16 : n ≤ 16 := by omega
  obtain ⟨S0, HS0⟩ : ∃ S0, Hid (setM s j e { e.mem with quota := q } = S0) := ⟨_, rfl⟩
  rw [HS0.out] at hok ⊢
  have HOK : Hid (∀ i, i < n → UpOk (upN i S0 j) j) := hok
  have HN : Hid (n = bd.toNat) := hn
  clear hx hq hbd hok hn
  go_enter Try.func62, Try.ntmps62
  go_wp2_with fail
  refine (needKept_any h hw j).mono ?_
  rintro e1 w2 ⟨rfl, hw2⟩
  subst hw2
  rw [HR.out]
  go_wp2_with fail
  refine (isQuota_any q _).mono ?_
  rintro e1 w2 ⟨rfl, hw2⟩
  subst hw2
  rw [HQ.out]
  go_wp2_with fail
  refine (setQuota_any hM hnl q (by omega) hq16).mono ?_
  rintro e2 w3 ⟨rfl, hn3⟩
  have hN3 := h.memNext hv hn3
  have hN3' : PNext own id w2 p w3 S0 := by rw [← HS0.out]; exact hN3
  rw [HBD.out]
  clear hN3 hn3 hM k1
  go_wp2_with fail
  go_loopg [9] n (fun m x wr => ∃ i : Nat, x = .int .i64 i ∧ i + m = n ∧ PNext own id w2 p wr (upN i S0 j))
  case atStart => exact ⟨0, rfl, by omega, hN3'⟩
  case round =>
    obtain ⟨i, rfl, hk, hP⟩ := hrel
    have HK : Hid (i + gk = n) := hk
    have hi : i ≤ n := by omega
    clear hk
    by_cases hlt : i < n
    · have hg : (i : Int) < bd := by have := HN.out; omega
      obtain ⟨own4, gE4, vF4, vL4, vT4, L4, h4, ho4, ht4⟩ := hP
      have hu := HOK.out i hlt
      go_wp2_with fail
      refine (giveUp_any h4 hu).mono ?_
      rintro e5 w5 ⟨rfl, hn5⟩
      have hn6 := PNext.then ho4 ht4 hn5
      go_wp2_with fail
      go_roundg (gk - 1)
      case measure => have := HK.out; omega
      case rel => exact ⟨i + 1, by go_num, by have := HK.out; omega, hn6⟩
    · have hg : ¬ (i : Int) < bd := by have := HN.out; omega
      have hin : i = n := by omega
      rw [hin] at hP
      clear hin
      go_wp2_with fail
      go_ret
      exact ⟨rfl, hP⟩
end
end Go.Proofs.Ytinlkcmdbjcofab

/-
  The program's machine: Keep.
-/
namespace Go.Proofs.Ytinlkcmdbjcofab
open Go.RowKit
set_option linter.unusedVariables false
attribute [local go_sem ↓] Go.wp_at_zero Go.wp_at_succ

def policyOk (v : Int) : Bool := v == 0 || (v == 1 || v == 2)
set_option maxHeartbeats 1000000 in
set_option maxRecDepth 100000 in
theorem isPolicy_any (v : Int) (w : World) : Calls Try.prog 69 #[.int .i64 v] w fun e w' => e = .returned (.bool (policyOk v)) ∧ w' = w := by
  cases h0 : (v == 0)
  · cases h1 : (v == 1)
    · have HE : Hid (policyOk v = (v == 2)) := by simp [Hid, policyOk, h0, h1]
      go_enter Try.func69, Try.ntmps69
      go_wp2_with fail
      go_ret
      exact ⟨ret_bool (by rw [HE.out]), rfl⟩
    · have HE : Hid (policyOk v = true) := by simp [Hid, policyOk, h0, h1]
      go_enter Try.func69, Try.ntmps69
      go_wp2_with fail
      go_ret
      exact ⟨ret_bool (by rw [HE.out]), rfl⟩
  · have HE : Hid (policyOk v = true) := by simp [Hid, policyOk, h0]
    go_enter Try.func69, Try.ntmps69
    go_wp2_with fail
    go_ret
    exact ⟨ret_bool (by rw [HE.out]), rfl⟩

section
variable {own : Nat → Nat × Nat} {id : Nat} {w : World} {p : Nat} {s s1 : PSt} {gE : Nat} {vF vL vT : Value} {L : List (PEnv × Value)}

theorem PRep.setKept (h : PRep own id w p s gE vF vL vT L) {j : Nat} {e : PEnv} {v : Value} (he : L[j]? = some (e, v)) :
    PRep own id (w.setCell ⟨gE, j * 136 + 1, none⟩ (.bool true)) p { s with envs := s.envs.set j { e with kept := true } } gE vF vL vT (L.set j ({ e with kept := true }, v)) := by
  have hj := (List.getElem?_eq_some_iff.1 he).1
  have hl := flat_length ecells 136 ecells_len L
  obtain ⟨r1, r2⟩ := h.rI j e v he
  refine h.envd (x := ({ e with kept := true }, v)) hj (fun _ _ => rfl) (fun b hb h1 h2 => Below.heap_setCell _ _ _ _ (fun e2 => h1 (by simp at e2; rw [e2]; exact h.tE))) ?_ ⟨r1.other _ (fun e2 => by have := r2 _ e2; simp at this; rw [h.tE] at this; simp at this; omega), r2⟩
  have e1 : (L.flatMap ecells).set (j * 136 + 1) (.bool true) = (L.set j ({ e with kept := true }, v)).flatMap ecells := by
    apply List.ext_getElem?
    intro q
    rw [List.getElem?_set, flat_at ecells 136 (by omega) ecells_len, flat_at ecells 136 (by omega) ecells_len, List.getElem?_set]
    by_cases h2 : j = q / 136
    · rw [if_pos h2, if_pos hj, ← h2, he]
      show _ = (ecells ({ e with kept := true }, v))[q % 136]?
      by_cases h1 : j * 136 + 1 = q
      · rw [if_pos h1, if_pos (by rw [hl]; omega), show q % 136 = 1 by omega]; rfl
      · rw [if_neg h1]
        show (ecells (e, v))[q % 136]? = _
        by_cases h3 : q % 136 = 0
        · rw [h3]; rfl
        · obtain ⟨m, hm⟩ : ∃ m, q % 136 = m + 1 + 1 := ⟨q % 136 - 2, by omega⟩
          rw [hm]; rfl
    · rw [if_neg h2, if_neg (by omega)]
  rw [← e1]
  exact h.bE.set _ _
theorem PRep.setMem (h : PRep own id w p s gE vF vL vT L) {j : Nat} {e : PEnv} {v : Value} (he : L[j]? = some (e, v)) (k' : PK) (hk : k'.inl = []) :
    PRep own id (w.setCells gE (j * 136 + 2) (k'.cells (.slice none 0 0))) p { s with envs := s.envs.set j { e with mem := k' } } gE vF vL vT (L.set j ({ e with mem := k' }, .slice none 0 0)) := by
  have hj := (List.getElem?_eq_some_iff.1 he).1
  have hl := flat_length ecells 136 ecells_len L
  refine h.envd (x := ({ e with mem := k' }, .slice none 0 0)) hj (fun _ _ => rfl) (fun b hb h1 h2 => heap_setCells gE b (fun e => h1 (by rw [e]; exact h.tE)) _ _ _) ?_ ⟨?_, Tg.nil _ _⟩
  · rw [← mem_lay he]
    exact h.bE.setCells _ _ (by rw [PK.cells_len, hl]; omega)
  · show Row _ _ _ _ k'.inl.length (k'.inl.map _)
    rw [hk]
    exact Row.nil _ _ _

set_option maxHeartbeats 4000000 in
set_option maxRecDepth 100000 in
theorem pkeep_no (h : PRep own id w p s gE vF vL vT L) (hw : PWf s) (env q pol : Int) (hx : rawP s env ≠ 0) :
    Calls Try.prog 36 #[.pointer (some ⟨p, 0, none⟩), .int .i64 env, .int .i64 q, .int .i64 pol] w fun e w' => e = .returned (.int .i64 (rawP s env)) ∧ w' = w := by
  obtain ⟨x, hxv⟩ : ∃ x, rawP s env = x := ⟨_, rfl⟩
  have HR : Hid (rawP s env = x) := hxv
  rw [hxv] at hx ⊢
  have hx0 : (x != 0) = true := by simpa using hx
  clear hx hxv
  go_enter Try.func36, Try.ntmps36
  go_wp2_with fail
  refine (needRaw_any h hw env).mono ?_
  rintro e w2 ⟨rfl, hw2⟩
  subst hw2
  rw [HR.out]
  go_wp2_with fail
  go_ret
  exact ⟨rfl, rfl⟩
set_option maxHeartbeats 4000000 in
set_option maxRecDepth 100000 in
theorem pkeep_arg (h : PRep own id w p s gE vF vL vT L) (hw : PWf s) (env q pol : Int) (hx : rawP s env = 0) (hq : (quotaOk q && policyOk pol) = false) :
    Calls Try.prog 36 #[.pointer (some ⟨p, 0, none⟩), .int .i64 env, .int .i64 q, .int .i64 pol] w fun e w' => e = .returned (.int .i64 6) ∧ w' = w := by
  have HR : Hid (rawP s env = 0) := hx
  clear hx
  cases hq1 : quotaOk q
  · have HQ : Hid (quotaOk q = false) := hq1
    clear hq hq1
    go_enter Try.func36, Try.ntmps36
    go_wp2_with fail
    refine (needRaw_any h hw env).mono ?_
    rintro e w2 ⟨rfl, hw2⟩
    subst hw2
    rw [HR.out]
    go_wp2_with fail
    refine (isQuota_any q _).mono ?_
    rintro e w2 ⟨rfl, hw2⟩
    subst hw2
    rw [HQ.out]
    go_wp2_with fail
    go_ret
    exact ⟨rfl, rfl⟩
  · have HQ : Hid (quotaOk q = true) := hq1
    have HP : Hid (policyOk pol = false) := by rw [hq1] at hq; simpa [Hid] using hq
    clear hq hq1
    go_enter Try.func36, Try.ntmps36
    go_wp2_with fail
    refine (needRaw_any h hw env).mono ?_
    rintro e w2 ⟨rfl, hw2⟩
    subst hw2
    rw [HR.out]
    go_wp2_with fail
    refine (isQuota_any q _).mono ?_
    rintro e w2 ⟨rfl, hw2⟩
    subst hw2
    rw [HQ.out]
    go_wp2_with fail
    refine (isPolicy_any pol _).mono ?_
    rintro e w2 ⟨rfl, hw2⟩
    subst hw2
    rw [HP.out]
    go_wp2_with fail
    go_ret
    exact ⟨rfl, rfl⟩
set_option maxHeartbeats 4000000 in
set_option maxRecDepth 100000 in
theorem pkeep_held (h : PRep own id w p s gE vF vL vT L) (hw : PWf s) (env q pol : Int) (hx : rawP s env = 0) (hq : quotaOk q = true) (hp : policyOk pol = true) (h0 : 0 < (ofP s.hs env).length) :
    Calls Try.prog 36 #[.pointer (some ⟨p, 0, none⟩), .int .i64 env, .int .i64 q, .int .i64 pol] w fun e w' => e = .returned (.int .i64 15) ∧ Below w.heap.size w w' := by
  have HR : Hid (rawP s env = 0) := hx
  have HQ : Hid (quotaOk q = true) := hq
  have HP : Hid (policyOk pol = true) := hp
  have hsz := hw.size
  clear hx hq hp
  go_enter Try.func36, Try.ntmps36
  go_wp2_with fail
  refine (needRaw_any h hw env).mono ?_
  rintro e w2 ⟨rfl, hw2⟩
  subst hw2
  rw [HR.out]
  go_wp2_with fail
  refine (isQuota_any q _).mono ?_
  rintro e w2 ⟨rfl, hw2⟩
  subst hw2
  rw [HQ.out]
  go_wp2_with fail
  refine (isPolicy_any pol _).mono ?_
  rintro e w2 ⟨rfl, hw2⟩
  subst hw2
  rw [HP.out]
  go_wp2_with fail
  refine (of_any h.st hsz env).mono ?_
  rintro e w3 ⟨v, rfl, hb3, hrow, hnew⟩
  obtain ⟨ao, cap, hv, _⟩ := hrow.shape
  subst hv
  have hgt : (0 : Int) < ((ofP s.hs env).length : Int) := by omega
  go_wp2_with fail
  go_ret
  exact ⟨rfl, hb3⟩
set_option maxHeartbeats 4000000 in
set_option maxRecDepth 100000 in
theorem pkeep_yes (h : PRep own id w p s gE vF vL vT L) (hw : PWf s) {j : Nat} {x : PEnv} (he : s.envs[j]? = some x) (q pol : Int) (hx : rawP s j = 0) (hq : quotaOk q = true) (hp : policyOk pol = true) (h0 : (ofP s.hs j).length = 0) :
    Calls Try.prog 36 #[.pointer (some ⟨p, 0, none⟩), .int .i64 j, .int .i64 q, .int .i64 pol] w fun e w' => e = .returned (.int .i64 0) ∧ PNext own id w p w' { s with envs := s.envs.set j ⟨x.alive, true, PK.new q pol⟩ } := by
  have HR : Hid (rawP s j = 0) := hx
  have HQ : Hid (quotaOk q = true) := hq
  have HP : Hid (policyOk pol = true) := hp
  have hsz := hw.size
  have hj := (List.getElem?_eq_some_iff.1 he).1
  have hlj : (j : Int) < (s.envs.length : Int) := by omega
  obtain ⟨v, hv⟩ := h.pair he
  clear hx hq hp
  go_enter Try.func36, Try.ntmps36
  go_wp2_with fail
  refine (needRaw_any h hw j).mono ?_
  rintro e w2 ⟨rfl, hw2⟩
  subst hw2
  rw [HR.out]
  go_wp2_with fail
  refine (isQuota_any q _).mono ?_
  rintro e w2 ⟨rfl, hw2⟩
  subst hw2
  rw [HQ.out]
  go_wp2_with fail
  refine (isPolicy_any pol _).mono ?_
  rintro e w2 ⟨rfl, hw2⟩
  subst hw2
  rw [HP.out]
  go_wp2_with fail
  refine (of_any h.st hsz j).mono ?_
  rintro e w3 ⟨v3, rfl, hb3, hrow, hnew⟩
  obtain ⟨ao, cap, hv3, _⟩ := hrow.shape
  rw [h0] at hv3
  subst hv3
  have h3 := h.below hb3
  have k3 := h3.c0
  obtain ⟨c0, c1⟩ := h3.env he
  have f1 := h3.bE.frozen (j * 136 + 1)
  have h4 := h3.setKept hv
  have hne : p ≠ gE := fun e2 => by have := h.tm; rw [e2, h.tE] at this; simp at this
  have hne2 : gE ≠ p := fun e2 => hne e2.symm
  obtain ⟨cs, hcs⟩ : ∃ cs, (PK.new q pol).cells (.slice none 0 0) = cs := ⟨_, rfl⟩
  have HCS : Hid ((PK.new q pol).cells (.slice none 0 0) = cs) := hcs
  have hcl : cs.length = 134 := by rw [← hcs]; exact PK.cells_len _ _
  have hc1 : ∀ u ∈ cs, u.oneCell' = true := by rw [← hcs]; exact oneCell_mem _ _ rfl
  have HC1 : Hid (∀ u ∈ cs, u.oneCell' = true) := hc1
  have HCL : Hid (cs.length = 134) := hcl
  have ht4 : Touch w2.heap.size (fun b => (own b).1 = id) w2 (w3.setCell ⟨gE, j * 136 + 1, none⟩ (.bool true)) := (Touch.of_below hb3 _).setCell (.inl (by rw [h.tE])) _
  clear hcs hcl hc1
  go_wp2_with fail
  obtain ⟨W, hW⟩ : ∃ W, w3.setCell ⟨gE, j * 136 + 1, none⟩ (.bool true) = W := ⟨_, rfl⟩
  rw [hW] at h4 ht4 ⊢
  clear hW c0 c1 f1 k3 h3
  have m0 := h4.c0
  have hv4 : (L.set j ({ x with kept := true }, v))[j]? = some ({ x with kept := true }, v) := List.getElem?_set_self (by rw [h.len]; exact hj)
  have hlen : (s.envs.set j { x with kept := true }).length = s.envs.length := List.length_set ..
  simp only [hlen] at m0
  have h4d := h4.below (Below.refl _ _).drew
  go_region_held3 (fun w' => w'.cell? ⟨p, 0, none⟩ = some (.slice (some ⟨gE, 0, none⟩) s.envs.length s.envs.length)) (go_keep)
    ((first
      | (go_at_call 71; refine (mempty_any q pol).mono ?_; rintro e5 w5 ⟨he5, hb5⟩
         rw [HCS.out] at he5
         subst he5
         have h5 := h4d.below hb5
         have q0 := h5.c0
         have hst : Sem.run Try.prog (storeCells ⟨gE, j * 136 + 2, none⟩ cs) w5 = .ok () (w5.setCells gE (j * 136 + 2) cs) := h5.storeE (by rw [HCL.out]; show j * 136 + 2 + 134 ≤ (s.envs.set j _).length * 136; rw [List.length_set]; omega) HC1.out
         have q1 : (w5.setCells gE (j * 136 + 2) cs).cell? ⟨p, 0, none⟩ = some (.slice (some ⟨gE, 0, none⟩) s.envs.length s.envs.length) := by
           rw [World.cell?_setCells_out gE cs _ w5 ⟨p, 0, none⟩ (fun e2 => absurd e2 hne), q0]
           simp only [hlen])))
  have h6 := h5.setMem hv4 (PK.new q pol) rfl
  rw [HCS.out] at h6
  simp only [List.set_set] at h6
  have ht6 := ht4.drew.then_below hb5 ht4.size
  have ht7 := ht6.next (own' := own) (fun _ _ => rfl) (h5.wroteE (j * 136 + 2) cs)
  clear h5 hst q1 q0
  go_wp2_with fail
  go_ret
  exact ⟨rfl, own, _, _, _, _, _, h6, fun _ _ => rfl, ht7⟩
end
end Go.Proofs.Ytinlkcmdbjcofab

/-
  The program's state and the document's: an access to a page of a kept environment.
-/
namespace Go.Proofs.Ytinlkcmdbjcofab
set_option linter.unusedVariables false

section
variable {rs t : RSt} {ps qs : PSt}

theorem Sim.pwf (hs : Sim rs ps) (h : SOk rs) (hf : Few rs) : PWf ps := by
  have h1 : (live rs.rights).length ≤ rs.rights.length := by
    rw [live_len]
    exact cntTo_le _ _
  unfold Few at hf
  have hn := h.fix.nf
  have hne := h.fix.ne
  have hns := h.ns
  refine ⟨by rw [hs.ne]; exact hne, by rw [hs.bl]; exact hn, by rw [hs.sl]; exact h.fix.sl, by rw [hs.sl]; exact h.uni, ?_, hs.b4, by rw [hs.last]; omega, by rw [hs.last]; omega, by rw [hs.hs]; omega, by rw [hs.tn]; exact h.kok.t0, by rw [hs.tn, hs.sl, hns]; exact h.kok.t1⟩
  intro i e he hu
  rw [hs.sl] at he
  rw [hs.bl]
  exact h.sfr i e he hu

theorem met_of {i : Nat} {k : KSt} (h : SOk rs) (hO : rs.kept[i]? = some (some k)) : ∀ p, p ∈ k.inp → ∃ u, u ∈ k.uses ∧ u.1 = p := fun p hp => by
  have hK := h.kok.k1 i k hO
  exact hK.len.met p hp (by have := hK.len.pg p hp; omega)
theorem Sim.inl (hs : Sim rs ps) (h : SOk rs) {j : Nat} {e : PEnv} {k : KSt} (he : ps.envs[j]? = some e) (hO : rs.kept[j]? = some (some k)) : e.mem.inl.length = k.inp.length ∧ e.mem.inl.length ≤ 16 ∧ ∀ x, x ∈ e.mem.inl ↔ x ∈ k.inp := by
  have hK := h.kok.k1 j k hO
  have hS := hs.km j e k he hO
  rw [hS.inl]
  have hl := inOrd_len hK.len.nod (met_of h hO)
  exact ⟨hl, by rw [hl]; exact hK.len.inpL, fun x => inOrd_mem (met_of h hO)⟩
theorem Sim.mwf (hs : Sim rs ps) (h : SOk rs) (hF : FewU rs) {j : Nat} {e : PEnv} {k : KSt} (he : ps.envs[j]? = some e) (hO : rs.kept[j]? = some (some k)) : MWf ps.bytes.length e.mem ∧ e.mem.refills ≤ 2932031007402 ∧ e.mem.ins ≤ 2932031007402 ∧ e.mem.outs ≤ 2932031007402 := by
  have hK := h.kok.k1 j k hO
  have hS := hs.km j e k he hO
  obtain ⟨l1, l2, l3⟩ := hs.inl h he hO
  have hu := hF j k hO
  have r0 := hK.len.r0
  have r1 := hK.len.r1
  have i0 := hK.len.i0
  have i1 := hK.len.i1
  have o0 := hK.len.o0
  have o1 := hK.len.o1
  have c1 := hS.cr
  have c2 := hS.ci
  have c3 := hS.co
  refine ⟨⟨hS.np, l2, fun x hx => hK.len.pg x ((l3 x).1 hx), fun q g hq hg => ?_, by omega, by omega, by omega, by omega, by omega, by omega⟩, by omega, by omega, by omega⟩
  have hin := (l3 q).1 hq
  obtain ⟨_, _, _, a4, _⟩ := hS.pg q g hg
  obtain ⟨b1, _, _⟩ := a4 hin
  have hfl := kframe_lt h hO hin
  exact ⟨g.frame.toNat, by rw [b1]; omega, by rw [hs.bl, b1]; omega⟩
theorem MWf.goOut {n : Nat} {k : PK} (h : MWf n k) (ho : k.outs ≤ 2932031007402) (q : Nat) (l : List Int) : MWf n (k.goOut q l) := by
  unfold PK.goOut
  cases hg : k.pages[q]? with
  | none => exact h
  | some g =>
    have hql := (List.getElem?_eq_some_iff.1 hg).1
    have h0 := h.o0
    refine ⟨by simp [h.np], ?_, fun x hx => h.pg x (List.mem_filter.1 hx).1, fun q' g' hq' hg' => ?_, h.r0, h.r1, h.i0, h.i1, ?_, ?_⟩
    · have := List.length_filter_le (fun x => !(x == (q : Int))) k.inl
      have := h.nl
      show (k.inl.filter _).length ≤ 16
      omega
    · have hm := (List.mem_filter.1 hq').1
      have hg2 : (k.pages.set q (if g.chg then { g with sto := true, out := l } else g))[q']? = some g' := hg'
      by_cases e : q = q'
      · subst e
        rw [List.getElem?_set_self hql] at hg2
        simp only [Option.some.injEq] at hg2
        have : g'.frame = g.frame := by rw [← hg2]; split <;> rfl
        rw [this]
        exact h.fr q g hm hg
      · rw [List.getElem?_set_ne e] at hg2
        exact h.fr q' g' hm hg2
    · show 0 ≤ (if g.chg then k.outs + 1 else k.outs); split <;> omega
    · show (if g.chg then k.outs + 1 else k.outs) ≤ _; split <;> omega
theorem MWf.comeIn {n : Nat} {k : PK} (h : MWf n k) (hi : k.ins ≤ 2932031007402) {p f : Nat} (hp : p < 16) (hf : f < n) (hl : k.inl.length < 16) : MWf n (k.comeIn p f) := by
  unfold PK.comeIn
  cases hg : k.pages[p]? with
  | none => exact h
  | some g =>
    have hql := (List.getElem?_eq_some_iff.1 hg).1
    have h0 := h.i0
    refine ⟨by simp [h.np], ?_, fun x hx => ?_, fun q' g' hq' hg' => ?_, h.r0, h.r1, ?_, ?_, h.o0, h.o1⟩
    · show (k.inl ++ [(p : Int)]).length ≤ 16
      simp; omega
    · have hx' : x ∈ k.inl ++ [(p : Int)] := hx
      rcases List.mem_append.1 hx' with h1 | h1
      · exact h.pg x h1
      · simp at h1; omega
    · have hg2 : (k.pages.set p { g with frame := (f : Int), chg := false })[q']? = some g' := hg'
      by_cases e : p = q'
      · subst e
        rw [List.getElem?_set_self hql] at hg2
        simp only [Option.some.injEq] at hg2
        exact ⟨f, by rw [← hg2], hf⟩
      · rw [List.getElem?_set_ne e] at hg2
        have hq2 : (q' : Int) ∈ k.inl ++ [(p : Int)] := hq'
        rcases List.mem_append.1 hq2 with h1 | h1
        · exact h.fr q' g' h1 hg2
        · simp at h1; omega
    · show 0 ≤ (if g.sto then k.ins + 1 else k.ins); split <;> omega
    · show (if g.sto then k.ins + 1 else k.ins) ≤ _; split <;> omega

/-- As Sim, but for the memory of environment j. -/
structure SimX (j : Nat) (rs : RSt) (ps : PSt) : Prop where
  ne : ps.envs.length = rs.ne
  al : ∀ (i : Nat) (e : PEnv), ps.envs[i]? = some e → rs.alive[i]? = some e.alive
  kp : ∀ (i : Nat) (e : PEnv), ps.envs[i]? = some e → e.kept = keptB rs i
  km : ∀ (i : Nat) (e : PEnv) (k : KSt), i ≠ j → ps.envs[i]? = some e → rs.kept[i]? = some (some k) → KSim rs k e.mem ps.bytes (inOrd k)
  bl : ps.bytes.length = rs.nf
  b4 : ∀ (f : Nat) (l : List Int), ps.bytes[f]? = some l → l.length = 4 ∧ ∀ (j : Nat) (x : Int), l[j]? = some x → 0 ≤ x ∧ x ≤ 255
  by_ : ∀ (i : Nat) (r : RR), rs.rights[i]? = some r → lv rs.rights i = true → keptB rs r.env = false → ps.bytes[r.fr.toNat]? = rs.bytes[r.fr.toNat]?
  hs : ps.hs = live rs.rights
  last : ps.last = rs.rights.length
  sl : ps.slots = rs.slots
  tn : ps.turn = rs.turn
  en : ∀ (i : Nat) (k : KSt) (q : Nat) (x : Ent), rs.kept[i]? = some (some k) → rs.slots[q]? = some x → x.used = true → x.env = i → ∃ p : Nat, x.page = p ∧ (p : Int) ∈ k.inp ∧ x.fr = frameOf rs k p
theorem SimX.sim {j : Nat} {e : PEnv} {k : KSt} (h : SimX j rs ps) (he : ps.envs[j]? = some e) (hO : rs.kept[j]? = some (some k)) (hk : KSim rs k e.mem ps.bytes (inOrd k)) : Sim rs ps := by
  refine ⟨h.ne, h.al, h.kp, fun i e' k' he' hO' => ?_, h.bl, h.b4, h.by_, h.hs, h.last, h.sl, h.tn, h.en⟩
  by_cases hi : i = j
  · subst hi
    rw [he] at he'
    rw [hO] at hO'
    simp only [Option.some.injEq] at he' hO'
    subst he' hO'
    exact hk
  · exact h.km i e' k' hi he' hO'
/-- Environment j's memory is another. -/
theorem env_set {j : Nat} {e e' : PEnv} (hs : Sim rs ps) (he : ps.envs[j]? = some e) (ha : e'.alive = e.alive) (hkp : e'.kept = e.kept) {k k' : KSt} (hO : rs.kept[j]? = some (some k)) (hk : t.kept = rs.kept.set j (some k')) (hal : t.alive = rs.alive) :
    (∀ (i : Nat) (x : PEnv), (ps.envs.set j e')[i]? = some x → t.alive[i]? = some x.alive) ∧ (∀ (i : Nat) (x : PEnv), (ps.envs.set j e')[i]? = some x → x.kept = keptB t i) := by
  have hj := (List.getElem?_eq_some_iff.1 he).1
  refine ⟨fun i x hx => ?_, fun i x hx => ?_⟩
  · rw [hal]
    by_cases hi : j = i
    · subst hi
      rw [List.getElem?_set_self hj] at hx
      simp only [Option.some.injEq] at hx
      rw [← hx, ha]; exact hs.al j e he
    · rw [List.getElem?_set_ne hi] at hx; exact hs.al i x hx
  · rw [keptB_set hO hk]
    by_cases hi : j = i
    · subst hi
      rw [List.getElem?_set_self hj] at hx
      simp only [Option.some.injEq] at hx
      rw [← hx, hkp]; exact hs.kp j e he
    · rw [List.getElem?_set_ne hi] at hx; exact hs.kp i x hx
theorem page4 {k : KSt} {x : Int} {n : Nat} (h : KLen0 k x n) {p : Nat} (hp : p < 16) : (pageB k p).length = 4 ∧ ∀ (j : Nat) (x : Int), (pageB k p)[j]? = some x → 0 ≤ x ∧ x ≤ 255 := by
  refine ⟨pageB_len h.by_ hp, fun j y hy => ?_⟩
  have hj : j < 4 := by have := (List.getElem?_eq_some_iff.1 hy).1; rw [pageB_len h.by_ hp] at this; exact this
  rw [pageB_get hj] at hy
  exact h.val y (List.mem_of_getElem? hy)
theorem frameOf_in {s : RSt} {k : KSt} {pg : Nat} {h : Int} {q : Nat} (hne : q ≠ pg) (s' : RSt) (hr : FrKeep s s') {j : Nat} {r : RR} (hh : k.hnd[q]? = some ((j : Int) + 1)) (hrr : s.rights[j]? = some r) : frameOf s' (inK k pg h) q = frameOf s k q := by
  obtain ⟨r', a, b⟩ := hr j r hrr
  unfold frameOf inK
  simp only
  rw [List.getElem?_set_ne (fun e => hne e.symm), hh]
  simp only [Option.getD_some]
  rw [show ((j : Int) + 1 - 1).toNat = j by omega, hrr, a]
  simp [b]

/-- A page comes in by a first right. -/
theorem Sim.comeFirst (hs : Sim rs ps) (h : SOk rs) {j : Nat} {e : PEnv} {k : KSt} (he : ps.envs[j]? = some e) (hO : rs.kept[j]? = some (some k)) {pg f : Nat} (hp : pg < 16) (hno : (pg : Int) ∉ k.inp) (hl : leastFree rs = some f) :
    SimX j (putK (addR { rs with bytes := rs.bytes.set f [0, 0, 0, 0] } j f true (-1)) j (inK k pg ((rs.rights.length : Int) + 1))) (comeP (giveP ps j f) j e pg f) ∧
    KSim (putK (addR { rs with bytes := rs.bytes.set f [0, 0, 0, 0] } j f true (-1)) j (inK k pg ((rs.rights.length : Int) + 1))) (inK k pg ((rs.rights.length : Int) + 1)) (e.mem.comeIn pg f) (comeP (giveP ps j f) j e pg f).bytes (inOrd k ++ [(pg : Int)]) ∧
    frameOf (putK (addR { rs with bytes := rs.bytes.set f [0, 0, 0, 0] } j f true (-1)) j (inK k pg ((rs.rights.length : Int) + 1))) (inK k pg ((rs.rights.length : Int) + 1)) pg = f := by
  have hK := h.kok.k1 j k hO
  have hS := hs.km j e k he hO
  have hj := (List.getElem?_eq_some_iff.1 he).1
  have hfl := leastFree_lt hl
  obtain ⟨g, hg⟩ := hS.page hp
  obtain ⟨a1, a2, a3, a4, a5⟩ := hS.pg pg g hg
  have hout : outB e.mem pg = pageB k pg := by simp [outB, hg, a5 (.inl hno)]
  have hF : FrKeep rs (putK (addR { rs with bytes := rs.bytes.set f [0, 0, 0, 0] } j f true (-1)) j (inK k pg ((rs.rights.length : Int) + 1))) := FrKeep.add (x := ⟨rs.rights.length + 1, j, f, true, -1, false⟩) rfl
  have hby : (comeP (giveP ps j f) j e pg f).bytes = ps.bytes.set f (pageB k pg) := by
    show (ps.bytes.set f [0, 0, 0, 0]).set f (outB e.mem pg) = _
    rw [List.set_set, hout]
  have hfr : ∀ q : Nat, (q : Int) ∈ k.inp → frameOf (putK (addR { rs with bytes := rs.bytes.set f [0, 0, 0, 0] } j f true (-1)) j (inK k pg ((rs.rights.length : Int) + 1))) (inK k pg ((rs.rights.length : Int) + 1)) q = frameOf rs k q := fun q hq => by
    obtain ⟨n, r, b, c, d, ee, ff, hL⟩ := kframe h hO hq
    have h1 := hL.1
    simp only [Int.toNat_natCast] at h1
    exact frameOf_in (fun e2 => hno (by rw [← e2]; exact hq)) _ hF h1 b
  have hfp : frameOf (putK (addR { rs with bytes := rs.bytes.set f [0, 0, 0, 0] } j f true (-1)) j (inK k pg ((rs.rights.length : Int) + 1))) (inK k pg ((rs.rights.length : Int) + 1)) pg = f := by
    unfold frameOf
    have e1 : (inK k pg ((rs.rights.length : Int) + 1)).hnd[pg]? = some ((rs.rights.length : Int) + 1) := List.getElem?_set_self (by rw [hK.len.hnd]; exact hp)
    rw [e1]
    simp only [Option.getD_some]
    rw [show ((rs.rights.length : Int) + 1 - 1).toNat = rs.rights.length by omega]
    show (((rs.rights ++ [_])[rs.rights.length]?).map RR.fr).getD 0 = _
    rw [List.getElem?_append_right (Nat.le_refl _)]
    simp
  obtain ⟨es1, es2⟩ := env_set (e' := { e with mem := e.mem.comeIn pg f }) (t := putK (addR { rs with bytes := rs.bytes.set f [0, 0, 0, 0] } j f true (-1)) j (inK k pg ((rs.rights.length : Int) + 1))) (k' := inK k pg ((rs.rights.length : Int) + 1)) hs he rfl rfl hO rfl rfl
  refine ⟨⟨?_, es1, es2, ?_, ?_, ?_, ?_, ?_, ?_, hs.sl, hs.tn, ?_⟩, ?_, hfp⟩
  · show (ps.envs.set j _).length = rs.ne
    rw [List.length_set]; exact hs.ne
  · intro i e' k' hi he' hO'
    have he2 : (ps.envs.set j { e with mem := e.mem.comeIn pg f })[i]? = some e' := he'
    have hO2 : (rs.kept.set j (some (inK k pg ((rs.rights.length : Int) + 1))))[i]? = some (some k') := hO'
    rw [List.getElem?_set_ne (fun e => hi e.symm)] at he2 hO2
    rw [hby]
    exact hs.kms h hF he2 hO2 (fun p hp => List.getElem?_set_ne (fun e => kframe_free h hO2 hp hl e.symm))
  · rw [hby, List.length_set]; exact hs.bl
  · rw [hby]; exact set_b4 hs.b4 (page4 hK.len hp)
  · intro i r hri hli hraw
    rw [hby]
    show _ = (rs.bytes.set f [0, 0, 0, 0])[r.fr.toNat]?
    have hkb := keptB_set (t := putK (addR { rs with bytes := rs.bytes.set f [0, 0, 0, 0] } j f true (-1)) j (inK k pg ((rs.rights.length : Int) + 1))) hO rfl r.env
    rw [hkb] at hraw
    rcases live_add (x := ⟨rs.rights.length + 1, j, f, true, -1, false⟩) h.inv (by simp) (by simp; omega) rfl (lv_neg (by simp)) hri hli with ⟨hri, hli⟩ | rfl
    · have hne : f ≠ r.fr.toNat := fun e => freeB_no h.inv (List.find?_some hl) i r hri hli (by have := h.inv.fr i r hri; omega)
      rw [List.getElem?_set_ne hne, List.getElem?_set_ne hne]
      exact hs.by_ i r hri hli hraw
    · exfalso
      have : keptB rs (j : Int) = false := hraw
      rw [keptB_at hO] at this
      simp at this
  · show addP ps.hs ps.last j f true 0 = live (rs.rights ++ [_])
    rw [live_append h.inv.ord (by simp) (by simp; omega) rfl (lv_neg (by simp)), hs.hs, hs.last]
    rfl
  · show ps.last + 1 = ((rs.rights ++ [_]).length : Int)
    rw [hs.last]; simp
  · intro i k' q x hO' hx hu hi
    have hO2 : (rs.kept.set j (some (inK k pg ((rs.rights.length : Int) + 1))))[i]? = some (some k') := hO'
    by_cases hij : j = i
    · subst hij
      rw [List.getElem?_set_self (kept_lt hO)] at hO2
      simp only [Option.some.injEq] at hO2
      subst hO2
      obtain ⟨p, b1, b2, b3⟩ := hs.en j k q x hO hx hu hi
      exact ⟨p, b1, in_inp.2 (.inl b2), by rw [hfr p b2]; exact b3⟩
    · rw [List.getElem?_set_ne hij] at hO2
      exact hs.ens h hF hO2 hx hu hi
  · rw [hby]
    refine hS.come hK.len hp hno hfr hfp (fun q hq => List.getElem?_set_ne (fun e => kframe_free h hO hq hl e.symm)) ?_
    rw [Int.toNat_natCast]
    exact List.getElem?_set_self (by rw [hs.bl]; exact hfl)
end
end Go.Proofs.Ytinlkcmdbjcofab
