/-
  'play': one step of a script.
-/
import Derived.Test.YtkonobbhohfjlaaBookJ
import Derived.Test.YtkonobbhohfjlaaGInv
namespace Go.Proofs.Ytkonobbhohfjlaa
open Go.RowKit
set_option linter.unusedVariables false
attribute [local go_sem ↓] Go.wp_at_zero Go.wp_at_succ

/-- The machine and the book in step: behind i steps. -/
def HB (w0 : World) (b m s E i : Nat) (w : World) : Prop := ∃ (own : Nat → Nat × Nat) (rs : RSt) (ps : PSt) (nk : Nat) (vE vF vL vM : Value), PRep own 2 w m ps vE vF vL ∧ BRep own 1 w b m s rs vM ∧ Sim rs ps ∧ HInv rs ∧ RFix rs nk ∧ rs.rights.length ≤ i ∧ rs.ne = E ∧ (∀ x, x < w0.heap.size → (own x).1 = 0) ∧ Below w0.heap.size w0 w

section
variable {w0 w w' : World} {b m s E i nk : Nat} {own : Nat → Nat × Nat} {rs rs' : RSt} {ps ps' : PSt} {vE vF vL vM : Value}
theorem HB.below (h : HB w0 b m s E i w) (hb : Below w.heap.size w w') : HB w0 b m s E i w' := by
  obtain ⟨own, rs, ps, nk, vE, vF, vL, vM, h1, h2, h3, h4, h5, h6, h7, h8, h9⟩ := h
  exact ⟨own, rs, ps, nk, vE, vF, vL, vM, h1.below hb, h2.below hb, h3, h4, h5, h6, h7, h8, h9.trans (hb.mono h9.size)⟩
theorem HB.mono (h : HB w0 b m s E i w) : HB w0 b m s E (i + 1) w := by
  obtain ⟨own, rs, ps, nk, vE, vF, vL, vM, h1, h2, h3, h4, h5, h6, h7, h8, h9⟩ := h
  exact ⟨own, rs, ps, nk, vE, vF, vL, vM, h1, h2, h3, h4, h5, by omega, h7, h8, h9⟩
theorem HB.of (hn : BRes own w w' b m s rs' ps') (hs : Sim rs' ps') (hH : HInv rs') (hg : Grows rs rs') (hf : RFix rs nk) (hl : rs.rights.length ≤ i) (hE : rs.ne = E) (ho : ∀ x, x < w0.heap.size → (own x).1 = 0) (hb : Below w0.heap.size w0 w) : HB w0 b m s E (i + 1) w' := by
  obtain ⟨own', vE, vF, vL, vM, h1, h2, h3, h4⟩ := hn
  obtain ⟨a1, a2, a3, a4, a5, a6⟩ := hg
  have hsz := hb.size
  exact ⟨own', rs', ps', nk, vE, vF, vL, vM, h1, h2, hs, hH, hf.of a1 a2 a3 a4 a5, by omega, by omega, fun x hx => by rw [h3 x (by omega)]; exact ho x hx,
    hb.trans ((h4.mono (B' := w0.heap.size) (S' := fun _ => False) hsz (fun k hk h => by have := ho k hk; omega)).below (by simp))⟩
end

structure LStep where
  K : Int
  V : Int
  A : Int
  B : Int
  C : Int
  F : Bool
def LStep.cells (o : LStep) : List Value := [.int .i64 o.K, .int .i64 o.V, .int .i64 o.A, .int .i64 o.B, .int .i64 o.C, .bool o.F]

theorem pick_ex (c n : Int) (hc0 : -9223372036854775808 ≤ c) (hc1 : c ≤ 9223372036854775807) (hn : 0 < n) (hn1 : n ≤ 4611686018427387904) (w : World) :
    Calls Try.prog 17 #[.int .i64 c, .int .i64 n] w fun e w' => ∃ k : Nat, (k : Int) < n ∧ e = .returned (.int .i64 k) ∧ w' = w := by
  refine (pick_int c n hc0 hc1 hn hn1 w).mono ?_
  rintro e w' ⟨rfl, rfl⟩
  have := pk_lt c (show 0 < n.toNat by omega)
  exact ⟨_, by omega, rfl, rfl⟩

section
variable {w0 w w' : World} {b m s E i : Nat}

set_option maxHeartbeats 4000000 in
set_option maxRecDepth 100000 in
theorem play_any (h : HB w0 b m s E i w) (hi : (i + 2) * 48 ≤ 140737488355328) (hE : 1 ≤ E) (o : LStep) (v0 : -9223372036854775808 ≤ o.V) (v1 : o.V ≤ 9223372036854775807) (a0 : -9223372036854775808 ≤ o.A) (a1 : o.A ≤ 9223372036854775807) (b0 : -9223372036854775808 ≤ o.B) (b1 : o.B ≤ 9223372036854775807) :
    Calls Try.prog 10 #[.pointer (some ⟨b, 0, none⟩), .agg #[.int .i64 o.K, .int .i64 o.V, .int .i64 o.A, .int .i64 o.B, .int .i64 o.C, .bool o.F]] w fun e w' => e = .returned (.bool true) ∧ HB w0 b m s E (i + 1) w' := by
  obtain ⟨own, rs, ps, nk, vE, vF, vL, vM, h1, h2, h3, h4, h5, h6, h7, h8, h9⟩ := h
  have hne := h5.ne
  rw [h7] at hne
  have k3 := h2.c3
  have k4 := h2.c4
  have hbl := h2.blk.lt
  rw [h7] at k3
  obtain ⟨ao, cap, hv, -⟩ := h2.row.shape'
  obtain ⟨n, hn⟩ : ∃ n, rs.rights.length = n := ⟨_, rfl⟩
  have HN : Hid (rs.rights.length = n) := hn
  rw [hv, hn] at k4
  have hnl : n ≤ i := by omega
  have hw3 : IntKind.i64.wrap ((n : Int) + 3) = (n : Int) + 3 := by rw [IntKind.wrap_i64]; omega
  have hE0 : (0 : Int) < (E : Int) := by omega
  have hE1 : (E : Int) ≤ 4611686018427387904 := by omega
  have hn0 : (0 : Int) < (n : Int) + 3 := by omega
  have hn1 : (n : Int) + 3 ≤ 4611686018427387904 := by omega
  have hbne : b ≠ w.heap.size := by omega
  have hbne' : w.heap.size ≠ b := by omega
  clear hn hv
  have fin : ∀ {rs' : RSt} {ps' : PSt} {w1 w' : World}, Below w.heap.size w w1 → BRes own w1 w' b m s rs' ps' → Sim rs' ps' → HInv rs' → Grows rs rs' → HB w0 b m s E (i + 1) w' := fun hb hn hs hH hg => HB.of hn hs hH hg h5 h6 h7 h8 (h9.trans (hb.mono h9.size))
  have hN1 : rs.rights.length ≤ i + 1 := by omega
  have hm1 : (i + 1 + 1) * 48 ≤ 140737488355328 := by omega
  go_enter Try.func10, Try.ntmps10
  go_wp2_with fail
  go_region_held3 (fun w' => w'.cell? ⟨w.heap.size, 1, none⟩ = some (.int .i64 o.V) ∧ w'.cell? ⟨b, 3, none⟩ = some (.int .i64 E)) (go_keep)
    ((first
      | (go_at_call 17; refine (pick_ex _ _ v0 v1 hE0 hE1 _).mono ?_; rintro e w5 ⟨env, henv, rfl, hw5⟩; subst hw5)))
  go_wp2_with fail
  go_region_held3 (fun w' => w'.cell? ⟨w.heap.size, 2, none⟩ = some (.int .i64 o.A) ∧ w'.cell? ⟨b, 4, none⟩ = some (.slice ao n cap)) (go_keep)
    ((first
      | (go_at_call 17; refine (pick_ex _ _ a0 a1 hn0 hn1 _).mono ?_; rintro e w5 ⟨hd, hhd, rfl, hw5⟩; subst hw5)))
  clear hw3 hE0 hE1 hn0 hn1 a0 a1 v0 v1
  have hW : Below w.heap.size w (w.alloc (.cells #[.int .i64 o.K, .int .i64 o.V, .int .i64 o.A, .int .i64 o.B, .int .i64 o.C, .bool o.F] 39)).drew.drew := (((Below.refl _ _).alloc (Nat.le_refl _) _).drew).drew
  have p1 := h1.below hW
  have p2 := h2.below hW
  have he : env < rs.ne := by omega
  have hd0 : (0 : Int) ≤ (hd : Int) := by omega
  have hd1 : (hd : Int) ≤ 9223372036854775807 := by omega
  clear k3 k4
  by_cases hK0 : o.K = 0
  · have y0 : (o.K == 0) = true := by simp [hK0]
    clear hK0
    go_wp2_with fail
    refine (balloc_any p1 p2 h3 h4 h5 hN1 hm1 env he).mono ?_
    rintro e w1 ⟨rfl, hn⟩
    go_wp2_with fail
    go_ret
    exact ⟨rfl, fin hW hn (h3.alloc env).2 (h4.alloc h3.inv env) (allocR_grows env)⟩
  have y0 : (o.K == 0) = false := beq_eq_false_iff_ne.2 hK0
  by_cases hK1 : o.K = 1
  · have y1 : (o.K == 1) = true := by simp [hK1]
    clear hK0 hK1
    obtain ⟨own2, hown⟩ : ∃ own2 : Nat → Nat × Nat, own2 = fun x => if x < w.heap.size then own x else (0, 0) := ⟨_, rfl⟩
    have o1 : ∀ x, x < w.heap.size → own2 x = own x := fun x hx => by rw [hown]; exact if_pos hx
    have o2 : (own2 w.heap.size).1 = 0 := by rw [hown]; simp
    clear hown
    have hWd := hW.drew
    have hblk := fun x (hx : x < w.heap.size) => hWd.block x hx
    have r1 := h1.of o1 (fun x hx _ => hblk x hx)
    have r2 := h2.of o1 (fun x hx _ => hblk x hx)
    have k3 := h2.c3
    rw [h7] at k3
    have hbx := Blk.new w [.int .i64 o.K, .int .i64 o.V, .int .i64 o.A, .int .i64 o.B, .int .i64 o.C, .bool o.F] 39
    have HG : Hid (∀ te : Nat, (deriveR rs env hd te o.F).2.ne = E) := fun te => by have := (deriveR_grows (s := rs) env hd te o.F).2.1; rw [this, h7]
    go_wp2_with fail
    go_region_held3 (fun w' => w'.cell? ⟨w.heap.size, 3, none⟩ = some (.int .i64 o.B) ∧ w'.cell? ⟨w.heap.size, 5, none⟩ = some (.bool o.F) ∧ w'.cell? ⟨b, 3, none⟩ = some (.int .i64 E)) (go_keep)
      ((first
        | (go_at_call 17; refine (pick_ex _ _ b0 b1 (by omega) (by omega) _).mono ?_; rintro e w5 ⟨te, hte, rfl, hw5⟩; subst hw5)
        | (go_at_call 19; refine (bderive_any r1 r2 h3 h4 h5 hN1 hm1 env te he (by omega) hd hd0 hd1 o.F).mono ?_; rintro e w5 ⟨rfl, hn⟩
           have hb5 : Blk w5 w.heap.size [.int .i64 o.K, .int .i64 o.V, .int .i64 o.A, .int .i64 o.B, .int .i64 o.C, .bool o.F] 39 := by
             obtain ⟨_, _, _, _, _, _, _, _, ht5⟩ := hn
             exact hbx.of (ht5.block _ (by show w.heap.size < (w.alloc _).heap.size; simp) (fun e => by omega))
           have hq3 : w5.cell? ⟨b, 3, none⟩ = some (.int .i64 E) := by
             obtain ⟨_, _, _, _, _, _, hb9, _, _⟩ := hn
             rw [hb9.c3, HG.out te]
           have e3 := hb5.cell 3
           have e5 := hb5.cell 5
           simp at e3 e5)))
    go_wp2_with fail
    go_ret
    refine ⟨rfl, HB.of (own := own2) hn (h3.derive env hd te o.F).2 (h4.derive h3.inv env hd te o.F) (deriveR_grows env hd te o.F) h5 h6 h7 (fun x hx => by rw [o1 x (Nat.lt_of_lt_of_le hx h9.size)]; exact h8 x hx) (h9.trans (hWd.mono h9.size))⟩
  have y1 : (o.K == 1) = false := beq_eq_false_iff_ne.2 hK1
  by_cases hK2 : o.K = 2
  · have y2 : (o.K == 2) = true := by simp [hK2]
    clear hK0 hK1 hK2
    go_wp2_with fail
    refine (brevoke_any p1 p2 h3 h5 hN1 hm1 env he hd hd0 hd1).mono ?_
    rintro e w1 ⟨rfl, hn⟩
    go_wp2_with fail
    go_ret
    exact ⟨rfl, fin hW hn (h3.revoke env hd).2 (h4.revoke h3.inv env hd) (revokeR_grows env hd)⟩
  have y2 : (o.K == 2) = false := beq_eq_false_iff_ne.2 hK2
  by_cases hK3 : o.K = 3
  · have y3 : (o.K == 3) = true := by simp [hK3]
    clear hK0 hK1 hK2 hK3
    go_wp2_with fail
    refine (bdrop_any p1 p2 h3 h5 hN1 hm1 env he hd hd0 hd1).mono ?_
    rintro e w1 ⟨rfl, hn⟩
    go_wp2_with fail
    go_ret
    exact ⟨rfl, fin hW hn (h3.drop env hd).2 (h4.drop h3.inv env hd) (dropR_grows env hd)⟩
  have y3 : (o.K == 3) = false := beq_eq_false_iff_ne.2 hK3
  by_cases hK4 : o.K = 11
  · have y4 : (o.K == 11) = true := by simp [hK4]
    clear hK0 hK1 hK2 hK3 hK4
    go_wp2_with fail
    refine (bkill_any p1 p2 h3 h5 hN1 hm1 env he).mono ?_
    rintro e w1 ⟨rfl, hn⟩
    go_wp2_with fail
    go_ret
    exact ⟨rfl, fin hW hn (h3.kill env).2 (h4.kill h3.inv env) (killR_grows env)⟩
  have y4 : (o.K == 11) = false := beq_eq_false_iff_ne.2 hK4
  by_cases hK5 : o.K = 12
  · have y5 : (o.K == 12) = true := by simp [hK5]
    clear hK0 hK1 hK2 hK3 hK4 hK5
    go_wp2_with fail
    refine (bspawn_any p1 p2 h3 h5 hN1 hm1 env he).mono ?_
    rintro e w1 ⟨rfl, hn⟩
    go_wp2_with fail
    go_ret
    exact ⟨rfl, fin hW hn (h3.spawn env).2 (h4.spawn env) (spawnR_grows env)⟩
  have y5 : (o.K == 12) = false := beq_eq_false_iff_ne.2 hK5
  have hkeep : ∀ {w' : World}, Below w.heap.size w w' → HB w0 b m s E (i + 1) w' := fun hb => HB.mono (HB.below ⟨own, rs, ps, nk, vE, vF, vL, vM, h1, h2, h3, h4, h5, h6, h7, h8, h9⟩ hb)
  by_cases hK6 : o.K = 13
  · have y6 : (o.K == 13) = true := by simp [hK6]
    clear hK0 hK1 hK2 hK3 hK4 hK5 hK6
    go_wp2_with fail
    refine (btold_any p1 p2 h3 h5 hN1 hm1 env he).mono ?_
    rintro e w1 ⟨rfl, hb1⟩
    go_wp2_with fail
    refine (bframed_any (p1.below hb1) (p2.below hb1) h3 h4 h5 hN1 hm1).mono ?_
    rintro e w2 ⟨rfl, hb2⟩
    go_wp2_with fail
    go_ret
    exact ⟨rfl, hkeep (hW.trans ((hb1.mono hW.size).trans (hb2.mono (Nat.le_trans hW.size hb1.size))))⟩
  · have y6 : (o.K == 13) = false := beq_eq_false_iff_ne.2 hK6
    clear hK0 hK1 hK2 hK3 hK4 hK5 hK6
    go_wp2_with fail
    go_ret
    exact ⟨rfl, hkeep hW⟩
end
end Go.Proofs.Ytkonobbhohfjlaa
