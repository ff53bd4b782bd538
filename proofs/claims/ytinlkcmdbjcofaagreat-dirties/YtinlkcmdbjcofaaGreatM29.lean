import Derived.Test.YtinlkcmdbjcofaaGreatM28
/-
  'Dirties': the law's own text.
-/
namespace Go.Proofs.YtinlkcmdbjcofaaGreat
open Go.RowKit
set_option linter.unusedVariables false
attribute [local go_sem ↓] Go.wp_at_zero Go.wp_at_succ

set_option maxHeartbeats 1000000 in
theorem dirties_law (ao : Option Addr) (len cap : Nat) (w : World) (h : ∀ (w1 : World), Below w.heap.size w w1 → ∀ lo hi most : Int, Calls Tryz.prog 13 #[.slice ao len cap, .int .i64 lo, .int .i64 hi, .int .i64 most] w1 fun e w' => e = .returned (.bool true) ∧ Below w1.heap.size w1 w') :
    Calls Tryz.prog 11 #[.slice ao len cap] w fun e w' => e = .returned (.bool true) ∧ Below w.heap.size w w' := by
  go_enter Tryz.func11, Tryz.ntmps11
  go_wp2_with fail
  refine (h w (Below.refl _ _) 18 20 20).mono ?_
  rintro e w1 ⟨rfl, hb1⟩
  go_wp2_with fail
  refine (h w1 hb1 17 17 20).mono ?_
  rintro e w2 ⟨rfl, hc1⟩
  have hb2 : Below w.heap.size w w2 := hb1.trans (hc1.mono hb1.size)
  go_wp2_with fail
  refine (h w2 hb2 6 6 20).mono ?_
  rintro e w3 ⟨rfl, hc2⟩
  have hb3 : Below w.heap.size w w3 := hb2.trans (hc2.mono hb2.size)
  go_wp2_with fail
  refine (h w3 hb3 13 13 20).mono ?_
  rintro e w4 ⟨rfl, hc3⟩
  have hb4 : Below w.heap.size w w4 := hb3.trans (hc3.mono hb3.size)
  go_wp2_with fail
  go_ret
  exact ⟨rfl, hb4⟩

theorem dirties_walk {M : MT} (P : Api M) (ao : Option Addr) (len cap : Nat) (w : World) (ops : List LOp) (hl : ops.length = len) (hok : ∀ (i : Nat) (o : LOp), ops[i]? = some o → o.ok) (hsz : (len + 2) * 48 ≤ 140737488355328)
    (ho : (len = 0) ∨ ∃ b off, ao = some ⟨b, off, none⟩ ∧ b < w.heap.size ∧ ∀ (i : Nat) (o : LOp), ops[i]? = some o → ∀ (j : Nat) (v : Value), o.cells[j]? = some v → w.cell? ⟨b, off + i * 7 + j, none⟩ = some v) :
    Calls Tryz.prog 11 #[.slice ao len cap] w fun e w' => e = .returned (.bool true) ∧ Below w.heap.size w w' := by
  refine dirties_law ao len cap w (fun w1 hb lo hi most => ?_)
  rcases ho with h0 | ⟨b, off, rfl, hlt, hc⟩
  · subst h0
    obtain rfl : ops = [] := List.eq_nil_of_length_eq_zero hl
    exact plays_nil w1 ao cap lo hi most _ (g_playable P w1 [] lo hi most (by simp) hok)
  · have hs := hb.size
    exact plays_pos w1 b off len cap ops lo hi most _ (g_playable P w1 ops lo hi most (by omega) hok) hl (by omega) (by omega) (fun i o hi' j v hv => (hb.cell (p := ⟨b, off + i * 7 + j, none⟩) hlt).trans (hc i o hi' j v hv))
end Go.Proofs.YtinlkcmdbjcofaaGreat

namespace Go.Proofs.YtinlkcmdbjcofaaGreat.dirties
open Go.ChangeShapes Go.WideShapes Go.ChangeAt Go.RowKit
set_option linter.unusedVariables false

set_option maxRecDepth 100000 in
theorem lifted (os : Os) (started : os.Started) (H : Type) (enc : TypeId × Value → H) :
    ReturnsInHanded {} Tryz.checked os 11 .any (Rows.dirtiesSpec.pre6 enc Tryz.prog Tryz.f11 Rows.dirtiesRow.domain false) (Rows.dirtiesSpec.post enc Tryz.prog Tryz.f11 false true false false) := by
  refine returnsInHanded_of_change_sized (C := Tryz.checked) Tryz.own started (by kernel_rfl) Tryz.func11
    (ChangeSpec.witness6 (enc := enc) (C := Tryz.checked) false ⟨#[], #[.slice none 0 0], []⟩ 8 (by kernel_rfl) (by kernel_rfl) (by kernel_rfl) (by kernel_rfl)) ?_
  intro W base args ds gs before hval0 hW hcnd hsz _
  have hval : ∀ (j : Nat) t v, Tryz.f11.params[j]? = some t → args[j]? = some v → Value.okWide Tryz.prog W .any base t v := hval0
  have hW' := hW
  obtain ⟨p, q, hA0, hV, rfl, hfz, hnd⟩ := hW
  have hA : DataW.TrodAll enc Tryz.prog W 0 (fun _ => true) true Tryz.f11.params.toList args.toList ds p := hA0
  rw [Tryz.params11] at hA hval
  obtain ⟨v0, vs0, d0, ds0, p0, q0, hargs, rfl, rfl, h0, r0⟩ := trodAll_cons hA
  obtain ⟨rfl, rfl, rfl⟩ := trodAll_nil r0
  obtain rfl : args = #[v0] := by cases args; simp_all
  obtain ⟨rfl, rfl⟩ := trodVars_none hV
  obtain ⟨a0, len0, cap0, rfl⟩ := okWide_slice Tryz.underlying22 (hval 0 22 v0 rfl rfl)
  have k0 := h0
  have lt0 : ∀ x ∈ p0, x.block < W.heap.size := by obtain ⟨m, hm⟩ := k0; exact DataW.trod_lt m _ _ _ hm
  obtain ⟨fuel, hf⟩ := h0
  obtain ⟨ops, hl, hops, hdat, hok⟩ := open_ops (by simpa [Value.cells] using hf)
  have hb16 : (len0 + 2) * 48 ≤ 140737488355328 := by
    rcases hdat with h | ⟨elems, spare, hd, he⟩
    · subst h; omega
    · simp only at hd
      subst hd
      have : (elems.length + spare.length) * Tryz.prog.bytesOf 32 ≤ reachBytes := sized_slice hsz (j := 0) (t := 22) (e := 32) rfl rfl Tryz.underlying22
      rw [Tryz.bytesOp] at this
      simp only [reachBytes] at this
      omega
  clear hA0 hval0
  refine (dirties_walk api a0 len0 cap0 W ops hl hok hb16 hops).mono fun e W' ⟨he, bel⟩ => ?_
  subst he
  exact ⟨_, rfl, _, _, _, [], _, [], hW', trodAll_mk1 (shut_bool Tryz.underlying4 _), (trodAll_cons_mk (Below.trod Tryz.laidOut (by kernel_rfl) (of_decide_eq_true (by kernel_rfl)) k0 bel lt0) trodAll_mk0), rfl, bel.frame _, fun h => by cases h⟩

theorem over : Rows.dirtiesRow.holds Tryz.pinned (OpenSpec.ofChange Rows.dirtiesSpec) :=
  OpenClaim.holds_of_wide 11 Tryz.f11 rfl rfl rfl rfl rfl rfl rfl ⟨rfl, rfl, rfl, rfl, rfl⟩ rfl rfl rfl rfl rfl (by kernel_rfl) Tryz.func11 (by kernel_rfl)
    (of_decide_eq_true (by kernel_rfl)) (by unfold Func.isWrapper; first | (rw [if_pos (by decide +kernel)]; kernel_rfl) | (rw [if_neg (by decide +kernel)]; exact ⟨rfl, rfl⟩))
    (fun os started H enc _ => lifted os started H enc)

end Go.Proofs.YtinlkcmdbjcofaaGreat.dirties

namespace Go.Proofs.YtinlkcmdbjcofaaGreat
theorem dirties_holds : Rows.DirtiesSaid := dirties.over
end Go.Proofs.YtinlkcmdbjcofaaGreat
