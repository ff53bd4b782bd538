import Derived.Test.YtinlkcmdbjcofaaGreatM28
namespace Go.Proofs.YtinlkcmdbjcofaaGreat.listed
open Go.ChangeShapes Go.WideShapes Go.ChangeAt Go.RowKit
set_option linter.unusedVariables false

set_option maxHeartbeats 1000000 in
/-- The law's own text: it hands the script to 'plays'. -/
theorem law (ao : Option Addr) (len cap : Nat) (w : World) (h : Calls Tryz.prog 13 #[.slice ao len cap, .int .i64 6, .int .i64 8, .int .i64 8] w fun e w' => e = .returned (.bool true) ∧ Below w.heap.size w w') :
    Calls Tryz.prog 5 #[.slice ao len cap] w fun e w' => e = .returned (.bool true) ∧ Below w.heap.size w w' := by
  go_enter Tryz.func5, Tryz.ntmps5
  go_wp2_with fail
  refine h.mono ?_
  rintro e w1 ⟨rfl, hb⟩
  go_wp2_with fail
  go_ret
  exact ⟨rfl, hb⟩

theorem walk (ao : Option Addr) (len cap : Nat) (w : World) (ops : List LOp) (hl : ops.length = len) (hok : ∀ (i : Nat) (o : LOp), ops[i]? = some o → o.ok) (hsz : (len + 2) * 48 ≤ 140737488355328)
    (ho : (len = 0) ∨ ∃ b off, ao = some ⟨b, off, none⟩ ∧ b < w.heap.size ∧ ∀ (i : Nat) (o : LOp), ops[i]? = some o → ∀ (j : Nat) (v : Value), o.cells[j]? = some v → w.cell? ⟨b, off + i * 7 + j, none⟩ = some v) :
    Calls Tryz.prog 5 #[.slice ao len cap] w fun e w' => e = .returned (.bool true) ∧ Below w.heap.size w w' := by
  refine law ao len cap w ?_
  rcases ho with h0 | ⟨b, off, rfl, hb, hc⟩
  · subst h0
    obtain rfl : ops = [] := List.eq_nil_of_length_eq_zero hl
    exact plays_nil w ao cap 6 8 8 _ (g_playable api w [] 6 8 8 (by simp) hok)
  · exact plays_pos w b off len cap ops 6 8 8 _ (g_playable api w ops 6 8 8 (by omega) hok) hl (by omega) hb hc

set_option maxRecDepth 100000 in
theorem lifted (os : Os) (started : os.Started) (H : Type) (enc : TypeId × Value → H) :
    ReturnsInHanded {} Tryz.checked os 5 .any (Rows.listedSpec.pre6 enc Tryz.prog Tryz.f5 Rows.listedRow.domain false) (Rows.listedSpec.post enc Tryz.prog Tryz.f5 false true false false) := by
  refine returnsInHanded_of_change_sized (C := Tryz.checked) Tryz.own started (by kernel_rfl) Tryz.func5
    (ChangeSpec.witness6 (enc := enc) (C := Tryz.checked) false ⟨#[], #[.slice none 0 0], []⟩ 8 (by kernel_rfl) (by kernel_rfl) (by kernel_rfl) (by kernel_rfl)) ?_
  intro W base args ds gs before hval0 hW hcnd hsz _
  have hval : ∀ (j : Nat) t v, Tryz.f5.params[j]? = some t → args[j]? = some v → Value.okWide Tryz.prog W .any base t v := hval0
  have hW' := hW
  obtain ⟨p, q, hA0, hV, rfl, hfz, hnd⟩ := hW
  have hA : DataW.TrodAll enc Tryz.prog W 0 (fun _ => true) true Tryz.f5.params.toList args.toList ds p := hA0
  rw [Tryz.params5] at hA hval
  obtain ⟨v0, vs0, d0, ds0, p0, q0, hargs, rfl, rfl, h0, r0⟩ := trodAll_cons hA
  obtain ⟨rfl, rfl, rfl⟩ := trodAll_nil r0
  obtain rfl : args = #[v0] := by cases args; simp_all
  obtain ⟨rfl, rfl⟩ := trodVars_none hV
  obtain ⟨a0, len0, cap0, rfl⟩ := okWide_slice Tryz.underlying22 (hval 0 22 v0 rfl rfl)
  have k0 := h0
  have lt0 : ∀ x ∈ p0, x.block < W.heap.size := by obtain ⟨m, hm⟩ := k0; exact DataW.trod_lt m _ _ _ hm
  obtain ⟨fuel, hf⟩ := h0
  obtain ⟨ops, hl, hops, hdat, hok⟩ := open_ops (by simpa [Value.cells] using hf)
  have hb16 : (len0 + 2) * 48 ≤ 140737488355328 := by
    rcases hdat with h | ⟨elems, spare, hd, he⟩
    · subst h; omega
    · simp only at hd
      subst hd
      have : (elems.length + spare.length) * Tryz.prog.bytesOf 32 ≤ reachBytes := sized_slice hsz (j := 0) (t := 22) (e := 32) rfl rfl Tryz.underlying22
      rw [Tryz.bytesOp] at this
      simp only [reachBytes] at this
      omega
  clear hA0 hval0
  refine (walk a0 len0 cap0 W ops hl hok hb16 hops).mono fun e W' ⟨he, bel⟩ => ?_
  subst he
  exact ⟨_, rfl, _, _, _, [], _, [], hW', trodAll_mk1 (shut_bool Tryz.underlying4 _), (trodAll_cons_mk (Below.trod Tryz.laidOut (by kernel_rfl) (of_decide_eq_true (by kernel_rfl)) k0 bel lt0) trodAll_mk0), rfl, bel.frame _, fun h => by cases h⟩

theorem over : Rows.listedRow.holds Tryz.pinned (OpenSpec.ofChange Rows.listedSpec) :=
  OpenClaim.holds_of_wide 5 Tryz.f5 rfl rfl rfl rfl rfl rfl rfl ⟨rfl, rfl, rfl, rfl, rfl⟩ rfl rfl rfl rfl rfl (by kernel_rfl) Tryz.func5 (by kernel_rfl)
    (of_decide_eq_true (by kernel_rfl)) (by unfold Func.isWrapper; first | (rw [if_pos (by decide +kernel)]; kernel_rfl) | (rw [if_neg (by decide +kernel)]; exact ⟨rfl, rfl⟩))
    (fun os started H enc _ => lifted os started H enc)

end Go.Proofs.YtinlkcmdbjcofaaGreat.listed

namespace Go.Proofs.YtinlkcmdbjcofaaGreat
theorem listed_holds : Rows.ListedSaid := listed.over
end Go.Proofs.YtinlkcmdbjcofaaGreat
