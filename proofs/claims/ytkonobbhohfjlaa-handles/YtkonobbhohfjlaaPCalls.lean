import Derived.Test.YtkonobbhohfjlaaPMach
namespace Go.Proofs.Ytkonobbhohfjlaa
open Go.RowKit
set_option linter.unusedVariables false
attribute [local go_sem ↓] Go.wp_at_zero Go.wp_at_succ

section
variable {own : Nat → Nat × Nat} {id : Nat} {w : World} {p : Nat} {s : PSt} {vE vF vL : Value}

def allocP (s : PSt) (env : Int) : (Int × Int) × PSt :=
  if rawP s env ≠ 0 then ((0, rawP s env), s) else match leastFreeP s with
    | none => ((0, 12), s)
    | some f => if 32 ≤ s.hs.length then ((0, 12), s) else ((s.last + 1, 0), { s with hs := addP s.hs s.last env f true 0, last := s.last + 1 })

/-- A frame is written. -/
theorem PRep.setF {g cap : Nat} (h : PRep own id w p s vE vF vL) (hv : vF = .slice (some ⟨g, 0, none⟩) s.nf cap) (j : Nat) (u : Value) : PRep own id (w.setCell ⟨g, j, none⟩ u) p s vE vF vL := by
  have hg : own g = (id, 2) := h.tF g (by rw [hv]; rfl)
  have hW : ∀ b, b < w.heap.size → own b ≠ (id, 2) → (w.setCell ⟨g, j, none⟩ u).heap[b]? = w.heap[b]? := fun b hb h3 => Below.heap_setCell _ _ _ _ (fun e => h3 (by simp at e; rw [e]; exact hg))
  refine ⟨h.st.of (fun _ _ => rfl) (hW p h.st.blk.lt (by rw [h.tm]; simp)) (fun x hx ht => hW x hx (by rw [ht]; simp)), h.rE.kept h.tE (fun x hx ht => hW x hx (by rw [ht]; simp)), ?_, h.tm, h.tE, h.tF⟩
  obtain ⟨xs, h1⟩ := h.rF
  rw [hv] at h1 ⊢
  exact ⟨_, h1.set _ _⟩

set_option maxHeartbeats 2000000 in
set_option maxRecDepth 100000 in
theorem palloc_any (h : PRep own id w p s vE vF vL) (hw : PWf s) (env : Int) :
    Calls Try.prog 32 #[.pointer (some ⟨p, 0, none⟩), .int .i64 env] w fun e w' => e = .returned (.tuple #[.int .i64 (allocP s env).1.1, .int .i64 (allocP s env).1.2]) ∧ PNext own id w p w' (allocP s env).2 := by
  have hsz := hw.size
  rcases rawP_cases s env with ⟨hr, -⟩ | ⟨hr, -⟩
  · have HR : Hid (rawP s env = 2) := hr
    have HP : Hid (allocP s env = ((0, 2), s)) := by simp [Hid, allocP, hr]
    clear hr
    go_enter Try.func32, Try.ntmps32
    go_wp2_with fail
    refine (needRaw_any h hw env).mono ?_
    rintro e w2 ⟨rfl, hw2⟩
    subst hw2
    rw [HR.out]
    go_wp2_with fail
    go_ret2
    exact ⟨ret_int2 (by rw [HP.out]) (by rw [HP.out]), by rw [HP.out]; exact PNext.refl h⟩
  · have HR : Hid (rawP s env = 0) := hr
    cases hf : leastFreeP s with
    | none =>
      have HF : Hid (leastFreeP s = none) := hf
      have HP : Hid (allocP s env = ((0, 12), s)) := by simp [Hid, allocP, hr, hf]
      clear hr hf
      go_enter Try.func32, Try.ntmps32
      go_wp2_with fail
      refine (needRaw_any h hw env).mono ?_
      rintro e w2 ⟨rfl, hw2⟩
      subst hw2
      rw [HR.out]
      go_wp2_with fail
      refine (leastFree_any h hw).mono ?_
      rintro e w3 ⟨rfl, hb3⟩
      rw [HF.out]
      simp only [lfV]
      go_wp2_with fail
      go_ret2
      exact ⟨ret_int2 (by rw [HP.out]) (by rw [HP.out]), by rw [HP.out]; exact PNext.of_below h hb3⟩
    | some f =>
      have HF : Hid (leastFreeP s = some f) := hf
      have hflt : f < s.nf := by have := List.mem_of_find?_eq_some hf; simpa using this
      by_cases hc : 32 ≤ s.hs.length
      · have HP : Hid (allocP s env = ((0, 12), s)) := by simp [Hid, allocP, hr, hf, hc]
        have hcd : decide (32 ≤ s.hs.length) = true := by simpa using hc
        clear hr hf hc
        go_enter Try.func32, Try.ntmps32
        go_wp2_with fail
        refine (needRaw_any h hw env).mono ?_
        rintro e w2 ⟨rfl, hw2⟩
        subst hw2
        rw [HR.out]
        go_wp2_with fail
        refine (leastFree_any h hw).mono ?_
        rintro e w3 ⟨rfl, hb3⟩
        rw [HF.out]
        simp only [lfV]
        go_wp2_with fail
        refine (full_any (h.below hb3).st (by omega)).mono ?_
        rintro e w4 ⟨rfl, hw4⟩
        subst hw4
        rw [hcd]
        go_wp2_with fail
        go_ret2
        exact ⟨ret_int2 (by rw [HP.out]) (by rw [HP.out]), by rw [HP.out]; exact PNext.of_below h hb3⟩
      · have HP : Hid (allocP s env = ((s.last + 1, 0), { s with hs := addP s.hs s.last env f true 0, last := s.last + 1 })) := by simp [Hid, allocP, hr, hf, hc]
        have hcd : decide (32 ≤ s.hs.length) = false := by simpa using hc
        clear hr hf hc
        go_enter Try.func32, Try.ntmps32
        go_wp2_with fail
        refine (needRaw_any h hw env).mono ?_
        rintro e w2 ⟨rfl, hw2⟩
        subst hw2
        rw [HR.out]
        go_wp2_with fail
        refine (leastFree_any h hw).mono ?_
        rintro e w3 ⟨rfl, hb3⟩
        rw [HF.out]
        simp only [lfV]
        have h3 := h.below hb3
        go_wp2_with fail
        refine (full_any h3.st (by omega)).mono ?_
        rintro e w4 ⟨rfl, hw4⟩
        subst hw4
        rw [hcd]
        have k1 := h3.c1
        obtain ⟨xs, hrf⟩ := h3.rF
        obtain ⟨g, cap, hv, hcell, hfz⟩ := hrf.form (by omega)
        rw [hv] at k1
        have hxl := hrf.len
        have cx : ∀ j, j < 4 → ∃ v, w4.cell? ⟨g, f * 4 + j, none⟩ = some v := fun j hj => ⟨xs[f * 4 + j]'(by omega), by rw [hcell _ (by omega)]; simp⟩
        obtain ⟨v0, c0⟩ := cx 0 (by omega)
        obtain ⟨v1, c1⟩ := cx 1 (by omega)
        obtain ⟨v2, c2⟩ := cx 2 (by omega)
        obtain ⟨v3, c3⟩ := cx 3 (by omega)
        simp only [Nat.add_zero] at c0
        have z0 := hfz (f * 4)
        have z1 := hfz (f * 4 + 1)
        have z2 := hfz (f * 4 + 2)
        have z3 := hfz (f * 4 + 3)
        have hl : (f : Int) < (s.nf : Int) := by omega
        have hgt : own g = (id, 2) := h3.tF g (by rw [hv]; rfl)
        have hst := (((h3.setF hv (f * 4) (.int .u8 0)).setF hv (f * 4 + 1) (.int .u8 0)).setF hv (f * 4 + 2) (.int .u8 0)).setF hv (f * 4 + 3) (.int .u8 0)
        clear hv hcell hfz hrf hxl cx
        go_wp2_with fail
        refine (pfirst_any hst.st hsz hw.l0 hw.l1 env f).mono ?_
        rintro e w5 ⟨rfl, hn⟩
        go_wp2_with fail
        go_ret2
        have hin : (own g).1 = id := by rw [hgt]
        exact ⟨ret_int2 (by rw [HP.out]) (by rw [HP.out]), by rw [HP.out]; exact PNext.after (((((Touch.of_below hb3 _).setCell (.inl hin) _).setCell (.inl hin) _).setCell (.inl hin) _).setCell (.inl hin) _) (hst.next hn)⟩


def deriveP (s : PSt) (env hd te : Int) (wt : Bool) : (Int × Int) × PSt :=
  match rightP s env hd with
  | (none, e) => ((0, e), s)
  | (some y, _) => if rawP s te ≠ 0 then ((0, rawP s te), s) else if wt && !y.wr then ((0, 10), s) else if 32 ≤ s.hs.length then ((0, 12), s)
    else ((s.last + 1, 0), { s with hs := addP s.hs s.last te y.fr wt y.h, last := s.last + 1 })

theorem rightP_cases (s : PSt) (env hd : Int) : (∃ x, rightP s env hd = (none, x) ∧ (x = 2 ∨ x = 9)) ∨ ∃ y, rightP s env hd = (some y, 0) ∧ findP s.hs env hd = some y ∧ aliveP s env = true := by
  unfold rightP
  rcases rawP_cases s env with ⟨hr, _⟩ | ⟨hr, ha⟩
  · exact .inl ⟨2, by simp [hr], .inl rfl⟩
  · cases hf : findP s.hs env hd with
    | none => exact .inl ⟨9, by simp [hr], .inr rfl⟩
    | some y => exact .inr ⟨y, by simp [hr], rfl, ha⟩

set_option maxHeartbeats 4000000 in
set_option maxRecDepth 100000 in
theorem pderive_any (h : PRep own id w p s vE vF vL) (hw : PWf s) (env hd te : Int) (wt : Bool) :
    Calls Try.prog 34 #[.pointer (some ⟨p, 0, none⟩), .int .i64 env, .int .i64 hd, .int .i64 te, .bool wt] w fun e w' => e = .returned (.tuple #[.int .i64 (deriveP s env hd te wt).1.1, .int .i64 (deriveP s env hd te wt).1.2]) ∧ PNext own id w p w' (deriveP s env hd te wt).2 := by
  have hsz := hw.size
  rcases rightP_cases s env hd with ⟨x, hx, hx2⟩ | ⟨y, hx, -, -⟩
  · have hx0 : (x != 0) = true := by rcases hx2 with rfl | rfl <;> rfl
    have HP : Hid (deriveP s env hd te wt = ((0, x), s)) := by simp [Hid, deriveP, hx]
    have HX : Hid (rightP s env hd = (none, x)) := hx
    clear hx hx2
    go_enter Try.func34, Try.ntmps34
    go_wp2_with fail
    refine (needRight_any h hw env hd).mono ?_
    rintro e w2 ⟨rfl, hb2⟩
    rw [HX.out]
    simp only [rightV]
    go_wp2_with fail
    go_ret2
    exact ⟨ret_int2 (by rw [HP.out]) (by rw [HP.out]), by rw [HP.out]; exact PNext.of_below h (hb2.alloc hb2.size _)⟩
  · have HX : Hid (rightP s env hd = (some y, 0)) := hx
    rcases rawP_cases s te with ⟨ht, -⟩ | ⟨ht, -⟩
    · have HP : Hid (deriveP s env hd te wt = ((0, 2), s)) := by simp [Hid, deriveP, hx, ht]
      have HT : Hid (rawP s te = 2) := ht
      clear hx ht
      go_enter Try.func34, Try.ntmps34
      go_wp2_with fail
      refine (needRight_any h hw env hd).mono ?_
      rintro e w2 ⟨rfl, hb2⟩
      rw [HX.out]
      simp only [rightV]
      have h3 := (h.below hb2).below ((Below.refl _ _).alloc (Nat.le_refl _) (.cells #[.int .i64 y.h, .int .i64 y.env, .int .i64 y.fr, .bool y.wr] 64))
      go_wp2_with fail
      refine (needRaw_any h3 hw te).mono ?_
      rintro e w3 ⟨rfl, hw3⟩
      subst hw3
      rw [HT.out]
      go_wp2_with fail
      go_ret2
      exact ⟨ret_int2 (by rw [HP.out]) (by rw [HP.out]), by rw [HP.out]; exact PNext.of_below h (hb2.alloc hb2.size _)⟩
    · have HT : Hid (rawP s te = 0) := ht
      have HP : Hid (deriveP s env hd te wt = if wt && !y.wr then (((0 : Int), (10 : Int)), s) else if 32 ≤ s.hs.length then ((0, 12), s) else ((s.last + 1, 0), { s with hs := addP s.hs s.last te y.fr wt y.h, last := s.last + 1 })) := by simp [Hid, deriveP, hx, ht]
      clear hx ht
      go_enter Try.func34, Try.ntmps34
      go_wp2_with fail
      refine (needRight_any h hw env hd).mono ?_
      rintro e w2 ⟨rfl, hb2⟩
      rw [HX.out]
      simp only [rightV]
      have h3 := (h.below hb2).below ((Below.refl _ _).alloc (Nat.le_refl _) (.cells #[.int .i64 y.h, .int .i64 y.env, .int .i64 y.fr, .bool y.wr] 64))
      go_wp2_with fail
      refine (needRaw_any h3 hw te).mono ?_
      rintro e w3 ⟨rfl, hw3⟩
      subst hw3
      rw [HT.out]
      cases hq : (wt && !y.wr)
      · rw [hq] at HP
        simp only [Bool.false_eq_true, if_false] at HP
        have hcase : wt = false ∨ (wt = true ∧ y.wr = true) := by
          cases hwt : wt <;> cases hrw : y.wr <;> simp_all
        clear hq
        by_cases hc : 32 ≤ s.hs.length
        · have hcd : decide (32 ≤ s.hs.length) = true := by simpa using hc
          rw [if_pos hc] at HP
          clear hc
          rcases hcase with rfl | ⟨rfl, hrw⟩
          all_goals
            try rw [hrw] at h3 ⊢
            go_wp2_with fail
            refine (full_any h3.st (by omega)).mono ?_
            rintro e w4 ⟨rfl, hw4⟩
            subst hw4
            rw [hcd]
            go_wp2_with fail
            go_ret2
            exact ⟨ret_int2 (by rw [HP.out]) (by rw [HP.out]), by rw [HP.out]; exact PNext.of_below h (hb2.alloc hb2.size _)⟩
        · have hcd : decide (32 ≤ s.hs.length) = false := by simpa using hc
          rw [if_neg hc] at HP
          clear hc
          rcases hcase with rfl | ⟨rfl, hrw⟩
          · go_wp2_with fail
            refine (full_any h3.st (by omega)).mono ?_
            rintro e w4 ⟨rfl, hw4⟩
            subst hw4
            rw [hcd]
            have hplt := h3.st.blk.lt
            have hvlt := (h.below hb2).st.row.lt
            have hplt2 := (h.below hb2).st.blk.lt
            have h3d := h3.below (Below.refl _ _).drew
            have hbx := Blk.new w2 [.int .i64 y.h, .int .i64 y.env, .int .i64 y.fr, .bool y.wr] 64
            go_wp2_with fail
            go_region_held3 (fun w' => w'.cell? ⟨w2.heap.size, 0, none⟩ = some (.int .i64 y.h) ∧ w'.cell? ⟨w2.heap.size, 1, none⟩ = some (.int .i64 y.env) ∧ w'.cell? ⟨w2.heap.size, 2, none⟩ = some (.int .i64 y.fr) ∧ w'.cell? ⟨w2.heap.size, 3, none⟩ = some (.bool y.wr)) (go_keep)
              ((first
                | (go_at_call 84; refine (psderive_any h3d.st hsz hw.l0 hw.l1 y.h y.env y.fr y.wr te false).mono ?_; rintro e w5 ⟨rfl, hn⟩
                   have hb5 : Blk w5 w2.heap.size [.int .i64 y.h, .int .i64 y.env, .int .i64 y.fr, .bool y.wr] 64 := by
                     obtain ⟨_, _, _, _, ht5⟩ := hn
                     exact hbx.of (ht5.block _ (by show w2.heap.size < (w2.alloc _).heap.size; simp) (fun e => by
                       rcases e with e | e
                       · omega
                       · have := hvlt _ e; omega))
                   have a0 := hb5.cell 0
                   have a1 := hb5.cell 1
                   have a2 := hb5.cell 2
                   have a3 := hb5.cell 3
                   simp at a0 a1 a2 a3)))
            go_wp2_with fail
            go_ret2
            exact ⟨ret_int2 (by rw [HP.out]) (by rw [HP.out]), by rw [HP.out]; exact PNext.after (Touch.of_below (hb2.alloc hb2.size _).drew _) (h3d.next hn)⟩
          · rw [hrw] at h3 ⊢
            go_wp2_with fail
            refine (full_any h3.st (by omega)).mono ?_
            rintro e w4 ⟨rfl, hw4⟩
            subst hw4
            rw [hcd]
            have hplt := h3.st.blk.lt
            have hvlt := (h.below hb2).st.row.lt
            have hplt2 := (h.below hb2).st.blk.lt
            have h3d := h3.below (Below.refl _ _).drew
            have hbx := Blk.new w2 [.int .i64 y.h, .int .i64 y.env, .int .i64 y.fr, .bool true] 64
            go_wp2_with fail
            go_region_held3 (fun w' => w'.cell? ⟨w2.heap.size, 0, none⟩ = some (.int .i64 y.h) ∧ w'.cell? ⟨w2.heap.size, 1, none⟩ = some (.int .i64 y.env) ∧ w'.cell? ⟨w2.heap.size, 2, none⟩ = some (.int .i64 y.fr) ∧ w'.cell? ⟨w2.heap.size, 3, none⟩ = some (.bool true)) (go_keep)
              ((first
                | (go_at_call 84; refine (psderive_any h3d.st hsz hw.l0 hw.l1 y.h y.env y.fr true te true).mono ?_; rintro e w5 ⟨rfl, hn⟩
                   have hb5 : Blk w5 w2.heap.size [.int .i64 y.h, .int .i64 y.env, .int .i64 y.fr, .bool true] 64 := by
                     obtain ⟨_, _, _, _, ht5⟩ := hn
                     exact hbx.of (ht5.block _ (by show w2.heap.size < (w2.alloc _).heap.size; simp) (fun e => by
                       rcases e with e | e
                       · omega
                       · have := hvlt _ e; omega))
                   have a0 := hb5.cell 0
                   have a1 := hb5.cell 1
                   have a2 := hb5.cell 2
                   have a3 := hb5.cell 3
                   simp at a0 a1 a2 a3)))
            go_wp2_with fail
            go_ret2
            exact ⟨ret_int2 (by rw [HP.out]) (by rw [HP.out]), by rw [HP.out]; exact PNext.after (Touch.of_below (hb2.alloc hb2.size _).drew _) (h3d.next hn)⟩
      · rw [hq] at HP
        simp only [if_true] at HP
        obtain ⟨rfl, hrw⟩ : wt = true ∧ y.wr = false := by cases hwt : wt <;> cases hrw : y.wr <;> simp_all
        rw [hrw]
        clear hq
        go_wp2_with fail
        go_ret2
        exact ⟨ret_int2 (by rw [HP.out]) (by rw [HP.out]), by rw [HP.out]; exact PNext.of_below h (hb2.alloc hb2.size _)⟩
end
end Go.Proofs.Ytkonobbhohfjlaa
