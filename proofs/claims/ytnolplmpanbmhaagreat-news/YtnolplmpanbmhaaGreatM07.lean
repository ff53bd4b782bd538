import Derived.Test.YtnolplmpanbmhaaGreatM06
namespace Go.Proofs.YtnolplmpanbmhaaGreat
open Go.RowKit
set_option linter.unusedVariables false
attribute [local go_sem ↓] Go.wp_at_zero Go.wp_at_succ

section
variable {own : Nat → Nat × Nat} {id : Nat} {w : World} {p : Nat} {s : PSt} {vE vF vL vT : Value}

def allocP (s : PSt) (env : Int) : (Int × Int) × PSt :=
  if rawP s env ≠ 0 then ((0, rawP s env), s) else match leastFreeP s with
    | none => ((0, 12), s)
    | some f => if 32 ≤ s.hs.length then ((0, 12), s) else ((s.last + 1, 0), { s with bytes := s.bytes.set f [0, 0, 0, 0], hs := addP s.hs s.last env f true 0, last := s.last + 1 })

theorem flat_set4 (xs : List (List Int)) (i : Nat) (l : List Int) (hi : i < xs.length) :
    (xs.set i l).flatMap fcells = ((((xs.flatMap fcells).set (i * 4) (.int .u8 (l[0]?.getD 0))).set (i * 4 + 1) (.int .u8 (l[1]?.getD 0))).set (i * 4 + 2) (.int .u8 (l[2]?.getD 0))).set (i * 4 + 3) (.int .u8 (l[3]?.getD 0)) := by
  apply List.ext_getElem?
  intro q
  have hl := flat_length fcells 4 (fun _ => rfl) xs
  rw [flat_at fcells 4 (by omega) (fun _ => rfl)]
  simp only [List.getElem?_set, List.length_set, hl]
  by_cases hp : q / 4 = i
  · have h5 : q % 4 = 0 ∨ q % 4 = 1 ∨ q % 4 = 2 ∨ q % 4 = 3 := by omega
    rw [if_pos hp.symm, if_pos (by omega)]
    rcases h5 with h | h | h | h
    · rw [if_neg (by omega), if_neg (by omega), if_neg (by omega), if_pos (by omega), if_pos (by omega), h]; rfl
    · rw [if_neg (by omega), if_neg (by omega), if_pos (by omega), if_pos (by omega), h]; rfl
    · rw [if_neg (by omega), if_pos (by omega), if_pos (by omega), h]; rfl
    · rw [if_pos (by omega), if_pos (by omega), h]; rfl
  · rw [if_neg (fun e => hp e.symm), if_neg (by omega), if_neg (by omega), if_neg (by omega), if_neg (by omega), flat_at fcells 4 (by omega) (fun _ => rfl)]

/-- The frames have turned. -/
theorem PRep.framed {W : World} {bytes' : List (List Int)} (h : PRep own id w p s vE vF vL vT) (hW : ∀ b, b < w.heap.size → own b ≠ (id, 2) → W.heap[b]? = w.heap[b]?) (hr : Row W vF 103 4 bytes'.length (bytes'.flatMap fcells)) :
    PRep own id W p { s with bytes := bytes' } vE vF vL vT :=
  ⟨h.st.of (fun _ _ => rfl) (hW p h.st.blk.lt (by rw [h.tm]; simp)) (fun x hx ht => hW x hx (by rw [ht]; simp)), h.tb.of (fun _ _ => rfl) (hW p h.st.blk.lt (by rw [h.tm]; simp)) (fun x hx ht => hW x hx (by rw [ht]; simp)),
    h.rE.kept h.tE (fun x hx ht => hW x hx (by rw [ht]; simp)), hr, h.tm, h.tE, h.tF⟩

/-- A frame is written. -/
theorem PRep.setF {g cap : Nat} (h : PRep own id w p s vE vF vL vT) (hv : vF = .slice (some ⟨g, 0, none⟩) s.bytes.length cap) (f : Nat) (hf : f < s.bytes.length) :
    PRep own id ((((w.setCell ⟨g, f * 4, none⟩ (.int .u8 0)).setCell ⟨g, f * 4 + 1, none⟩ (.int .u8 0)).setCell ⟨g, f * 4 + 2, none⟩ (.int .u8 0)).setCell ⟨g, f * 4 + 3, none⟩ (.int .u8 0)) p { s with bytes := s.bytes.set f [0, 0, 0, 0] } vE vF vL vT := by
  have hg : own g = (id, 2) := h.tF g (by rw [hv]; rfl)
  refine h.framed (fun b hb h3 => ?_) ?_
  · have hn : b ≠ g := fun e => h3 (by rw [e]; exact hg)
    rw [Below.heap_setCell _ _ _ _ hn, Below.heap_setCell _ _ _ _ hn, Below.heap_setCell _ _ _ _ hn, Below.heap_setCell _ _ _ _ hn]
  · have h1 := h.rF
    rw [hv] at h1 ⊢
    rw [List.length_set, flat_set4 _ _ _ hf]
    exact (((h1.set _ _).set _ _).set _ _).set _ _

set_option maxHeartbeats 2000000 in
set_option maxRecDepth 100000 in
theorem palloc_any (h : PRep own id w p s vE vF vL vT) (hw : PWf s) (env : Int) :
    Calls Tryz.prog 22 #[.pointer (some ⟨p, 0, none⟩), .int .i64 env] w fun e w' => e = .returned (.tuple #[.int .i64 (allocP s env).1.1, .int .i64 (allocP s env).1.2]) ∧ PNext own id w p w' (allocP s env).2 := by
  have hsz := hw.size
  rcases rawP_cases s env with ⟨hr, -⟩ | ⟨hr, -⟩
  · have HR : Hid (rawP s env = 2) := hr
    have HP : Hid (allocP s env = ((0, 2), s)) := by simp [Hid, allocP, hr]
    clear hr
    go_enter Tryz.func22, Tryz.ntmps22
    go_wp2_with fail
    refine (needRaw_any h hw env).mono ?_
    rintro e w2 ⟨rfl, hw2⟩
    subst hw2
    rw [HR.out]
    go_wp2_with fail
    go_ret2
    exact ⟨ret_int2 (by rw [HP.out]) (by rw [HP.out]), by rw [HP.out]; exact PNext.refl h⟩
  · have HR : Hid (rawP s env = 0) := hr
    cases hf : leastFreeP s with
    | none =>
      have HF : Hid (leastFreeP s = none) := hf
      have HP : Hid (allocP s env = ((0, 12), s)) := by simp [Hid, allocP, hr, hf]
      clear hr hf
      go_enter Tryz.func22, Tryz.ntmps22
      go_wp2_with fail
      refine (needRaw_any h hw env).mono ?_
      rintro e w2 ⟨rfl, hw2⟩
      subst hw2
      rw [HR.out]
      go_wp2_with fail
      refine (leastFree_any h hw).mono ?_
      rintro e w3 ⟨rfl, hb3⟩
      rw [HF.out]
      simp only [lfV]
      go_wp2_with fail
      go_ret2
      exact ⟨ret_int2 (by rw [HP.out]) (by rw [HP.out]), by rw [HP.out]; exact PNext.of_below h hb3⟩
    | some f =>
      have HF : Hid (leastFreeP s = some f) := hf
      have hflt : f < s.bytes.length := by have := List.mem_of_find?_eq_some hf; simpa using this
      by_cases hc : 32 ≤ s.hs.length
      · have HP : Hid (allocP s env = ((0, 12), s)) := by simp [Hid, allocP, hr, hf, hc]
        have hcd : decide (32 ≤ s.hs.length) = true := by simpa using hc
        clear hr hf hc
        go_enter Tryz.func22, Tryz.ntmps22
        go_wp2_with fail
        refine (needRaw_any h hw env).mono ?_
        rintro e w2 ⟨rfl, hw2⟩
        subst hw2
        rw [HR.out]
        go_wp2_with fail
        refine (leastFree_any h hw).mono ?_
        rintro e w3 ⟨rfl, hb3⟩
        rw [HF.out]
        simp only [lfV]
        go_wp2_with fail
        refine (full_any (h.below hb3).st (by omega)).mono ?_
        rintro e w4 ⟨rfl, hw4⟩
        subst hw4
        rw [hcd]
        go_wp2_with fail
        go_ret2
        exact ⟨ret_int2 (by rw [HP.out]) (by rw [HP.out]), by rw [HP.out]; exact PNext.of_below h hb3⟩
      · have HP : Hid (allocP s env = ((s.last + 1, 0), { s with bytes := s.bytes.set f [0, 0, 0, 0], hs := addP s.hs s.last env f true 0, last := s.last + 1 })) := by simp [Hid, allocP, hr, hf, hc]
        have hcd : decide (32 ≤ s.hs.length) = false := by simpa using hc
        clear hr hf hc
        go_enter Tryz.func22, Tryz.ntmps22
        go_wp2_with fail
        refine (needRaw_any h hw env).mono ?_
        rintro e w2 ⟨rfl, hw2⟩
        subst hw2
        rw [HR.out]
        go_wp2_with fail
        refine (leastFree_any h hw).mono ?_
        rintro e w3 ⟨rfl, hb3⟩
        rw [HF.out]
        simp only [lfV]
        have h3 := h.below hb3
        go_wp2_with fail
        refine (full_any h3.st (by omega)).mono ?_
        rintro e w4 ⟨rfl, hw4⟩
        subst hw4
        rw [hcd]
        have k1 := h3.c1
        have hrf := h3.rF
        obtain ⟨g, cap, hv, hcell, hfz⟩ := hrf.form (by omega)
        rw [hv] at k1
        have hxl := hrf.len
        have cx : ∀ j, j < 4 → ∃ v, w4.cell? ⟨g, f * 4 + j, none⟩ = some v := fun j hj => ⟨_, by rw [hcell _ (by omega)]; exact List.getElem?_eq_getElem (by omega)⟩
        obtain ⟨v0, c0⟩ := cx 0 (by omega)
        obtain ⟨v1, c1⟩ := cx 1 (by omega)
        obtain ⟨v2, c2⟩ := cx 2 (by omega)
        obtain ⟨v3, c3⟩ := cx 3 (by omega)
        simp only [Nat.add_zero] at c0
        have z0 := hfz (f * 4)
        have z1 := hfz (f * 4 + 1)
        have z2 := hfz (f * 4 + 2)
        have z3 := hfz (f * 4 + 3)
        have hl : (f : Int) < (s.bytes.length : Int) := by omega
        have hgt : own g = (id, 2) := h3.tF g (by rw [hv]; rfl)
        have hst := h3.setF hv f hflt
        clear hv hcell hfz hrf hxl cx
        go_wp2_with fail
        refine (pfirst_any hst.st hsz hw.l0 hw.l1 env f).mono ?_
        rintro e w5 ⟨rfl, hn⟩
        go_wp2_with fail
        go_ret2
        have hin : (own g).1 = id := by rw [hgt]
        exact ⟨ret_int2 (by rw [HP.out]) (by rw [HP.out]), by rw [HP.out]; exact PNext.after (((((Touch.of_below hb3 _).setCell (.inl hin) _).setCell (.inl hin) _).setCell (.inl hin) _).setCell (.inl hin) _) (hst.next hn)⟩


def deriveP (s : PSt) (env hd te : Int) (wt : Bool) : (Int × Int) × PSt :=
  match rightP s env hd with
  | (none, e) => ((0, e), s)
  | (some y, _) => if rawP s te ≠ 0 then ((0, rawP s te), s) else if wt && !y.wr then ((0, 10), s) else if 32 ≤ s.hs.length then ((0, 12), s)
    else ((s.last + 1, 0), { s with hs := addP s.hs s.last te y.fr wt y.h, last := s.last + 1 })

theorem rightP_cases (s : PSt) (env hd : Int) : (∃ x, rightP s env hd = (none, x) ∧ (x = 2 ∨ x = 9)) ∨ ∃ y, rightP s env hd = (some y, 0) ∧ findP s.hs env hd = some y ∧ aliveP s env = true := by
  unfold rightP
  rcases rawP_cases s env with ⟨hr, _⟩ | ⟨hr, ha⟩
  · exact .inl ⟨2, by simp [hr], .inl rfl⟩
  · cases hf : findP s.hs env hd with
    | none => exact .inl ⟨9, by simp [hr], .inr rfl⟩
    | some y => exact .inr ⟨y, by simp [hr], rfl, ha⟩

set_option maxHeartbeats 4000000 in
set_option maxRecDepth 100000 in
theorem pderive_any (h : PRep own id w p s vE vF vL vT) (hw : PWf s) (env hd te : Int) (wt : Bool) :
    Calls Tryz.prog 24 #[.pointer (some ⟨p, 0, none⟩), .int .i64 env, .int .i64 hd, .int .i64 te, .bool wt] w fun e w' => e = .returned (.tuple #[.int .i64 (deriveP s env hd te wt).1.1, .int .i64 (deriveP s env hd te wt).1.2]) ∧ PNext own id w p w' (deriveP s env hd te wt).2 := by
  have hsz := hw.size
  rcases rightP_cases s env hd with ⟨x, hx, hx2⟩ | ⟨y, hx, -, -⟩
  · have hx0 : (x != 0) = true := by rcases hx2 with rfl | rfl <;> rfl
    have HP : Hid (deriveP s env hd te wt = ((0, x), s)) := by simp [Hid, deriveP, hx]
    have HX : Hid (rightP s env hd = (none, x)) := hx
    clear hx hx2
    go_enter Tryz.func24, Tryz.ntmps24
    go_wp2_with fail
    refine (needRight_any h hw env hd).mono ?_
    rintro e w2 ⟨rfl, hb2⟩
    rw [HX.out]
    simp only [rightV]
    go_wp2_with fail
    go_ret2
    exact ⟨ret_int2 (by rw [HP.out]) (by rw [HP.out]), by rw [HP.out]; exact PNext.of_below h (hb2.alloc hb2.size _)⟩
  · have HX : Hid (rightP s env hd = (some y, 0)) := hx
    rcases rawP_cases s te with ⟨ht, -⟩ | ⟨ht, -⟩
    · have HP : Hid (deriveP s env hd te wt = ((0, 2), s)) := by simp [Hid, deriveP, hx, ht]
      have HT : Hid (rawP s te = 2) := ht
      clear hx ht
      go_enter Tryz.func24, Tryz.ntmps24
      go_wp2_with fail
      refine (needRight_any h hw env hd).mono ?_
      rintro e w2 ⟨rfl, hb2⟩
      rw [HX.out]
      simp only [rightV]
      have h3 := (h.below hb2).below ((Below.refl _ _).alloc (Nat.le_refl _) (.cells #[.int .i64 y.h, .int .i64 y.env, .int .i64 y.fr, .bool y.wr] 107))
      go_wp2_with fail
      refine (needRaw_any h3 hw te).mono ?_
      rintro e w3 ⟨rfl, hw3⟩
      subst hw3
      rw [HT.out]
      go_wp2_with fail
      go_ret2
      exact ⟨ret_int2 (by rw [HP.out]) (by rw [HP.out]), by rw [HP.out]; exact PNext.of_below h (hb2.alloc hb2.size _)⟩
    · have HT : Hid (rawP s te = 0) := ht
      have HP : Hid (deriveP s env hd te wt = if wt && !y.wr then (((0 : Int), (10 : Int)), s) else if 32 ≤ s.hs.length then ((0, 12), s) else ((s.last + 1, 0), { s with hs := addP s.hs s.last te y.fr wt y.h, last := s.last + 1 })) := by simp [Hid, deriveP, hx, ht]
      clear hx ht
      go_enter Tryz.func24, Tryz.ntmps24
      go_wp2_with fail
      refine (needRight_any h hw env hd).mono ?_
      rintro e w2 ⟨rfl, hb2⟩
      rw [HX.out]
      simp only [rightV]
      have h3 := (h.below hb2).below ((Below.refl _ _).alloc (Nat.le_refl _) (.cells #[.int .i64 y.h, .int .i64 y.env, .int .i64 y.fr, .bool y.wr] 107))
      go_wp2_with fail
      refine (needRaw_any h3 hw te).mono ?_
      rintro e w3 ⟨rfl, hw3⟩
      subst hw3
      rw [HT.out]
      cases hq : (wt && !y.wr)
      · rw [hq] at HP
        simp only [Bool.false_eq_true, if_false] at HP
        have hcase : wt = false ∨ (wt = true ∧ y.wr = true) := by
          cases hwt : wt <;> cases hrw : y.wr <;> simp_all
        clear hq
        by_cases hc : 32 ≤ s.hs.length
        · have hcd : decide (32 ≤ s.hs.length) = true := by simpa using hc
          rw [if_pos hc] at HP
          clear hc
          rcases hcase with rfl | ⟨rfl, hrw⟩
          all_goals
            try rw [hrw] at h3 ⊢
            go_wp2_with fail
            refine (full_any h3.st (by omega)).mono ?_
            rintro e w4 ⟨rfl, hw4⟩
            subst hw4
            rw [hcd]
            go_wp2_with fail
            go_ret2
            exact ⟨ret_int2 (by rw [HP.out]) (by rw [HP.out]), by rw [HP.out]; exact PNext.of_below h (hb2.alloc hb2.size _)⟩
        · have hcd : decide (32 ≤ s.hs.length) = false := by simpa using hc
          rw [if_neg hc] at HP
          clear hc
          rcases hcase with rfl | ⟨rfl, hrw⟩
          · go_wp2_with fail
            refine (full_any h3.st (by omega)).mono ?_
            rintro e w4 ⟨rfl, hw4⟩
            subst hw4
            rw [hcd]
            have hplt := h3.st.blk.lt
            have hvlt := (h.below hb2).st.row.lt
            have hplt2 := (h.below hb2).st.blk.lt
            have h3d := h3.below (Below.refl _ _).drew
            have hbx := Blk.new w2 [.int .i64 y.h, .int .i64 y.env, .int .i64 y.fr, .bool y.wr] 107
            go_wp2_with fail
            go_region_held3 (fun w' => w'.cell? ⟨w2.heap.size, 0, none⟩ = some (.int .i64 y.h) ∧ w'.cell? ⟨w2.heap.size, 1, none⟩ = some (.int .i64 y.env) ∧ w'.cell? ⟨w2.heap.size, 2, none⟩ = some (.int .i64 y.fr) ∧ w'.cell? ⟨w2.heap.size, 3, none⟩ = some (.bool y.wr)) (go_keep)
              ((first
                | (go_at_call 73; refine (psderive_any h3d.st hsz hw.l0 hw.l1 y.h y.env y.fr y.wr te false).mono ?_; rintro e w5 ⟨rfl, hn⟩
                   have hb5 : Blk w5 w2.heap.size [.int .i64 y.h, .int .i64 y.env, .int .i64 y.fr, .bool y.wr] 107 := by
                     obtain ⟨_, _, _, _, ht5⟩ := hn
                     exact hbx.of (ht5.block _ (by show w2.heap.size < (w2.alloc _).heap.size; simp) (fun e => by
                       rcases e with e | e
                       · omega
                       · have := hvlt _ e; omega))
                   have a0 := hb5.cell 0
                   have a1 := hb5.cell 1
                   have a2 := hb5.cell 2
                   have a3 := hb5.cell 3
                   simp at a0 a1 a2 a3)))
            go_wp2_with fail
            go_ret2
            exact ⟨ret_int2 (by rw [HP.out]) (by rw [HP.out]), by rw [HP.out]; exact PNext.after (Touch.of_below (hb2.alloc hb2.size _).drew _) (h3d.next hn)⟩
          · rw [hrw] at h3 ⊢
            go_wp2_with fail
            refine (full_any h3.st (by omega)).mono ?_
            rintro e w4 ⟨rfl, hw4⟩
            subst hw4
            rw [hcd]
            have hplt := h3.st.blk.lt
            have hvlt := (h.below hb2).st.row.lt
            have hplt2 := (h.below hb2).st.blk.lt
            have h3d := h3.below (Below.refl _ _).drew
            have hbx := Blk.new w2 [.int .i64 y.h, .int .i64 y.env, .int .i64 y.fr, .bool true] 107
            go_wp2_with fail
            go_region_held3 (fun w' => w'.cell? ⟨w2.heap.size, 0, none⟩ = some (.int .i64 y.h) ∧ w'.cell? ⟨w2.heap.size, 1, none⟩ = some (.int .i64 y.env) ∧ w'.cell? ⟨w2.heap.size, 2, none⟩ = some (.int .i64 y.fr) ∧ w'.cell? ⟨w2.heap.size, 3, none⟩ = some (.bool true)) (go_keep)
              ((first
                | (go_at_call 73; refine (psderive_any h3d.st hsz hw.l0 hw.l1 y.h y.env y.fr true te true).mono ?_; rintro e w5 ⟨rfl, hn⟩
                   have hb5 : Blk w5 w2.heap.size [.int .i64 y.h, .int .i64 y.env, .int .i64 y.fr, .bool true] 107 := by
                     obtain ⟨_, _, _, _, ht5⟩ := hn
                     exact hbx.of (ht5.block _ (by show w2.heap.size < (w2.alloc _).heap.size; simp) (fun e => by
                       rcases e with e | e
                       · omega
                       · have := hvlt _ e; omega))
                   have a0 := hb5.cell 0
                   have a1 := hb5.cell 1
                   have a2 := hb5.cell 2
                   have a3 := hb5.cell 3
                   simp at a0 a1 a2 a3)))
            go_wp2_with fail
            go_ret2
            exact ⟨ret_int2 (by rw [HP.out]) (by rw [HP.out]), by rw [HP.out]; exact PNext.after (Touch.of_below (hb2.alloc hb2.size _).drew _) (h3d.next hn)⟩
      · rw [hq] at HP
        simp only [if_true] at HP
        obtain ⟨rfl, hrw⟩ : wt = true ∧ y.wr = false := by cases hwt : wt <;> cases hrw : y.wr <;> simp_all
        rw [hrw]
        clear hq
        go_wp2_with fail
        go_ret2
        exact ⟨ret_int2 (by rw [HP.out]) (by rw [HP.out]), by rw [HP.out]; exact PNext.of_below h (hb2.alloc hb2.size _)⟩
end
end Go.Proofs.YtnolplmpanbmhaaGreat

namespace Go.Proofs.YtnolplmpanbmhaaGreat
open Go.RowKit
set_option linter.unusedVariables false
attribute [local go_sem ↓] Go.wp_at_zero Go.wp_at_succ

section
variable {own : Nat → Nat × Nat} {id : Nat} {w : World} {p : Nat} {s : PSt} {vE vF vL vT : Value}

/-- Rights have ended: only these are left. -/
def endP (s : PSt) (hs' : List PH) : PSt := { s with hs := hs', slots := s.slots.map (swP hs') }
theorem endAllP_le (hs : List PH) (hd : List Int) : (endAllP hs hd).length ≤ hs.length := (eaTo_len hs hd hs.length).1
theorem PWf.ends (h : PWf s) {hs' : List PH} (hl : hs'.length ≤ s.hs.length) : PWf { s with hs := hs' } := ⟨h.ne, h.nf, h.sl, h.uni, h.fr, h.bys, h.l0, h.l1, by have := h.size; show (hs'.length + 1) * 48 ≤ _; omega⟩

def revokeP (s : PSt) (env hd : Int) : Int × PSt := match rightP s env hd with
  | (none, e) => (e, s)
  | (some y, _) => (0, endP s (endAllP s.hs (hdTo s.hs (fun x => x.par == y.h) s.hs.length)))
def dropP (s : PSt) (env hd : Int) : Int × PSt := match rightP s env hd with
  | (none, e) => (e, s)
  | (some y, _) => (0, endP s (endAllP s.hs [y.h]))

set_option maxHeartbeats 4000000 in
set_option maxRecDepth 100000 in
theorem prevoke_any (h : PRep own id w p s vE vF vL vT) (hw : PWf s) (env hd : Int) :
    Calls Tryz.prog 26 #[.pointer (some ⟨p, 0, none⟩), .int .i64 env, .int .i64 hd] w fun e w' => e = .returned (.int .i64 (revokeP s env hd).1) ∧ PNext own id w p w' (revokeP s env hd).2 := by
  have hsz := hw.size
  rcases rightP_cases s env hd with ⟨x, hx, hx2⟩ | ⟨y, hx, -, -⟩
  · have hx0 : (x != 0) = true := by rcases hx2 with rfl | rfl <;> rfl
    have HP : Hid (revokeP s env hd = (x, s)) := by simp [Hid, revokeP, hx]
    have HX : Hid (rightP s env hd = (none, x)) := hx
    clear hx hx2
    go_enter Tryz.func26, Tryz.ntmps26
    go_wp2_with fail
    refine (needRight_any h hw env hd).mono ?_
    rintro e w2 ⟨rfl, hb2⟩
    rw [HX.out]
    simp only [rightV]
    go_wp2_with fail
    go_ret
    exact ⟨ret_int (by rw [HP.out]), by rw [HP.out]; exact PNext.of_below h (hb2.alloc hb2.size _)⟩
  · have HX : Hid (rightP s env hd = (some y, 0)) := hx
    have HP : Hid (revokeP s env hd = (0, endP s (endAllP s.hs (hdTo s.hs (fun x => x.par == y.h) s.hs.length)))) := by simp [Hid, revokeP, hx]
    clear hx
    go_enter Tryz.func26, Tryz.ntmps26
    go_wp2_with fail
    refine (needRight_any h hw env hd).mono ?_
    rintro e w2 ⟨rfl, hb2⟩
    rw [HX.out]
    simp only [rightV]
    have h3 := (h.below hb2).below ((Below.refl _ _).alloc (Nat.le_refl _) (.cells #[.int .i64 y.h, .int .i64 y.env, .int .i64 y.fr, .bool y.wr] 107))
    have hplt := h3.st.blk.lt
    have hvlt := (h.below hb2).st.row.lt
    have hplt2 := (h.below hb2).st.blk.lt
    have h3d := h3.below (Below.refl _ _).drew
    have hbx := Blk.new w2 [.int .i64 y.h, .int .i64 y.env, .int .i64 y.fr, .bool y.wr] 107
    go_wp2_with fail
    go_region_held3 (fun w' => w'.cell? ⟨w2.heap.size, 0, none⟩ = some (.int .i64 y.h)) (go_keep)
      ((first
        | (go_at_call 77; refine (endDerived_any h3d.st hsz y.h).mono ?_; rintro e w5 ⟨rfl, hn⟩
           have hb5 : Blk w5 w2.heap.size [.int .i64 y.h, .int .i64 y.env, .int .i64 y.fr, .bool y.wr] 107 := by
             obtain ⟨_, _, _, _, ht5⟩ := hn
             exact hbx.of (ht5.block _ (by show w2.heap.size < (w2.alloc _).heap.size; simp) (fun e => by
               rcases e with e | e
               · omega
               · have := hvlt _ e; omega))
           have a0 := hb5.cell 0
           simp at a0)))
    obtain ⟨own', vE', vF', vL', vT', h6, ho6, ht6⟩ := h3d.next hn
    have hw6 := hw.ends (endAllP_le s.hs (hdTo s.hs (fun x => x.par == y.h) s.hs.length))
    go_wp2_with fail
    refine (unbacked_any h6 hw6).mono ?_
    rintro e w7 ⟨rfl, h7, ht7⟩
    go_wp2_with fail
    go_ret
    exact ⟨ret_int (by rw [HP.out]), by rw [HP.out]; exact PNext.after (Touch.of_below (hb2.alloc hb2.size _).drew _) (PNext.then ho6 ht6 ⟨own', _, _, _, _, h7, fun _ _ => rfl, h6.touch ht7⟩)⟩

set_option maxHeartbeats 4000000 in
set_option maxRecDepth 100000 in
theorem pdrop_any (h : PRep own id w p s vE vF vL vT) (hw : PWf s) (env hd : Int) :
    Calls Tryz.prog 28 #[.pointer (some ⟨p, 0, none⟩), .int .i64 env, .int .i64 hd] w fun e w' => e = .returned (.int .i64 (dropP s env hd).1) ∧ PNext own id w p w' (dropP s env hd).2 := by
  have hsz := hw.size
  rcases rightP_cases s env hd with ⟨x, hx, hx2⟩ | ⟨y, hx, -, -⟩
  · have hx0 : (x != 0) = true := by rcases hx2 with rfl | rfl <;> rfl
    have HP : Hid (dropP s env hd = (x, s)) := by simp [Hid, dropP, hx]
    have HX : Hid (rightP s env hd = (none, x)) := hx
    clear hx hx2
    go_enter Tryz.func28, Tryz.ntmps28
    go_wp2_with fail
    refine (needRight_any h hw env hd).mono ?_
    rintro e w2 ⟨rfl, hb2⟩
    rw [HX.out]
    simp only [rightV]
    go_wp2_with fail
    go_ret
    exact ⟨ret_int (by rw [HP.out]), by rw [HP.out]; exact PNext.of_below h (hb2.alloc hb2.size _)⟩
  · have HX : Hid (rightP s env hd = (some y, 0)) := hx
    have HP : Hid (dropP s env hd = (0, endP s (endAllP s.hs [y.h]))) := by simp [Hid, dropP, hx]
    clear hx
    go_enter Tryz.func28, Tryz.ntmps28
    go_wp2_with fail
    refine (needRight_any h hw env hd).mono ?_
    rintro e w2 ⟨rfl, hb2⟩
    rw [HX.out]
    simp only [rightV]
    have h3 := (h.below hb2).below ((Below.refl _ _).alloc (Nat.le_refl _) (.cells #[.int .i64 y.h, .int .i64 y.env, .int .i64 y.fr, .bool y.wr] 107))
    have hplt := h3.st.blk.lt
    have hvlt := (h.below hb2).st.row.lt
    have hplt2 := (h.below hb2).st.blk.lt
    have h3d := h3.below (Below.refl _ _).drew
    have hbx := Blk.new w2 [.int .i64 y.h, .int .i64 y.env, .int .i64 y.fr, .bool y.wr] 107
    go_wp2_with fail
    go_region_held3 (fun w' => w'.cell? ⟨w2.heap.size, 0, none⟩ = some (.int .i64 y.h)) (go_keep)
      ((first
        | (go_at_call 80; refine (end_any h3d.st hsz y.h).mono ?_; rintro e w5 ⟨rfl, hn⟩
           have hb5 : Blk w5 w2.heap.size [.int .i64 y.h, .int .i64 y.env, .int .i64 y.fr, .bool y.wr] 107 := by
             obtain ⟨_, _, _, _, ht5⟩ := hn
             exact hbx.of (ht5.block _ (by show w2.heap.size < (w2.alloc _).heap.size; simp) (fun e => by
               rcases e with e | e
               · omega
               · have := hvlt _ e; omega))
           have a0 := hb5.cell 0
           simp at a0)))
    obtain ⟨own', vE', vF', vL', vT', h6, ho6, ht6⟩ := h3d.next hn
    have hw6 := hw.ends (endAllP_le s.hs [y.h])
    go_wp2_with fail
    refine (unbacked_any h6 hw6).mono ?_
    rintro e w7 ⟨rfl, h7, ht7⟩
    go_wp2_with fail
    go_ret
    exact ⟨ret_int (by rw [HP.out]), by rw [HP.out]; exact PNext.after (Touch.of_below (hb2.alloc hb2.size _).drew _) (PNext.then ho6 ht6 ⟨own', _, _, _, _, h7, fun _ _ => rfl, h6.touch ht7⟩)⟩

def killP (s : PSt) (env : Int) : Int × PSt :=
  if aliveP s env then (0, { endP s (endAllP s.hs (hdTo s.hs (fun x => x.env == env) s.hs.length)) with alive := s.alive.set env.toNat false }) else (2, s)
def spawnP (s : PSt) (env : Int) : Int × PSt :=
  if isEnvP s env then if aliveP s env then (3, s) else (0, { s with alive := s.alive.set env.toNat true }) else (2, s)

theorem flat_setE (xs : List Bool) (i : Nat) (b : Bool) (hi : i < xs.length) : (xs.set i b).flatMap ecells = ((xs.flatMap ecells).set (i * 2) (.bool b)).set (i * 2 + 1) (.bool false) := by
  apply List.ext_getElem?
  intro q
  have hl := flat_length ecells 2 (fun _ => rfl) xs
  rw [flat_at ecells 2 (by omega) (fun _ => rfl)]
  simp only [List.getElem?_set, List.length_set, hl]
  by_cases hp : q / 2 = i
  · rw [if_pos hp.symm, if_pos (by omega)]
    have : q % 2 = 0 ∨ q % 2 = 1 := by omega
    rcases this with h | h
    · rw [if_neg (by omega), if_pos (by omega), if_pos (by omega), h]; rfl
    · rw [if_pos (by omega), if_pos (by omega), h]; rfl
  · rw [if_neg (fun e => hp e.symm), if_neg (by omega), if_neg (by omega), flat_at ecells 2 (by omega) (fun _ => rfl)]

/-- An environment is written. -/
theorem PRep.setE {g cap : Nat} (h : PRep own id w p s vE vF vL vT) (hv : vE = .slice (some ⟨g, 0, none⟩) s.alive.length cap) (i : Nat) (b : Bool) (hi : i < s.alive.length) :
    PRep own id ((w.setCell ⟨g, i * 2, none⟩ (.bool b)).setCell ⟨g, i * 2 + 1, none⟩ (.bool false)) p { s with alive := s.alive.set i b } vE vF vL vT := by
  have hg : own g = (id, 1) := h.tE g (by rw [hv]; rfl)
  have hW : ∀ x, x < w.heap.size → own x ≠ (id, 1) → ((w.setCell ⟨g, i * 2, none⟩ (.bool b)).setCell ⟨g, i * 2 + 1, none⟩ (.bool false)).heap[x]? = w.heap[x]? := fun x hx h3 => by
    have hn : x ≠ g := fun e => h3 (by rw [e]; exact hg)
    rw [Below.heap_setCell _ _ _ _ hn, Below.heap_setCell _ _ _ _ hn]
  refine ⟨h.st.of (fun _ _ => rfl) (hW p h.st.blk.lt (by rw [h.tm]; simp)) (fun x hx ht => hW x hx (by rw [ht]; simp)), h.tb.of (fun _ _ => rfl) (hW p h.st.blk.lt (by rw [h.tm]; simp)) (fun x hx ht => hW x hx (by rw [ht]; simp)), ?_, h.rF.kept h.tF (fun x hx ht => hW x hx (by rw [ht]; simp)), h.tm, h.tE, h.tF⟩
  have h1 := h.rE
  rw [hv] at h1 ⊢
  rw [List.length_set, flat_setE _ _ _ hi]
  exact (h1.set _ _).set _ _

set_option maxHeartbeats 4000000 in
set_option maxRecDepth 100000 in
theorem pspawn_any (h : PRep own id w p s vE vF vL vT) (hw : PWf s) (env : Int) :
    Calls Tryz.prog 32 #[.pointer (some ⟨p, 0, none⟩), .int .i64 env] w fun e w' => e = .returned (.int .i64 (spawnP s env).1) ∧ PNext own id w p w' (spawnP s env).2 := by
  have k0 := h.c0
  cases hie : isEnvP s env
  · have HE : Hid (isEnvP s env = false) := hie
    have HP : Hid (spawnP s env = (2, s)) := by simp [Hid, spawnP, hie]
    clear hie
    go_enter Tryz.func32, Tryz.ntmps32
    go_wp2_with fail
    refine (isEnv_any h hw env).mono ?_
    rintro e w2 ⟨rfl, hw2⟩
    subst hw2
    rw [HE.out]
    go_wp2_with fail
    go_ret
    exact ⟨ret_int (by rw [HP.out]), by rw [HP.out]; exact PNext.refl h⟩
  · have HE : Hid (isEnvP s env = true) := hie
    obtain ⟨j, rfl, hj⟩ := isEnvP_nat hie
    obtain ⟨a, ha⟩ : ∃ a, s.alive[j]? = some a := ⟨s.alive[j], by simp⟩
    obtain ⟨g, cap, hv, hgt, c0, c1, hfz⟩ := h.env ha
    have hst := h.setE hv j true hj
    have z0 := hfz (j * 2)
    have z1 := hfz (j * 2 + 1)
    rw [hv] at k0
    have hl : (j : Int) < (s.alive.length : Int) := by omega
    cases a
    · have HP : Hid (spawnP s j = (0, { s with alive := s.alive.set j true })) := by simp [Hid, spawnP, aliveP, hie, ha]
      clear hie ha hv hfz
      go_enter Tryz.func32, Tryz.ntmps32
      go_wp2_with fail
      refine (isEnv_any h hw j).mono ?_
      rintro e w2 ⟨rfl, hw2⟩
      subst hw2
      rw [HE.out]
      go_wp2_with fail
      go_ret
      have hin : (own g).1 = id := by rw [hgt]
      exact ⟨ret_int (by rw [HP.out]), by rw [HP.out]; exact ⟨own, _, _, _, _, hst, fun _ _ => rfl, ((Touch.refl _ _ _).setCell (.inl hin) _).setCell (.inl hin) _⟩⟩
    · have HP : Hid (spawnP s j = (3, s)) := by simp [Hid, spawnP, aliveP, hie, ha]
      clear hie ha hv hfz
      go_enter Tryz.func32, Tryz.ntmps32
      go_wp2_with fail
      refine (isEnv_any h hw j).mono ?_
      rintro e w2 ⟨rfl, hw2⟩
      subst hw2
      rw [HE.out]
      go_wp2_with fail
      go_ret
      exact ⟨ret_int (by rw [HP.out]), by rw [HP.out]; exact PNext.refl h⟩

set_option maxHeartbeats 4000000 in
set_option maxRecDepth 100000 in
theorem pkill_any (h : PRep own id w p s vE vF vL vT) (hw : PWf s) (env : Int) :
    Calls Tryz.prog 30 #[.pointer (some ⟨p, 0, none⟩), .int .i64 env] w fun e w' => e = .returned (.int .i64 (killP s env).1) ∧ PNext own id w p w' (killP s env).2 := by
  have hsz := hw.size
  cases hal : aliveP s env
  · have HA : Hid (aliveP s env = false) := hal
    have HP : Hid (killP s env = (2, s)) := by simp [Hid, killP, hal]
    clear hal
    go_enter Tryz.func30, Tryz.ntmps30
    go_wp2_with fail
    refine (isAlive_any h hw env).mono ?_
    rintro e w2 ⟨rfl, hw2⟩
    subst hw2
    rw [HA.out]
    go_wp2_with fail
    go_ret
    exact ⟨ret_int (by rw [HP.out]), by rw [HP.out]; exact PNext.refl h⟩
  · have HA : Hid (aliveP s env = true) := hal
    obtain ⟨j, rfl, haj⟩ := aliveP_nat hal
    have hj := (List.getElem?_eq_some_iff.1 haj).1
    have HP : Hid (killP s j = (0, { endP s (endAllP s.hs (hdTo s.hs (fun x => x.env == (j : Int)) s.hs.length)) with alive := s.alive.set j false })) := by simp [Hid, killP, hal]
    have HJ : Hid (s.alive[j]? = some true) := haj
    have hl : (j : Int) < (s.alive.length : Int) := by omega
    clear hal haj
    go_enter Tryz.func30, Tryz.ntmps30
    go_wp2_with fail
    refine (isAlive_any h hw j).mono ?_
    rintro e w2 ⟨rfl, hw2⟩
    subst hw2
    rw [HA.out]
    go_wp2_with fail
    refine (endOf_any h.st hsz j).mono ?_
    rintro e w3 ⟨rfl, hn⟩
    obtain ⟨own', vE', vF', vL', vT', h6, ho3, ht6⟩ := h.next hn
    have hw6 := hw.ends (endAllP_le s.hs (hdTo s.hs (fun x => x.env == (j : Int)) s.hs.length))
    go_wp2_with fail
    refine (unbacked_any h6 hw6).mono ?_
    rintro e w7 ⟨rfl, h3, ht7⟩
    have ht3 := ht6.next ho3 (h6.touch ht7)
    have k0 := h3.c0
    obtain ⟨g, cap, hv, hgt, c0, c1, hfz⟩ := h3.env HJ.out
    have hst := h3.setE hv j false hj
    have z0 := hfz (j * 2)
    have z1 := hfz (j * 2 + 1)
    rw [hv] at k0
    clear hv hfz
    go_wp2_with fail
    go_ret
    have hin : (own' g).1 = id := by rw [hgt]
    refine ⟨ret_int (by rw [HP.out]), ?_⟩
    rw [HP.out]
    exact ⟨own', _, _, _, _, hst, ho3, ht3.next ho3 (((Touch.refl _ _ _).setCell (.inl hin) _).setCell (.inl hin) _)⟩

set_option maxHeartbeats 4000000 in
set_option maxRecDepth 100000 in
theorem prights_any (h : PRep own id w p s vE vF vL vT) (hw : PWf s) (env : Int) :
    Calls Tryz.prog 34 #[.pointer (some ⟨p, 0, none⟩), .int .i64 env] w fun e w' => ∃ v, Below w.heap.size w w' ∧ (∀ x, v.ownBlock = some x → w.heap.size ≤ x) ∧
      ((aliveP s env = false ∧ v = .slice none 0 0 ∧ e = .returned (.tuple #[v, .int .i64 2])) ∨ (aliveP s env = true ∧ Row w' v 107 4 (ofP s.hs env).length ((ofP s.hs env).flatMap PH.rc) ∧ e = .returned (.tuple #[v, .int .i64 0]))) := by
  have hsz := hw.size
  cases hal : aliveP s env
  · have HA : Hid (aliveP s env = false) := hal
    clear hal
    go_enter Tryz.func34, Tryz.ntmps34
    go_wp2_with fail
    refine (isAlive_any h hw env).mono ?_
    rintro e w2 ⟨rfl, hw2⟩
    subst hw2
    rw [HA.out]
    go_wp2_with fail
    go_ret2
    exact ⟨_, Below.refl _ _, by simp [Value.ownBlock], .inl ⟨trivial, rfl, rfl⟩⟩
  · have HA : Hid (aliveP s env = true) := hal
    clear hal
    go_enter Tryz.func34, Tryz.ntmps34
    go_wp2_with fail
    refine (isAlive_any h hw env).mono ?_
    rintro e w2 ⟨rfl, hw2⟩
    subst hw2
    rw [HA.out]
    go_wp2_with fail
    refine (of_any h.st hsz env).mono ?_
    rintro e w3 ⟨v, rfl, hb3, hrow, hnew⟩
    go_wp2_with fail
    go_ret2
    exact ⟨v, hb3, hnew, .inr ⟨trivial, hrow, rfl⟩⟩
end
end Go.Proofs.YtnolplmpanbmhaaGreat

namespace Go.Proofs.YtnolplmpanbmhaaGreat
open Go.RowKit
set_option linter.unusedVariables false
attribute [local go_sem ↓] Go.wp_at_zero Go.wp_at_succ

section
variable {own : Nat → Nat × Nat} {id : Nat} {w : World} {p : Nat} {s : PSt} {vE vF vL vT : Value}

def pageP (s : PSt) (env page : Int) : Int := if rawP s env ≠ 0 then rawP s env else if page < 0 ∨ 15 < page then 7 else 0
def placeP (s : PSt) (env page a : Int) : Int := if pageP s env page ≠ 0 then pageP s env page else if a < 0 ∨ 3 < a then 8 else 0
theorem pageP_cases (s : PSt) (env page : Int) : (∃ x, pageP s env page = x ∧ (x = 2 ∨ x = 7)) ∨ (pageP s env page = 0 ∧ aliveP s env = true ∧ 0 ≤ page ∧ page ≤ 15) := by
  unfold pageP
  rcases rawP_cases s env with ⟨hr, -⟩ | ⟨hr, ha⟩
  · exact .inl ⟨2, by simp [hr], .inl rfl⟩
  · by_cases h : page < 0 ∨ 15 < page
    · exact .inl ⟨7, by simp [hr, h], .inr rfl⟩
    · exact .inr ⟨by simp [hr, h], ha, by omega, by omega⟩
theorem placeP_cases (s : PSt) (env page a : Int) : (∃ x, placeP s env page a = x ∧ (x = 2 ∨ x = 7 ∨ x = 8)) ∨ (placeP s env page a = 0 ∧ pageP s env page = 0 ∧ 0 ≤ a ∧ a ≤ 3) := by
  unfold placeP
  rcases pageP_cases s env page with ⟨x, hx, h⟩ | ⟨hx, -, -, -⟩
  · exact .inl ⟨x, by rw [hx]; rcases h with rfl | rfl <;> simp, by omega⟩
  · by_cases h : a < 0 ∨ 3 < a
    · exact .inl ⟨8, by simp [hx, h], by omega⟩
    · exact .inr ⟨by simp [hx, h], hx, by omega, by omega⟩

set_option maxHeartbeats 1000000 in
set_option maxRecDepth 100000 in
theorem needPage_any (h : PRep own id w p s vE vF vL vT) (hw : PWf s) (env page : Int) :
    Calls Tryz.prog 88 #[.pointer (some ⟨p, 0, none⟩), .int .i64 env, .int .i64 page] w fun e w' => e = .returned (.int .i64 (pageP s env page)) ∧ w' = w := by
  rcases rawP_cases s env with ⟨hr, -⟩ | ⟨hr, -⟩
  · have HR : Hid (rawP s env = 2) := hr
    have HP : Hid (pageP s env page = 2) := by simp [Hid, pageP, hr]
    clear hr
    go_enter Tryz.func88, Tryz.ntmps88
    go_wp2_with fail
    refine (needRaw_any h hw env).mono ?_
    rintro e w2 ⟨rfl, hw2⟩
    subst hw2
    rw [HR.out]
    go_wp2_with fail
    go_ret
    exact ⟨ret_int (by rw [HP.out]), rfl⟩
  · have HR : Hid (rawP s env = 0) := hr
    have HP : Hid (pageP s env page = if page < 0 ∨ 15 < page then 7 else 0) := by simp [Hid, pageP, hr]
    clear hr
    go_enter Tryz.func88, Tryz.ntmps88
    go_wp2_with fail
    refine (needRaw_any h hw env).mono ?_
    rintro e w2 ⟨rfl, hw2⟩
    subst hw2
    rw [HR.out]
    by_cases h0 : page < 0
    · rw [if_pos (.inl h0)] at HP
      go_wp2_with fail
      go_ret
      exact ⟨ret_int (by rw [HP.out]), rfl⟩
    · by_cases h1 : 16 ≤ page
      · rw [if_pos (.inr (by omega))] at HP
        go_wp2_with fail
        go_ret
        exact ⟨ret_int (by rw [HP.out]), rfl⟩
      · rw [if_neg (by omega)] at HP
        go_wp2_with fail
        go_ret
        exact ⟨ret_int (by rw [HP.out]), rfl⟩

set_option maxHeartbeats 1000000 in
set_option maxRecDepth 100000 in
theorem needPlace_any (h : PRep own id w p s vE vF vL vT) (hw : PWf s) (env page a : Int) :
    Calls Tryz.prog 94 #[.pointer (some ⟨p, 0, none⟩), .int .i64 env, .int .i64 page, .int .i64 a] w fun e w' => e = .returned (.int .i64 (placeP s env page a)) ∧ w' = w := by
  rcases pageP_cases s env page with ⟨x, hx, hx2⟩ | ⟨hx, -, -, -⟩
  · have hx0 : (x != 0) = true := by rcases hx2 with rfl | rfl <;> rfl
    have HR : Hid (pageP s env page = x) := hx
    have HP : Hid (placeP s env page a = x) := by rcases hx2 with rfl | rfl <;> simp [Hid, placeP, hx]
    clear hx hx2
    go_enter Tryz.func94, Tryz.ntmps94
    go_wp2_with fail
    refine (needPage_any h hw env page).mono ?_
    rintro e w2 ⟨rfl, hw2⟩
    subst hw2
    rw [HR.out]
    go_wp2_with fail
    go_ret
    exact ⟨ret_int (by rw [HP.out]), rfl⟩
  · have HR : Hid (pageP s env page = 0) := hx
    have HP : Hid (placeP s env page a = if a < 0 ∨ 3 < a then 8 else 0) := by simp [Hid, placeP, hx]
    clear hx
    go_enter Tryz.func94, Tryz.ntmps94
    go_wp2_with fail
    refine (needPage_any h hw env page).mono ?_
    rintro e w2 ⟨rfl, hw2⟩
    subst hw2
    rw [HR.out]
    by_cases h0 : a < 0
    · rw [if_pos (.inl h0)] at HP
      go_wp2_with fail
      go_ret
      exact ⟨ret_int (by rw [HP.out]), rfl⟩
    · by_cases h1 : 4 ≤ a
      · rw [if_pos (.inr (by omega))] at HP
        go_wp2_with fail
        go_ret
        exact ⟨ret_int (by rw [HP.out]), rfl⟩
      · rw [if_neg (by omega)] at HP
        go_wp2_with fail
        go_ret
        exact ⟨ret_int (by rw [HP.out]), rfl⟩

def unmapP (s : PSt) (env page : Int) : Int × PSt := if pageP s env page ≠ 0 then (pageP s env page, s) else (0, { s with slots := s.slots.map (remE env page) })

set_option maxHeartbeats 1000000 in
set_option maxRecDepth 100000 in
theorem punmap_any (h : PRep own id w p s vE vF vL vT) (hw : PWf s) (env page : Int) :
    Calls Tryz.prog 40 #[.pointer (some ⟨p, 0, none⟩), .int .i64 env, .int .i64 page] w fun e w' => e = .returned (.int .i64 (unmapP s env page).1) ∧ PNext own id w p w' (unmapP s env page).2 := by
  rcases pageP_cases s env page with ⟨x, hx, hx2⟩ | ⟨hx, -, -, -⟩
  · have hx0 : (x != 0) = true := by rcases hx2 with rfl | rfl <;> rfl
    have HR : Hid (pageP s env page = x) := hx
    have HP : Hid (unmapP s env page = (x, s)) := by rcases hx2 with rfl | rfl <;> simp [Hid, unmapP, hx]
    clear hx hx2
    go_enter Tryz.func40, Tryz.ntmps40
    go_wp2_with fail
    refine (needPage_any h hw env page).mono ?_
    rintro e w2 ⟨rfl, hw2⟩
    subst hw2
    rw [HR.out]
    go_wp2_with fail
    go_ret
    exact ⟨ret_int (by rw [HP.out]), by rw [HP.out]; exact PNext.refl h⟩
  · have HR : Hid (pageP s env page = 0) := hx
    have HP : Hid (unmapP s env page = (0, { s with slots := s.slots.map (remE env page) })) := by simp [Hid, unmapP, hx]
    clear hx
    go_enter Tryz.func40, Tryz.ntmps40
    go_wp2_with fail
    refine (needPage_any h hw env page).mono ?_
    rintro e w2 ⟨rfl, hw2⟩
    subst hw2
    rw [HR.out]
    go_wp2_with fail
    refine (tremove_any h.tb hw.sl env page).mono ?_
    rintro e w3 ⟨rfl, h3, ht3⟩
    go_wp2_with fail
    go_ret
    exact ⟨ret_int (by rw [HP.out]), by rw [HP.out]; exact ⟨own, _, _, _, _, h.turned h3 ht3, fun _ _ => rfl, h.touch ht3⟩⟩

set_option maxHeartbeats 1000000 in
set_option maxRecDepth 100000 in
theorem ptable_any (h : PRep own id w p s vE vF vL vT) (hw : PWf s) :
    Calls Tryz.prog 46 #[.pointer (some ⟨p, 0, none⟩)] w fun e w' => ∃ v, e = .returned v ∧ Below w.heap.size w w' ∧ (∀ x, v.ownBlock = some x → w.heap.size ≤ x) ∧ Row w' v 68 5 s.slots.length (s.slots.flatMap Ent.cells) := by
  go_enter Tryz.func46, Tryz.ntmps46
  go_wp2_with fail
  refine (tlist_any h.tb hw.sl).mono ?_
  rintro e w2 ⟨v, rfl, hb, hn, hr⟩
  go_wp2_with fail
  go_ret
  exact ⟨v, rfl, hb, hn, hr⟩

def mapP (s : PSt) (env page hd : Int) (wt : Bool) (slot : Int) : Int × PSt :=
  if pageP s env page ≠ 0 then (pageP s env page, s) else match findP s.hs env hd with
    | none => (9, s)
    | some y => if wt && !y.wr then (10, s) else if slot < 0 ∨ (s.slots.length : Int) ≤ slot then (11, s) else (0, { s with slots := putP s.slots slot.toNat ⟨true, env, page, y.fr, wt⟩ })

set_option maxHeartbeats 4000000 in
set_option maxRecDepth 100000 in
theorem pmap_any (h : PRep own id w p s vE vF vL vT) (hw : PWf s) (env page hd : Int) (wt : Bool) (slot : Int) :
    Calls Tryz.prog 38 #[.pointer (some ⟨p, 0, none⟩), .int .i64 env, .int .i64 page, .int .i64 hd, .bool wt, .int .i64 slot] w fun e w' => e = .returned (.int .i64 (mapP s env page hd wt slot).1) ∧ PNext own id w p w' (mapP s env page hd wt slot).2 := by
  have hsz := hw.size
  have hsl := hw.sl
  rcases pageP_cases s env page with ⟨x, hx, hx2⟩ | ⟨hx, -, -, -⟩
  · have hx0 : (x != 0) = true := by rcases hx2 with rfl | rfl <;> rfl
    have HR : Hid (pageP s env page = x) := hx
    have HP : Hid (mapP s env page hd wt slot = (x, s)) := by rcases hx2 with rfl | rfl <;> simp [Hid, mapP, hx]
    clear hx hx2
    go_enter Tryz.func38, Tryz.ntmps38
    go_wp2_with fail
    refine (needPage_any h hw env page).mono ?_
    rintro e w2 ⟨rfl, hw2⟩
    subst hw2
    rw [HR.out]
    go_wp2_with fail
    go_ret
    exact ⟨ret_int (by rw [HP.out]), by rw [HP.out]; exact PNext.refl h⟩
  have HR : Hid (pageP s env page = 0) := hx
  cases hf : findP s.hs env hd with
  | none =>
    have HF : Hid (findP s.hs env hd = none) := hf
    have HP : Hid (mapP s env page hd wt slot = (9, s)) := by simp [Hid, mapP, hx, hf]
    clear hx hf
    go_enter Tryz.func38, Tryz.ntmps38
    go_wp2_with fail
    refine (needPage_any h hw env page).mono ?_
    rintro e w2 ⟨rfl, hw2⟩
    subst hw2
    rw [HR.out]
    go_wp2_with fail
    refine (find_any h.st (by omega) env hd).mono ?_
    rintro e w3 ⟨rfl, hb3⟩
    rw [HF.out]
    simp only [findV]
    go_wp2_with fail
    go_ret
    exact ⟨ret_int (by rw [HP.out]), by rw [HP.out]; exact PNext.of_below h (hb3.alloc hb3.size _)⟩
  | some y =>
    have HF : Hid (findP s.hs env hd = some y) := hf
    have HP : Hid (mapP s env page hd wt slot = if wt && !y.wr then (10, s) else if slot < 0 ∨ (s.slots.length : Int) ≤ slot then (11, s) else (0, { s with slots := putP s.slots slot.toNat ⟨true, env, page, y.fr, wt⟩ })) := by simp [Hid, mapP, hx, hf]
    clear hx hf
    go_enter Tryz.func38, Tryz.ntmps38
    go_wp2_with fail
    refine (needPage_any h hw env page).mono ?_
    rintro e w2 ⟨rfl, hw2⟩
    subst hw2
    rw [HR.out]
    go_wp2_with fail
    refine (find_any h.st (by omega) env hd).mono ?_
    rintro e w3 ⟨rfl, hb3⟩
    rw [HF.out]
    simp only [findV]
    have hba : Below w2.heap.size w2 (w3.alloc (.cells #[.int .i64 y.h, .int .i64 y.env, .int .i64 y.fr, .bool y.wr] 107)) := hb3.alloc hb3.size _
    have h4 := h.below hba
    have hbx := Blk.new w3 [.int .i64 y.h, .int .i64 y.env, .int .i64 y.fr, .bool y.wr] 107
    cases hq : (wt && !y.wr)
    · rw [hq] at HP
      simp only [Bool.false_eq_true, if_false] at HP
      have hcase : wt = false ∨ (wt = true ∧ y.wr = true) := by
        cases hwt : wt <;> cases hrw : y.wr <;> simp_all
      clear hq
      by_cases hc : slot < 0 ∨ (s.slots.length : Int) ≤ slot
      · rw [if_pos hc] at HP
        have hcd : (decide (0 ≤ slot) && decide (slot < s.slots.length)) = false := by simp; omega
        clear hc
        rcases hcase with rfl | ⟨rfl, hrw⟩
        all_goals
          try rw [hrw] at h4 hbx hba ⊢
          go_wp2_with fail
          refine (thas_any h4.tb hsl slot).mono ?_
          rintro e w5 ⟨rfl, hw5⟩
          subst hw5
          rw [hcd]
          go_wp2_with fail
          go_ret
          exact ⟨ret_int (by rw [HP.out]), by rw [HP.out]; exact PNext.of_below h hba⟩
      · rw [if_neg hc] at HP
        have hcd : (decide (0 ≤ slot) && decide (slot < s.slots.length)) = true := by simp; omega
        obtain ⟨k, rfl⟩ := Int.eq_ofNat_of_zero_le (show 0 ≤ slot by omega)
        have hk : k < s.slots.length := by omega
        simp only [Int.toNat_natCast] at *
        clear hc
        rcases hcase with rfl | ⟨rfl, hrw⟩
        all_goals
          try rw [hrw] at h4 hbx hba ⊢
          go_wp2_with fail
          refine (thas_any h4.tb hsl k).mono ?_
          rintro e w5 ⟨rfl, hw5⟩
          subst hw5
          rw [hcd]
          have h4d := h4.below (Below.refl _ _).drew
          have hbxd := hbx.drew
          have hvlt : ∀ x, vT.ownBlock = some x → x < w3.heap.size := fun x hx => Nat.lt_of_lt_of_le (h.tb.row.lt x hx) hb3.size
          have hxl := hbxd.lt
          go_wp2_with fail
          go_region_held3 (fun w' => w'.cell? ⟨w3.heap.size, 2, none⟩ = some (.int .i64 y.fr)) (go_keep)
            ((first
              | (go_at_call 91; refine (tput_any h4d.tb hsl k hk _ _ _ _ _).mono ?_; rintro e w6 ⟨rfl, h6, ht6⟩
                 have hby := hbxd.of (ht6.block _ hxl (fun e => by have := hvlt _ e; omega))
                 have e2 := hby.cell 2
                 simp at e2)))
          go_wp2_with fail
          go_ret
          exact ⟨ret_int (by rw [HP.out]), by rw [HP.out]; exact PNext.after (Touch.of_below hba.drew _) ⟨own, _, _, _, _, h4d.turned h6 ht6, fun _ _ => rfl, h4d.touch ht6⟩⟩
    · rw [hq] at HP
      simp only [if_true] at HP
      obtain ⟨rfl, hrw⟩ : wt = true ∧ y.wr = false := by cases hwt : wt <;> cases hrw : y.wr <;> simp_all
      rw [hrw]
      clear hq
      go_wp2_with fail
      go_ret
      exact ⟨ret_int (by rw [HP.out]), by rw [HP.out]; exact PNext.of_below h (hb3.alloc hb3.size _)⟩
end
end Go.Proofs.YtnolplmpanbmhaaGreat

namespace Go.Proofs.YtnolplmpanbmhaaGreat
open Go.RowKit
set_option linter.unusedVariables false
attribute [local go_sem ↓] Go.wp_at_zero Go.wp_at_succ

section
variable {own : Nat → Nat × Nat} {id : Nat} {w : World} {p : Nat} {s : PSt} {vE vF vL vT : Value}

def byteP (s : PSt) (f a : Int) : Int := ((s.bytes[f.toNat]?.getD [])[a.toNat]?).getD 0
def loadP (s : PSt) (env page a : Int) : Int × Int :=
  if placeP s env page a ≠ 0 then (0, placeP s env page a) else match findT s.slots env page with
    | none => (0, 13)
    | some e => (byteP s e.fr a, 0)
def putP1 (s : PSt) (f a v : Int) : PSt := { s with bytes := s.bytes.set f.toNat ((s.bytes[f.toNat]?.getD []).set a.toNat v) }
def storeP (s : PSt) (env page a v : Int) : Int × PSt :=
  if placeP s env page a ≠ 0 then (placeP s env page a, s) else if v < 0 ∨ 255 < v then (6, s) else match findT s.slots env page with
    | none => (13, s)
    | some e => if !e.wr then (14, s) else (0, putP1 s e.fr a v)

theorem fcells_at (l : List Int) {a : Nat} (ha : a < 4) : (fcells l)[a]? = some (.int .u8 (l[a]?.getD 0)) := by
  have : a = 0 ∨ a = 1 ∨ a = 2 ∨ a = 3 := by omega
  rcases this with rfl | rfl | rfl | rfl <;> rfl
theorem flat_byte (xs : List (List Int)) (f a : Nat) (l : List Int) (v : Int) (hx : xs[f]? = some l) (ha : a < 4) (hl : l.length = 4) : (xs.set f (l.set a v)).flatMap fcells = (xs.flatMap fcells).set (f * 4 + a) (.int .u8 v) := by
  have hf := (List.getElem?_eq_some_iff.1 hx).1
  apply List.ext_getElem?
  intro q
  have hln := flat_length fcells 4 (fun _ => rfl) xs
  rw [flat_at fcells 4 (by omega) (fun _ => rfl)]
  simp only [List.getElem?_set, hln]
  by_cases hp : q / 4 = f
  · rw [if_pos hp.symm, if_pos (by omega)]
    simp only [Option.bind_some]
    rw [fcells_at _ (Nat.mod_lt _ (by omega))]
    by_cases hq : q % 4 = a
    · rw [if_pos (by omega), if_pos (by omega), hq, List.getElem?_set_self (by omega)]; rfl
    · rw [if_neg (by omega), List.getElem?_set_ne (fun e => hq e.symm), flat_at fcells 4 (by omega) (fun _ => rfl), hp, hx]
      simp only [Option.bind_some]
      rw [fcells_at _ (Nat.mod_lt _ (by omega))]
  · rw [if_neg (fun e => hp e.symm), if_neg (by omega), flat_at fcells 4 (by omega) (fun _ => rfl)]

/-- The cell of a byte. -/
theorem PRep.byte (h : PRep own id w p s vE vF vL vT) (hw : PWf s) {f a : Nat} (hf : f < s.bytes.length) (ha : a < 4) :
    ∃ g cap l, vF = .slice (some ⟨g, 0, none⟩) s.bytes.length cap ∧ own g = (id, 2) ∧ s.bytes[f]? = some l ∧ l.length = 4 ∧ w.cell? ⟨g, f * 4 + a, none⟩ = some (.int .u8 (byteP s f a)) ∧ (0 ≤ byteP s f a ∧ byteP s f a ≤ 255) ∧ ∀ j, w.frozen? ⟨g, j, none⟩ = false := by
  obtain ⟨g, cap, hv, hc, hfz⟩ := h.rF.form (by omega)
  obtain ⟨l, hl⟩ : ∃ l, s.bytes[f]? = some l := ⟨s.bytes[f], by simp⟩
  obtain ⟨h4, hb⟩ := hw.bys f l hl
  have hby : byteP s f a = l[a]?.getD 0 := by simp [byteP, hl]
  refine ⟨g, cap, l, hv, h.tF g (by rw [hv]; rfl), hl, h4, ?_, ?_, hfz⟩
  · rw [hc _ (by omega), flat_get fcells 4 (fun _ => rfl) _ _ a _ hl ha, fcells_at _ ha, hby]
  · rw [hby, List.getElem?_eq_getElem (by omega)]
    exact hb a _ (List.getElem?_eq_getElem (by omega))

/-- A byte is written. -/
theorem PRep.setByte {g cap : Nat} (h : PRep own id w p s vE vF vL vT) (hw : PWf s) (hv : vF = .slice (some ⟨g, 0, none⟩) s.bytes.length cap) {f a : Nat} (hf : f < s.bytes.length) (ha : a < 4) (v : Int) :
    PRep own id (w.setCell ⟨g, f * 4 + a, none⟩ (.int .u8 v)) p (putP1 s f a v) vE vF vL vT := by
  have hg : own g = (id, 2) := h.tF g (by rw [hv]; rfl)
  obtain ⟨l, hl⟩ : ∃ l, s.bytes[f]? = some l := ⟨s.bytes[f], by simp⟩
  obtain ⟨h4, hb⟩ := hw.bys f l hl
  have e : putP1 s f a v = { s with bytes := s.bytes.set f (l.set a v) } := by simp [putP1, hl]
  rw [e]
  refine h.framed (fun b hb h3 => Below.heap_setCell _ _ _ _ (fun e => h3 (by simp at e; rw [e]; exact hg))) ?_
  have h1 := h.rF
  rw [hv] at h1 ⊢
  rw [List.length_set, flat_byte _ _ _ _ _ hl ha h4]
  exact h1.set _ _

theorem findT_some {es : List Ent} {env page : Int} {e : Ent} (h : findT es env page = some e) : ∃ i : Nat, es[i]? = some e ∧ e.used = true := by
  have h1 := List.mem_of_find?_eq_some h
  have h2 := List.find?_some h
  obtain ⟨i, hi, rfl⟩ := List.getElem_of_mem h1
  simp [entP] at h2
  exact ⟨i, by simp, h2.1⟩

set_option maxHeartbeats 4000000 in
set_option maxRecDepth 100000 in
theorem pload_any (h : PRep own id w p s vE vF vL vT) (hw : PWf s) (env page a : Int) :
    Calls Tryz.prog 42 #[.pointer (some ⟨p, 0, none⟩), .int .i64 env, .int .i64 page, .int .i64 a] w fun e w' => e = .returned (.tuple #[.int .i64 (loadP s env page a).1, .int .i64 (loadP s env page a).2]) ∧ Below w.heap.size w w' := by
  have hsl := hw.sl
  rcases placeP_cases s env page a with ⟨x, hx, hx2⟩ | ⟨hx, -, ha0, ha1⟩
  · have hx0 : (x != 0) = true := by rcases hx2 with rfl | rfl | rfl <;> rfl
    have HR : Hid (placeP s env page a = x) := hx
    have HP : Hid (loadP s env page a = (0, x)) := by rcases hx2 with rfl | rfl | rfl <;> simp [Hid, loadP, hx]
    clear hx hx2
    go_enter Tryz.func42, Tryz.ntmps42
    go_wp2_with fail
    refine (needPlace_any h hw env page a).mono ?_
    rintro e w2 ⟨rfl, hw2⟩
    subst hw2
    rw [HR.out]
    go_wp2_with fail
    go_ret2
    exact ⟨ret_int2 (by rw [HP.out]) (by rw [HP.out]), Below.refl _ _⟩
  have HR : Hid (placeP s env page a = 0) := hx
  cases hf : findT s.slots env page with
  | none =>
    have HF : Hid (findT s.slots env page = none) := hf
    have HP : Hid (loadP s env page a = (0, 13)) := by simp [Hid, loadP, hx, hf]
    clear hx hf
    go_enter Tryz.func42, Tryz.ntmps42
    go_wp2_with fail
    refine (needPlace_any h hw env page a).mono ?_
    rintro e w2 ⟨rfl, hw2⟩
    subst hw2
    rw [HR.out]
    go_wp2_with fail
    refine (tfind_any h.tb hsl env page).mono ?_
    rintro e w3 ⟨rfl, hb3⟩
    rw [HF.out]
    simp only [findTV]
    go_wp2_with fail
    go_ret2
    exact ⟨ret_int2 (by rw [HP.out]) (by rw [HP.out]), hb3.alloc hb3.size _⟩
  | some e =>
    have HF : Hid (findT s.slots env page = some e) := hf
    have HP : Hid (loadP s env page a = (byteP s e.fr a, 0)) := by simp [Hid, loadP, hx, hf]
    obtain ⟨i, hi, hu⟩ := findT_some hf
    obtain ⟨f0, f1⟩ := hw.fr i e hi hu
    obtain ⟨f, hfe⟩ := Int.eq_ofNat_of_zero_le f0
    obtain ⟨k, rfl⟩ := Int.eq_ofNat_of_zero_le ha0
    have hfl : f < s.bytes.length := by omega
    have hk : k < 4 := by omega
    rw [hfe] at HP
    clear hx hf hi
    go_enter Tryz.func42, Tryz.ntmps42
    go_wp2_with fail
    refine (needPlace_any h hw env page k).mono ?_
    rintro e2 w2 ⟨rfl, hw2⟩
    subst hw2
    rw [HR.out]
    go_wp2_with fail
    refine (tfind_any h.tb hsl env page).mono ?_
    rintro e3 w3 ⟨rfl, hb3⟩
    rw [HF.out]
    simp only [findTV]
    rw [hfe]
    have hba : Below w2.heap.size w2 (w3.alloc (.cells #[.bool e.used, .int .i64 e.env, .int .i64 e.page, .int .i64 f, .bool e.wr] 68)) := hb3.alloc hb3.size _
    have h3 := h.below hb3
    obtain ⟨g, cap, l, hv, hg, -, -, hc, ⟨hb0, hb1⟩, hfz⟩ := h3.byte hw hfl hk
    have hplt := h3.st.blk.lt
    have hglt := h3.rF.lt g (by rw [hv]; rfl)
    have k1 := h3.c1
    rw [hv] at k1
    have hl : (f : Int) < (s.bytes.length : Int) := by omega
    have hk4 : (k : Int) < 4 := by omega
    have hwr : IntKind.i64.wrap (byteP s f k) = byteP s f k := by rw [IntKind.wrap_i64]; omega
    clear hv hfz hfe f0 f1
    go_wp2_with fail
    go_region_held3 (fun w' => w'.cell? ⟨p, 1, none⟩ = some (.slice (some ⟨g, 0, none⟩) s.bytes.length cap) ∧ w'.cell? ⟨w3.heap.size, 3, none⟩ = some (.int .i64 f) ∧ w'.cell? ⟨g, f * 4 + k, none⟩ = some (.int .u8 (byteP s f k))) (go_keep) (fail)
    go_wp2_with fail
    go_ret2
    exact ⟨ret_int2 (by rw [HP.out]) (by rw [HP.out]), (hb3.alloc hb3.size _).drew⟩

set_option maxHeartbeats 4000000 in
set_option maxRecDepth 100000 in
theorem pstore_any (h : PRep own id w p s vE vF vL vT) (hw : PWf s) (env page a v : Int) :
    Calls Tryz.prog 44 #[.pointer (some ⟨p, 0, none⟩), .int .i64 env, .int .i64 page, .int .i64 a, .int .i64 v] w fun e w' => e = .returned (.int .i64 (storeP s env page a v).1) ∧ PNext own id w p w' (storeP s env page a v).2 := by
  have hsl := hw.sl
  rcases placeP_cases s env page a with ⟨x, hx, hx2⟩ | ⟨hx, -, ha0, ha1⟩
  · have hx0 : (x != 0) = true := by rcases hx2 with rfl | rfl | rfl <;> rfl
    have HR : Hid (placeP s env page a = x) := hx
    have HP : Hid (storeP s env page a v = (x, s)) := by rcases hx2 with rfl | rfl | rfl <;> simp [Hid, storeP, hx]
    clear hx hx2
    go_enter Tryz.func44, Tryz.ntmps44
    go_wp2_with fail
    refine (needPlace_any h hw env page a).mono ?_
    rintro e w2 ⟨rfl, hw2⟩
    subst hw2
    rw [HR.out]
    go_wp2_with fail
    go_ret
    exact ⟨ret_int (by rw [HP.out]), by rw [HP.out]; exact PNext.refl h⟩
  have HR : Hid (placeP s env page a = 0) := hx
  by_cases hv0 : v < 0 ∨ 255 < v
  · have HP : Hid (storeP s env page a v = (6, s)) := by simp [Hid, storeP, hx, hv0]
    clear hx
    go_enter Tryz.func44, Tryz.ntmps44
    go_wp2_with fail
    refine (needPlace_any h hw env page a).mono ?_
    rintro e w2 ⟨rfl, hw2⟩
    subst hw2
    rw [HR.out]
    rcases hv0 with hv0 | hv0
    · go_wp2_with fail
      go_ret
      exact ⟨ret_int (by rw [HP.out]), by rw [HP.out]; exact PNext.refl h⟩
    · have hv1 : ¬ v < 0 := by omega
      go_wp2_with fail
      go_ret
      exact ⟨ret_int (by rw [HP.out]), by rw [HP.out]; exact PNext.refl h⟩
  have hv1 : ¬ v < 0 := by omega
  have hv2 : ¬ 255 < v := by omega
  cases hf : findT s.slots env page with
  | none =>
    have HF : Hid (findT s.slots env page = none) := hf
    have HP : Hid (storeP s env page a v = (13, s)) := by simp [Hid, storeP, hx, hv0, hf]
    clear hx hf hv0
    go_enter Tryz.func44, Tryz.ntmps44
    go_wp2_with fail
    refine (needPlace_any h hw env page a).mono ?_
    rintro e w2 ⟨rfl, hw2⟩
    subst hw2
    rw [HR.out]
    go_wp2_with fail
    refine (tfind_any h.tb hsl env page).mono ?_
    rintro e w3 ⟨rfl, hb3⟩
    rw [HF.out]
    simp only [findTV]
    go_wp2_with fail
    go_ret
    exact ⟨ret_int (by rw [HP.out]), by rw [HP.out]; exact PNext.of_below h (hb3.alloc hb3.size _)⟩
  | some e =>
    have HF : Hid (findT s.slots env page = some e) := hf
    obtain ⟨i, hi, hu⟩ := findT_some hf
    obtain ⟨f0, f1⟩ := hw.fr i e hi hu
    obtain ⟨f, hfe⟩ := Int.eq_ofNat_of_zero_le f0
    obtain ⟨k, rfl⟩ := Int.eq_ofNat_of_zero_le ha0
    have hfl : f < s.bytes.length := by omega
    have hk : k < 4 := by omega
    rcases Bool.eq_false_or_eq_true e.wr with hwr | hwr
    · have HP : Hid (storeP s env page k v = (0, putP1 s f k v)) := by simp [Hid, storeP, hx, hv0, hf, hwr, hfe]
      clear hx hf hi hv0 hu
      go_enter Tryz.func44, Tryz.ntmps44
      go_wp2_with fail
      refine (needPlace_any h hw env page k).mono ?_
      rintro e2 w2 ⟨rfl, hw2⟩
      subst hw2
      rw [HR.out]
      go_wp2_with fail
      refine (tfind_any h.tb hsl env page).mono ?_
      rintro e3 w3 ⟨rfl, hb3⟩
      rw [HF.out]
      simp only [findTV]
      rw [hfe, hwr]
      have h3 := h.below hb3
      have hba : Below w2.heap.size w2 (w3.alloc (.cells #[.bool e.used, .int .i64 e.env, .int .i64 e.page, .int .i64 f, .bool true] 68)) := hb3.alloc hb3.size _
      have h4 := h.below hba
      have hbx := Blk.new w3 [.bool e.used, .int .i64 e.env, .int .i64 e.page, .int .i64 f, .bool true] 68
      go_wp2_with fail
      obtain ⟨W4, hW4⟩ : ∃ W4, w3.alloc (.cells #[.bool e.used, .int .i64 e.env, .int .i64 e.page, .int .i64 f, .bool true] 68) = W4 := ⟨_, rfl⟩
      have hbx2 : Blk (w3.alloc (.cells #[.bool e.used, .int .i64 e.env, .int .i64 e.page, .int .i64 f, .bool true] 68)) w3.heap.size [.bool e.used, .int .i64 e.env, .int .i64 e.page, .int .i64 f, .bool true] 68 := hbx
      rw [hW4] at hba h4 hbx2 ⊢
      clear hbx hW4
      obtain ⟨g, cap, l, hv, hg, -, -, hc, ⟨hb0, hb1⟩, hfz⟩ := h4.byte hw hfl hk
      have hst := h4.setByte hw hv hfl hk v
      have hglt := h3.rF.lt g (by rw [hv]; rfl)
      have z0 := hfz (f * 4 + k)
      have k1 := h4.c1
      rw [hv] at k1
      have e3 := hbx2.cell 3
      simp at e3
      have hl : (f : Int) < (s.bytes.length : Int) := by omega
      have hk4 : (k : Int) < 4 := by omega
      have hwp : IntKind.u8.wrap v = v := by rw [IntKind.wrap_u8]; omega
      have hin : (own g).1 = id := by rw [hg]
      have n1 : p ≠ g := fun e => by have := h.tm; rw [e, hg] at this; simp at this
      have n2 : g ≠ p := fun e => n1 e.symm
      have n3 : w3.heap.size ≠ g := by omega
      have n4 : g ≠ w3.heap.size := by omega
      clear hv hfz hfe f0 f1
      go_region_held3 (fun w' => w'.cell? ⟨p, 1, none⟩ = some (.slice (some ⟨g, 0, none⟩) s.bytes.length cap) ∧ w'.cell? ⟨w3.heap.size, 3, none⟩ = some (.int .i64 f)) (go_keep) (fail)
      go_wp2_with fail
      go_ret
      exact ⟨ret_int (by rw [HP.out]), by rw [HP.out]; exact ⟨own, _, _, _, _, hst.below (Below.refl _ _).drew, fun _ _ => rfl, ((Touch.of_below hba _).setCell (.inl hin) _).drew⟩⟩
    · have HP : Hid (storeP s env page k v = (14, s)) := by simp [Hid, storeP, hx, hv0, hf, hwr]
      clear hx hf hi hv0 hfe
      go_enter Tryz.func44, Tryz.ntmps44
      go_wp2_with fail
      refine (needPlace_any h hw env page k).mono ?_
      rintro e2 w2 ⟨rfl, hw2⟩
      subst hw2
      rw [HR.out]
      go_wp2_with fail
      refine (tfind_any h.tb hsl env page).mono ?_
      rintro e3 w3 ⟨rfl, hb3⟩
      rw [HF.out]
      simp only [findTV]
      rw [hwr]
      go_wp2_with fail
      go_ret
      exact ⟨ret_int (by rw [HP.out]), by rw [HP.out]; exact PNext.of_below h (hb3.alloc hb3.size _)⟩
end
end Go.Proofs.YtnolplmpanbmhaaGreat
