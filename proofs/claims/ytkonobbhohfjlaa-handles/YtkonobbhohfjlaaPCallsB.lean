import Derived.Test.YtkonobbhohfjlaaPCalls
namespace Go.Proofs.Ytkonobbhohfjlaa
open Go.RowKit
set_option linter.unusedVariables false
attribute [local go_sem ↓] Go.wp_at_zero Go.wp_at_succ

section
variable {own : Nat → Nat × Nat} {id : Nat} {w : World} {p : Nat} {s : PSt} {vE vF vL : Value}

def revokeP (s : PSt) (env hd : Int) : Int × PSt := match rightP s env hd with
  | (none, e) => (e, s)
  | (some y, _) => (0, { s with hs := endAllP s.hs (hdTo s.hs (fun x => x.par == y.h) s.hs.length) })
def dropP (s : PSt) (env hd : Int) : Int × PSt := match rightP s env hd with
  | (none, e) => (e, s)
  | (some y, _) => (0, { s with hs := endAllP s.hs [y.h] })

set_option maxHeartbeats 4000000 in
set_option maxRecDepth 100000 in
theorem prevoke_any (h : PRep own id w p s vE vF vL) (hw : PWf s) (env hd : Int) :
    Calls Try.prog 37 #[.pointer (some ⟨p, 0, none⟩), .int .i64 env, .int .i64 hd] w fun e w' => e = .returned (.int .i64 (revokeP s env hd).1) ∧ PNext own id w p w' (revokeP s env hd).2 := by
  have hsz := hw.size
  rcases rightP_cases s env hd with ⟨x, hx, hx2⟩ | ⟨y, hx, -, -⟩
  · have hx0 : (x != 0) = true := by rcases hx2 with rfl | rfl <;> rfl
    have HP : Hid (revokeP s env hd = (x, s)) := by simp [Hid, revokeP, hx]
    have HX : Hid (rightP s env hd = (none, x)) := hx
    clear hx hx2
    go_enter Try.func37, Try.ntmps37
    go_wp2_with fail
    refine (needRight_any h hw env hd).mono ?_
    rintro e w2 ⟨rfl, hb2⟩
    rw [HX.out]
    simp only [rightV]
    go_wp2_with fail
    go_ret
    exact ⟨ret_int (by rw [HP.out]), by rw [HP.out]; exact PNext.of_below h (hb2.alloc hb2.size _)⟩
  · have HX : Hid (rightP s env hd = (some y, 0)) := hx
    have HP : Hid (revokeP s env hd = (0, { s with hs := endAllP s.hs (hdTo s.hs (fun x => x.par == y.h) s.hs.length) })) := by simp [Hid, revokeP, hx]
    clear hx
    go_enter Try.func37, Try.ntmps37
    go_wp2_with fail
    refine (needRight_any h hw env hd).mono ?_
    rintro e w2 ⟨rfl, hb2⟩
    rw [HX.out]
    simp only [rightV]
    have h3 := (h.below hb2).below ((Below.refl _ _).alloc (Nat.le_refl _) (.cells #[.int .i64 y.h, .int .i64 y.env, .int .i64 y.fr, .bool y.wr] 64))
    have hplt := h3.st.blk.lt
    have hvlt := (h.below hb2).st.row.lt
    have hplt2 := (h.below hb2).st.blk.lt
    have h3d := h3.below (Below.refl _ _).drew
    have hbx := Blk.new w2 [.int .i64 y.h, .int .i64 y.env, .int .i64 y.fr, .bool y.wr] 64
    go_wp2_with fail
    go_region_held3 (fun w' => w'.cell? ⟨w2.heap.size, 0, none⟩ = some (.int .i64 y.h)) (go_keep)
      ((first
        | (go_at_call 86; refine (endDerived_any h3d.st hsz y.h).mono ?_; rintro e w5 ⟨rfl, hn⟩
           have hb5 : Blk w5 w2.heap.size [.int .i64 y.h, .int .i64 y.env, .int .i64 y.fr, .bool y.wr] 64 := by
             obtain ⟨_, _, _, _, ht5⟩ := hn
             exact hbx.of (ht5.block _ (by show w2.heap.size < (w2.alloc _).heap.size; simp) (fun e => by
               rcases e with e | e
               · omega
               · have := hvlt _ e; omega))
           have a0 := hb5.cell 0
           simp at a0)))
    go_wp2_with fail
    go_ret
    exact ⟨ret_int (by rw [HP.out]), by rw [HP.out]; exact PNext.after (Touch.of_below (hb2.alloc hb2.size _).drew _) (h3d.next hn)⟩

set_option maxHeartbeats 4000000 in
set_option maxRecDepth 100000 in
theorem pdrop_any (h : PRep own id w p s vE vF vL) (hw : PWf s) (env hd : Int) :
    Calls Try.prog 36 #[.pointer (some ⟨p, 0, none⟩), .int .i64 env, .int .i64 hd] w fun e w' => e = .returned (.int .i64 (dropP s env hd).1) ∧ PNext own id w p w' (dropP s env hd).2 := by
  have hsz := hw.size
  rcases rightP_cases s env hd with ⟨x, hx, hx2⟩ | ⟨y, hx, -, -⟩
  · have hx0 : (x != 0) = true := by rcases hx2 with rfl | rfl <;> rfl
    have HP : Hid (dropP s env hd = (x, s)) := by simp [Hid, dropP, hx]
    have HX : Hid (rightP s env hd = (none, x)) := hx
    clear hx hx2
    go_enter Try.func36, Try.ntmps36
    go_wp2_with fail
    refine (needRight_any h hw env hd).mono ?_
    rintro e w2 ⟨rfl, hb2⟩
    rw [HX.out]
    simp only [rightV]
    go_wp2_with fail
    go_ret
    exact ⟨ret_int (by rw [HP.out]), by rw [HP.out]; exact PNext.of_below h (hb2.alloc hb2.size _)⟩
  · have HX : Hid (rightP s env hd = (some y, 0)) := hx
    have HP : Hid (dropP s env hd = (0, { s with hs := endAllP s.hs [y.h] })) := by simp [Hid, dropP, hx]
    clear hx
    go_enter Try.func36, Try.ntmps36
    go_wp2_with fail
    refine (needRight_any h hw env hd).mono ?_
    rintro e w2 ⟨rfl, hb2⟩
    rw [HX.out]
    simp only [rightV]
    have h3 := (h.below hb2).below ((Below.refl _ _).alloc (Nat.le_refl _) (.cells #[.int .i64 y.h, .int .i64 y.env, .int .i64 y.fr, .bool y.wr] 64))
    have hplt := h3.st.blk.lt
    have hvlt := (h.below hb2).st.row.lt
    have hplt2 := (h.below hb2).st.blk.lt
    have h3d := h3.below (Below.refl _ _).drew
    have hbx := Blk.new w2 [.int .i64 y.h, .int .i64 y.env, .int .i64 y.fr, .bool y.wr] 64
    go_wp2_with fail
    go_region_held3 (fun w' => w'.cell? ⟨w2.heap.size, 0, none⟩ = some (.int .i64 y.h)) (go_keep)
      ((first
        | (go_at_call 85; refine (end_any h3d.st hsz y.h).mono ?_; rintro e w5 ⟨rfl, hn⟩
           have hb5 : Blk w5 w2.heap.size [.int .i64 y.h, .int .i64 y.env, .int .i64 y.fr, .bool y.wr] 64 := by
             obtain ⟨_, _, _, _, ht5⟩ := hn
             exact hbx.of (ht5.block _ (by show w2.heap.size < (w2.alloc _).heap.size; simp) (fun e => by
               rcases e with e | e
               · omega
               · have := hvlt _ e; omega))
           have a0 := hb5.cell 0
           simp at a0)))
    go_wp2_with fail
    go_ret
    exact ⟨ret_int (by rw [HP.out]), by rw [HP.out]; exact PNext.after (Touch.of_below (hb2.alloc hb2.size _).drew _) (h3d.next hn)⟩

def killP (s : PSt) (env : Int) : Int × PSt :=
  if aliveP s env then (0, { s with alive := s.alive.set env.toNat false, hs := endAllP s.hs (hdTo s.hs (fun x => x.env == env) s.hs.length) }) else (2, s)
def spawnP (s : PSt) (env : Int) : Int × PSt :=
  if isEnvP s env then if aliveP s env then (3, s) else (0, { s with alive := s.alive.set env.toNat true }) else (2, s)

theorem flat_setE (xs : List Bool) (i : Nat) (b : Bool) (hi : i < xs.length) : (xs.set i b).flatMap ecells = ((xs.flatMap ecells).set (i * 2) (.bool b)).set (i * 2 + 1) (.bool false) := by
  apply List.ext_getElem?
  intro q
  have hl := flat_length ecells 2 (fun _ => rfl) xs
  rw [flat_at ecells 2 (by omega) (fun _ => rfl)]
  simp only [List.getElem?_set, List.length_set, hl]
  by_cases hp : q / 2 = i
  · rw [if_pos hp.symm, if_pos (by omega)]
    have : q % 2 = 0 ∨ q % 2 = 1 := by omega
    rcases this with h | h
    · rw [if_neg (by omega), if_pos (by omega), if_pos (by omega), h]; rfl
    · rw [if_pos (by omega), if_pos (by omega), h]; rfl
  · rw [if_neg (fun e => hp e.symm), if_neg (by omega), if_neg (by omega), flat_at ecells 2 (by omega) (fun _ => rfl)]

/-- An environment is written. -/
theorem PRep.setE {g cap : Nat} (h : PRep own id w p s vE vF vL) (hv : vE = .slice (some ⟨g, 0, none⟩) s.alive.length cap) (i : Nat) (b : Bool) (hi : i < s.alive.length) :
    PRep own id ((w.setCell ⟨g, i * 2, none⟩ (.bool b)).setCell ⟨g, i * 2 + 1, none⟩ (.bool false)) p { s with alive := s.alive.set i b } vE vF vL := by
  have hg : own g = (id, 1) := h.tE g (by rw [hv]; rfl)
  have hW : ∀ x, x < w.heap.size → own x ≠ (id, 1) → ((w.setCell ⟨g, i * 2, none⟩ (.bool b)).setCell ⟨g, i * 2 + 1, none⟩ (.bool false)).heap[x]? = w.heap[x]? := fun x hx h3 => by
    have hn : x ≠ g := fun e => h3 (by rw [e]; exact hg)
    rw [Below.heap_setCell _ _ _ _ hn, Below.heap_setCell _ _ _ _ hn]
  refine ⟨h.st.of (fun _ _ => rfl) (hW p h.st.blk.lt (by rw [h.tm]; simp)) (fun x hx ht => hW x hx (by rw [ht]; simp)), ?_, h.rF.kept h.tF (fun x hx ht => hW x hx (by rw [ht]; simp)), h.tm, h.tE, h.tF⟩
  have h1 := h.rE
  rw [hv] at h1 ⊢
  rw [List.length_set, flat_setE _ _ _ hi]
  exact (h1.set _ _).set _ _

set_option maxHeartbeats 4000000 in
set_option maxRecDepth 100000 in
theorem pspawn_any (h : PRep own id w p s vE vF vL) (hw : PWf s) (env : Int) :
    Calls Try.prog 38 #[.pointer (some ⟨p, 0, none⟩), .int .i64 env] w fun e w' => e = .returned (.int .i64 (spawnP s env).1) ∧ PNext own id w p w' (spawnP s env).2 := by
  have k0 := h.c0
  cases hie : isEnvP s env
  · have HE : Hid (isEnvP s env = false) := hie
    have HP : Hid (spawnP s env = (2, s)) := by simp [Hid, spawnP, hie]
    clear hie
    go_enter Try.func38, Try.ntmps38
    go_wp2_with fail
    refine (isEnv_any h hw env).mono ?_
    rintro e w2 ⟨rfl, hw2⟩
    subst hw2
    rw [HE.out]
    go_wp2_with fail
    go_ret
    exact ⟨ret_int (by rw [HP.out]), by rw [HP.out]; exact PNext.refl h⟩
  · have HE : Hid (isEnvP s env = true) := hie
    obtain ⟨j, rfl, hj⟩ := isEnvP_nat hie
    obtain ⟨a, ha⟩ : ∃ a, s.alive[j]? = some a := ⟨s.alive[j], by simp⟩
    obtain ⟨g, cap, hv, hgt, c0, c1, hfz⟩ := h.env ha
    have hst := h.setE hv j true hj
    have z0 := hfz (j * 2)
    have z1 := hfz (j * 2 + 1)
    rw [hv] at k0
    have hl : (j : Int) < (s.alive.length : Int) := by omega
    cases a
    · have HP : Hid (spawnP s j = (0, { s with alive := s.alive.set j true })) := by simp [Hid, spawnP, aliveP, hie, ha]
      clear hie ha hv hfz
      go_enter Try.func38, Try.ntmps38
      go_wp2_with fail
      refine (isEnv_any h hw j).mono ?_
      rintro e w2 ⟨rfl, hw2⟩
      subst hw2
      rw [HE.out]
      go_wp2_with fail
      go_ret
      have hin : (own g).1 = id := by rw [hgt]
      exact ⟨ret_int (by rw [HP.out]), by rw [HP.out]; exact ⟨own, _, _, _, hst, fun _ _ => rfl, ((Touch.refl _ _ _).setCell (.inl hin) _).setCell (.inl hin) _⟩⟩
    · have HP : Hid (spawnP s j = (3, s)) := by simp [Hid, spawnP, aliveP, hie, ha]
      clear hie ha hv hfz
      go_enter Try.func38, Try.ntmps38
      go_wp2_with fail
      refine (isEnv_any h hw j).mono ?_
      rintro e w2 ⟨rfl, hw2⟩
      subst hw2
      rw [HE.out]
      go_wp2_with fail
      go_ret
      exact ⟨ret_int (by rw [HP.out]), by rw [HP.out]; exact PNext.refl h⟩

set_option maxHeartbeats 4000000 in
set_option maxRecDepth 100000 in
theorem pkill_any (h : PRep own id w p s vE vF vL) (hw : PWf s) (env : Int) :
    Calls Try.prog 39 #[.pointer (some ⟨p, 0, none⟩), .int .i64 env] w fun e w' => e = .returned (.int .i64 (killP s env).1) ∧ PNext own id w p w' (killP s env).2 := by
  have hsz := hw.size
  cases hal : aliveP s env
  · have HA : Hid (aliveP s env = false) := hal
    have HP : Hid (killP s env = (2, s)) := by simp [Hid, killP, hal]
    clear hal
    go_enter Try.func39, Try.ntmps39
    go_wp2_with fail
    refine (isAlive_any h hw env).mono ?_
    rintro e w2 ⟨rfl, hw2⟩
    subst hw2
    rw [HA.out]
    go_wp2_with fail
    go_ret
    exact ⟨ret_int (by rw [HP.out]), by rw [HP.out]; exact PNext.refl h⟩
  · have HA : Hid (aliveP s env = true) := hal
    obtain ⟨j, rfl, haj⟩ := aliveP_nat hal
    have hj := (List.getElem?_eq_some_iff.1 haj).1
    have HP : Hid (killP s j = (0, { s with alive := s.alive.set j false, hs := endAllP s.hs (hdTo s.hs (fun x => x.env == (j : Int)) s.hs.length) })) := by simp [Hid, killP, hal]
    have HJ : Hid (s.alive[j]? = some true) := haj
    have hl : (j : Int) < (s.alive.length : Int) := by omega
    clear hal haj
    go_enter Try.func39, Try.ntmps39
    go_wp2_with fail
    refine (isAlive_any h hw j).mono ?_
    rintro e w2 ⟨rfl, hw2⟩
    subst hw2
    rw [HA.out]
    go_wp2_with fail
    refine (endOf_any h.st hsz j).mono ?_
    rintro e w3 ⟨rfl, hn⟩
    obtain ⟨own', vE', vF', vL', h3, ho3, ht3⟩ := h.next hn
    have k0 := h3.c0
    obtain ⟨g, cap, hv, hgt, c0, c1, hfz⟩ := h3.env HJ.out
    have hst := h3.setE hv j false hj
    have z0 := hfz (j * 2)
    have z1 := hfz (j * 2 + 1)
    rw [hv] at k0
    clear hv hfz
    go_wp2_with fail
    go_ret
    have hin : (own' g).1 = id := by rw [hgt]
    refine ⟨ret_int (by rw [HP.out]), ?_⟩
    rw [HP.out]
    exact ⟨own', _, _, _, hst, ho3, ht3.next ho3 (((Touch.refl _ _ _).setCell (.inl hin) _).setCell (.inl hin) _)⟩

set_option maxHeartbeats 4000000 in
set_option maxRecDepth 100000 in
theorem prights_any (h : PRep own id w p s vE vF vL) (hw : PWf s) (env : Int) :
    Calls Try.prog 22 #[.pointer (some ⟨p, 0, none⟩), .int .i64 env] w fun e w' => ∃ v, Below w.heap.size w w' ∧ (∀ x, v.ownBlock = some x → w.heap.size ≤ x) ∧
      ((aliveP s env = false ∧ v = .slice none 0 0 ∧ e = .returned (.tuple #[v, .int .i64 2])) ∨ (aliveP s env = true ∧ Row w' v 64 4 (ofP s.hs env).length ((ofP s.hs env).flatMap PH.rc) ∧ e = .returned (.tuple #[v, .int .i64 0]))) := by
  have hsz := hw.size
  cases hal : aliveP s env
  · have HA : Hid (aliveP s env = false) := hal
    clear hal
    go_enter Try.func22, Try.ntmps22
    go_wp2_with fail
    refine (isAlive_any h hw env).mono ?_
    rintro e w2 ⟨rfl, hw2⟩
    subst hw2
    rw [HA.out]
    go_wp2_with fail
    go_ret2
    exact ⟨_, Below.refl _ _, by simp [Value.ownBlock], .inl ⟨trivial, rfl, rfl⟩⟩
  · have HA : Hid (aliveP s env = true) := hal
    clear hal
    go_enter Try.func22, Try.ntmps22
    go_wp2_with fail
    refine (isAlive_any h hw env).mono ?_
    rintro e w2 ⟨rfl, hw2⟩
    subst hw2
    rw [HA.out]
    go_wp2_with fail
    refine (of_any h.st hsz env).mono ?_
    rintro e w3 ⟨v, rfl, hb3, hrow, hnew⟩
    go_wp2_with fail
    go_ret2
    exact ⟨v, hb3, hnew, .inr ⟨trivial, hrow, rfl⟩⟩
end
end Go.Proofs.Ytkonobbhohfjlaa
