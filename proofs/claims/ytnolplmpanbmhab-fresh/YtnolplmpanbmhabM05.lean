import Derived.Test.YtnolplmpanbmhabM04
namespace Go.Proofs.Ytnolplmpanbmhab
open Go.RowKit
set_option linter.unusedVariables false
attribute [local go_sem ↓] Go.wp_at_zero Go.wp_at_succ

section
variable {own : Nat → Nat × Nat} {id : Nat} {w : World} {p : Nat} {s : PSt} {vE vF vL vT : Value}

def pageP (s : PSt) (env page : Int) : Int := if rawP s env ≠ 0 then rawP s env else if page < 0 ∨ 15 < page then 7 else 0
def placeP (s : PSt) (env page a : Int) : Int := if pageP s env page ≠ 0 then pageP s env page else if a < 0 ∨ 3 < a then 8 else 0
theorem pageP_cases (s : PSt) (env page : Int) : (∃ x, pageP s env page = x ∧ (x = 2 ∨ x = 7)) ∨ (pageP s env page = 0 ∧ aliveP s env = true ∧ 0 ≤ page ∧ page ≤ 15) := by
  unfold pageP
  rcases rawP_cases s env with ⟨hr, -⟩ | ⟨hr, ha⟩
  · exact .inl ⟨2, by simp [hr], .inl rfl⟩
  · by_cases h : page < 0 ∨ 15 < page
    · exact .inl ⟨7, by simp [hr, h], .inr rfl⟩
    · exact .inr ⟨by simp [hr, h], ha, by omega, by omega⟩
theorem placeP_cases (s : PSt) (env page a : Int) : (∃ x, placeP s env page a = x ∧ (x = 2 ∨ x = 7 ∨ x = 8)) ∨ (placeP s env page a = 0 ∧ pageP s env page = 0 ∧ 0 ≤ a ∧ a ≤ 3) := by
  unfold placeP
  rcases pageP_cases s env page with ⟨x, hx, h⟩ | ⟨hx, -, -, -⟩
  · exact .inl ⟨x, by rw [hx]; rcases h with rfl | rfl <;> simp, by omega⟩
  · by_cases h : a < 0 ∨ 3 < a
    · exact .inl ⟨8, by simp [hx, h], by omega⟩
    · exact .inr ⟨by simp [hx, h], hx, by omega, by omega⟩

set_option maxHeartbeats 1000000 in
set_option maxRecDepth 100000 in
theorem needPage_any (h : PRep own id w p s vE vF vL vT) (hw : PWf s) (env page : Int) :
    Calls Try.prog 30 #[.pointer (some ⟨p, 0, none⟩), .int .i64 env, .int .i64 page] w fun e w' => e = .returned (.int .i64 (pageP s env page)) ∧ w' = w := by
  rcases rawP_cases s env with ⟨hr, -⟩ | ⟨hr, -⟩
  · have HR : Hid (rawP s env = 2) := hr
    have HP : Hid (pageP s env page = 2) := by simp [Hid, pageP, hr]
    clear hr
    go_enter Try.func30, Try.ntmps30
    go_wp2_with fail
    refine (needRaw_any h hw env).mono ?_
    rintro e w2 ⟨rfl, hw2⟩
    subst hw2
    rw [HR.out]
    go_wp2_with fail
    go_ret
    exact ⟨ret_int (by rw [HP.out]), rfl⟩
  · have HR : Hid (rawP s env = 0) := hr
    have HP : Hid (pageP s env page = if page < 0 ∨ 15 < page then 7 else 0) := by simp [Hid, pageP, hr]
    clear hr
    go_enter Try.func30, Try.ntmps30
    go_wp2_with fail
    refine (needRaw_any h hw env).mono ?_
    rintro e w2 ⟨rfl, hw2⟩
    subst hw2
    rw [HR.out]
    by_cases h0 : page < 0
    · rw [if_pos (.inl h0)] at HP
      go_wp2_with fail
      go_ret
      exact ⟨ret_int (by rw [HP.out]), rfl⟩
    · by_cases h1 : 16 ≤ page
      · rw [if_pos (.inr (by omega))] at HP
        go_wp2_with fail
        go_ret
        exact ⟨ret_int (by rw [HP.out]), rfl⟩
      · rw [if_neg (by omega)] at HP
        go_wp2_with fail
        go_ret
        exact ⟨ret_int (by rw [HP.out]), rfl⟩

set_option maxHeartbeats 1000000 in
set_option maxRecDepth 100000 in
theorem needPlace_any (h : PRep own id w p s vE vF vL vT) (hw : PWf s) (env page a : Int) :
    Calls Try.prog 34 #[.pointer (some ⟨p, 0, none⟩), .int .i64 env, .int .i64 page, .int .i64 a] w fun e w' => e = .returned (.int .i64 (placeP s env page a)) ∧ w' = w := by
  rcases pageP_cases s env page with ⟨x, hx, hx2⟩ | ⟨hx, -, -, -⟩
  · have hx0 : (x != 0) = true := by rcases hx2 with rfl | rfl <;> rfl
    have HR : Hid (pageP s env page = x) := hx
    have HP : Hid (placeP s env page a = x) := by rcases hx2 with rfl | rfl <;> simp [Hid, placeP, hx]
    clear hx hx2
    go_enter Try.func34, Try.ntmps34
    go_wp2_with fail
    refine (needPage_any h hw env page).mono ?_
    rintro e w2 ⟨rfl, hw2⟩
    subst hw2
    rw [HR.out]
    go_wp2_with fail
    go_ret
    exact ⟨ret_int (by rw [HP.out]), rfl⟩
  · have HR : Hid (pageP s env page = 0) := hx
    have HP : Hid (placeP s env page a = if a < 0 ∨ 3 < a then 8 else 0) := by simp [Hid, placeP, hx]
    clear hx
    go_enter Try.func34, Try.ntmps34
    go_wp2_with fail
    refine (needPage_any h hw env page).mono ?_
    rintro e w2 ⟨rfl, hw2⟩
    subst hw2
    rw [HR.out]
    by_cases h0 : a < 0
    · rw [if_pos (.inl h0)] at HP
      go_wp2_with fail
      go_ret
      exact ⟨ret_int (by rw [HP.out]), rfl⟩
    · by_cases h1 : 4 ≤ a
      · rw [if_pos (.inr (by omega))] at HP
        go_wp2_with fail
        go_ret
        exact ⟨ret_int (by rw [HP.out]), rfl⟩
      · rw [if_neg (by omega)] at HP
        go_wp2_with fail
        go_ret
        exact ⟨ret_int (by rw [HP.out]), rfl⟩

def unmapP (s : PSt) (env page : Int) : Int × PSt := if pageP s env page ≠ 0 then (pageP s env page, s) else (0, { s with slots := s.slots.map (remE env page) })

set_option maxHeartbeats 1000000 in
set_option maxRecDepth 100000 in
theorem punmap_any (h : PRep own id w p s vE vF vL vT) (hw : PWf s) (env page : Int) :
    Calls Try.prog 21 #[.pointer (some ⟨p, 0, none⟩), .int .i64 env, .int .i64 page] w fun e w' => e = .returned (.int .i64 (unmapP s env page).1) ∧ PNext own id w p w' (unmapP s env page).2 := by
  rcases pageP_cases s env page with ⟨x, hx, hx2⟩ | ⟨hx, -, -, -⟩
  · have hx0 : (x != 0) = true := by rcases hx2 with rfl | rfl <;> rfl
    have HR : Hid (pageP s env page = x) := hx
    have HP : Hid (unmapP s env page = (x, s)) := by rcases hx2 with rfl | rfl <;> simp [Hid, unmapP, hx]
    clear hx hx2
    go_enter Try.func21, Try.ntmps21
    go_wp2_with fail
    refine (needPage_any h hw env page).mono ?_
    rintro e w2 ⟨rfl, hw2⟩
    subst hw2
    rw [HR.out]
    go_wp2_with fail
    go_ret
    exact ⟨ret_int (by rw [HP.out]), by rw [HP.out]; exact PNext.refl h⟩
  · have HR : Hid (pageP s env page = 0) := hx
    have HP : Hid (unmapP s env page = (0, { s with slots := s.slots.map (remE env page) })) := by simp [Hid, unmapP, hx]
    clear hx
    go_enter Try.func21, Try.ntmps21
    go_wp2_with fail
    refine (needPage_any h hw env page).mono ?_
    rintro e w2 ⟨rfl, hw2⟩
    subst hw2
    rw [HR.out]
    go_wp2_with fail
    refine (tremove_any h.tb hw.sl env page).mono ?_
    rintro e w3 ⟨rfl, h3, ht3⟩
    go_wp2_with fail
    go_ret
    exact ⟨ret_int (by rw [HP.out]), by rw [HP.out]; exact ⟨own, _, _, _, _, h.turned h3 ht3, fun _ _ => rfl, h.touch ht3⟩⟩

def mapP (s : PSt) (env page hd : Int) (wt : Bool) (slot : Int) : Int × PSt :=
  if pageP s env page ≠ 0 then (pageP s env page, s) else match findP s.hs env hd with
    | none => (9, s)
    | some y => if wt && !y.wr then (10, s) else if slot < 0 ∨ (s.slots.length : Int) ≤ slot then (11, s) else (0, { s with slots := putP s.slots slot.toNat ⟨true, env, page, y.fr, wt⟩ })

set_option maxHeartbeats 4000000 in
set_option maxRecDepth 100000 in
theorem pmap_any (h : PRep own id w p s vE vF vL vT) (hw : PWf s) (env page hd : Int) (wt : Bool) (slot : Int) :
    Calls Try.prog 13 #[.pointer (some ⟨p, 0, none⟩), .int .i64 env, .int .i64 page, .int .i64 hd, .bool wt, .int .i64 slot] w fun e w' => e = .returned (.int .i64 (mapP s env page hd wt slot).1) ∧ PNext own id w p w' (mapP s env page hd wt slot).2 := by
  have hsz := hw.size
  have hsl := hw.sl
  rcases pageP_cases s env page with ⟨x, hx, hx2⟩ | ⟨hx, -, -, -⟩
  · have hx0 : (x != 0) = true := by rcases hx2 with rfl | rfl <;> rfl
    have HR : Hid (pageP s env page = x) := hx
    have HP : Hid (mapP s env page hd wt slot = (x, s)) := by rcases hx2 with rfl | rfl <;> simp [Hid, mapP, hx]
    clear hx hx2
    go_enter Try.func13, Try.ntmps13
    go_wp2_with fail
    refine (needPage_any h hw env page).mono ?_
    rintro e w2 ⟨rfl, hw2⟩
    subst hw2
    rw [HR.out]
    go_wp2_with fail
    go_ret
    exact ⟨ret_int (by rw [HP.out]), by rw [HP.out]; exact PNext.refl h⟩
  have HR : Hid (pageP s env page = 0) := hx
  cases hf : findP s.hs env hd with
  | none =>
    have HF : Hid (findP s.hs env hd = none) := hf
    have HP : Hid (mapP s env page hd wt slot = (9, s)) := by simp [Hid, mapP, hx, hf]
    clear hx hf
    go_enter Try.func13, Try.ntmps13
    go_wp2_with fail
    refine (needPage_any h hw env page).mono ?_
    rintro e w2 ⟨rfl, hw2⟩
    subst hw2
    rw [HR.out]
    go_wp2_with fail
    refine (find_any h.st (by omega) env hd).mono ?_
    rintro e w3 ⟨rfl, hb3⟩
    rw [HF.out]
    simp only [findV]
    go_wp2_with fail
    go_ret
    exact ⟨ret_int (by rw [HP.out]), by rw [HP.out]; exact PNext.of_below h (hb3.alloc hb3.size _)⟩
  | some y =>
    have HF : Hid (findP s.hs env hd = some y) := hf
    have HP : Hid (mapP s env page hd wt slot = if wt && !y.wr then (10, s) else if slot < 0 ∨ (s.slots.length : Int) ≤ slot then (11, s) else (0, { s with slots := putP s.slots slot.toNat ⟨true, env, page, y.fr, wt⟩ })) := by simp [Hid, mapP, hx, hf]
    clear hx hf
    go_enter Try.func13, Try.ntmps13
    go_wp2_with fail
    refine (needPage_any h hw env page).mono ?_
    rintro e w2 ⟨rfl, hw2⟩
    subst hw2
    rw [HR.out]
    go_wp2_with fail
    refine (find_any h.st (by omega) env hd).mono ?_
    rintro e w3 ⟨rfl, hb3⟩
    rw [HF.out]
    simp only [findV]
    have hba : Below w2.heap.size w2 (w3.alloc (.cells #[.int .i64 y.h, .int .i64 y.env, .int .i64 y.fr, .bool y.wr] 68)) := hb3.alloc hb3.size _
    have h4 := h.below hba
    have hbx := Blk.new w3 [.int .i64 y.h, .int .i64 y.env, .int .i64 y.fr, .bool y.wr] 68
    cases hq : (wt && !y.wr)
    · rw [hq] at HP
      simp only [Bool.false_eq_true, if_false] at HP
      have hcase : wt = false ∨ (wt = true ∧ y.wr = true) := by
        cases hwt : wt <;> cases hrw : y.wr <;> simp_all
      clear hq
      by_cases hc : slot < 0 ∨ (s.slots.length : Int) ≤ slot
      · rw [if_pos hc] at HP
        have hcd : (decide (0 ≤ slot) && decide (slot < s.slots.length)) = false := by simp; omega
        clear hc
        rcases hcase with rfl | ⟨rfl, hrw⟩
        all_goals
          try rw [hrw] at h4 hbx hba ⊢
          go_wp2_with fail
          refine (thas_any h4.tb hsl slot).mono ?_
          rintro e w5 ⟨rfl, hw5⟩
          subst hw5
          rw [hcd]
          go_wp2_with fail
          go_ret
          exact ⟨ret_int (by rw [HP.out]), by rw [HP.out]; exact PNext.of_below h hba⟩
      · rw [if_neg hc] at HP
        have hcd : (decide (0 ≤ slot) && decide (slot < s.slots.length)) = true := by simp; omega
        obtain ⟨k, rfl⟩ := Int.eq_ofNat_of_zero_le (show 0 ≤ slot by omega)
        have hk : k < s.slots.length := by omega
        simp only [Int.toNat_natCast] at *
        clear hc
        rcases hcase with rfl | ⟨rfl, hrw⟩
        all_goals
          try rw [hrw] at h4 hbx hba ⊢
          go_wp2_with fail
          refine (thas_any h4.tb hsl k).mono ?_
          rintro e w5 ⟨rfl, hw5⟩
          subst hw5
          rw [hcd]
          have h4d := h4.below (Below.refl _ _).drew
          have hbxd := hbx.drew
          have hvlt : ∀ x, vT.ownBlock = some x → x < w3.heap.size := fun x hx => Nat.lt_of_lt_of_le (h.tb.row.lt x hx) hb3.size
          have hxl := hbxd.lt
          go_wp2_with fail
          go_region_held3 (fun w' => w'.cell? ⟨w3.heap.size, 2, none⟩ = some (.int .i64 y.fr)) (go_keep)
            ((first
              | (go_at_call 33; refine (tput_any h4d.tb hsl k hk _ _ _ _ _).mono ?_; rintro e w6 ⟨rfl, h6, ht6⟩
                 have hby := hbxd.of (ht6.block _ hxl (fun e => by have := hvlt _ e; omega))
                 have e2 := hby.cell 2
                 simp at e2)))
          go_wp2_with fail
          go_ret
          exact ⟨ret_int (by rw [HP.out]), by rw [HP.out]; exact PNext.after (Touch.of_below hba.drew _) ⟨own, _, _, _, _, h4d.turned h6 ht6, fun _ _ => rfl, h4d.touch ht6⟩⟩
    · rw [hq] at HP
      simp only [if_true] at HP
      obtain ⟨rfl, hrw⟩ : wt = true ∧ y.wr = false := by cases hwt : wt <;> cases hrw : y.wr <;> simp_all
      rw [hrw]
      clear hq
      go_wp2_with fail
      go_ret
      exact ⟨ret_int (by rw [HP.out]), by rw [HP.out]; exact PNext.of_below h (hb3.alloc hb3.size _)⟩
end
end Go.Proofs.Ytnolplmpanbmhab

namespace Go.Proofs.Ytnolplmpanbmhab
open Go.RowKit
set_option linter.unusedVariables false
attribute [local go_sem ↓] Go.wp_at_zero Go.wp_at_succ

section
variable {own : Nat → Nat × Nat} {id : Nat} {w : World} {p : Nat} {s : PSt} {vE vF vL vT : Value}

def byteP (s : PSt) (f a : Int) : Int := ((s.bytes[f.toNat]?.getD [])[a.toNat]?).getD 0
def loadP (s : PSt) (env page a : Int) : Int × Int :=
  if placeP s env page a ≠ 0 then (0, placeP s env page a) else match findT s.slots env page with
    | none => (0, 13)
    | some e => (byteP s e.fr a, 0)
def putP1 (s : PSt) (f a v : Int) : PSt := { s with bytes := s.bytes.set f.toNat ((s.bytes[f.toNat]?.getD []).set a.toNat v) }
def storeP (s : PSt) (env page a v : Int) : Int × PSt :=
  if placeP s env page a ≠ 0 then (placeP s env page a, s) else if v < 0 ∨ 255 < v then (6, s) else match findT s.slots env page with
    | none => (13, s)
    | some e => if !e.wr then (14, s) else (0, putP1 s e.fr a v)

theorem fcells_at (l : List Int) {a : Nat} (ha : a < 4) : (fcells l)[a]? = some (.int .u8 (l[a]?.getD 0)) := by
  have : a = 0 ∨ a = 1 ∨ a = 2 ∨ a = 3 := by omega
  rcases this with rfl | rfl | rfl | rfl <;> rfl
theorem flat_byte (xs : List (List Int)) (f a : Nat) (l : List Int) (v : Int) (hx : xs[f]? = some l) (ha : a < 4) (hl : l.length = 4) : (xs.set f (l.set a v)).flatMap fcells = (xs.flatMap fcells).set (f * 4 + a) (.int .u8 v) := by
  have hf := (List.getElem?_eq_some_iff.1 hx).1
  apply List.ext_getElem?
  intro q
  have hln := flat_length fcells 4 (fun _ => rfl) xs
  rw [flat_at fcells 4 (by omega) (fun _ => rfl)]
  simp only [List.getElem?_set, hln]
  by_cases hp : q / 4 = f
  · rw [if_pos hp.symm, if_pos (by omega)]
    simp only [Option.bind_some]
    rw [fcells_at _ (Nat.mod_lt _ (by omega))]
    by_cases hq : q % 4 = a
    · rw [if_pos (by omega), if_pos (by omega), hq, List.getElem?_set_self (by omega)]; rfl
    · rw [if_neg (by omega), List.getElem?_set_ne (fun e => hq e.symm), flat_at fcells 4 (by omega) (fun _ => rfl), hp, hx]
      simp only [Option.bind_some]
      rw [fcells_at _ (Nat.mod_lt _ (by omega))]
  · rw [if_neg (fun e => hp e.symm), if_neg (by omega), flat_at fcells 4 (by omega) (fun _ => rfl)]

/-- The cell of a byte. -/
theorem PRep.byte (h : PRep own id w p s vE vF vL vT) (hw : PWf s) {f a : Nat} (hf : f < s.bytes.length) (ha : a < 4) :
    ∃ g cap l, vF = .slice (some ⟨g, 0, none⟩) s.bytes.length cap ∧ own g = (id, 2) ∧ s.bytes[f]? = some l ∧ l.length = 4 ∧ w.cell? ⟨g, f * 4 + a, none⟩ = some (.int .u8 (byteP s f a)) ∧ (0 ≤ byteP s f a ∧ byteP s f a ≤ 255) ∧ ∀ j, w.frozen? ⟨g, j, none⟩ = false := by
  obtain ⟨g, cap, hv, hc, hfz⟩ := h.rF.form (by omega)
  obtain ⟨l, hl⟩ : ∃ l, s.bytes[f]? = some l := ⟨s.bytes[f], by simp⟩
  obtain ⟨h4, hb⟩ := hw.bys f l hl
  have hby : byteP s f a = l[a]?.getD 0 := by simp [byteP, hl]
  refine ⟨g, cap, l, hv, h.tF g (by rw [hv]; rfl), hl, h4, ?_, ?_, hfz⟩
  · rw [hc _ (by omega), flat_get fcells 4 (fun _ => rfl) _ _ a _ hl ha, fcells_at _ ha, hby]
  · rw [hby, List.getElem?_eq_getElem (by omega)]
    exact hb a _ (List.getElem?_eq_getElem (by omega))

/-- A byte is written. -/
theorem PRep.setByte {g cap : Nat} (h : PRep own id w p s vE vF vL vT) (hw : PWf s) (hv : vF = .slice (some ⟨g, 0, none⟩) s.bytes.length cap) {f a : Nat} (hf : f < s.bytes.length) (ha : a < 4) (v : Int) :
    PRep own id (w.setCell ⟨g, f * 4 + a, none⟩ (.int .u8 v)) p (putP1 s f a v) vE vF vL vT := by
  have hg : own g = (id, 2) := h.tF g (by rw [hv]; rfl)
  obtain ⟨l, hl⟩ : ∃ l, s.bytes[f]? = some l := ⟨s.bytes[f], by simp⟩
  obtain ⟨h4, hb⟩ := hw.bys f l hl
  have e : putP1 s f a v = { s with bytes := s.bytes.set f (l.set a v) } := by simp [putP1, hl]
  rw [e]
  refine h.framed (fun b hb h3 => Below.heap_setCell _ _ _ _ (fun e => h3 (by simp at e; rw [e]; exact hg))) ?_
  have h1 := h.rF
  rw [hv] at h1 ⊢
  rw [List.length_set, flat_byte _ _ _ _ _ hl ha h4]
  exact h1.set _ _

theorem findT_some {es : List Ent} {env page : Int} {e : Ent} (h : findT es env page = some e) : ∃ i : Nat, es[i]? = some e ∧ e.used = true := by
  have h1 := List.mem_of_find?_eq_some h
  have h2 := List.find?_some h
  obtain ⟨i, hi, rfl⟩ := List.getElem_of_mem h1
  simp [entP] at h2
  exact ⟨i, by simp, h2.1⟩

set_option maxHeartbeats 4000000 in
set_option maxRecDepth 100000 in
theorem pload_any (h : PRep own id w p s vE vF vL vT) (hw : PWf s) (env page a : Int) :
    Calls Try.prog 14 #[.pointer (some ⟨p, 0, none⟩), .int .i64 env, .int .i64 page, .int .i64 a] w fun e w' => e = .returned (.tuple #[.int .i64 (loadP s env page a).1, .int .i64 (loadP s env page a).2]) ∧ Below w.heap.size w w' := by
  have hsl := hw.sl
  rcases placeP_cases s env page a with ⟨x, hx, hx2⟩ | ⟨hx, -, ha0, ha1⟩
  · have hx0 : (x != 0) = true := by rcases hx2 with rfl | rfl | rfl <;> rfl
    have HR : Hid (placeP s env page a = x) := hx
    have HP : Hid (loadP s env page a = (0, x)) := by rcases hx2 with rfl | rfl | rfl <;> simp [Hid, loadP, hx]
    clear hx hx2
    go_enter Try.func14, Try.ntmps14
    go_wp2_with fail
    refine (needPlace_any h hw env page a).mono ?_
    rintro e w2 ⟨rfl, hw2⟩
    subst hw2
    rw [HR.out]
    go_wp2_with fail
    go_ret2
    exact ⟨ret_int2 (by rw [HP.out]) (by rw [HP.out]), Below.refl _ _⟩
  have HR : Hid (placeP s env page a = 0) := hx
  cases hf : findT s.slots env page with
  | none =>
    have HF : Hid (findT s.slots env page = none) := hf
    have HP : Hid (loadP s env page a = (0, 13)) := by simp [Hid, loadP, hx, hf]
    clear hx hf
    go_enter Try.func14, Try.ntmps14
    go_wp2_with fail
    refine (needPlace_any h hw env page a).mono ?_
    rintro e w2 ⟨rfl, hw2⟩
    subst hw2
    rw [HR.out]
    go_wp2_with fail
    refine (tfind_any h.tb hsl env page).mono ?_
    rintro e w3 ⟨rfl, hb3⟩
    rw [HF.out]
    simp only [findTV]
    go_wp2_with fail
    go_ret2
    exact ⟨ret_int2 (by rw [HP.out]) (by rw [HP.out]), hb3.alloc hb3.size _⟩
  | some e =>
    have HF : Hid (findT s.slots env page = some e) := hf
    have HP : Hid (loadP s env page a = (byteP s e.fr a, 0)) := by simp [Hid, loadP, hx, hf]
    obtain ⟨i, hi, hu⟩ := findT_some hf
    obtain ⟨f0, f1⟩ := hw.fr i e hi hu
    obtain ⟨f, hfe⟩ := Int.eq_ofNat_of_zero_le f0
    obtain ⟨k, rfl⟩ := Int.eq_ofNat_of_zero_le ha0
    have hfl : f < s.bytes.length := by omega
    have hk : k < 4 := by omega
    rw [hfe] at HP
    clear hx hf hi
    go_enter Try.func14, Try.ntmps14
    go_wp2_with fail
    refine (needPlace_any h hw env page k).mono ?_
    rintro e2 w2 ⟨rfl, hw2⟩
    subst hw2
    rw [HR.out]
    go_wp2_with fail
    refine (tfind_any h.tb hsl env page).mono ?_
    rintro e3 w3 ⟨rfl, hb3⟩
    rw [HF.out]
    simp only [findTV]
    rw [hfe]
    have hba : Below w2.heap.size w2 (w3.alloc (.cells #[.bool e.used, .int .i64 e.env, .int .i64 e.page, .int .i64 f, .bool e.wr] 74)) := hb3.alloc hb3.size _
    have h3 := h.below hb3
    obtain ⟨g, cap, l, hv, hg, -, -, hc, ⟨hb0, hb1⟩, hfz⟩ := h3.byte hw hfl hk
    have hplt := h3.st.blk.lt
    have hglt := h3.rF.lt g (by rw [hv]; rfl)
    have k1 := h3.c1
    rw [hv] at k1
    have hl : (f : Int) < (s.bytes.length : Int) := by omega
    have hk4 : (k : Int) < 4 := by omega
    have hwr : IntKind.i64.wrap (byteP s f k) = byteP s f k := by rw [IntKind.wrap_i64]; omega
    clear hv hfz hfe f0 f1
    go_wp2_with fail
    go_region_held3 (fun w' => w'.cell? ⟨p, 1, none⟩ = some (.slice (some ⟨g, 0, none⟩) s.bytes.length cap) ∧ w'.cell? ⟨w3.heap.size, 3, none⟩ = some (.int .i64 f) ∧ w'.cell? ⟨g, f * 4 + k, none⟩ = some (.int .u8 (byteP s f k))) (go_keep) (fail)
    go_wp2_with fail
    go_ret2
    exact ⟨ret_int2 (by rw [HP.out]) (by rw [HP.out]), (hb3.alloc hb3.size _).drew⟩

set_option maxHeartbeats 4000000 in
set_option maxRecDepth 100000 in
theorem pstore_any (h : PRep own id w p s vE vF vL vT) (hw : PWf s) (env page a v : Int) :
    Calls Try.prog 15 #[.pointer (some ⟨p, 0, none⟩), .int .i64 env, .int .i64 page, .int .i64 a, .int .i64 v] w fun e w' => e = .returned (.int .i64 (storeP s env page a v).1) ∧ PNext own id w p w' (storeP s env page a v).2 := by
  have hsl := hw.sl
  rcases placeP_cases s env page a with ⟨x, hx, hx2⟩ | ⟨hx, -, ha0, ha1⟩
  · have hx0 : (x != 0) = true := by rcases hx2 with rfl | rfl | rfl <;> rfl
    have HR : Hid (placeP s env page a = x) := hx
    have HP : Hid (storeP s env page a v = (x, s)) := by rcases hx2 with rfl | rfl | rfl <;> simp [Hid, storeP, hx]
    clear hx hx2
    go_enter Try.func15, Try.ntmps15
    go_wp2_with fail
    refine (needPlace_any h hw env page a).mono ?_
    rintro e w2 ⟨rfl, hw2⟩
    subst hw2
    rw [HR.out]
    go_wp2_with fail
    go_ret
    exact ⟨ret_int (by rw [HP.out]), by rw [HP.out]; exact PNext.refl h⟩
  have HR : Hid (placeP s env page a = 0) := hx
  by_cases hv0 : v < 0 ∨ 255 < v
  · have HP : Hid (storeP s env page a v = (6, s)) := by simp [Hid, storeP, hx, hv0]
    clear hx
    go_enter Try.func15, Try.ntmps15
    go_wp2_with fail
    refine (needPlace_any h hw env page a).mono ?_
    rintro e w2 ⟨rfl, hw2⟩
    subst hw2
    rw [HR.out]
    rcases hv0 with hv0 | hv0
    · go_wp2_with fail
      go_ret
      exact ⟨ret_int (by rw [HP.out]), by rw [HP.out]; exact PNext.refl h⟩
    · have hv1 : ¬ v < 0 := by omega
      go_wp2_with fail
      go_ret
      exact ⟨ret_int (by rw [HP.out]), by rw [HP.out]; exact PNext.refl h⟩
  have hv1 : ¬ v < 0 := by omega
  have hv2 : ¬ 255 < v := by omega
  cases hf : findT s.slots env page with
  | none =>
    have HF : Hid (findT s.slots env page = none) := hf
    have HP : Hid (storeP s env page a v = (13, s)) := by simp [Hid, storeP, hx, hv0, hf]
    clear hx hf hv0
    go_enter Try.func15, Try.ntmps15
    go_wp2_with fail
    refine (needPlace_any h hw env page a).mono ?_
    rintro e w2 ⟨rfl, hw2⟩
    subst hw2
    rw [HR.out]
    go_wp2_with fail
    refine (tfind_any h.tb hsl env page).mono ?_
    rintro e w3 ⟨rfl, hb3⟩
    rw [HF.out]
    simp only [findTV]
    go_wp2_with fail
    go_ret
    exact ⟨ret_int (by rw [HP.out]), by rw [HP.out]; exact PNext.of_below h (hb3.alloc hb3.size _)⟩
  | some e =>
    have HF : Hid (findT s.slots env page = some e) := hf
    obtain ⟨i, hi, hu⟩ := findT_some hf
    obtain ⟨f0, f1⟩ := hw.fr i e hi hu
    obtain ⟨f, hfe⟩ := Int.eq_ofNat_of_zero_le f0
    obtain ⟨k, rfl⟩ := Int.eq_ofNat_of_zero_le ha0
    have hfl : f < s.bytes.length := by omega
    have hk : k < 4 := by omega
    rcases Bool.eq_false_or_eq_true e.wr with hwr | hwr
    · have HP : Hid (storeP s env page k v = (0, putP1 s f k v)) := by simp [Hid, storeP, hx, hv0, hf, hwr, hfe]
      clear hx hf hi hv0 hu
      go_enter Try.func15, Try.ntmps15
      go_wp2_with fail
      refine (needPlace_any h hw env page k).mono ?_
      rintro e2 w2 ⟨rfl, hw2⟩
      subst hw2
      rw [HR.out]
      go_wp2_with fail
      refine (tfind_any h.tb hsl env page).mono ?_
      rintro e3 w3 ⟨rfl, hb3⟩
      rw [HF.out]
      simp only [findTV]
      rw [hfe, hwr]
      have h3 := h.below hb3
      have hba : Below w2.heap.size w2 (w3.alloc (.cells #[.bool e.used, .int .i64 e.env, .int .i64 e.page, .int .i64 f, .bool true] 74)) := hb3.alloc hb3.size _
      have h4 := h.below hba
      have hbx := Blk.new w3 [.bool e.used, .int .i64 e.env, .int .i64 e.page, .int .i64 f, .bool true] 74
      go_wp2_with fail
      obtain ⟨W4, hW4⟩ : ∃ W4, w3.alloc (.cells #[.bool e.used, .int .i64 e.env, .int .i64 e.page, .int .i64 f, .bool true] 74) = W4 := ⟨_, rfl⟩
      have hbx2 : Blk (w3.alloc (.cells #[.bool e.used, .int .i64 e.env, .int .i64 e.page, .int .i64 f, .bool true] 74)) w3.heap.size [.bool e.used, .int .i64 e.env, .int .i64 e.page, .int .i64 f, .bool true] 74 := hbx
      rw [hW4] at hba h4 hbx2 ⊢
      clear hbx hW4
      obtain ⟨g, cap, l, hv, hg, -, -, hc, ⟨hb0, hb1⟩, hfz⟩ := h4.byte hw hfl hk
      have hst := h4.setByte hw hv hfl hk v
      have hglt := h3.rF.lt g (by rw [hv]; rfl)
      have z0 := hfz (f * 4 + k)
      have k1 := h4.c1
      rw [hv] at k1
      have e3 := hbx2.cell 3
      simp at e3
      have hl : (f : Int) < (s.bytes.length : Int) := by omega
      have hk4 : (k : Int) < 4 := by omega
      have hwp : IntKind.u8.wrap v = v := by rw [IntKind.wrap_u8]; omega
      have hin : (own g).1 = id := by rw [hg]
      have n1 : p ≠ g := fun e => by have := h.tm; rw [e, hg] at this; simp at this
      have n2 : g ≠ p := fun e => n1 e.symm
      have n3 : w3.heap.size ≠ g := by omega
      have n4 : g ≠ w3.heap.size := by omega
      clear hv hfz hfe f0 f1
      go_region_held3 (fun w' => w'.cell? ⟨p, 1, none⟩ = some (.slice (some ⟨g, 0, none⟩) s.bytes.length cap) ∧ w'.cell? ⟨w3.heap.size, 3, none⟩ = some (.int .i64 f)) (go_keep) (fail)
      go_wp2_with fail
      go_ret
      exact ⟨ret_int (by rw [HP.out]), by rw [HP.out]; exact ⟨own, _, _, _, _, hst.below (Below.refl _ _).drew, fun _ _ => rfl, ((Touch.of_below hba _).setCell (.inl hin) _).drew⟩⟩
    · have HP : Hid (storeP s env page k v = (14, s)) := by simp [Hid, storeP, hx, hv0, hf, hwr]
      clear hx hf hi hv0 hfe
      go_enter Try.func15, Try.ntmps15
      go_wp2_with fail
      refine (needPlace_any h hw env page k).mono ?_
      rintro e2 w2 ⟨rfl, hw2⟩
      subst hw2
      rw [HR.out]
      go_wp2_with fail
      refine (tfind_any h.tb hsl env page).mono ?_
      rintro e3 w3 ⟨rfl, hb3⟩
      rw [HF.out]
      simp only [findTV]
      rw [hwr]
      go_wp2_with fail
      go_ret
      exact ⟨ret_int (by rw [HP.out]), by rw [HP.out]; exact PNext.of_below h (hb3.alloc hb3.size _)⟩
end
end Go.Proofs.Ytnolplmpanbmhab

/-
  The program's state and the document's: no memory here.
-/
namespace Go.Proofs.Ytnolplmpanbmhab
set_option linter.unusedVariables false

def toPH (r : RR) : PH := ⟨r.h, r.env, r.fr, r.wr, r.frm + 1⟩
def liveTo (rs : List RR) (q : Nat) : List PH := (List.range q).filterMap fun i : Nat => rs[i]?.bind fun r => if lv rs i then some (toPH r) else none
/-- The rights that are alive. -/
def live (rs : List RR) : List PH := liveTo rs rs.length

theorem liveTo_succ {rs : List RR} {q : Nat} {r : RR} (hr : rs[q]? = some r) : liveTo rs (q + 1) = liveTo rs q ++ if lv rs q then [toPH r] else [] := by
  unfold liveTo
  rw [List.range_succ, List.filterMap_append]
  congr 1
  simp only [List.filterMap_cons, List.filterMap_nil, hr, Option.bind_some]
  cases lv rs q <;> rfl
theorem liveTo_len {rs : List RR} : ∀ q, q ≤ rs.length → (liveTo rs q).length = cntTo rs q := by
  intro q
  induction q with
  | zero => intro _; rfl
  | succ q ih =>
    intro h
    obtain ⟨r, hr⟩ : ∃ r, rs[q]? = some r := ⟨rs[q], by simp⟩
    rw [liveTo_succ hr, List.length_append, ih (by omega), cntTo_succ]
    cases lv rs q <;> simp
theorem live_len (rs : List RR) : (live rs).length = cnt rs := liveTo_len _ (Nat.le_refl _)
theorem mem_live {rs : List RR} {x : PH} : x ∈ live rs ↔ ∃ (i : Nat) (r : RR), rs[i]? = some r ∧ lv rs i = true ∧ x = toPH r := by
  unfold live liveTo
  rw [List.mem_filterMap]
  constructor
  · rintro ⟨i, _, h⟩
    obtain ⟨r, hr, h2⟩ := Option.bind_eq_some_iff.1 h
    by_cases hl : lv rs i = true
    · simp [hl] at h2; exact ⟨i, r, hr, hl, h2.symm⟩
    · simp [hl] at h2
  · rintro ⟨i, r, hr, hl, rfl⟩
    exact ⟨i, List.mem_range.2 (List.getElem?_eq_some_iff.1 hr).1, by rw [hr]; simp [hl]⟩

/-- The standing facts of the list of all rights. -/
theorem findP_some {s : RSt} (hI : RInv s) {i : Nat} {r : RR} {env : Int} (hr : s.rights[i]? = some r) (hl : lv s.rights i = true) (he : r.env = env) : findP (live s.rights) env (i + 1) = some (toPH r) := by
  have hx : (findP (live s.rights) env (i + 1)).isSome = true := by
    unfold findP
    rw [List.find?_isSome]
    exact ⟨toPH r, mem_live.2 ⟨i, r, hr, hl, rfl⟩, by simp [toPH, hI.hnd i r hr, he]⟩
  obtain ⟨y, hy⟩ := Option.isSome_iff_exists.1 hx
  have h1 := List.mem_of_find?_eq_some hy
  have h2 := List.find?_some hy
  obtain ⟨j, q, hq, _, rfl⟩ := mem_live.1 h1
  simp [toPH] at h2
  have := hI.hnd j q hq
  have hij : j = i := by omega
  subst hij
  rw [hr] at hq
  simp at hq
  subst hq
  exact hy
theorem findP_none {s : RSt} (hI : RInv s) {env hd : Int} (h : ∀ (i : Nat) (r : RR), s.rights[i]? = some r → hd = i + 1 → r.env = env → lv s.rights i = false) : findP (live s.rights) env hd = none := by
  unfold findP
  rw [List.find?_eq_none]
  intro x hx
  obtain ⟨j, q, hq, hl, rfl⟩ := mem_live.1 hx
  have := hI.hnd j q hq
  simp [toPH]
  intro h1 h2
  have := h j q hq (by omega) h2
  rw [hl] at this
  simp at this

theorem free_eq {s : RSt} (hI : RInv s) (f : Nat) : freeB s f = freeP (live s.rights) f := by
  unfold freeB freeP
  rw [Bool.eq_iff_iff]
  simp only [Bool.not_eq_true', List.any_eq_false, List.mem_range, List.all_eq_true]
  constructor
  · intro h x hx
    obtain ⟨i, r, hr, hl, rfl⟩ := mem_live.1 hx
    have he := hI.env i r hr
    cases hf : ((toPH r).fr == (f : Int)) with
    | false => rfl
    | true =>
      exfalso
      have hfr : r.fr = f := by simpa [toPH] using hf
      exact h r.env.toNat (by omega) (owned_iff.2 ⟨i, r, hr, hl, by omega, hfr⟩)
  · intro h e he ho
    obtain ⟨i, r, hr, hl, h1, h2⟩ := owned_iff.1 ho
    have := h (toPH r) (mem_live.2 ⟨i, r, hr, hl, rfl⟩)
    simp [toPH, h2] at this

/-! ### Appending and ending -/

theorem fm_congr {f g : Nat → Option PH} {l : List Nat} (h : ∀ i, i ∈ l → f i = g i) : l.filterMap f = l.filterMap g := by
  induction l with
  | nil => rfl
  | cons x l ih =>
    rw [List.filterMap_cons, List.filterMap_cons, h x (by simp), ih (fun i hi => h i (by simp [hi]))]

theorem live_append {rs : List RR} (ho : Ordered rs) {x : RR} (h1 : -1 ≤ x.frm) (h2 : x.frm < rs.length) (he : x.ended = false) (hl : lv rs x.frm = true) : live (rs ++ [x]) = live rs ++ [toPH x] := by
  have hq : (rs ++ [x])[rs.length]? = some x := by simp
  have ho' := ho.append h1 h2
  have hlast : lv (rs ++ [x]) rs.length = true := by
    rw [lv_step ho' hq, he, lv_append ho x (by omega), hl]; rfl
  unfold live
  rw [List.length_append, List.length_singleton, liveTo_succ hq, hlast]
  simp only [if_true]
  congr 1
  unfold liveTo
  apply fm_congr
  intro i hi
  have hi := List.mem_range.1 hi
  rw [List.getElem?_append_left hi, lv_append ho x (by omega)]

/-- The rights at the places of P end. -/
def goneTo (P : Nat → Bool) (rs : List RR) (q : Nat) : List Int := (List.range q).filterMap fun i : Nat => if lv rs i && !lv (markAt P rs) i then some ((i : Int) + 1) else none
theorem goneTo_succ (P : Nat → Bool) (rs : List RR) (q : Nat) : goneTo P rs (q + 1) = goneTo P rs q ++ if lv rs q && !lv (markAt P rs) q then [(q : Int) + 1] else [] := by
  unfold goneTo
  rw [List.range_succ, List.filterMap_append]
  congr 1
  simp only [List.filterMap_cons, List.filterMap_nil]
  cases (lv rs q && !lv (markAt P rs) q) <;> rfl
theorem hasI_gone (P : Nat → Bool) (rs : List RR) (q : Nat) (n : Int) : hasI (goneTo P rs q) n = true ↔ ∃ i : Nat, i < q ∧ n = i + 1 ∧ lv rs i = true ∧ lv (markAt P rs) i = false := by
  unfold hasI goneTo
  rw [List.any_eq_true]
  constructor
  · rintro ⟨x, hx, he⟩
    obtain ⟨i, hi, h⟩ := List.mem_filterMap.1 hx
    have he : x = n := by simpa using he
    by_cases hc : (lv rs i && !lv (markAt P rs) i) = true
    · rw [if_pos hc] at h
      simp at h hc
      exact ⟨i, List.mem_range.1 hi, by omega, hc.1, hc.2⟩
    · rw [if_neg hc] at h; simp at h
  · rintro ⟨i, hi, rfl, h1, h2⟩
    exact ⟨(i : Int) + 1, List.mem_filterMap.2 ⟨i, List.mem_range.2 hi, by simp [h1, h2]⟩, by simp⟩

/-- One pass over the rights that are alive finds all that comes of those that end. -/
theorem fold_mark {s : RSt} (hI : RInv s) (P : Nat → Bool) (hd : List Int) (hP : ∀ (i : Nat), i < s.rights.length → lv s.rights i = true → hasI hd ((i : Int) + 1) = P i) :
    ∀ q, q ≤ s.rights.length → (liveTo s.rights q).foldl (eaStep hd) ([], []) = (liveTo (markAt P s.rights) q, goneTo P s.rights q) := by
  intro q
  induction q with
  | zero => intro _; rfl
  | succ q ih =>
    intro hq
    obtain ⟨r, hr⟩ : ∃ r, s.rights[q]? = some r := ⟨s.rights[q], by simp⟩
    have hx : (markAt P s.rights)[q]? = some (if P q then r.end else r) := by rw [markAt_get, hr]; rfl
    have hph : toPH (if P q then r.end else r) = toPH r := by cases P q <;> rfl
    have hbd := hI.ord q r hr
    rw [liveTo_succ hr, List.foldl_append, ih (by omega), liveTo_succ hx, hph, goneTo_succ]
    cases hl : lv s.rights q with
    | false =>
      have hl' : lv (markAt P s.rights) q = false := by
        cases h : lv (markAt P s.rights) q with
        | false => rfl
        | true => have := lv_mark_le hI.ord P _ q (Nat.le_refl _) (by omega) h; rw [hl] at this; exact absurd this (by simp)
      simp [hl']
    | true =>
      have h1 : hasI hd (toPH r).h = P q := by
        show hasI hd r.h = P q
        rw [hI.hnd q r hr]; exact hP q (by omega) hl
      have hst := lv_step hI.ord hr
      rw [hl] at hst
      have hst' : r.ended = false ∧ lv s.rights r.frm = true := by
        cases hxx : r.ended <;> rw [hxx] at hst <;> simp at hst ⊢
        exact hst
      have h2 : hasI (goneTo P s.rights q) (toPH r).par = !lv (markAt P s.rights) r.frm := by
        show hasI (goneTo P s.rights q) (r.frm + 1) = _
        by_cases h0 : r.frm < 0
        · rw [lv_neg h0]
          cases hh : hasI (goneTo P s.rights q) (r.frm + 1) with
          | false => rfl
          | true =>
            obtain ⟨i, _, hi, _⟩ := (hasI_gone P s.rights q _).1 hh
            omega
        · obtain ⟨k, hk⟩ := Int.eq_ofNat_of_zero_le (show 0 ≤ r.frm by omega)
          rw [hk] at hst' ⊢
          cases hlk : lv (markAt P s.rights) k with
          | false => exact (hasI_gone P s.rights q _).2 ⟨k, by omega, rfl, hst'.2, hlk⟩
          | true =>
            cases hh : hasI (goneTo P s.rights q) ((k : Int) + 1) with
            | false => rfl
            | true =>
              obtain ⟨i, _, hi, _, hi2⟩ := (hasI_gone P s.rights q _).1 hh
              have : i = k := by omega
              subst this
              rw [hlk] at hi2; exact hi2
      have h3 := lv_mark hI.ord P hr
      rw [hst'.1] at h3
      simp only [if_true, List.foldl_cons, List.foldl_nil, Bool.true_and]
      unfold eaStep
      simp only [h1, h2]
      rw [h3]
      have hh : (toPH r).h = (q : Int) + 1 := hI.hnd q r hr
      cases P q <;> cases lv (markAt P s.rights) r.frm <;> simp [hh]

theorem endAll_mark {s : RSt} (hI : RInv s) (P : Nat → Bool) (hd : List Int) (hP : ∀ (i : Nat), i < s.rights.length → lv s.rights i = true → hasI hd ((i : Int) + 1) = P i) :
    endAllP (live s.rights) hd = live (markAt P s.rights) := by
  have := fold_mark hI P hd hP s.rights.length (Nat.le_refl _)
  unfold endAllP eaTo
  rw [List.take_length]
  show ((liveTo s.rights s.rights.length).foldl (eaStep hd) ([], [])).1 = _
  rw [this]
  unfold live
  rw [markAt_len]

/-! ### The calls -/

theorem back_eq (rs : List RR) (env fr : Int) (wt : Bool) : owned rs env fr wt = backsP (live rs) env fr wt := by
  rw [Bool.eq_iff_iff, owned_ex]
  unfold backsP
  rw [List.any_eq_true]
  constructor
  · rintro ⟨i, r, hr, hl, he, hf, hw⟩
    refine ⟨toPH r, mem_live.2 ⟨i, r, hr, hl, rfl⟩, ?_⟩
    simp only [backP, toPH, he, hf, beq_self_eq_true, Bool.true_and]
    cases wt
    · simp
    · simp [hw rfl]
  · rintro ⟨x, hx, hb⟩
    obtain ⟨i, r, hr, hl, rfl⟩ := mem_live.1 hx
    simp [backP, toPH] at hb
    exact ⟨i, r, hr, hl, hb.1, hb.2.1, fun hw => by rcases hb.2.2 with h | h; exact h; rw [hw] at h; simp at h⟩
theorem sweep_eq (s : RSt) : (sweepS s).slots = s.slots.map (swP (live s.rights)) := by
  unfold sweepS swP
  simp only
  apply List.map_congr_left
  intro e _
  rw [back_eq]
/-- The program's state that stands for a state of the document. -/
def toP (s : RSt) : PSt := ⟨s.alive, s.bytes, live s.rights, s.rights.length, s.slots⟩

structure Sim (rs : RSt) (ps : PSt) : Prop where
  inv : RInv rs
  al : ps.alive = rs.alive
  len : rs.alive.length = rs.ne
  by_ : ps.bytes = rs.bytes
  bl : rs.bytes.length = rs.nf
  hs : ps.hs = live rs.rights
  last : ps.last = rs.rights.length
  sl : ps.slots = rs.slots
theorem SOk.sim {s : RSt} (h : SOk s) : Sim s (toP s) := ⟨h.inv, rfl, h.fix.al, rfl, h.fix.by_, rfl, rfl, rfl⟩
theorem Sim.eq {rs : RSt} {ps : PSt} (h : Sim rs ps) : ps = toP rs := by
  obtain ⟨a, b, c, d, e⟩ := ps
  have h1 := h.al; have h2 := h.by_; have h3 := h.hs; have h4 := h.last; have h5 := h.sl
  simp only at h1 h2 h3 h4 h5
  subst h1 h2 h3 h4 h5
  rfl

section
variable {rs : RSt} {ps : PSt}

theorem Sim.alive (h : Sim rs ps) (env : Int) : aliveB rs env = aliveP ps env := by
  unfold aliveB aliveP isEnvP
  rw [h.al, h.len, Bool.and_assoc]
theorem Sim.raw (h : Sim rs ps) (env : Int) : rawE rs env = rawP ps env := by
  unfold rawE rawP
  rw [h.alive]
theorem Sim.least (h : Sim rs ps) : leastFree rs = leastFreeP ps := by
  unfold leastFree leastFreeP
  rw [h.by_, h.bl, h.hs]
  congr 1
  funext f
  exact free_eq h.inv f
/-- Both find the same right. -/
theorem Sim.right (h : Sim rs ps) (env hd : Int) :
    (∃ x, rightE rs env hd = (-1, x) ∧ rightP ps env hd = (none, x) ∧ (x = 2 ∨ x = 9)) ∨
    ∃ (j : Nat) (r : RR), rightE rs env hd = ((j : Int), 0) ∧ rs.rights[j]? = some r ∧ hd = j + 1 ∧ r.env = env ∧ lv rs.rights j = true ∧ aliveB rs env = true ∧ rightP ps env hd = (some (toPH r), 0) := by
  rcases rawE_cases rs env with ⟨hr, ha⟩ | ⟨hr, ha⟩
  · have hr' := h.raw env
    rw [hr] at hr'
    exact .inl ⟨2, by simp [rightE, hr], by simp [rightP, ← hr'], .inl rfl⟩
  · have hr' := h.raw env
    rw [hr] at hr'
    rcases rightE_cases rs env hd with ⟨x, hx, hx2⟩ | ⟨j, r, hx, hrr, hd1, he, hl, hal⟩
    · left
      have hx9 : x = 9 := by
        rcases hx2 with rfl | rfl
        · exfalso
          unfold rightE at hx
          rw [hr] at hx
          simp only [ne_eq, not_true_eq_false, if_false] at hx
          split at hx
          · simp at hx
          · split at hx
            · simp at hx
            · split at hx
              · simp at hx
              · simp at hx
        · rfl
      subst hx9
      refine ⟨9, hx, ?_, .inr rfl⟩
      have : findP ps.hs env hd = none := by
        rw [h.hs]
        refine findP_none h.inv (fun i r hri hdi hei => ?_)
        cases hli : lv rs.rights i with
        | false => rfl
        | true =>
          exfalso
          have hi := (List.getElem?_eq_some_iff.1 hri).1
          unfold rightE at hx
          rw [hr] at hx
          have h1 : 1 ≤ hd ∧ hd ≤ rs.rights.length := by omega
          rw [show (hd - 1).toNat = i by omega, show hd - 1 = (i : Int) by omega] at hx
          simp [if_pos h1, hri, hei, hli] at hx
      simp [rightP, ← hr', this]
    · right
      refine ⟨j, r, hx, hrr, hd1, he, hl, hal, ?_⟩
      have : findP ps.hs env hd = some (toPH r) := by
        rw [h.hs, hd1]
        exact findP_some h.inv hrr hl he
      simp [rightP, ← hr', this]

theorem Sim.alloc (h : Sim rs ps) (env : Int) : (allocR rs env).1 = (allocP ps env).1 ∧ Sim (allocR rs env).2 (allocP ps env).2 := by
  have hr := h.raw env
  unfold allocR allocP
  rcases rawE_cases rs env with ⟨h2, ha⟩ | ⟨h0, ha⟩
  · rw [← hr, h2]
    simp only [ne_eq]
    exact ⟨by simp, by simpa using h⟩
  · rw [← hr, h0]
    simp only [ne_eq, not_true_eq_false, if_false]
    unfold firstS
    rw [← h.least]
    cases hl : leastFree rs with
    | none => exact ⟨rfl, h⟩
    | some f =>
      have hlen : ps.hs.length = cnt rs.rights := by rw [h.hs, live_len]
      have hflt := leastFree_lt hl
      simp only
      by_cases hc : cnt rs.rights < 32
      · rw [if_pos hc, if_neg (by omega)]
        refine ⟨by simp [h.last], ?_⟩
        have hI' : RInv { rs with bytes := rs.bytes.set f [0, 0, 0, 0] } := ⟨h.inv.ord, h.inv.hnd, h.inv.env, h.inv.fr⟩
        have hi2 := hI'.add (wt := true) (aliveB_range ha) (show (0 : Int) ≤ f ∧ (f : Int) < rs.nf by omega) (show (-1 : Int) ≤ -1 by omega) (by omega)
        refine ⟨hi2, h.al, h.len, by show ps.bytes.set f [0, 0, 0, 0] = rs.bytes.set f [0, 0, 0, 0]; rw [h.by_], by simpa [addR] using h.bl, ?_, ?_, h.sl⟩
        · show addP ps.hs ps.last env f true 0 = live (rs.rights ++ [_])
          rw [live_append h.inv.ord (by simp) (by simp; omega) rfl (lv_neg (by simp)), h.hs, h.last]
          rfl
        · show ps.last + 1 = _
          rw [h.last]; simp [addR]
      · rw [if_neg hc, if_pos (by omega)]
        exact ⟨rfl, h⟩

theorem Sim.derive (h : Sim rs ps) (env hd te : Int) (wt : Bool) : (deriveR rs env hd te wt).1 = (deriveP ps env hd te wt).1 ∧ Sim (deriveR rs env hd te wt).2 (deriveP ps env hd te wt).2 := by
  have hrt := h.raw te
  rcases h.right env hd with ⟨x, h1, h2, h3⟩ | ⟨j, r, h1, hrr, hd1, he, hl, hal, h2⟩
  · have : x ≠ 0 := by omega
    unfold deriveR deriveP
    rw [h1, h2]
    simp only [ne_eq, this, not_false_eq_true, if_true]
    exact ⟨trivial, h⟩
  · have hj := (List.getElem?_eq_some_iff.1 hrr).1
    unfold deriveR deriveP
    rw [h1, h2]
    simp only [ne_eq, not_true_eq_false, if_false, Int.toNat_natCast, hrr]
    rcases rawE_cases rs te with ⟨ht, _⟩ | ⟨ht, hat⟩
    · rw [← hrt, ht]
      exact ⟨by simp, by simpa using h⟩
    · rw [← hrt, ht]
      simp only [not_true_eq_false, if_false]
      have hlen : ps.hs.length = cnt rs.rights := by rw [h.hs, live_len]
      rw [hlen]
      have ew : (toPH r).wr = r.wr := rfl
      rw [ew]
      cases (wt && !r.wr) with
      | true => exact ⟨rfl, h⟩
      | false =>
        simp only [Bool.false_eq_true, if_false]
        by_cases hc : 32 ≤ cnt rs.rights
        · rw [if_pos hc, if_pos hc]; exact ⟨rfl, h⟩
        · rw [if_neg hc, if_neg hc]
          refine ⟨by simp [h.last], ?_⟩
          have hi2 := h.inv.add (wt := wt) (aliveB_range hat) (h.inv.fr j r hrr) (show (-1 : Int) ≤ j by omega) (by omega)
          refine ⟨hi2, h.al, h.len, h.by_, h.bl, ?_, ?_, h.sl⟩
          · show addP ps.hs ps.last te r.fr wt r.h = live (rs.rights ++ [_])
            rw [live_append h.inv.ord (show (-1 : Int) ≤ (j : Int) by omega) (show (j : Int) < (rs.rights.length : Int) by omega) rfl hl, h.hs, h.last]
            unfold addP toPH
            simp [h.inv.hnd j r hrr]
          · show ps.last + 1 = _
            rw [h.last]; simp [addR]

theorem Sim.ends (h : Sim rs ps) (P : Nat → Bool) (hd : List Int) (hP : ∀ (i : Nat), i < rs.rights.length → lv rs.rights i = true → hasI hd ((i : Int) + 1) = P i) (al : List Bool) (hal : al.length = rs.alive.length) :
    Sim (sweepS { rs with rights := markAt P rs.rights, alive := al }) { endP ps (endAllP ps.hs hd) with alive := al } := by
  have hi := h.inv.mark P
  have hE : endAllP ps.hs hd = live (markAt P rs.rights) := by rw [h.hs]; exact endAll_mark h.inv P hd hP
  refine ⟨⟨hi.ord, hi.hnd, hi.env, hi.fr⟩, rfl, hal.trans h.len, h.by_, h.bl, ?_, ?_, ?_⟩
  · show endAllP ps.hs hd = live (markAt P rs.rights)
    rw [h.hs]; exact endAll_mark h.inv P hd hP
  · show ps.last = ((markAt P rs.rights).length : Int)
    rw [markAt_len]; exact h.last
  · show ps.slots.map (swP (endAllP ps.hs hd)) = (sweepS { rs with rights := markAt P rs.rights, alive := al }).slots
    rw [sweep_eq, h.sl, hE]

theorem hasI_hdTo (hs : List PH) (p : PH → Bool) (n : Int) : hasI (hdTo hs p hs.length) n = true ↔ ∃ x, x ∈ hs ∧ p x = true ∧ x.h = n := by
  unfold hasI hdTo
  rw [List.take_length, List.any_eq_true]
  constructor
  · rintro ⟨y, hy, he⟩
    obtain ⟨x, hx, rfl⟩ := List.mem_map.1 hy
    obtain ⟨h1, h2⟩ := List.mem_filter.1 hx
    exact ⟨x, h1, h2, by simpa using he⟩
  · rintro ⟨x, h1, h2, rfl⟩
    exact ⟨x.h, List.mem_map.2 ⟨x, List.mem_filter.2 ⟨h1, h2⟩, rfl⟩, by simp⟩
/-- The handles of those that are alive and of which p holds. -/
theorem Sim.chosen (h : Sim rs ps) (p : PH → Bool) (i : Nat) (r : RR) (hr : rs.rights[i]? = some r) (hl : lv rs.rights i = true) : hasI (hdTo ps.hs p ps.hs.length) ((i : Int) + 1) = p (toPH r) := by
  rw [Bool.eq_iff_iff, hasI_hdTo, h.hs]
  constructor
  · rintro ⟨x, hx, hp, he⟩
    obtain ⟨k, q, hq, _, rfl⟩ := mem_live.1 hx
    have h1 : q.h = (i : Int) + 1 := he
    have := h.inv.hnd k q hq
    have : k = i := by omega
    subst this
    rw [hr] at hq
    simp at hq
    subst hq
    exact hp
  · intro hp
    exact ⟨toPH r, mem_live.2 ⟨i, r, hr, hl, rfl⟩, hp, h.inv.hnd i r hr⟩

theorem Sim.revoke (h : Sim rs ps) (env hd : Int) : (revokeR rs env hd).1 = (revokeP ps env hd).1 ∧ Sim (revokeR rs env hd).2 (revokeP ps env hd).2 := by
  rcases h.right env hd with ⟨x, h1, h2, h3⟩ | ⟨j, r, h1, hrr, hd1, he, hl, hal, h2⟩
  · have : x ≠ 0 := by omega
    unfold revokeR revokeP
    rw [h1, h2]
    simp only [ne_eq, this, not_false_eq_true, if_true]
    exact ⟨trivial, h⟩
  · unfold revokeR revokeP
    rw [h1, h2]
    simp only [ne_eq, not_true_eq_false, if_false]
    refine ⟨trivial, ?_⟩
    unfold endIf
    rw [mark_map]
    have hal : ps.alive = rs.alive := h.al
    have := h.ends (fun i => (rs.rights[i]?.map fun r => r.frm == (j : Int)).getD false) (hdTo ps.hs (fun x => x.par == (toPH r).h) ps.hs.length) (fun i hi hli => by
      obtain ⟨q, hq⟩ : ∃ q, rs.rights[i]? = some q := ⟨rs.rights[i], by simp⟩
      rw [h.chosen _ i q hq hli, hq]
      show (q.frm + 1 == r.h) = _
      rw [h.inv.hnd j r hrr, Bool.eq_iff_iff]
      simp) rs.alive rfl
    have e : endP ps (endAllP ps.hs (hdTo ps.hs (fun x => x.par == (toPH r).h) ps.hs.length)) = { endP ps (endAllP ps.hs (hdTo ps.hs (fun x => x.par == (toPH r).h) ps.hs.length)) with alive := rs.alive } := by rw [← hal]; rfl
    rw [e]
    exact this

theorem Sim.drop (h : Sim rs ps) (env hd : Int) : (dropR rs env hd).1 = (dropP ps env hd).1 ∧ Sim (dropR rs env hd).2 (dropP ps env hd).2 := by
  rcases h.right env hd with ⟨x, h1, h2, h3⟩ | ⟨j, r, h1, hrr, hd1, he, hl, hal, h2⟩
  · have : x ≠ 0 := by omega
    unfold dropR dropP
    rw [h1, h2]
    simp only [ne_eq, this, not_false_eq_true, if_true]
    exact ⟨trivial, h⟩
  · unfold dropR dropP
    rw [h1, h2]
    simp only [ne_eq, not_true_eq_false, if_false, Int.toNat_natCast, hrr]
    refine ⟨trivial, ?_⟩
    rw [mark_set _ _ _ hrr]
    have hal : ps.alive = rs.alive := h.al
    have := h.ends (fun i => i == j) [(toPH r).h] (fun i hi hli => by
      show hasI [r.h] _ = _
      rw [h.inv.hnd j r hrr, Bool.eq_iff_iff]
      simp [hasI]
      omega) rs.alive rfl
    have e : endP ps (endAllP ps.hs [(toPH r).h]) = { endP ps (endAllP ps.hs [(toPH r).h]) with alive := rs.alive } := by rw [← hal]; rfl
    rw [e]
    exact this

theorem Sim.kill (h : Sim rs ps) (env : Int) : (killR rs env).1 = (killP ps env).1 ∧ Sim (killR rs env).2 (killP ps env).2 := by
  unfold killR killP
  rw [← h.alive]
  cases hal : aliveB rs env with
  | false => exact ⟨rfl, h⟩
  | true =>
    simp only [if_true]
    refine ⟨trivial, ?_⟩
    unfold endIf
    rw [mark_map, h.al]
    exact h.ends _ _ (fun i hi hli => by
      obtain ⟨q, hq⟩ : ∃ q, rs.rights[i]? = some q := ⟨rs.rights[i], by simp⟩
      rw [h.chosen _ i q hq hli, hq]
      rfl) _ (by simp)

theorem Sim.spawn (h : Sim rs ps) (env : Int) : (spawnR rs env).1 = (spawnP ps env).1 ∧ Sim (spawnR rs env).2 (spawnP ps env).2 := by
  unfold spawnR spawnP
  rw [← h.alive]
  have hlen : ps.alive.length = rs.ne := by rw [h.al, h.len]
  by_cases h1 : env < 0 ∨ rs.ne ≤ env
  · have : isEnvP ps env = false := by simp [isEnvP, hlen]; omega
    rw [if_pos h1, this]
    exact ⟨rfl, h⟩
  · have : isEnvP ps env = true := by simp [isEnvP, hlen]; omega
    rw [if_neg h1, this]
    simp only [if_true]
    cases hal : aliveB rs env with
    | true => exact ⟨rfl, h⟩
    | false =>
      simp only [Bool.false_eq_true, if_false]
      refine ⟨trivial, ⟨h.inv.ord, h.inv.hnd, h.inv.env, h.inv.fr⟩, by rw [h.al], by simpa using h.len, h.by_, h.bl, h.hs, h.last, h.sl⟩

/-- What Rights tells. -/
theorem Sim.list (h : Sim rs ps) (env : Int) : ofP ps.hs env = (listR rs env).map toPH := by
  rw [h.hs]
  unfold ofP live listR
  have : ∀ q, q ≤ rs.rights.length → (liveTo rs.rights q).filter (fun x => x.env == env) = (listTo rs env q).map toPH := by
    intro q
    induction q with
    | zero => intro _; rfl
    | succ q ih =>
      intro hq
      obtain ⟨r, hr⟩ : ∃ r, rs.rights[q]? = some r := ⟨rs.rights[q], by simp⟩
      rw [liveTo_succ hr, listTo_succ rs env q r hr, List.filter_append, List.map_append, ih (by omega)]
      congr 1
      cases lv rs.rights q with
      | false => rfl
      | true =>
        simp only [if_true, Bool.true_and]
        have : (toPH r).env = r.env := rfl
        cases he : (r.env == env) <;> simp [this, he]
  exact this _ (Nat.le_refl _)
end
end Go.Proofs.Ytnolplmpanbmhab

/-
  The program's state and the document's: the table's calls.
-/
namespace Go.Proofs.Ytnolplmpanbmhab
set_option linter.unusedVariables false

section
variable {rs : RSt} {ps : PSt}

theorem gone_eq (h : SOk rs) (env page : Int) : rs.slots.map (goneE env page) = rs.slots.map (remE env page) := by
  apply List.map_congr_left
  intro e he
  obtain ⟨i, hi, rfl⟩ := List.getElem_of_mem he
  unfold goneE remE entP
  cases hu : rs.slots[i].used with
  | true => simp
  | false =>
    have := h.emp i rs.slots[i] (by simp) hu
    simp only [Bool.false_and, Bool.false_eq_true, if_false]
    split
    · exact this.symm
    · rfl
theorem Sim.page (h : Sim rs ps) (env page : Int) : pageP ps env page = if rawE rs env ≠ 0 then rawE rs env else if page < 0 ∨ 15 < page then 7 else 0 := by
  unfold pageP
  rw [h.raw]
theorem Sim.unmap (h : Sim rs ps) (hk : SOk rs) (env page : Int) : (unmapR rs env page).1 = (unmapP ps env page).1 ∧ Sim (unmapR rs env page).2 (unmapP ps env page).2 := by
  unfold unmapR unmapP
  rw [h.page]
  by_cases h1 : rawE rs env = 0
  · by_cases h2 : page < 0 ∨ 15 < page
    · simp only [h1, ne_eq, not_true_eq_false, if_false, if_pos h2]
      exact ⟨by simp, by simpa using h⟩
    · simp only [h1, ne_eq, not_true_eq_false, if_false, if_neg h2]
      refine ⟨trivial, ⟨h.inv.ord, h.inv.hnd, h.inv.env, h.inv.fr⟩, h.al, h.len, h.by_, h.bl, h.hs, h.last, ?_⟩
      show ps.slots.map (remE env page) = rs.slots.map (goneE env page)
      rw [gone_eq hk, h.sl]
  · simp only [ne_eq, h1, not_false_eq_true, if_true]
    exact ⟨trivial, h⟩
theorem Sim.map (h : Sim rs ps) (hk : SOk rs) (env page hd : Int) (wt : Bool) (slot : Int) : (mapR rs env page hd wt slot).1 = (mapP ps env page hd wt slot).1 ∧ Sim (mapR rs env page hd wt slot).2 (mapP ps env page hd wt slot).2 := by
  have hr := h.raw env
  unfold mapR mapP
  rw [h.page]
  by_cases h1 : rawE rs env = 0
  · by_cases h2 : page < 0 ∨ 15 < page
    · simp only [h1, ne_eq, not_true_eq_false, if_false, if_pos h2]
      exact ⟨by simp, by simpa using h⟩
    · simp only [h1, ne_eq, not_true_eq_false, if_false, if_neg h2]
      rcases h.right env hd with ⟨x, g1, g2, g3⟩ | ⟨j, r, g1, hrr, hd1, he, hl, hal, g2⟩
      · have hx : x ≠ 0 := by omega
        have hf : findP ps.hs env hd = none ∧ x = 9 := by
          unfold rightP at g2
          rw [← hr, h1] at g2
          simp only [ne_eq, not_true_eq_false, if_false] at g2
          cases hf : findP ps.hs env hd with
          | none => rw [hf] at g2; simp at g2; exact ⟨rfl, g2.symm⟩
          | some y => rw [hf] at g2; simp at g2
        rw [g1, hf.1, hf.2]
        exact ⟨rfl, h⟩
      · have hf : findP ps.hs env hd = some (toPH r) := by
          unfold rightP at g2
          rw [← hr, h1] at g2
          simp only [ne_eq, not_true_eq_false, if_false] at g2
          cases hf : findP ps.hs env hd with
          | none => rw [hf] at g2; simp at g2
          | some y => rw [hf] at g2; simp at g2; rw [g2]
        rw [g1, hf]
        simp only [not_true_eq_false, if_false, Int.toNat_natCast, hrr]
        have ew : (toPH r).wr = r.wr := rfl
        rw [ew, h.sl, hk.ns]
        cases (wt && !r.wr) with
        | true => exact ⟨rfl, h⟩
        | false =>
          simp only [Bool.false_eq_true, if_false]
          by_cases h3 : slot < 0 ∨ (rs.ns : Int) ≤ slot
          · rw [if_pos h3, if_pos h3]; exact ⟨rfl, h⟩
          · rw [if_neg h3, if_neg h3]
            refine ⟨rfl, ⟨h.inv.ord, h.inv.hnd, h.inv.env, h.inv.fr⟩, h.al, h.len, h.by_, h.bl, h.hs, h.last, ?_⟩
            show (rs.slots.map (remE env page)).set _ _ = (rs.slots.map (goneE env page)).set _ _
            rw [gone_eq hk]
            rfl
  · simp only [ne_eq, h1, not_false_eq_true, if_true]
    exact ⟨trivial, h⟩
theorem find_ent (rs : RSt) (env page : Int) : (entI rs env page = -1 ∧ findT rs.slots env page = none) ∨ ∃ (q : Nat) (e : Ent), entI rs env page = q ∧ rs.slots[q]? = some e ∧ findT rs.slots env page = some e := by
  unfold entI
  cases hx : rs.slots.findIdx? (entP env page) with
  | none =>
    left
    refine ⟨rfl, ?_⟩
    rw [List.findIdx?_eq_none_iff] at hx
    unfold findT
    rw [List.find?_eq_none]
    intro x hm
    simp [hx x hm]
  | some q =>
    right
    rw [List.findIdx?_eq_some_iff_getElem] at hx
    obtain ⟨hq, h1, h2⟩ := hx
    refine ⟨q, rs.slots[q], rfl, by simp, findT_hit (q := q) (by simp) (fun i y hi hy => ?_) h1⟩
    have := h2 i hi
    obtain ⟨hi2, he⟩ := List.getElem?_eq_some_iff.1 hy
    rw [he] at this
    simpa using this
theorem Sim.place (h : Sim rs ps) (env page a : Int) : placeP ps env page a = if rawE rs env ≠ 0 then rawE rs env else if page < 0 ∨ 15 < page then 7 else if a < 0 ∨ 3 < a then 8 else 0 := by
  unfold placeP
  rw [h.page]
  by_cases h1 : rawE rs env = 0
  · by_cases h2 : page < 0 ∨ 15 < page
    · simp [h1, h2]
    · simp [h1, h2]
  · simp [h1]
theorem Sim.load (h : Sim rs ps) (env page a : Int) : loadR rs env page a = loadP ps env page a := by
  unfold loadR loadP
  rw [h.place, h.sl]
  by_cases h1 : rawE rs env = 0
  · by_cases h2 : page < 0 ∨ 15 < page
    · simp [h1, h2]
    · by_cases h3 : a < 0 ∨ 3 < a
      · simp [h1, h2, h3]
      · simp only [h1, ne_eq, not_true_eq_false, if_false, if_neg h2, if_neg h3]
        rcases find_ent rs env page with ⟨g1, g2⟩ | ⟨q, e, g1, g2, g3⟩
        · rw [g1, g2]; rfl
        · rw [g1, g3, if_neg (by omega)]
          simp only [Int.toNat_natCast, g2]
          unfold byteAt byteP
          rw [h.by_]
  · simp [h1]
theorem Sim.store (h : Sim rs ps) (env page a v : Int) : (storeR rs env page a v).1 = (storeP ps env page a v).1 ∧ Sim (storeR rs env page a v).2 (storeP ps env page a v).2 := by
  unfold storeR storeP
  rw [h.place, h.sl]
  by_cases h1 : rawE rs env = 0
  · by_cases h2 : page < 0 ∨ 15 < page
    · simp only [h1, ne_eq, not_true_eq_false, if_false, if_pos h2]
      exact ⟨by simp, by simpa using h⟩
    · by_cases h3 : a < 0 ∨ 3 < a
      · simp only [h1, ne_eq, not_true_eq_false, if_false, if_neg h2, if_pos h3]
        exact ⟨by simp, by simpa using h⟩
      · simp only [h1, ne_eq, not_true_eq_false, if_false, if_neg h2, if_neg h3]
        by_cases h4 : v < 0 ∨ 255 < v
        · rw [if_pos h4, if_pos h4]; exact ⟨rfl, h⟩
        · rw [if_neg h4, if_neg h4]
          rcases find_ent rs env page with ⟨g1, g2⟩ | ⟨q, e, g1, g2, g3⟩
          · rw [g1, g2]
            exact ⟨rfl, h⟩
          · rw [g1, g3, if_neg (by omega)]
            simp only [Int.toNat_natCast, g2]
            cases e.wr with
            | false => exact ⟨rfl, h⟩
            | true =>
              simp only [Bool.not_true, Bool.false_eq_true, if_false]
              refine ⟨trivial, ⟨h.inv.ord, h.inv.hnd, h.inv.env, h.inv.fr⟩, h.al, h.len, ?_, by simpa [putByte] using h.bl, h.hs, h.last, h.sl⟩
              show ps.bytes.set _ _ = rs.bytes.set _ _
              rw [h.by_]
  · simp only [ne_eq, h1, not_false_eq_true, if_true]
    exact ⟨trivial, h⟩
end
end Go.Proofs.Ytnolplmpanbmhab

namespace Go.Proofs.Ytnolplmpanbmhab
open Go.RowKit
set_option linter.unusedVariables false

set_option maxHeartbeats 400000 in
theorem mayBe_any (a b c : Int) (w : World) :
    Calls Try.prog 40 #[.agg #[.int .i64 a, .int .i64 b, .int .i64 c]] w fun e w' => e = .returned (.bool (mayB a b c)) ∧ Below w.heap.size w w' := by
  go_enter Try.func40, Try.ntmps40
  go_wp2
  all_goals
    go_ret
    refine ⟨ret_bool ?_, (Below.refl _ _).alloc (Nat.le_refl _) _⟩
    rw [Bool.eq_iff_iff]; simp [mayB]; omega
end Go.Proofs.Ytnolplmpanbmhab
