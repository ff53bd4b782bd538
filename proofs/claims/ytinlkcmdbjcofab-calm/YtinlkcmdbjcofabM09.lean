import Derived.Test.YtinlkcmdbjcofabM08
namespace Go.Proofs.Ytinlkcmdbjcofab
open Go.RowKit
set_option linter.unusedVariables false
attribute [local go_sem ↓] Go.wp_at_zero Go.wp_at_succ

section
variable {own : Nat → Nat × Nat} {id : Nat} {w : World} {p : Nat} {s : PSt} {gE : Nat} {vF vL vT : Value} {L : List (PEnv × Value)}

def byteP (s : PSt) (f a : Int) : Int := ((s.bytes[f.toNat]?.getD [])[a.toNat]?).getD 0
def loadP (s : PSt) (env page a : Int) : Int × Int :=
  if placeP s env page a ≠ 0 then (0, placeP s env page a) else match findT s.slots env page with
    | none => (0, 13)
    | some e => (byteP s e.fr a, 0)
def putP1 (s : PSt) (f a v : Int) : PSt := { s with bytes := s.bytes.set f.toNat ((s.bytes[f.toNat]?.getD []).set a.toNat v) }
def storeP (s : PSt) (env page a v : Int) : Int × PSt :=
  if placeP s env page a ≠ 0 then (placeP s env page a, s) else if v < 0 ∨ 255 < v then (6, s) else match findT s.slots env page with
    | none => (13, s)
    | some e => if !e.wr then (14, s) else (0, putP1 s e.fr a v)

theorem fcells_at (l : List Int) {a : Nat} (ha : a < 4) : (fcells l)[a]? = some (.int .u8 (l[a]?.getD 0)) := by
  have : a = 0 ∨ a = 1 ∨ a = 2 ∨ a = 3 := by omega
  rcases this with rfl | rfl | rfl | rfl <;> rfl
theorem flat_byte (xs : List (List Int)) (f a : Nat) (l : List Int) (v : Int) (hx : xs[f]? = some l) (ha : a < 4) (hl : l.length = 4) : (xs.set f (l.set a v)).flatMap fcells = (xs.flatMap fcells).set (f * 4 + a) (.int .u8 v) := by
  have hf := (List.getElem?_eq_some_iff.1 hx).1
  apply List.ext_getElem?
  intro q
  have hln := flat_length fcells 4 (fun _ => rfl) xs
  rw [flat_at fcells 4 (by omega) (fun _ => rfl)]
  simp only [List.getElem?_set, hln]
  by_cases hp : q / 4 = f
  · rw [if_pos hp.symm, if_pos (by omega)]
    simp only [Option.bind_some]
    rw [fcells_at _ (Nat.mod_lt _ (by omega))]
    by_cases hq : q % 4 = a
    · rw [if_pos (by omega), if_pos (by omega), hq, List.getElem?_set_self (by omega)]; rfl
    · rw [if_neg (by omega), List.getElem?_set_ne (fun e => hq e.symm), flat_at fcells 4 (by omega) (fun _ => rfl), hp, hx]
      simp only [Option.bind_some]
      rw [fcells_at _ (Nat.mod_lt _ (by omega))]
  · rw [if_neg (fun e => hp e.symm), if_neg (by omega), flat_at fcells 4 (by omega) (fun _ => rfl)]

/-- The cell of a byte. -/
theorem PRep.byte (h : PRep own id w p s gE vF vL vT L) (hw : PWf s) {f a : Nat} (hf : f < s.bytes.length) (ha : a < 4) :
    ∃ g cap l, vF = .slice (some ⟨g, 0, none⟩) s.bytes.length cap ∧ own g = (id, 2) ∧ s.bytes[f]? = some l ∧ l.length = 4 ∧ w.cell? ⟨g, f * 4 + a, none⟩ = some (.int .u8 (byteP s f a)) ∧ (0 ≤ byteP s f a ∧ byteP s f a ≤ 255) ∧ ∀ j, w.frozen? ⟨g, j, none⟩ = false := by
  obtain ⟨g, cap, hv, hc, hfz⟩ := h.rF.form (by omega)
  obtain ⟨l, hl⟩ : ∃ l, s.bytes[f]? = some l := ⟨s.bytes[f], by simp⟩
  obtain ⟨h4, hb⟩ := hw.bys f l hl
  have hby : byteP s f a = l[a]?.getD 0 := by simp [byteP, hl]
  refine ⟨g, cap, l, hv, h.tF g (by rw [hv]; rfl), hl, h4, ?_, ?_, hfz⟩
  · rw [hc _ (by omega), flat_get fcells 4 (fun _ => rfl) _ _ a _ hl ha, fcells_at _ ha, hby]
  · rw [hby, List.getElem?_eq_getElem (by omega)]
    exact hb a _ (List.getElem?_eq_getElem (by omega))

/-- A byte is written. -/
theorem PRep.setByte {g cap : Nat} (h : PRep own id w p s gE vF vL vT L) (hw : PWf s) (hv : vF = .slice (some ⟨g, 0, none⟩) s.bytes.length cap) {f a : Nat} (hf : f < s.bytes.length) (ha : a < 4) (v : Int) :
    PRep own id (w.setCell ⟨g, f * 4 + a, none⟩ (.int .u8 v)) p (putP1 s f a v) gE vF vL vT L := by
  have hg : own g = (id, 2) := h.tF g (by rw [hv]; rfl)
  obtain ⟨l, hl⟩ : ∃ l, s.bytes[f]? = some l := ⟨s.bytes[f], by simp⟩
  obtain ⟨h4, hb⟩ := hw.bys f l hl
  have e : putP1 s f a v = { s with bytes := s.bytes.set f (l.set a v) } := by simp [putP1, hl]
  rw [e]
  refine h.framed (fun b hb h3 => Below.heap_setCell _ _ _ _ (fun e => h3 (by simp at e; rw [e]; exact hg))) ?_
  have h1 := h.rF
  rw [hv] at h1 ⊢
  rw [List.length_set, flat_byte _ _ _ _ _ hl ha h4]
  exact h1.set _ _

theorem findT_some {es : List Ent} {env page : Int} {e : Ent} (h : findT es env page = some e) : ∃ i : Nat, es[i]? = some e ∧ e.used = true := by
  have h1 := List.mem_of_find?_eq_some h
  have h2 := List.find?_some h
  obtain ⟨i, hi, rfl⟩ := List.getElem_of_mem h1
  simp [entP] at h2
  exact ⟨i, by simp, h2.1⟩

set_option maxHeartbeats 4000000 in
set_option maxRecDepth 100000 in
theorem pload_any (h : PRep own id w p s gE vF vL vT L) (hw : PWf s) (env page a : Int) :
    Calls Try.prog 17 #[.pointer (some ⟨p, 0, none⟩), .int .i64 env, .int .i64 page, .int .i64 a] w fun e w' => e = .returned (.tuple #[.int .i64 (loadP s env page a).1, .int .i64 (loadP s env page a).2]) ∧ Below w.heap.size w w' := by
  have hsl := hw.sl
  rcases placeP_cases s env page a with ⟨x, hx, hx2⟩ | ⟨hx, -, ha0, ha1⟩
  · have hx0 : (x != 0) = true := by simpa using hx2
    have HR : Hid (placeP s env page a = x) := hx
    have HP : Hid (loadP s env page a = (0, x)) := by simp [Hid, loadP, hx, hx2]
    clear hx hx2
    go_enter Try.func17, Try.ntmps17
    go_wp2_with fail
    refine (needPlace_any h hw env page a).mono ?_
    rintro e w2 ⟨rfl, hw2⟩
    subst hw2
    rw [HR.out]
    go_wp2_with fail
    go_ret2
    exact ⟨ret_int2 (by rw [HP.out]) (by rw [HP.out]), Below.refl _ _⟩
  have HR : Hid (placeP s env page a = 0) := hx
  cases hf : findT s.slots env page with
  | none =>
    have HF : Hid (findT s.slots env page = none) := hf
    have HP : Hid (loadP s env page a = (0, 13)) := by simp [Hid, loadP, hx, hf]
    clear hx hf
    go_enter Try.func17, Try.ntmps17
    go_wp2_with fail
    refine (needPlace_any h hw env page a).mono ?_
    rintro e w2 ⟨rfl, hw2⟩
    subst hw2
    rw [HR.out]
    go_wp2_with fail
    refine (tfind_any h.tb hsl env page).mono ?_
    rintro e w3 ⟨rfl, hb3⟩
    rw [HF.out]
    simp only [findTV]
    go_wp2_with fail
    go_ret2
    exact ⟨ret_int2 (by rw [HP.out]) (by rw [HP.out]), hb3.alloc hb3.size _⟩
  | some e =>
    have HF : Hid (findT s.slots env page = some e) := hf
    have HP : Hid (loadP s env page a = (byteP s e.fr a, 0)) := by simp [Hid, loadP, hx, hf]
    obtain ⟨i, hi, hu⟩ := findT_some hf
    obtain ⟨f0, f1⟩ := hw.fr i e hi hu
    obtain ⟨f, hfe⟩ := Int.eq_ofNat_of_zero_le f0
    obtain ⟨k, rfl⟩ := Int.eq_ofNat_of_zero_le ha0
    have hfl : f < s.bytes.length := by omega
    have hk : k < 4 := by omega
    rw [hfe] at HP
    clear hx hf hi
    go_enter Try.func17, Try.ntmps17
    go_wp2_with fail
    refine (needPlace_any h hw env page k).mono ?_
    rintro e2 w2 ⟨rfl, hw2⟩
    subst hw2
    rw [HR.out]
    go_wp2_with fail
    refine (tfind_any h.tb hsl env page).mono ?_
    rintro e3 w3 ⟨rfl, hb3⟩
    rw [HF.out]
    simp only [findTV]
    rw [hfe]
    have hba : Below w2.heap.size w2 (w3.alloc (.cells #[.bool e.used, .int .i64 e.env, .int .i64 e.page, .int .i64 f, .bool e.wr] 80)) := hb3.alloc hb3.size _
    have h3 := h.below hb3
    obtain ⟨g, cap, l, hv, hg, -, -, hc, ⟨hb0, hb1⟩, hfz⟩ := h3.byte hw hfl hk
    have hplt := h3.st.blk.lt
    have hglt := h3.rF.lt g (by rw [hv]; rfl)
    have k1 := h3.c1
    rw [hv] at k1
    have hl : (f : Int) < (s.bytes.length : Int) := by omega
    have hk4 : (k : Int) < 4 := by omega
    have hwr : IntKind.i64.wrap (byteP s f k) = byteP s f k := by rw [IntKind.wrap_i64]; omega
    clear hv hfz hfe f0 f1
    go_wp2_with fail
    go_region_held3 (fun w' => w'.cell? ⟨p, 1, none⟩ = some (.slice (some ⟨g, 0, none⟩) s.bytes.length cap) ∧ w'.cell? ⟨w3.heap.size, 3, none⟩ = some (.int .i64 f) ∧ w'.cell? ⟨g, f * 4 + k, none⟩ = some (.int .u8 (byteP s f k))) (go_keep) (fail)
    go_wp2_with fail
    go_ret2
    exact ⟨ret_int2 (by rw [HP.out]) (by rw [HP.out]), (hb3.alloc hb3.size _).drew⟩

def byteOk (v : Int) : Bool := decide (0 ≤ v) && decide (v ≤ 255)
set_option maxHeartbeats 1000000 in
set_option maxRecDepth 100000 in
theorem isByte_any (v : Int) (w : World) : Calls Try.prog 45 #[.int .i64 v] w fun e w' => e = .returned (.bool (byteOk v)) ∧ w' = w := by
  by_cases h1 : 0 ≤ v
  · have HE : Hid (byteOk v = decide (v ≤ 255)) := by simp [Hid, byteOk, h1]
    go_enter Try.func45, Try.ntmps45
    go_wp2_with fail
    go_ret
    exact ⟨ret_bool (by rw [HE.out]), rfl⟩
  · have HE : Hid (byteOk v = false) := by simp [Hid, byteOk]; omega
    go_enter Try.func45, Try.ntmps45
    go_wp2_with fail
    go_ret
    exact ⟨ret_bool (by rw [HE.out]), rfl⟩

set_option maxHeartbeats 4000000 in
set_option maxRecDepth 100000 in
theorem pstore_any (h : PRep own id w p s gE vF vL vT L) (hw : PWf s) (env page a v : Int) :
    Calls Try.prog 18 #[.pointer (some ⟨p, 0, none⟩), .int .i64 env, .int .i64 page, .int .i64 a, .int .i64 v] w fun e w' => e = .returned (.int .i64 (storeP s env page a v).1) ∧ PNext own id w p w' (storeP s env page a v).2 := by
  have hsl := hw.sl
  rcases placeP_cases s env page a with ⟨x, hx, hx2⟩ | ⟨hx, -, ha0, ha1⟩
  · have hx0 : (x != 0) = true := by simpa using hx2
    have HR : Hid (placeP s env page a = x) := hx
    have HP : Hid (storeP s env page a v = (x, s)) := by simp [Hid, storeP, hx, hx2]
    clear hx hx2
    go_enter Try.func18, Try.ntmps18
    go_wp2_with fail
    refine (needPlace_any h hw env page a).mono ?_
    rintro e w2 ⟨rfl, hw2⟩
    subst hw2
    rw [HR.out]
    go_wp2_with fail
    go_ret
    exact ⟨ret_int (by rw [HP.out]), by rw [HP.out]; exact PNext.refl h⟩
  have HR : Hid (placeP s env page a = 0) := hx
  by_cases hv0 : v < 0 ∨ 255 < v
  · have HP : Hid (storeP s env page a v = (6, s)) := by simp [Hid, storeP, hx, hv0]
    have HB : Hid (byteOk v = false) := by simp [Hid, byteOk]; omega
    clear hx
    go_enter Try.func18, Try.ntmps18
    go_wp2_with fail
    refine (needPlace_any h hw env page a).mono ?_
    rintro e w2 ⟨rfl, hw2⟩
    subst hw2
    rw [HR.out]
    go_wp2_with fail
    refine (isByte_any v _).mono ?_
    rintro eb w2 ⟨rfl, hwb⟩
    subst hwb
    rw [HB.out]
    go_wp2_with fail
    go_ret
    exact ⟨ret_int (by rw [HP.out]), by rw [HP.out]; exact PNext.refl h⟩
  have hv1 : ¬ v < 0 := by omega
  have hv2 : ¬ 255 < v := by omega
  have HB : Hid (byteOk v = true) := by simp [Hid, byteOk]; omega
  cases hf : findT s.slots env page with
  | none =>
    have HF : Hid (findT s.slots env page = none) := hf
    have HP : Hid (storeP s env page a v = (13, s)) := by simp [Hid, storeP, hx, hv0, hf]
    clear hx hf hv0
    go_enter Try.func18, Try.ntmps18
    go_wp2_with fail
    refine (needPlace_any h hw env page a).mono ?_
    rintro e w2 ⟨rfl, hw2⟩
    subst hw2
    rw [HR.out]
    go_wp2_with fail
    refine (isByte_any v _).mono ?_
    rintro eb w2 ⟨rfl, hwb⟩
    subst hwb
    rw [HB.out]
    go_wp2_with fail
    refine (tfind_any h.tb hsl env page).mono ?_
    rintro e w3 ⟨rfl, hb3⟩
    rw [HF.out]
    simp only [findTV]
    go_wp2_with fail
    go_ret
    exact ⟨ret_int (by rw [HP.out]), by rw [HP.out]; exact PNext.of_below h (hb3.alloc hb3.size _)⟩
  | some e =>
    have HF : Hid (findT s.slots env page = some e) := hf
    obtain ⟨i, hi, hu⟩ := findT_some hf
    obtain ⟨f0, f1⟩ := hw.fr i e hi hu
    obtain ⟨f, hfe⟩ := Int.eq_ofNat_of_zero_le f0
    obtain ⟨k, rfl⟩ := Int.eq_ofNat_of_zero_le ha0
    have hfl : f < s.bytes.length := by omega
    have hk : k < 4 := by omega
    rcases Bool.eq_false_or_eq_true e.wr with hwr | hwr
    · have HP : Hid (storeP s env page k v = (0, putP1 s f k v)) := by simp [Hid, storeP, hx, hv0, hf, hwr, hfe]
      clear hx hf hi hv0 hu
      go_enter Try.func18, Try.ntmps18
      go_wp2_with fail
      refine (needPlace_any h hw env page k).mono ?_
      rintro e2 w2 ⟨rfl, hw2⟩
      subst hw2
      rw [HR.out]
      go_wp2_with fail
      refine (isByte_any v _).mono ?_
      rintro eb w2 ⟨rfl, hwb⟩
      subst hwb
      rw [HB.out]
      go_wp2_with fail
      refine (tfind_any h.tb hsl env page).mono ?_
      rintro e3 w3 ⟨rfl, hb3⟩
      rw [HF.out]
      simp only [findTV]
      rw [hfe, hwr]
      have h3 := h.below hb3
      have hba : Below w2.heap.size w2 (w3.alloc (.cells #[.bool e.used, .int .i64 e.env, .int .i64 e.page, .int .i64 f, .bool true] 80)) := hb3.alloc hb3.size _
      have h4 := h.below hba
      have hbx := Blk.new w3 [.bool e.used, .int .i64 e.env, .int .i64 e.page, .int .i64 f, .bool true] 80
      go_wp2_with fail
      obtain ⟨W4, hW4⟩ : ∃ W4, w3.alloc (.cells #[.bool e.used, .int .i64 e.env, .int .i64 e.page, .int .i64 f, .bool true] 80) = W4 := ⟨_, rfl⟩
      have hbx2 : Blk (w3.alloc (.cells #[.bool e.used, .int .i64 e.env, .int .i64 e.page, .int .i64 f, .bool true] 80)) w3.heap.size [.bool e.used, .int .i64 e.env, .int .i64 e.page, .int .i64 f, .bool true] 80 := hbx
      rw [hW4] at hba h4 hbx2 ⊢
      clear hbx hW4
      obtain ⟨g, cap, l, hv, hg, -, -, hc, ⟨hb0, hb1⟩, hfz⟩ := h4.byte hw hfl hk
      have hst := h4.setByte hw hv hfl hk v
      have hglt := h3.rF.lt g (by rw [hv]; rfl)
      have z0 := hfz (f * 4 + k)
      have k1 := h4.c1
      rw [hv] at k1
      have e3 := hbx2.cell 3
      simp at e3
      have hl : (f : Int) < (s.bytes.length : Int) := by omega
      have hk4 : (k : Int) < 4 := by omega
      have hwp : IntKind.u8.wrap v = v := by rw [IntKind.wrap_u8]; omega
      have hin : (own g).1 = id := by rw [hg]
      have n1 : p ≠ g := fun e => by have := h.tm; rw [e, hg] at this; simp at this
      have n2 : g ≠ p := fun e => n1 e.symm
      have n3 : w3.heap.size ≠ g := by omega
      have n4 : g ≠ w3.heap.size := by omega
      clear hv hfz hfe f0 f1
      go_region_held3 (fun w' => w'.cell? ⟨p, 1, none⟩ = some (.slice (some ⟨g, 0, none⟩) s.bytes.length cap) ∧ w'.cell? ⟨w3.heap.size, 3, none⟩ = some (.int .i64 f)) (go_keep) (fail)
      go_wp2_with fail
      go_ret
      exact ⟨ret_int (by rw [HP.out]), by rw [HP.out]; exact ⟨own, _, _, _, _, _, hst.below (Below.refl _ _).drew, fun _ _ => rfl, ((Touch.of_below hba _).setCell (.inl hin) _).drew⟩⟩
    · have HP : Hid (storeP s env page k v = (14, s)) := by simp [Hid, storeP, hx, hv0, hf, hwr]
      clear hx hf hi hv0 hfe
      go_enter Try.func18, Try.ntmps18
      go_wp2_with fail
      refine (needPlace_any h hw env page k).mono ?_
      rintro e2 w2 ⟨rfl, hw2⟩
      subst hw2
      rw [HR.out]
      go_wp2_with fail
      refine (isByte_any v _).mono ?_
      rintro eb w2 ⟨rfl, hwb⟩
      subst hwb
      rw [HB.out]
      go_wp2_with fail
      refine (tfind_any h.tb hsl env page).mono ?_
      rintro e3 w3 ⟨rfl, hb3⟩
      rw [HF.out]
      simp only [findTV]
      rw [hwr]
      go_wp2_with fail
      go_ret
      exact ⟨ret_int (by rw [HP.out]), by rw [HP.out]; exact PNext.of_below h (hb3.alloc hb3.size _)⟩
end
end Go.Proofs.Ytinlkcmdbjcofab

/-
  The program's state and the document's: no memory here.
-/
namespace Go.Proofs.Ytinlkcmdbjcofab
set_option linter.unusedVariables false

def toPH (r : RR) : PH := ⟨r.h, r.env, r.fr, r.wr, r.frm + 1⟩
def liveTo (rs : List RR) (q : Nat) : List PH := (List.range q).filterMap fun i : Nat => rs[i]?.bind fun r => if lv rs i then some (toPH r) else none
/-- The rights that are alive. -/
def live (rs : List RR) : List PH := liveTo rs rs.length

theorem liveTo_succ {rs : List RR} {q : Nat} {r : RR} (hr : rs[q]? = some r) : liveTo rs (q + 1) = liveTo rs q ++ if lv rs q then [toPH r] else [] := by
  unfold liveTo
  rw [List.range_succ, List.filterMap_append]
  congr 1
  simp only [List.filterMap_cons, List.filterMap_nil, hr, Option.bind_some]
  cases lv rs q <;> rfl
theorem liveTo_len {rs : List RR} : ∀ q, q ≤ rs.length → (liveTo rs q).length = cntTo rs q := by
  intro q
  induction q with
  | zero => intro _; rfl
  | succ q ih =>
    intro h
    obtain ⟨r, hr⟩ : ∃ r, rs[q]? = some r := ⟨rs[q], by simp⟩
    rw [liveTo_succ hr, List.length_append, ih (by omega), cntTo_succ]
    cases lv rs q <;> simp
theorem live_len (rs : List RR) : (live rs).length = cnt rs := liveTo_len _ (Nat.le_refl _)
theorem mem_live {rs : List RR} {x : PH} : x ∈ live rs ↔ ∃ (i : Nat) (r : RR), rs[i]? = some r ∧ lv rs i = true ∧ x = toPH r := by
  unfold live liveTo
  rw [List.mem_filterMap]
  constructor
  · rintro ⟨i, _, h⟩
    obtain ⟨r, hr, h2⟩ := Option.bind_eq_some_iff.1 h
    by_cases hl : lv rs i = true
    · simp [hl] at h2; exact ⟨i, r, hr, hl, h2.symm⟩
    · simp [hl] at h2
  · rintro ⟨i, r, hr, hl, rfl⟩
    exact ⟨i, List.mem_range.2 (List.getElem?_eq_some_iff.1 hr).1, by rw [hr]; simp [hl]⟩

/-- The standing facts of the list of all rights. -/
theorem findP_some {s : RSt} (hI : RInv s) {i : Nat} {r : RR} {env : Int} (hr : s.rights[i]? = some r) (hl : lv s.rights i = true) (he : r.env = env) : findP (live s.rights) env (i + 1) = some (toPH r) := by
  have hx : (findP (live s.rights) env (i + 1)).isSome = true := by
    unfold findP
    rw [List.find?_isSome]
    exact ⟨toPH r, mem_live.2 ⟨i, r, hr, hl, rfl⟩, by simp [toPH, hI.hnd i r hr, he]⟩
  obtain ⟨y, hy⟩ := Option.isSome_iff_exists.1 hx
  have h1 := List.mem_of_find?_eq_some hy
  have h2 := List.find?_some hy
  obtain ⟨j, q, hq, _, rfl⟩ := mem_live.1 h1
  simp [toPH] at h2
  have := hI.hnd j q hq
  have hij : j = i := by omega
  subst hij
  rw [hr] at hq
  simp at hq
  subst hq
  exact hy
theorem findP_none {s : RSt} (hI : RInv s) {env hd : Int} (h : ∀ (i : Nat) (r : RR), s.rights[i]? = some r → hd = i + 1 → r.env = env → lv s.rights i = false) : findP (live s.rights) env hd = none := by
  unfold findP
  rw [List.find?_eq_none]
  intro x hx
  obtain ⟨j, q, hq, hl, rfl⟩ := mem_live.1 hx
  have := hI.hnd j q hq
  simp [toPH]
  intro h1 h2
  have := h j q hq (by omega) h2
  rw [hl] at this
  simp at this

theorem free_eq {s : RSt} (hI : RInv s) (f : Nat) : freeB s f = freeP (live s.rights) f := by
  unfold freeB freeP
  rw [Bool.eq_iff_iff]
  simp only [Bool.not_eq_true', List.any_eq_false, List.mem_range, List.all_eq_true]
  constructor
  · intro h x hx
    obtain ⟨i, r, hr, hl, rfl⟩ := mem_live.1 hx
    have he := hI.env i r hr
    cases hf : ((toPH r).fr == (f : Int)) with
    | false => rfl
    | true =>
      exfalso
      have hfr : r.fr = f := by simpa [toPH] using hf
      exact h r.env.toNat (by omega) (owned_iff.2 ⟨i, r, hr, hl, by omega, hfr⟩)
  · intro h e he ho
    obtain ⟨i, r, hr, hl, h1, h2⟩ := owned_iff.1 ho
    have := h (toPH r) (mem_live.2 ⟨i, r, hr, hl, rfl⟩)
    simp [toPH, h2] at this

/-! ### Appending and ending -/

theorem fm_congr {f g : Nat → Option PH} {l : List Nat} (h : ∀ i, i ∈ l → f i = g i) : l.filterMap f = l.filterMap g := by
  induction l with
  | nil => rfl
  | cons x l ih =>
    rw [List.filterMap_cons, List.filterMap_cons, h x (by simp), ih (fun i hi => h i (by simp [hi]))]

theorem live_append {rs : List RR} (ho : Ordered rs) {x : RR} (h1 : -1 ≤ x.frm) (h2 : x.frm < rs.length) (he : x.ended = false) (hl : lv rs x.frm = true) : live (rs ++ [x]) = live rs ++ [toPH x] := by
  have hq : (rs ++ [x])[rs.length]? = some x := by simp
  have ho' := ho.append h1 h2
  have hlast : lv (rs ++ [x]) rs.length = true := by
    rw [lv_step ho' hq, he, lv_append ho x (by omega), hl]; rfl
  unfold live
  rw [List.length_append, List.length_singleton, liveTo_succ hq, hlast]
  simp only [if_true]
  congr 1
  unfold liveTo
  apply fm_congr
  intro i hi
  have hi := List.mem_range.1 hi
  rw [List.getElem?_append_left hi, lv_append ho x (by omega)]

/-- The rights at the places of P end. -/
def goneTo (P : Nat → Bool) (rs : List RR) (q : Nat) : List Int := (List.range q).filterMap fun i : Nat => if lv rs i && !lv (markAt P rs) i then some ((i : Int) + 1) else none
theorem goneTo_succ (P : Nat → Bool) (rs : List RR) (q : Nat) : goneTo P rs (q + 1) = goneTo P rs q ++ if lv rs q && !lv (markAt P rs) q then [(q : Int) + 1] else [] := by
  unfold goneTo
  rw [List.range_succ, List.filterMap_append]
  congr 1
  simp only [List.filterMap_cons, List.filterMap_nil]
  cases (lv rs q && !lv (markAt P rs) q) <;> rfl
theorem hasI_gone (P : Nat → Bool) (rs : List RR) (q : Nat) (n : Int) : hasI (goneTo P rs q) n = true ↔ ∃ i : Nat, i < q ∧ n = i + 1 ∧ lv rs i = true ∧ lv (markAt P rs) i = false := by
  unfold hasI goneTo
  rw [List.any_eq_true]
  constructor
  · rintro ⟨x, hx, he⟩
    obtain ⟨i, hi, h⟩ := List.mem_filterMap.1 hx
    have he : x = n := by simpa using he
    by_cases hc : (lv rs i && !lv (markAt P rs) i) = true
    · rw [if_pos hc] at h
      simp at h hc
      exact ⟨i, List.mem_range.1 hi, by omega, hc.1, hc.2⟩
    · rw [if_neg hc] at h; simp at h
  · rintro ⟨i, hi, rfl, h1, h2⟩
    exact ⟨(i : Int) + 1, List.mem_filterMap.2 ⟨i, List.mem_range.2 hi, by simp [h1, h2]⟩, by simp⟩

/-- One pass over the rights that are alive finds all that comes of those that end. -/
theorem fold_mark {s : RSt} (hI : RInv s) (P : Nat → Bool) (hd : List Int) (hP : ∀ (i : Nat), i < s.rights.length → lv s.rights i = true → hasI hd ((i : Int) + 1) = P i) :
    ∀ q, q ≤ s.rights.length → (liveTo s.rights q).foldl (eaStep hd) ([], []) = (liveTo (markAt P s.rights) q, goneTo P s.rights q) := by
  intro q
  induction q with
  | zero => intro _; rfl
  | succ q ih =>
    intro hq
    obtain ⟨r, hr⟩ : ∃ r, s.rights[q]? = some r := ⟨s.rights[q], by simp⟩
    have hx : (markAt P s.rights)[q]? = some (if P q then r.end else r) := by rw [markAt_get, hr]; rfl
    have hph : toPH (if P q then r.end else r) = toPH r := by cases P q <;> rfl
    have hbd := hI.ord q r hr
    rw [liveTo_succ hr, List.foldl_append, ih (by omega), liveTo_succ hx, hph, goneTo_succ]
    cases hl : lv s.rights q with
    | false =>
      have hl' : lv (markAt P s.rights) q = false := by
        cases h : lv (markAt P s.rights) q with
        | false => rfl
        | true => have := lv_mark_le hI.ord P _ q (Nat.le_refl _) (by omega) h; rw [hl] at this; exact absurd this (by simp)
      simp [hl']
    | true =>
      have h1 : hasI hd (toPH r).h = P q := by
        show hasI hd r.h = P q
        rw [hI.hnd q r hr]; exact hP q (by omega) hl
      have hst := lv_step hI.ord hr
      rw [hl] at hst
      have hst' : r.ended = false ∧ lv s.rights r.frm = true := by
        cases hxx : r.ended <;> rw [hxx] at hst <;> simp at hst ⊢
        exact hst
      have h2 : hasI (goneTo P s.rights q) (toPH r).par = !lv (markAt P s.rights) r.frm := by
        show hasI (goneTo P s.rights q) (r.frm + 1) = _
        by_cases h0 : r.frm < 0
        · rw [lv_neg h0]
          cases hh : hasI (goneTo P s.rights q) (r.frm + 1) with
          | false => rfl
          | true =>
            obtain ⟨i, _, hi, _⟩ := (hasI_gone P s.rights q _).1 hh
            omega
        · obtain ⟨k, hk⟩ := Int.eq_ofNat_of_zero_le (show 0 ≤ r.frm by omega)
          rw [hk] at hst' ⊢
          cases hlk : lv (markAt P s.rights) k with
          | false => exact (hasI_gone P s.rights q _).2 ⟨k, by omega, rfl, hst'.2, hlk⟩
          | true =>
            cases hh : hasI (goneTo P s.rights q) ((k : Int) + 1) with
            | false => rfl
            | true =>
              obtain ⟨i, _, hi, _, hi2⟩ := (hasI_gone P s.rights q _).1 hh
              have : i = k := by omega
              subst this
              rw [hlk] at hi2; exact hi2
      have h3 := lv_mark hI.ord P hr
      rw [hst'.1] at h3
      simp only [if_true, List.foldl_cons, List.foldl_nil, Bool.true_and]
      unfold eaStep
      simp only [h1, h2]
      rw [h3]
      have hh : (toPH r).h = (q : Int) + 1 := hI.hnd q r hr
      cases P q <;> cases lv (markAt P s.rights) r.frm <;> simp [hh]

theorem endAll_mark {s : RSt} (hI : RInv s) (P : Nat → Bool) (hd : List Int) (hP : ∀ (i : Nat), i < s.rights.length → lv s.rights i = true → hasI hd ((i : Int) + 1) = P i) :
    endAllP (live s.rights) hd = live (markAt P s.rights) := by
  have := fold_mark hI P hd hP s.rights.length (Nat.le_refl _)
  unfold endAllP eaTo
  rw [List.take_length]
  show ((liveTo s.rights s.rights.length).foldl (eaStep hd) ([], [])).1 = _
  rw [this]
  unfold live
  rw [markAt_len]

/-! ### The calls -/

theorem back_eq (rs : List RR) (env fr : Int) (wt : Bool) : owned rs env fr wt = backsP (live rs) env fr wt := by
  rw [Bool.eq_iff_iff, owned_ex]
  unfold backsP
  rw [List.any_eq_true]
  constructor
  · rintro ⟨i, r, hr, hl, he, hf, hw⟩
    refine ⟨toPH r, mem_live.2 ⟨i, r, hr, hl, rfl⟩, ?_⟩
    simp only [backP, toPH, he, hf, beq_self_eq_true, Bool.true_and]
    cases wt
    · simp
    · simp [hw rfl]
  · rintro ⟨x, hx, hb⟩
    obtain ⟨i, r, hr, hl, rfl⟩ := mem_live.1 hx
    simp [backP, toPH] at hb
    exact ⟨i, r, hr, hl, hb.1, hb.2.1, fun hw => by rcases hb.2.2 with h | h; exact h; rw [hw] at h; simp at h⟩
theorem sweep_eq (s : RSt) : (sweepS s).slots = s.slots.map (swP (live s.rights)) := by
  unfold sweepS swP
  simp only
  apply List.map_congr_left
  intro e _
  rw [back_eq]
/-- The program's state ps stands for the document's rs. -/
structure Sim (rs : RSt) (ps : PSt) : Prop where
  ne : ps.envs.length = rs.ne
  al : ∀ (i : Nat) (e : PEnv), ps.envs[i]? = some e → rs.alive[i]? = some e.alive
  kp : ∀ (i : Nat) (e : PEnv), ps.envs[i]? = some e → e.kept = keptB rs i
  km : ∀ (i : Nat) (e : PEnv) (k : KSt), ps.envs[i]? = some e → rs.kept[i]? = some (some k) → KSim rs k e.mem ps.bytes (inOrd k)
  bl : ps.bytes.length = rs.nf
  b4 : ∀ (f : Nat) (l : List Int), ps.bytes[f]? = some l → l.length = 4 ∧ ∀ (j : Nat) (x : Int), l[j]? = some x → 0 ≤ x ∧ x ≤ 255
  by_ : ∀ (i : Nat) (r : RR), rs.rights[i]? = some r → lv rs.rights i = true → keptB rs r.env = false → ps.bytes[r.fr.toNat]? = rs.bytes[r.fr.toNat]?
  hs : ps.hs = live rs.rights
  last : ps.last = rs.rights.length
  sl : ps.slots = rs.slots
  tn : ps.turn = rs.turn
  en : ∀ (i : Nat) (k : KSt) (q : Nat) (x : Ent), rs.kept[i]? = some (some k) → rs.slots[q]? = some x → x.used = true → x.env = i → ∃ p : Nat, x.page = p ∧ (p : Int) ∈ k.inp ∧ x.fr = frameOf rs k p

theorem Lies.fr {s : RSt} {i : Nat} {k : KSt} {p j : Nat} (h : Lies s i k p j) {r : RR} (hr : s.rights[j]? = some r) : frameOf s k p = r.fr := by
  have h1 := h.1
  simp only [Int.toNat_natCast] at h1
  unfold frameOf
  rw [h1]
  simp only [Option.getD_some]
  rw [show ((j : Int) + 1 - 1).toNat = j by omega, hr]; rfl
/-- The rights that there were are to the same frames. -/
def FrKeep (s t : RSt) : Prop := ∀ (i : Nat) (r : RR), s.rights[i]? = some r → ∃ r', t.rights[i]? = some r' ∧ r'.fr = r.fr
theorem FrKeep.same {s t : RSt} (h : t.rights = s.rights) : FrKeep s t := fun i r hr => ⟨r, by rw [h]; exact hr, rfl⟩
theorem FrKeep.add {s t : RSt} {x : RR} (h : t.rights = s.rights ++ [x]) : FrKeep s t := fun i r hr => ⟨r, by rw [h, List.getElem?_append_left (List.getElem?_eq_some_iff.1 hr).1]; exact hr, rfl⟩
theorem FrKeep.mark {s t : RSt} {P : Nat → Bool} (h : t.rights = markAt P s.rights) : FrKeep s t := fun i r hr => ⟨if P i then r.end else r, by rw [h, markAt_get, hr]; rfl, by split <;> rfl⟩
theorem FrKeep.frame {s t : RSt} (hF : FrKeep s t) {i : Nat} {k : KSt} {p j : Nat} (hL : Lies s i k p j) : frameOf t k p = frameOf s k p := by
  obtain ⟨a, r, b, c⟩ := id hL
  obtain ⟨r', d, e⟩ := hF j r b
  rw [hL.fr b, ← e]
  have h1 := hL.1
  simp only [Int.toNat_natCast] at h1
  unfold frameOf
  rw [h1]
  simp only [Option.getD_some]
  rw [show ((j : Int) + 1 - 1).toNat = j by omega, d]; rfl
theorem KSim.congr {s t : RSt} {k : KSt} {pk : PK} {fb fb' : List (List Int)} {l : List Int} (h : KSim s k pk fb l) (hf : ∀ q : Nat, (q : Int) ∈ k.inp → frameOf t k q = frameOf s k q ∧ fb'[(frameOf s k q).toNat]? = fb[(frameOf s k q).toNat]?) : KSim t k pk fb' l := by
  refine ⟨h.qt, h.po, h.cr, h.ci, h.co, h.np, h.inl, fun p g hg => ?_⟩
  obtain ⟨a1, a2, a3, a4, a5⟩ := h.pg p g hg
  refine ⟨a1, a2, a3, fun hm => ?_, a5⟩
  obtain ⟨b1, b2, b3⟩ := a4 hm
  obtain ⟨c1, c2⟩ := hf p hm
  refine ⟨by rw [c1]; exact b1, b2, ?_⟩
  rw [b1, c2, ← b1]; exact b3

section
variable {rs t : RSt} {ps qs : PSt}

/-- The frame of a kept page, and its right. -/
theorem kframe (h : SOk rs) {i : Nat} {k : KSt} (hO : rs.kept[i]? = some (some k)) {p : Nat} (hp : (p : Int) ∈ k.inp) : ∃ (j : Nat) (r : RR), rs.rights[j]? = some r ∧ lv rs.rights j = true ∧ r.env = i ∧ r.frm < 0 ∧ frameOf rs k p = r.fr ∧ Lies rs i k p j := by
  obtain ⟨j, hL⟩ := (h.kok.k1 i k hO).hr p hp
  obtain ⟨a, r, b, c, d, e, f⟩ := id hL
  exact ⟨j, r, b, c, d, e, hL.fr b, hL⟩
theorem kframe_lt (h : SOk rs) {i : Nat} {k : KSt} (hO : rs.kept[i]? = some (some k)) {p : Nat} (hp : (p : Int) ∈ k.inp) : 0 ≤ frameOf rs k p ∧ frameOf rs k p < rs.nf := by
  obtain ⟨j, r, b, c, d, e, f, hL⟩ := kframe h hO hp
  rw [f]; exact h.inv.fr j r b
/-- No right of a raw environment is to the frame of a kept page. -/
theorem kframe_raw (h : SOk rs) {i : Nat} {k : KSt} (hO : rs.kept[i]? = some (some k)) {p : Nat} (hp : (p : Int) ∈ k.inp) {n : Nat} {q : RR} (hq : rs.rights[n]? = some q) (hl : lv rs.rights n = true) (hr : keptB rs q.env = false) : (frameOf rs k p).toNat ≠ q.fr.toNat := by
  obtain ⟨j, r, b, c, d, e, f, hL⟩ := kframe h hO hp
  intro e2
  rw [f] at e2
  have g1 := h.inv.fr j r b
  have g2 := h.inv.fr n q hq
  have : n = j := only_right h hO hp hL b (n + 1) n q (by omega) hq hl (by omega)
  subst this
  rw [b] at hq
  simp only [Option.some.injEq] at hq
  subst hq
  rw [d, keptB_at hO] at hr
  simp at hr
/-- Two kept environments' pages lie in two frames. -/
theorem kframe_kept (h : SOk rs) {i i' : Nat} {k k' : KSt} (hO : rs.kept[i]? = some (some k)) (hO' : rs.kept[i']? = some (some k')) (hne : i ≠ i') {p p' : Nat} (hp : (p : Int) ∈ k.inp) (hp' : (p' : Int) ∈ k'.inp) : (frameOf rs k p).toNat ≠ (frameOf rs k' p').toNat := by
  obtain ⟨j, r, b, c, d, e, f, hL⟩ := kframe h hO hp
  obtain ⟨j', r', b', c', d', e', f', hL'⟩ := kframe h hO' hp'
  intro e2
  rw [f, f'] at e2
  have g1 := h.inv.fr j r b
  have g2 := h.inv.fr j' r' b'
  have : j = j' := h.hin.one j j' r r' b b' c c' e e' (by omega)
  subst this
  rw [b] at b'
  simp only [Option.some.injEq] at b'
  subst b'
  omega
/-- The frame of a kept page is not free. -/
theorem kframe_free (h : SOk rs) {i : Nat} {k : KSt} (hO : rs.kept[i]? = some (some k)) {p : Nat} (hp : (p : Int) ∈ k.inp) {f : Nat} (hf : leastFree rs = some f) : (frameOf rs k p).toNat ≠ f := by
  obtain ⟨j, r, b, c, d, e, g, hL⟩ := kframe h hO hp
  have := freeB_no h.inv (List.find?_some hf) j r b c
  have g1 := h.inv.fr j r b
  rw [g]; omega

theorem Sim.kms (h : Sim rs ps) (hk : SOk rs) (hF : FrKeep rs t) {i : Nat} {e : PEnv} {k : KSt} (he : ps.envs[i]? = some e) (hO : rs.kept[i]? = some (some k)) {fb : List (List Int)}
    (hfb : ∀ p : Nat, (p : Int) ∈ k.inp → fb[(frameOf rs k p).toNat]? = ps.bytes[(frameOf rs k p).toNat]?) : KSim t k e.mem fb (inOrd k) :=
  (h.km i e k he hO).congr (fun q hq => by
    obtain ⟨j, r, _, _, _, _, _, hL⟩ := kframe hk hO hq
    exact ⟨hF.frame hL, hfb q hq⟩)
theorem Sim.ens (h : Sim rs ps) (hk : SOk rs) (hF : FrKeep rs t) {i : Nat} {k : KSt} {q : Nat} {x : Ent} (hO : rs.kept[i]? = some (some k)) (hx : rs.slots[q]? = some x) (hu : x.used = true) (hi : x.env = i) : ∃ p : Nat, x.page = p ∧ (p : Int) ∈ k.inp ∧ x.fr = frameOf t k p := by
  obtain ⟨p, a, b, c⟩ := h.en i k q x hO hx hu hi
  obtain ⟨j, r, _, _, _, _, _, hL⟩ := kframe hk hO b
  exact ⟨p, a, b, by rw [hF.frame hL]; exact c⟩
theorem keptB_same (h : t.kept = rs.kept) (e : Int) : keptB t e = keptB rs e := by unfold keptB keptO; rw [h]

theorem Sim.env (h : Sim rs ps) {i : Nat} (hi : i < rs.ne) : ∃ e, ps.envs[i]? = some e := ⟨ps.envs[i]'(by rw [h.ne]; exact hi), by simp⟩
theorem Sim.alive (h : Sim rs ps) (env : Int) : aliveB rs env = aliveP ps env := by
  unfold aliveB aliveP isEnvP
  rw [h.ne, ← Bool.and_assoc]
  by_cases hr : 0 ≤ env ∧ env < rs.ne
  · obtain ⟨e, he⟩ := h.env (i := env.toNat) (by omega)
    rw [he, h.al _ e he]; rfl
  · have : (decide (0 ≤ env) && decide (env < (rs.ne : Int))) = false := by
      rw [Bool.and_eq_false_iff]
      by_cases h0 : 0 ≤ env
      · right; simpa using fun h => hr ⟨h0, h⟩
      · left; simpa using h0
    rw [this]; rfl
theorem Sim.isEnv (h : Sim rs ps) (env : Int) : isEnvP ps env = (decide (0 ≤ env) && decide (env < rs.ne)) := by unfold isEnvP; rw [h.ne]
theorem Sim.kept (h : Sim rs ps) {env : Int} (ha : aliveB rs env = true) : keptP ps env = keptB rs env := by
  have hr := aliveB_range ha
  obtain ⟨e, he⟩ := h.env (i := env.toNat) (by omega)
  have := h.kp _ e he
  unfold keptP
  rw [he]
  simp only [Option.map_some, Option.getD_some]
  rw [this, show ((env.toNat : Nat) : Int) = env by omega]
theorem Sim.raw (h : Sim rs ps) (env : Int) : rawE rs env = rawP ps env := by
  unfold rawE rawP
  rw [← h.alive]
  cases ha : aliveB rs env with
  | false => rfl
  | true => rw [h.kept ha]
theorem Sim.held (h : Sim rs ps) (env : Int) : heldE rs env = heldP ps env := by
  unfold heldE heldP
  rw [← h.alive]
  cases ha : aliveB rs env with
  | false => rfl
  | true => rw [h.kept ha]
theorem Sim.cnt (h : Sim rs ps) : ps.hs.length = cnt rs.rights := by rw [h.hs, live_len]
theorem Sim.least (h : Sim rs ps) (hk : SOk rs) : leastFreeP ps = if 32 ≤ Go.Proofs.Ytinlkcmdbjcofab.cnt rs.rights then none else leastFree rs := by
  unfold leastFreeP leastFree
  rw [h.cnt, h.bl, h.hs]
  have : (fun f : Nat => freeP (live rs.rights) f) = freeB rs := by funext f; exact (free_eq hk.inv f).symm
  rw [this]
/-- Both find the same right. -/
theorem Sim.right (h : Sim rs ps) (hk : SOk rs) (env hd : Int) :
    (∃ x, rightE rs env hd = (-1, x) ∧ rightP ps env hd = (none, x) ∧ x ≠ 0) ∨
    ∃ (j : Nat) (r : RR), rightE rs env hd = ((j : Int), 0) ∧ rs.rights[j]? = some r ∧ hd = j + 1 ∧ r.env = env ∧ lv rs.rights j = true ∧ aliveB rs env = true ∧ keptB rs env = false ∧ rightP ps env hd = (some (toPH r), 0) := by
  have hraw := h.raw env
  by_cases hr : rawE rs env = 0
  · rw [hr] at hraw
    rcases rightE_cases rs env hd with ⟨x, hx, hx2⟩ | ⟨j, r, hx, hrr, hd1, he, hl, hal⟩
    · left
      have hfn : findP ps.hs env hd = none := by
        rw [h.hs]
        refine findP_none hk.inv (fun i r hri hdi hei => ?_)
        cases hli : lv rs.rights i with
        | false => rfl
        | true =>
          exfalso
          have hi := (List.getElem?_eq_some_iff.1 hri).1
          unfold rightE at hx
          rw [hr] at hx
          have h1 : 1 ≤ hd ∧ hd ≤ rs.rights.length := by omega
          rw [show (hd - 1).toNat = i by omega, show hd - 1 = (i : Int) by omega] at hx
          simp [if_pos h1, hri, hei, hli] at hx
      have hx9 : x = 9 := by
        unfold rightE at hx
        rw [hr] at hx
        simp only [ne_eq, not_true_eq_false, if_false] at hx
        split at hx
        · simpa using hx.symm
        · split at hx
          · simpa using hx.symm
          · split at hx
            · simp at hx; omega
            · simpa using hx.symm
      subst hx9
      exact ⟨9, hx, by simp [rightP, ← hraw, hfn], by omega⟩
    · right
      refine ⟨j, r, hx, hrr, hd1, he, hl, hal, (raw_no hr).2, ?_⟩
      have : findP ps.hs env hd = some (toPH r) := by
        rw [h.hs, hd1]
        exact findP_some hk.inv hrr hl he
      simp [rightP, ← hraw, this]
  · left
    exact ⟨rawE rs env, by simp [rightE, hr], by simp [rightP, ← hraw, hr], hr⟩

/-! ### The calls -/
theorem zero4 : ([0, 0, 0, 0] : List Int).length = 4 ∧ ∀ (j : Nat) (x : Int), ([0, 0, 0, 0] : List Int)[j]? = some x → 0 ≤ x ∧ x ≤ 255 := by
  refine ⟨rfl, fun j x hx => ?_⟩
  match j, hx with
  | 0, hx => simp at hx; omega
  | 1, hx => simp at hx; omega
  | 2, hx => simp at hx; omega
  | 3, hx => simp at hx; omega
theorem set_b4 {bs : List (List Int)} (h : ∀ (f : Nat) (l : List Int), bs[f]? = some l → l.length = 4 ∧ ∀ (j : Nat) (x : Int), l[j]? = some x → 0 ≤ x ∧ x ≤ 255) {g : Nat} {m : List Int} (hm : m.length = 4 ∧ ∀ (j : Nat) (x : Int), m[j]? = some x → 0 ≤ x ∧ x ≤ 255) :
    ∀ (f : Nat) (l : List Int), (bs.set g m)[f]? = some l → l.length = 4 ∧ ∀ (j : Nat) (x : Int), l[j]? = some x → 0 ≤ x ∧ x ≤ 255 := by
  intro f l hl
  rw [List.getElem?_set] at hl
  split at hl
  · split at hl
    · simp only [Option.some.injEq] at hl; subst hl; exact hm
    · simp at hl
  · exact h f l hl
/-- The rights behind a first one is made, or a derived one. -/
theorem live_add {x : RR} (hI : RInv rs) (h1 : -1 ≤ x.frm) (h2 : x.frm < rs.rights.length) (he : x.ended = false) (hl : lv rs.rights x.frm = true) {i : Nat} {r : RR} (hr : (rs.rights ++ [x])[i]? = some r) (hli : lv (rs.rights ++ [x]) i = true) : (rs.rights[i]? = some r ∧ lv rs.rights i = true) ∨ r = x := by
  rcases getApp hr with hr | ⟨_, rfl⟩
  · have := (List.getElem?_eq_some_iff.1 hr).1
    rw [lv_append hI.ord x (by omega)] at hli
    exact .inl ⟨hr, hli⟩
  · exact .inr rfl
/-- A first right of env is made (env raw, or a kept one whose memory turns too: then km, en are to be said anew). -/
theorem Sim.alloc (h : Sim rs ps) (hk : SOk rs) (env : Int) : (allocR rs env).1 = (allocP ps env).1 ∧ Sim (allocR rs env).2 (allocP ps env).2 := by
  have hr := h.raw env
  unfold allocR allocP
  by_cases h0 : rawE rs env = 0
  · obtain ⟨ha, hkb⟩ := raw_no h0
    rw [← hr, h0, h.least hk]
    simp only [ne_eq, not_true_eq_false, if_false]
    unfold firstS
    cases hl : leastFree rs with
    | none => simp only [ite_self]; exact ⟨trivial, h⟩
    | some f =>
      have hflt := leastFree_lt hl
      simp only
      by_cases hc : Go.Proofs.Ytinlkcmdbjcofab.cnt rs.rights < 32
      · rw [if_pos hc, if_neg (by omega)]
        refine ⟨by simp [h.last], ?_⟩
        have hF : FrKeep rs (addR { rs with bytes := rs.bytes.set f [0, 0, 0, 0] } env f true (-1)) := FrKeep.add (x := ⟨rs.rights.length + 1, env, f, true, -1, false⟩) rfl
        refine ⟨h.ne, h.al, fun i e he => h.kp i e he, fun i e k he hO => h.kms hk hF he hO (fun p hp => List.getElem?_set_ne (fun e => kframe_free hk hO hp hl e.symm)), by simpa [giveP, addR] using h.bl, set_b4 h.b4 zero4, ?_, ?_, ?_, h.sl, h.tn, fun i k q x hO hx hu he => h.ens hk hF hO hx hu he⟩
        · intro i r hri hli hraw
          show (ps.bytes.set f [0, 0, 0, 0])[r.fr.toNat]? = (rs.bytes.set f [0, 0, 0, 0])[r.fr.toNat]?
          rcases live_add (x := ⟨rs.rights.length + 1, env, f, true, -1, false⟩) hk.inv (by simp) (by simp; omega) rfl (lv_neg (by simp)) hri hli with ⟨hri, hli⟩ | rfl
          · have hne : f ≠ r.fr.toNat := fun e => freeB_no hk.inv (List.find?_some hl) i r hri hli (by have := hk.inv.fr i r hri; omega)
            rw [List.getElem?_set_ne hne, List.getElem?_set_ne hne]
            exact h.by_ i r hri hli hraw
          · simp only [Int.toNat_natCast]
            rw [List.getElem?_set_self (by rw [h.bl]; exact hflt), List.getElem?_set_self (by rw [hk.fix.by_]; exact hflt)]
        · show addP ps.hs ps.last env f true 0 = live (rs.rights ++ [_])
          rw [live_append hk.inv.ord (by simp) (by simp; omega) rfl (lv_neg (by simp)), h.hs, h.last]
          rfl
        · show ps.last + 1 = _
          rw [h.last]; simp [addR]
      · rw [if_neg hc, if_pos (by omega)]
        exact ⟨rfl, h⟩
  · rw [← hr]
    simp only [ne_eq, h0, not_false_eq_true, if_true]
    exact ⟨trivial, h⟩

theorem Sim.derive (h : Sim rs ps) (hk : SOk rs) (env hd te : Int) (wt : Bool) : (deriveR rs env hd te wt).1 = (deriveP ps env hd te wt).1 ∧ Sim (deriveR rs env hd te wt).2 (deriveP ps env hd te wt).2 := by
  have hrt := h.raw te
  rcases h.right hk env hd with ⟨x, h1, h2, h3⟩ | ⟨j, r, h1, hrr, hd1, he, hl, hal, hkp, h2⟩
  · unfold deriveR deriveP
    rw [h1, h2]
    simp only [ne_eq, h3, not_false_eq_true, if_true]
    exact ⟨trivial, h⟩
  · have hj := (List.getElem?_eq_some_iff.1 hrr).1
    unfold deriveR deriveP
    rw [h1, h2]
    simp only [ne_eq, not_true_eq_false, if_false, Int.toNat_natCast, hrr]
    by_cases ht : rawE rs te = 0
    · rw [← hrt, ht]
      simp only [not_true_eq_false, if_false]
      rw [h.cnt]
      have ew : (toPH r).wr = r.wr := rfl
      rw [ew]
      cases (wt && !r.wr) with
      | true => exact ⟨rfl, h⟩
      | false =>
        simp only [Bool.false_eq_true, if_false]
        by_cases hc : 32 ≤ Go.Proofs.Ytinlkcmdbjcofab.cnt rs.rights
        · rw [if_pos hc, if_pos hc]; exact ⟨rfl, h⟩
        · rw [if_neg hc, if_neg hc]
          refine ⟨by simp [h.last], ?_⟩
          have hF : FrKeep rs (addR rs te r.fr wt j) := FrKeep.add (x := ⟨rs.rights.length + 1, te, r.fr, wt, j, false⟩) rfl
          refine ⟨h.ne, h.al, fun i e he => h.kp i e he, fun i e k he hO => h.kms hk hF he hO (fun p hp => rfl), h.bl, h.b4, ?_, ?_, ?_, h.sl, h.tn, fun i k q x hO hx hu he => h.ens hk hF hO hx hu he⟩
          · intro i r' hri hli hraw
            rcases live_add (x := ⟨rs.rights.length + 1, te, r.fr, wt, j, false⟩) hk.inv (show (-1 : Int) ≤ (j : Int) by omega) (show (j : Int) < (rs.rights.length : Int) by omega) rfl hl hri hli with ⟨hri, hli⟩ | rfl
            · exact h.by_ i r' hri hli hraw
            · exact h.by_ j r hrr hl (by rw [he]; exact hkp)
          · show addP ps.hs ps.last te r.fr wt r.h = live (rs.rights ++ [_])
            rw [live_append hk.inv.ord (show (-1 : Int) ≤ (j : Int) by omega) (show (j : Int) < (rs.rights.length : Int) by omega) rfl hl, h.hs, h.last]
            unfold addP toPH
            simp [hk.inv.hnd j r hrr]
          · show ps.last + 1 = _
            rw [h.last]; simp [addR]
    · rw [← hrt]
      simp only [ht, not_false_eq_true, if_true]
      exact ⟨trivial, h⟩

theorem hasI_hdTo (hs : List PH) (p : PH → Bool) (n : Int) : hasI (hdTo hs p hs.length) n = true ↔ ∃ x, x ∈ hs ∧ p x = true ∧ x.h = n := by
  unfold hasI hdTo
  rw [List.take_length, List.any_eq_true]
  constructor
  · rintro ⟨y, hy, he⟩
    obtain ⟨x, hx, rfl⟩ := List.mem_map.1 hy
    obtain ⟨h1, h2⟩ := List.mem_filter.1 hx
    exact ⟨x, h1, h2, by simpa using he⟩
  · rintro ⟨x, h1, h2, rfl⟩
    exact ⟨x.h, List.mem_map.2 ⟨x, List.mem_filter.2 ⟨h1, h2⟩, rfl⟩, by simp⟩
/-- The handles of those that are alive and of which p holds. -/
theorem Sim.chosen (h : Sim rs ps) (hk : SOk rs) (p : PH → Bool) (i : Nat) (r : RR) (hr : rs.rights[i]? = some r) (hl : lv rs.rights i = true) : hasI (hdTo ps.hs p ps.hs.length) ((i : Int) + 1) = p (toPH r) := by
  rw [Bool.eq_iff_iff, hasI_hdTo, h.hs]
  constructor
  · rintro ⟨x, hx, hp, he⟩
    obtain ⟨k, q, hq, _, rfl⟩ := mem_live.1 hx
    have h1 : q.h = (i : Int) + 1 := he
    have := hk.inv.hnd k q hq
    have : k = i := by omega
    subst this
    rw [hr] at hq
    simp at hq
    subst hq
    exact hp
  · intro hp
    exact ⟨toPH r, mem_live.2 ⟨i, r, hr, hl, rfl⟩, hp, hk.inv.hnd i r hr⟩
/-- What of the entries is left behind rights have ended. -/
theorem sweep_get {s : RSt} {q : Nat} {x : Ent} (hx : (sweepS s).slots[q]? = some x) (hu : x.used = true) : s.slots[q]? = some x := by
  simp only [sweepS, List.getElem?_map] at hx
  cases hy : s.slots[q]? with
  | none => rw [hy] at hx; simp at hx
  | some y =>
    rw [hy] at hx
    simp only [Option.map_some, Option.some.injEq] at hx
    split at hx
    · subst hx; simp [Ent.empty] at hu
    · rw [hx]
theorem Sim.ends (h : Sim rs ps) (hk : SOk rs) (P : Nat → Bool) (hd : List Int) (hP : ∀ (i : Nat), i < rs.rights.length → lv rs.rights i = true → hasI hd ((i : Int) + 1) = P i) :
    Sim (sweepS { rs with rights := markAt P rs.rights }) (endP ps (endAllP ps.hs hd)) := by
  have hE : endAllP ps.hs hd = live (markAt P rs.rights) := by rw [h.hs]; exact endAll_mark hk.inv P hd hP
  have hF : FrKeep rs (sweepS { rs with rights := markAt P rs.rights }) := FrKeep.mark (P := P) rfl
  refine ⟨h.ne, h.al, fun i e he => h.kp i e he, fun i e k he hO => h.kms hk hF he hO (fun p hp => rfl), h.bl, h.b4, ?_, hE, ?_, ?_, h.tn, fun i k q x hO hx hu he => h.ens hk hF hO (sweep_get (s := { rs with rights := markAt P rs.rights }) hx hu) hu he⟩
  · intro i r hri hli hraw
    have hri' : (markAt P rs.rights)[i]? = some r := hri
    rw [markAt_get] at hri'
    cases hx : rs.rights[i]? with
    | none => rw [hx] at hri'; simp at hri'
    | some x =>
      have hjl := (List.getElem?_eq_some_iff.1 hx).1
      have hlx := lv_mark_le hk.inv.ord P (i + 1) i (by omega) (by omega) hli
      rw [hx] at hri'
      simp only [Option.map_some, Option.some.injEq] at hri'
      have hxe : x.env = r.env := by rw [← hri']; split <;> rfl
      have hxf : x.fr = r.fr := by rw [← hri']; split <;> rfl
      have := h.by_ i x hx hlx (by rw [hxe]; exact hraw)
      rw [hxf] at this
      exact this
  · show ps.last = ((markAt P rs.rights).length : Int)
    rw [markAt_len]; exact h.last
  · show ps.slots.map (swP (endAllP ps.hs hd)) = (sweepS { rs with rights := markAt P rs.rights }).slots
    rw [sweep_eq, h.sl, hE]
theorem Sim.revoke (h : Sim rs ps) (hk : SOk rs) (env hd : Int) : (revokeR rs env hd).1 = (revokeP ps env hd).1 ∧ Sim (revokeR rs env hd).2 (revokeP ps env hd).2 := by
  rcases h.right hk env hd with ⟨x, h1, h2, h3⟩ | ⟨j, r, h1, hrr, hd1, he, hl, hal, hkp, h2⟩
  · unfold revokeR revokeP
    rw [h1, h2]
    simp only [ne_eq, h3, not_false_eq_true, if_true]
    exact ⟨trivial, h⟩
  · unfold revokeR revokeP
    rw [h1, h2]
    simp only [ne_eq, not_true_eq_false, if_false]
    refine ⟨trivial, ?_⟩
    unfold endIf
    rw [mark_map]
    exact h.ends hk (fun i => (rs.rights[i]?.map fun r => r.frm == (j : Int)).getD false) (hdTo ps.hs (fun x => x.par == (toPH r).h) ps.hs.length) (fun i hi hli => by
      obtain ⟨q, hq⟩ : ∃ q, rs.rights[i]? = some q := ⟨rs.rights[i], by simp⟩
      rw [h.chosen hk _ i q hq hli, hq]
      show (q.frm + 1 == r.h) = _
      rw [hk.inv.hnd j r hrr, Bool.eq_iff_iff]
      simp)
theorem Sim.drop (h : Sim rs ps) (hk : SOk rs) (env hd : Int) : (dropR rs env hd).1 = (dropP ps env hd).1 ∧ Sim (dropR rs env hd).2 (dropP ps env hd).2 := by
  rcases h.right hk env hd with ⟨x, h1, h2, h3⟩ | ⟨j, r, h1, hrr, hd1, he, hl, hal, hkp, h2⟩
  · unfold dropR dropP
    rw [h1, h2]
    simp only [ne_eq, h3, not_false_eq_true, if_true]
    exact ⟨trivial, h⟩
  · unfold dropR dropP
    rw [h1, h2]
    simp only [ne_eq, not_true_eq_false, if_false, Int.toNat_natCast, hrr]
    refine ⟨trivial, ?_⟩
    rw [mark_set _ _ _ hrr]
    exact h.ends hk (fun i => i == j) [(toPH r).h] (fun i hi hli => by
      show hasI [r.h] _ = _
      rw [hk.inv.hnd j r hrr, Bool.eq_iff_iff]
      simp [hasI]
      omega)
theorem Sim.kill (h : Sim rs ps) (hk : SOk rs) (env : Int) : (killR rs env).1 = (killP ps env).1 ∧ Sim (killR rs env).2 (killP ps env).2 := by
  unfold killR killP
  rw [← h.alive]
  cases hal : aliveB rs env with
  | false => exact ⟨rfl, h⟩
  | true =>
    simp only [if_true]
    refine ⟨trivial, ?_⟩
    have hrg := aliveB_range hal
    obtain ⟨v, rfl⟩ : ∃ v : Nat, env = v := ⟨env.toNat, by omega⟩
    have hE := h.ends hk (fun i => (rs.rights[i]?.map fun r => r.env == (v : Int)).getD false) (hdTo ps.hs (fun x => x.env == (v : Int)) ps.hs.length) (fun i hi hli => by
      obtain ⟨q, hq⟩ : ∃ q, rs.rights[i]? = some q := ⟨rs.rights[i], by simp⟩
      rw [h.chosen hk _ i q hq hli, hq]
      rfl)
    unfold endIf
    rw [mark_map]
    simp only [Int.toNat_natCast]
    have hlv : v < ps.envs.length := by rw [h.ne]; omega
    have hlk : v < rs.kept.length := by rw [hk.kok.klen]; omega
    have hla : v < rs.alive.length := by rw [hk.fix.al]; omega
    have hkb : ∀ i : Nat, i ≠ v → keptB (sweepS { rs with rights := markAt (fun i => (rs.rights[i]?.map fun r => r.env == (v : Int)).getD false) rs.rights, alive := rs.alive.set v false, kept := rs.kept.set v none }) i = keptB rs i := fun i hi => by
      show ((((rs.kept.set v none)[(i : Int).toNat]?).getD none).isSome) = _
      simp only [Int.toNat_natCast]
      rw [List.getElem?_set_ne (fun e => hi e.symm)]
      unfold keptB keptO; simp
    have hkget : ∀ {i : Nat} {k : KSt}, (rs.kept.set v none)[i]? = some (some k) → i ≠ v ∧ rs.kept[i]? = some (some k) := fun {i k} hi => by
      rw [List.getElem?_set] at hi
      split at hi
      · simp at hi
      · rename_i hne; exact ⟨fun e => hne e.symm, hi⟩
    refine ⟨by show (ps.envs.set v _).length = _; rw [List.length_set]; exact h.ne, ?_, ?_, ?_, hE.bl, hE.b4, ?_, hE.hs, hE.last, hE.sl, hE.tn, ?_⟩
    · intro i e he
      have he' : (ps.envs.set v ⟨false, false, PK.none⟩)[i]? = some e := he
      show (rs.alive.set v false)[i]? = _
      rw [List.getElem?_set] at he' ⊢
      split at he'
      · rename_i hvi
        simp only [Option.some.injEq] at he'
        subst he' hvi
        rw [if_pos rfl, if_pos hla]
      · rename_i hvi
        rw [if_neg hvi]
        exact h.al i e he'
    · intro i e he
      have he' : (ps.envs.set v ⟨false, false, PK.none⟩)[i]? = some e := he
      rw [List.getElem?_set] at he'
      split at he'
      · rename_i hvi
        simp only [Option.some.injEq] at he'
        subst he' hvi
        show false = ((((rs.kept.set v none)[(v : Int).toNat]?).getD none).isSome)
        simp only [Int.toNat_natCast]
        rw [List.getElem?_set_self hlk]; rfl
      · rename_i hvi
        rw [hkb i (fun e => hvi e.symm)]
        exact h.kp i e he'
    · intro i e k he hO
      obtain ⟨hne, hO'⟩ := hkget hO
      have he' : (ps.envs.set v ⟨false, false, PK.none⟩)[i]? = some e := he
      rw [List.getElem?_set_ne (fun e => hne e.symm)] at he'
      exact (hE.km i e k he' hO').congr (fun q hq => ⟨rfl, rfl⟩)
    · intro i r hri hli hraw
      by_cases hv : r.env = (v : Int)
      · exfalso
        have hri' : (markAt (fun i => (rs.rights[i]?.map fun r => r.env == (v : Int)).getD false) rs.rights)[i]? = some r := hri
        rw [markAt_get] at hri'
        cases hx : rs.rights[i]? with
        | none => rw [hx] at hri'; simp at hri'
        | some x =>
          rw [hx] at hri'
          simp only [Option.map_some, Option.some.injEq, Option.getD_some] at hri'
          have hxe : x.env = r.env := by rw [← hri']; split <;> rfl
          have hli' : lv (markAt (fun i => (rs.rights[i]?.map fun r => r.env == (v : Int)).getD false) rs.rights) i = true := hli
          rw [lv_mark hk.inv.ord _ hx] at hli'
          simp [hx, hxe, hv] at hli'
      · have hre : 0 ≤ r.env := by
          have hri2 : (markAt (fun i => (rs.rights[i]?.map fun r => r.env == (v : Int)).getD false) rs.rights)[i]? = some r := hri
          exact ((hk.inv.mark (fun i => (rs.rights[i]?.map fun r => r.env == (v : Int)).getD false)).env i r hri2).1
        refine hE.by_ i r hri hli ?_
        have := hkb r.env.toNat (by omega)
        rw [show ((r.env.toNat : Nat) : Int) = r.env by omega] at this
        rw [this] at hraw
        exact hraw
    · intro i k q x hO hx hu he
      obtain ⟨hne, hO'⟩ := hkget hO
      exact hE.en i k q x hO' hx hu he
theorem Sim.spawn (h : Sim rs ps) (hk : SOk rs) (env : Int) : (spawnR rs env).1 = (spawnP ps env).1 ∧ Sim (spawnR rs env).2 (spawnP ps env).2 := by
  unfold spawnR spawnP
  rw [← h.alive, h.isEnv]
  by_cases h1 : env < 0 ∨ rs.ne ≤ env
  · have : (decide (0 ≤ env) && decide (env < (rs.ne : Int))) = false := by simp; omega
    rw [if_pos h1, this]
    exact ⟨rfl, h⟩
  · have : (decide (0 ≤ env) && decide (env < (rs.ne : Int))) = true := by simp; omega
    rw [if_neg h1, this]
    simp only [if_true]
    cases hal : aliveB rs env with
    | true => exact ⟨rfl, h⟩
    | false =>
      simp only [Bool.false_eq_true, if_false]
      refine ⟨trivial, ?_⟩
      obtain ⟨v, rfl⟩ : ∃ v : Nat, env = v := ⟨env.toNat, by omega⟩
      simp only [Int.toNat_natCast]
      have hlv : v < ps.envs.length := by rw [h.ne]; omega
      have hla : v < rs.alive.length := by rw [hk.fix.al]; omega
      have hno : ∀ k, rs.kept[v]? ≠ some (some k) := fun k hO => by
        have := (hk.kok.k1 v k hO).alv
        rw [hal] at this; simp at this
      refine ⟨by show (ps.envs.set v _).length = _; rw [List.length_set]; exact h.ne, ?_, ?_, ?_, h.bl, h.b4, h.by_, h.hs, h.last, h.sl, h.tn, h.en⟩
      · intro i e he
        have he' : (ps.envs.set v ⟨true, false, PK.none⟩)[i]? = some e := he
        show (rs.alive.set v true)[i]? = _
        rw [List.getElem?_set] at he' ⊢
        split at he'
        · rename_i hvi
          simp only [Option.some.injEq] at he'
          subst he' hvi
          rw [if_pos rfl, if_pos hla]
        · rename_i hvi
          rw [if_neg hvi]
          exact h.al i e he'
      · intro i e he
        have he' : (ps.envs.set v ⟨true, false, PK.none⟩)[i]? = some e := he
        rw [List.getElem?_set] at he'
        split at he'
        · rename_i hvi
          simp only [Option.some.injEq] at he'
          subst he' hvi
          show false = keptB rs v
          unfold keptB keptO
          simp only [Int.toNat_natCast]
          cases hx : rs.kept[v]? with
          | none => rfl
          | some o =>
            cases o with
            | none => rfl
            | some k => exact absurd hx (hno k)
        · exact h.kp i e he'
      · intro i e k he hO
        have hne : i ≠ v := fun e => hno k (by rw [← e]; exact hO)
        have he' : (ps.envs.set v ⟨true, false, PK.none⟩)[i]? = some e := he
        rw [List.getElem?_set_ne (fun e => hne e.symm)] at he'
        exact (h.km i e k he' hO).congr (fun q hq => ⟨rfl, rfl⟩)

/-- What Rights tells. -/
theorem Sim.list (h : Sim rs ps) (env : Int) : ofP ps.hs env = (listR rs env).map toPH := by
  rw [h.hs]
  unfold ofP live listR
  have : ∀ q, q ≤ rs.rights.length → (liveTo rs.rights q).filter (fun x => x.env == env) = (listTo rs env q).map toPH := by
    intro q
    induction q with
    | zero => intro _; rfl
    | succ q ih =>
      intro hq
      obtain ⟨r, hr⟩ : ∃ r, rs.rights[q]? = some r := ⟨rs.rights[q], by simp⟩
      rw [liveTo_succ hr, listTo_succ rs env q r hr, List.filter_append, List.map_append, ih (by omega)]
      congr 1
      cases lv rs.rights q with
      | false => rfl
      | true =>
        simp only [if_true, Bool.true_and]
        have : (toPH r).env = r.env := rfl
        cases he : (r.env == env) <;> simp [this, he]
  exact this _ (Nat.le_refl _)
end
end Go.Proofs.Ytinlkcmdbjcofab
