import Derived.Test.YtinlkcmdbjcofaaM11
/-
  The program's machine: Squeeze.
-/
namespace Go.Proofs.Ytinlkcmdbjcofaa
open Go.RowKit
set_option linter.unusedVariables false
attribute [local go_sem ↓] Go.wp_at_zero Go.wp_at_succ

def quotaOk (v : Int) : Bool := decide (1 ≤ v) && decide (v ≤ 16)
set_option maxHeartbeats 1000000 in
set_option maxRecDepth 100000 in
theorem isQuota_any (v : Int) (w : World) : Calls Try.prog 70 #[.int .i64 v] w fun e w' => e = .returned (.bool (quotaOk v)) ∧ w' = w := by
  by_cases h1 : 1 ≤ v
  · have HE : Hid (quotaOk v = decide (v ≤ 16)) := by simp [Hid, quotaOk, h1]
    go_enter Try.func70, Try.ntmps70
    go_wp2_with fail
    go_ret
    exact ⟨ret_bool (by rw [HE.out]), rfl⟩
  · have HE : Hid (quotaOk v = false) := by simp [Hid, quotaOk]; omega
    go_enter Try.func70, Try.ntmps70
    go_wp2_with fail
    go_ret
    exact ⟨ret_bool (by rw [HE.out]), rfl⟩

/-- A page goes out, and its frame becomes free. -/
def upP (s : PSt) (j : Nat) : PSt := match s.envs[j]? with
  | none => s
  | some e => match e.mem.pages[(chosen e.mem.policy e.mem.inl).toNat]? with
    | none => s
    | some g => { outP s j e (chosen e.mem.policy e.mem.inl).toNat (s.bytes[g.frame.toNat]?.getD []) with hs := notP s.hs g.frame }
def upN : Nat → PSt → Nat → PSt
  | 0, s, _ => s
  | n + 1, s, j => upP (upN n s j) j
/-- What giveUp asks. -/
def UpOk (s : PSt) (j : Nat) : Prop := PWf s ∧ ∃ (e : PEnv) (q f : Nat) (g : PG) (l : List Int), s.envs[j]? = some e ∧ MWf s.bytes.length e.mem ∧ 0 < e.mem.inl.length ∧ chosen e.mem.policy e.mem.inl = q ∧ q < 16 ∧ e.mem.pages[q]? = some g ∧ g.frame = f ∧ s.bytes[f]? = some l

section
variable {own : Nat → Nat × Nat} {id : Nat} {w : World} {p : Nat} {s s1 : PSt} {gE : Nat} {vF vL vT : Value} {L : List (PEnv × Value)}

set_option maxHeartbeats 4000000 in
set_option maxRecDepth 100000 in
theorem giveUp_any (h : PRep own id w p s gE vF vL vT L) {j : Nat} (hok : UpOk s j) :
    Calls Try.prog 77 #[.pointer (some ⟨p, 0, none⟩), .int .i64 j] w fun e' w' => e' = .returned (.tuple #[]) ∧ PNext own id w p w' (upP s j) := by
  obtain ⟨hw, e, q, f, g, l, he, hm, h0, hq, hq16, hg, hf, hl⟩ := hok
  have HP : Hid (upP s j = { outP s j e q l with hs := notP s.hs f }) := by
    unfold Hid upP
    rw [he]
    simp only [hq, Int.toNat_natCast, hg, hf, hl, Option.getD_some]
  have hsz := hw.size
  go_enter Try.func77, Try.ntmps77
  go_wp2_with fail
  refine (putOut_any h hw he hm h0 hq hq16 hg hf hl).mono ?_
  rintro e1 w1 ⟨rfl, own1, gE1, vF1, vL1, vT1, L1, h1, ho1, ht1⟩
  go_wp2_with fail
  refine (endFirst_any h1.st hsz f).mono ?_
  rintro e2 w2 ⟨rfl, hn⟩
  have hn2 := h1.next hn
  go_wp2_with fail
  go_end0
  refine ⟨rfl, ?_⟩
  rw [HP.out]
  exact PNext.then ho1 ht1 hn2

set_option maxHeartbeats 4000000 in
set_option maxRecDepth 100000 in
theorem psqueeze_no (h : PRep own id w p s gE vF vL vT L) (hw : PWf s) (env q : Int) (hx : heldP s env ≠ 0) :
    Calls Try.prog 62 #[.pointer (some ⟨p, 0, none⟩), .int .i64 env, .int .i64 q] w fun e w' => e = .returned (.int .i64 (heldP s env)) ∧ w' = w := by
  obtain ⟨x, hxv⟩ : ∃ x, heldP s env = x := ⟨_, rfl⟩
  have HR : Hid (heldP s env = x) := hxv
  rw [hxv] at hx ⊢
  have hx0 : (x != 0) = true := by simpa using hx
  clear hx hxv
  go_enter Try.func62, Try.ntmps62
  go_wp2_with fail
  refine (needKept_any h hw env).mono ?_
  rintro e w2 ⟨rfl, hw2⟩
  subst hw2
  rw [HR.out]
  go_wp2_with fail
  go_ret
  exact ⟨rfl, rfl⟩
set_option maxHeartbeats 4000000 in
set_option maxRecDepth 100000 in
theorem psqueeze_arg (h : PRep own id w p s gE vF vL vT L) (hw : PWf s) (env q : Int) (hx : heldP s env = 0) (hq : quotaOk q = false) :
    Calls Try.prog 62 #[.pointer (some ⟨p, 0, none⟩), .int .i64 env, .int .i64 q] w fun e w' => e = .returned (.int .i64 6) ∧ w' = w := by
  have HR : Hid (heldP s env = 0) := hx
  have HQ : Hid (quotaOk q = false) := hq
  clear hx hq
  go_enter Try.func62, Try.ntmps62
  go_wp2_with fail
  refine (needKept_any h hw env).mono ?_
  rintro e w2 ⟨rfl, hw2⟩
  subst hw2
  rw [HR.out]
  go_wp2_with fail
  refine (isQuota_any q _).mono ?_
  rintro e w2 ⟨rfl, hw2⟩
  subst hw2
  rw [HQ.out]
  go_wp2_with fail
  go_ret
  exact ⟨rfl, rfl⟩
set_option maxHeartbeats 4000000 in
set_option maxRecDepth 100000 in
theorem psqueeze_yes (h : PRep own id w p s gE vF vL vT L) (hw : PWf s) {j : Nat} {e : PEnv} (he : s.envs[j]? = some e) (hm : MWf s.bytes.length e.mem) (q : Int) (hx : heldP s j = 0) (hq : quotaOk q = true) {n : Nat} (hn : n = ((e.mem.inl.length : Int) - q).toNat)
    (hok : ∀ i, i < n → UpOk (upN i (setM s j e { e.mem with quota := q }) j) j) :
    Calls Try.prog 62 #[.pointer (some ⟨p, 0, none⟩), .int .i64 j, .int .i64 q] w fun e' w' => e' = .returned (.int .i64 0) ∧ PNext own id w p w' (upN n (setM s j e { e.mem with quota := q }) j) := by
  have HR : Hid (heldP s j = 0) := hx
  have HQ : Hid (quotaOk q = true) := hq
  have hq2 : 1 ≤ q ∧ q ≤ 16 := by simpa [quotaOk] using hq
  obtain ⟨hq0, hq16⟩ := hq2
  have hj := (List.getElem?_eq_some_iff.1 he).1
  have hlj : (j : Int) < (s.envs.length : Int) := by omega
  obtain ⟨v, hv⟩ := h.pair he
  have k1 := h.c0
  have hM := h.mem hv
  have hnl := hm.nl
  obtain ⟨bd, hbd⟩ : ∃ bd, (e.mem.inl.length : Int) - q = bd := ⟨_, rfl⟩
  have hbd1 : bd ≤ 16 := by omega
  have HBD : Hid ((e.mem.inl.length : Int) - q = bd) := hbd
  rw [hbd] at hn
  have hn16 : n ≤ 16 := by omega
  obtain ⟨S0, HS0⟩ : ∃ S0, Hid (setM s j e { e.mem with quota := q } = S0) := ⟨_, rfl⟩
  rw [HS0.out] at hok ⊢
  have HOK : Hid (∀ i, i < n → UpOk (upN i S0 j) j) := hok
  have HN : Hid (n = bd.toNat) := hn
  clear hx hq hbd hok hn
  go_enter Try.func62, Try.ntmps62
  go_wp2_with fail
  refine (needKept_any h hw j).mono ?_
  rintro e1 w2 ⟨rfl, hw2⟩
  subst hw2
  rw [HR.out]
  go_wp2_with fail
  refine (isQuota_any q _).mono ?_
  rintro e1 w2 ⟨rfl, hw2⟩
  subst hw2
  rw [HQ.out]
  go_wp2_with fail
  refine (setQuota_any hM hnl q (by omega) hq16).mono ?_
  rintro e2 w3 ⟨rfl, hn3⟩
  have hN3 := h.memNext hv hn3
  have hN3' : PNext own id w2 p w3 S0 := by rw [← HS0.out]; exact hN3
  rw [HBD.out]
  clear hN3 hn3 hM k1
  go_wp2_with fail
  go_loopg [9] n (fun m x wr => ∃ i : Nat, x = .int .i64 i ∧ i + m = n ∧ PNext own id w2 p wr (upN i S0 j))
  case atStart => exact ⟨0, rfl, by omega, hN3'⟩
  case round =>
    obtain ⟨i, rfl, hk, hP⟩ := hrel
    have HK : Hid (i + gk = n) := hk
    have hi : i ≤ n := by omega
    clear hk
    by_cases hlt : i < n
    · have hg : (i : Int) < bd := by have := HN.out; omega
      obtain ⟨own4, gE4, vF4, vL4, vT4, L4, h4, ho4, ht4⟩ := hP
      have hu := HOK.out i hlt
      go_wp2_with fail
      refine (giveUp_any h4 hu).mono ?_
      rintro e5 w5 ⟨rfl, hn5⟩
      have hn6 := PNext.then ho4 ht4 hn5
      go_wp2_with fail
      go_roundg (gk - 1)
      case measure => have := HK.out; omega
      case rel => exact ⟨i + 1, by go_num, by have := HK.out; omega, hn6⟩
    · have hg : ¬ (i : Int) < bd := by have := HN.out; omega
      have hin : i = n := by omega
      rw [hin] at hP
      clear hin
      go_wp2_with fail
      go_ret
      exact ⟨rfl, hP⟩
end
end Go.Proofs.Ytinlkcmdbjcofaa

/-
  The program's machine: Keep.
-/
namespace Go.Proofs.Ytinlkcmdbjcofaa
open Go.RowKit
set_option linter.unusedVariables false
attribute [local go_sem ↓] Go.wp_at_zero Go.wp_at_succ

def policyOk (v : Int) : Bool := v == 0 || (v == 1 || v == 2)
set_option maxHeartbeats 1000000 in
set_option maxRecDepth 100000 in
theorem isPolicy_any (v : Int) (w : World) : Calls Try.prog 71 #[.int .i64 v] w fun e w' => e = .returned (.bool (policyOk v)) ∧ w' = w := by
  cases h0 : (v == 0)
  · cases h1 : (v == 1)
    · have HE : Hid (policyOk v = (v == 2)) := by simp [Hid, policyOk, h0, h1]
      go_enter Try.func71, Try.ntmps71
      go_wp2_with fail
      go_ret
      exact ⟨ret_bool (by rw [HE.out]), rfl⟩
    · have HE : Hid (policyOk v = true) := by simp [Hid, policyOk, h0, h1]
      go_enter Try.func71, Try.ntmps71
      go_wp2_with fail
      go_ret
      exact ⟨ret_bool (by rw [HE.out]), rfl⟩
  · have HE : Hid (policyOk v = true) := by simp [Hid, policyOk, h0]
    go_enter Try.func71, Try.ntmps71
    go_wp2_with fail
    go_ret
    exact ⟨ret_bool (by rw [HE.out]), rfl⟩

section
variable {own : Nat → Nat × Nat} {id : Nat} {w : World} {p : Nat} {s s1 : PSt} {gE : Nat} {vF vL vT : Value} {L : List (PEnv × Value)}

theorem PRep.setKept (h : PRep own id w p s gE vF vL vT L) {j : Nat} {e : PEnv} {v : Value} (he : L[j]? = some (e, v)) :
    PRep own id (w.setCell ⟨gE, j * 136 + 1, none⟩ (.bool true)) p { s with envs := s.envs.set j { e with kept := true } } gE vF vL vT (L.set j ({ e with kept := true }, v)) := by
  have hj := (List.getElem?_eq_some_iff.1 he).1
  have hl := flat_length ecells 136 ecells_len L
  obtain ⟨r1, r2⟩ := h.rI j e v he
  refine h.envd (x := ({ e with kept := true }, v)) hj (fun _ _ => rfl) (fun b hb h1 h2 => Below.heap_setCell _ _ _ _ (fun e2 => h1 (by simp at e2; rw [e2]; exact h.tE))) ?_ ⟨r1.other _ (fun e2 => by have := r2 _ e2; simp at this; rw [h.tE] at this; simp at this; omega), r2⟩
  have e1 : (L.flatMap ecells).set (j * 136 + 1) (.bool true) = (L.set j ({ e with kept := true }, v)).flatMap ecells := by
    apply List.ext_getElem?
    intro q
    rw [List.getElem?_set, flat_at ecells 136 (by omega) ecells_len, flat_at ecells 136 (by omega) ecells_len, List.getElem?_set]
    by_cases h2 : j = q / 136
    · rw [if_pos h2, if_pos hj, ← h2, he]
      show _ = (ecells ({ e with kept := true }, v))[q % 136]?
      by_cases h1 : j * 136 + 1 = q
      · rw [if_pos h1, if_pos (by rw [hl]; omega), show q % 136 = 1 by omega]; rfl
      · rw [if_neg h1]
        show (ecells (e, v))[q % 136]? = _
        by_cases h3 : q % 136 = 0
        · rw [h3]; rfl
        · obtain ⟨m, hm⟩ : ∃ m, q % 136 = m + 1 + 1 := ⟨q % 136 - 2, by omega⟩
          rw [hm]; rfl
    · rw [if_neg h2, if_neg (by omega)]
  rw [← e1]
  exact h.bE.set _ _
theorem PRep.setMem (h : PRep own id w p s gE vF vL vT L) {j : Nat} {e : PEnv} {v : Value} (he : L[j]? = some (e, v)) (k' : PK) (hk : k'.inl = []) :
    PRep own id (w.setCells gE (j * 136 + 2) (k'.cells (.slice none 0 0))) p { s with envs := s.envs.set j { e with mem := k' } } gE vF vL vT (L.set j ({ e with mem := k' }, .slice none 0 0)) := by
  have hj := (List.getElem?_eq_some_iff.1 he).1
  have hl := flat_length ecells 136 ecells_len L
  refine h.envd (x := ({ e with mem := k' }, .slice none 0 0)) hj (fun _ _ => rfl) (fun b hb h1 h2 => heap_setCells gE b (fun e => h1 (by rw [e]; exact h.tE)) _ _ _) ?_ ⟨?_, Tg.nil _ _⟩
  · rw [← mem_lay he]
    exact h.bE.setCells _ _ (by rw [PK.cells_len, hl]; omega)
  · show Row _ _ _ _ k'.inl.length (k'.inl.map _)
    rw [hk]
    exact Row.nil _ _ _

set_option maxHeartbeats 4000000 in
set_option maxRecDepth 100000 in
theorem pkeep_no (h : PRep own id w p s gE vF vL vT L) (hw : PWf s) (env q pol : Int) (hx : rawP s env ≠ 0) :
    Calls Try.prog 54 #[.pointer (some ⟨p, 0, none⟩), .int .i64 env, .int .i64 q, .int .i64 pol] w fun e w' => e = .returned (.int .i64 (rawP s env)) ∧ w' = w := by
  obtain ⟨x, hxv⟩ : ∃ x, rawP s env = x := ⟨_, rfl⟩
  have HR : Hid (rawP s env = x) := hxv
  rw [hxv] at hx ⊢
  have hx0 : (x != 0) = true := by simpa using hx
  clear hx hxv
  go_enter Try.func54, Try.ntmps54
  go_wp2_with fail
  refine (needRaw_any h hw env).mono ?_
  rintro e w2 ⟨rfl, hw2⟩
  subst hw2
  rw [HR.out]
  go_wp2_with fail
  go_ret
  exact ⟨rfl, rfl⟩
set_option maxHeartbeats 4000000 in
set_option maxRecDepth 100000 in
theorem pkeep_arg (h : PRep own id w p s gE vF vL vT L) (hw : PWf s) (env q pol : Int) (hx : rawP s env = 0) (hq : (quotaOk q && policyOk pol) = false) :
    Calls Try.prog 54 #[.pointer (some ⟨p, 0, none⟩), .int .i64 env, .int .i64 q, .int .i64 pol] w fun e w' => e = .returned (.int .i64 6) ∧ w' = w := by
  have HR : Hid (rawP s env = 0) := hx
  clear hx
  cases hq1 : quotaOk q
  · have HQ : Hid (quotaOk q = false) := hq1
    clear hq hq1
    go_enter Try.func54, Try.ntmps54
    go_wp2_with fail
    refine (needRaw_any h hw env).mono ?_
    rintro e w2 ⟨rfl, hw2⟩
    subst hw2
    rw [HR.out]
    go_wp2_with fail
    refine (isQuota_any q _).mono ?_
    rintro e w2 ⟨rfl, hw2⟩
    subst hw2
    rw [HQ.out]
    go_wp2_with fail
    go_ret
    exact ⟨rfl, rfl⟩
  · have HQ : Hid (quotaOk q = true) := hq1
    have HP : Hid (policyOk pol = false) := by rw [hq1] at hq; simpa [Hid] using hq
    clear hq hq1
    go_enter Try.func54, Try.ntmps54
    go_wp2_with fail
    refine (needRaw_any h hw env).mono ?_
    rintro e w2 ⟨rfl, hw2⟩
    subst hw2
    rw [HR.out]
    go_wp2_with fail
    refine (isQuota_any q _).mono ?_
    rintro e w2 ⟨rfl, hw2⟩
    subst hw2
    rw [HQ.out]
    go_wp2_with fail
    refine (isPolicy_any pol _).mono ?_
    rintro e w2 ⟨rfl, hw2⟩
    subst hw2
    rw [HP.out]
    go_wp2_with fail
    go_ret
    exact ⟨rfl, rfl⟩
set_option maxHeartbeats 4000000 in
set_option maxRecDepth 100000 in
theorem pkeep_held (h : PRep own id w p s gE vF vL vT L) (hw : PWf s) (env q pol : Int) (hx : rawP s env = 0) (hq : quotaOk q = true) (hp : policyOk pol = true) (h0 : 0 < (ofP s.hs env).length) :
    Calls Try.prog 54 #[.pointer (some ⟨p, 0, none⟩), .int .i64 env, .int .i64 q, .int .i64 pol] w fun e w' => e = .returned (.int .i64 15) ∧ Below w.heap.size w w' := by
  have HR : Hid (rawP s env = 0) := hx
  have HQ : Hid (quotaOk q = true) := hq
  have HP : Hid (policyOk pol = true) := hp
  have hsz := hw.size
  clear hx hq hp
  go_enter Try.func54, Try.ntmps54
  go_wp2_with fail
  refine (needRaw_any h hw env).mono ?_
  rintro e w2 ⟨rfl, hw2⟩
  subst hw2
  rw [HR.out]
  go_wp2_with fail
  refine (isQuota_any q _).mono ?_
  rintro e w2 ⟨rfl, hw2⟩
  subst hw2
  rw [HQ.out]
  go_wp2_with fail
  refine (isPolicy_any pol _).mono ?_
  rintro e w2 ⟨rfl, hw2⟩
  subst hw2
  rw [HP.out]
  go_wp2_with fail
  refine (of_any h.st hsz env).mono ?_
  rintro e w3 ⟨v, rfl, hb3, hrow, hnew⟩
  obtain ⟨ao, cap, hv, _⟩ := hrow.shape
  subst hv
  have hgt : (0 : Int) < ((ofP s.hs env).length : Int) := by omega
  go_wp2_with fail
  go_ret
  exact ⟨rfl, hb3⟩
set_option maxHeartbeats 4000000 in
set_option maxRecDepth 100000 in
theorem pkeep_yes (h : PRep own id w p s gE vF vL vT L) (hw : PWf s) {j : Nat} {x : PEnv} (he : s.envs[j]? = some x) (q pol : Int) (hx : rawP s j = 0) (hq : quotaOk q = true) (hp : policyOk pol = true) (h0 : (ofP s.hs j).length = 0) :
    Calls Try.prog 54 #[.pointer (some ⟨p, 0, none⟩), .int .i64 j, .int .i64 q, .int .i64 pol] w fun e w' => e = .returned (.int .i64 0) ∧ PNext own id w p w' { s with envs := s.envs.set j ⟨x.alive, true, PK.new q pol⟩ } := by
  have HR : Hid (rawP s j = 0) := hx
  have HQ : Hid (quotaOk q = true) := hq
  have HP : Hid (policyOk pol = true) := hp
  have hsz := hw.size
  have hj := (List.getElem?_eq_some_iff.1 he).1
  have hlj : (j : Int) < (s.envs.length : Int) := by omega
  obtain ⟨v, hv⟩ := h.pair he
  clear hx hq hp
  go_enter Try.func54, Try.ntmps54
  go_wp2_with fail
  refine (needRaw_any h hw j).mono ?_
  rintro e w2 ⟨rfl, hw2⟩
  subst hw2
  rw [HR.out]
  go_wp2_with fail
  refine (isQuota_any q _).mono ?_
  rintro e w2 ⟨rfl, hw2⟩
  subst hw2
  rw [HQ.out]
  go_wp2_with fail
  refine (isPolicy_any pol _).mono ?_
  rintro e w2 ⟨rfl, hw2⟩
  subst hw2
  rw [HP.out]
  go_wp2_with fail
  refine (of_any h.st hsz j).mono ?_
  rintro e w3 ⟨v3, rfl, hb3, hrow, hnew⟩
  obtain ⟨ao, cap, hv3, _⟩ := hrow.shape
  rw [h0] at hv3
  subst hv3
  have h3 := h.below hb3
  have k3 := h3.c0
  obtain ⟨c0, c1⟩ := h3.env he
  have f1 := h3.bE.frozen (j * 136 + 1)
  have h4 := h3.setKept hv
  have hne : p ≠ gE := fun e2 => by have := h.tm; rw [e2, h.tE] at this; simp at this
  have hne2 : gE ≠ p := fun e2 => hne e2.symm
  obtain ⟨cs, hcs⟩ : ∃ cs, (PK.new q pol).cells (.slice none 0 0) = cs := ⟨_, rfl⟩
  have HCS : Hid ((PK.new q pol).cells (.slice none 0 0) = cs) := hcs
  have hcl : cs.length = 134 := by rw [← hcs]; exact PK.cells_len _ _
  have hc1 : ∀ u ∈ cs, u.oneCell' = true := by rw [← hcs]; exact oneCell_mem _ _ rfl
  have HC1 : Hid (∀ u ∈ cs, u.oneCell' = true) := hc1
  have HCL : Hid (cs.length = 134) := hcl
  have ht4 : Touch w2.heap.size (fun b => (own b).1 = id) w2 (w3.setCell ⟨gE, j * 136 + 1, none⟩ (.bool true)) := (Touch.of_below hb3 _).setCell (.inl (by rw [h.tE])) _
  clear hcs hcl hc1
  go_wp2_with fail
  obtain ⟨W, hW⟩ : ∃ W, w3.setCell ⟨gE, j * 136 + 1, none⟩ (.bool true) = W := ⟨_, rfl⟩
  rw [hW] at h4 ht4 ⊢
  clear hW c0 c1 f1 k3 h3
  have m0 := h4.c0
  have hv4 : (L.set j ({ x with kept := true }, v))[j]? = some ({ x with kept := true }, v) := List.getElem?_set_self (by rw [h.len]; exact hj)
  have hlen : (s.envs.set j { x with kept := true }).length = s.envs.length := List.length_set ..
  simp only [hlen] at m0
  have h4d := h4.below (Below.refl _ _).drew
  go_region_held3 (fun w' => w'.cell? ⟨p, 0, none⟩ = some (.slice (some ⟨gE, 0, none⟩) s.envs.length s.envs.length)) (go_keep)
    ((first
      | (go_at_call 72; refine (mempty_any q pol).mono ?_; rintro e5 w5 ⟨he5, hb5⟩
         rw [HCS.out] at he5
         subst he5
         have h5 := h4d.below hb5
         have q0 := h5.c0
         have hst : Sem.run Try.prog (storeCells ⟨gE, j * 136 + 2, none⟩ cs) w5 = .ok () (w5.setCells gE (j * 136 + 2) cs) := h5.storeE (by rw [HCL.out]; show j * 136 + 2 + 134 ≤ (s.envs.set j _).length * 136; rw [List.length_set]; omega) HC1.out
         have q1 : (w5.setCells gE (j * 136 + 2) cs).cell? ⟨p, 0, none⟩ = some (.slice (some ⟨gE, 0, none⟩) s.envs.length s.envs.length) := by
           rw [World.cell?_setCells_out gE cs _ w5 ⟨p, 0, none⟩ (fun e2 => absurd e2 hne), q0]
           simp only [hlen])))
  have h6 := h5.setMem hv4 (PK.new q pol) rfl
  rw [HCS.out] at h6
  simp only [List.set_set] at h6
  have ht6 := ht4.drew.then_below hb5 ht4.size
  have ht7 := ht6.next (own' := own) (fun _ _ => rfl) (h5.wroteE (j * 136 + 2) cs)
  clear h5 hst q1 q0
  go_wp2_with fail
  go_ret
  exact ⟨rfl, own, _, _, _, _, _, h6, fun _ _ => rfl, ht7⟩
end
end Go.Proofs.Ytinlkcmdbjcofaa

/-
  The program's state and the document's: an access to a page of a kept environment.
-/
namespace Go.Proofs.Ytinlkcmdbjcofaa
set_option linter.unusedVariables false

section
variable {rs t : RSt} {ps qs : PSt}

theorem Sim.pwf (hs : Sim rs ps) (h : SOk rs) (hf : Few rs) : PWf ps := by
  have h1 : (live rs.rights).length ≤ rs.rights.length := by
    rw [live_len]
    exact cntTo_le _ _
  unfold Few at hf
  have hn := h.fix.nf
  have hne := h.fix.ne
  have hns := h.ns
  refine ⟨by rw [hs.ne]; exact hne, by rw [hs.bl]; exact hn, by rw [hs.sl]; exact h.fix.sl, by rw [hs.sl]; exact h.uni, ?_, hs.b4, by rw [hs.last]; omega, by rw [hs.last]; omega, by rw [hs.hs]; omega, by rw [hs.tn]; exact h.kok.t0, by rw [hs.tn, hs.sl, hns]; exact h.kok.t1⟩
  intro i e he hu
  rw [hs.sl] at he
  rw [hs.bl]
  exact h.sfr i e he hu

theorem met_of {i : Nat} {k : KSt} (h : SOk rs) (hO : rs.kept[i]? = some (some k)) : ∀ p, p ∈ k.inp → ∃ u, u ∈ k.uses ∧ u.1 = p := fun p hp => by
  have hK := h.kok.k1 i k hO
  exact hK.len.met p hp (by have := hK.len.pg p hp; omega)
theorem Sim.inl (hs : Sim rs ps) (h : SOk rs) {j : Nat} {e : PEnv} {k : KSt} (he : ps.envs[j]? = some e) (hO : rs.kept[j]? = some (some k)) : e.mem.inl.length = k.inp.length ∧ e.mem.inl.length ≤ 16 ∧ ∀ x, x ∈ e.mem.inl ↔ x ∈ k.inp := by
  have hK := h.kok.k1 j k hO
  have hS := hs.km j e k he hO
  rw [hS.inl]
  have hl := inOrd_len hK.len.nod (met_of h hO)
  exact ⟨hl, by rw [hl]; exact hK.len.inpL, fun x => inOrd_mem (met_of h hO)⟩
theorem Sim.mwf (hs : Sim rs ps) (h : SOk rs) (hF : FewU rs) {j : Nat} {e : PEnv} {k : KSt} (he : ps.envs[j]? = some e) (hO : rs.kept[j]? = some (some k)) : MWf ps.bytes.length e.mem ∧ e.mem.refills ≤ 2932031007402 ∧ e.mem.ins ≤ 2932031007402 ∧ e.mem.outs ≤ 2932031007402 := by
  have hK := h.kok.k1 j k hO
  have hS := hs.km j e k he hO
  obtain ⟨l1, l2, l3⟩ := hs.inl h he hO
  have hu := hF j k hO
  have r0 := hK.len.r0
  have r1 := hK.len.r1
  have i0 := hK.len.i0
  have i1 := hK.len.i1
  have o0 := hK.len.o0
  have o1 := hK.len.o1
  have c1 := hS.cr
  have c2 := hS.ci
  have c3 := hS.co
  refine ⟨⟨hS.np, l2, fun x hx => hK.len.pg x ((l3 x).1 hx), fun q g hq hg => ?_, by omega, by omega, by omega, by omega, by omega, by omega⟩, by omega, by omega, by omega⟩
  have hin := (l3 q).1 hq
  obtain ⟨_, _, _, a4, _⟩ := hS.pg q g hg
  obtain ⟨b1, _, _⟩ := a4 hin
  have hfl := kframe_lt h hO hin
  exact ⟨g.frame.toNat, by rw [b1]; omega, by rw [hs.bl, b1]; omega⟩
theorem MWf.goOut {n : Nat} {k : PK} (h : MWf n k) (ho : k.outs ≤ 2932031007402) (q : Nat) (l : List Int) : MWf n (k.goOut q l) := by
  unfold PK.goOut
  cases hg : k.pages[q]? with
  | none => exact h
  | some g =>
    have hql := (List.getElem?_eq_some_iff.1 hg).1
    have h0 := h.o0
    refine ⟨by simp [h.np], ?_, fun x hx => h.pg x (List.mem_filter.1 hx).1, fun q' g' hq' hg' => ?_, h.r0, h.r1, h.i0, h.i1, ?_, ?_⟩
    · have := List.length_filter_le (fun x => !(x == (q : Int))) k.inl
      have := h.nl
      show (k.inl.filter _).length ≤ 16
      omega
    · have hm := (List.mem_filter.1 hq').1
      have hg2 : (k.pages.set q (if g.chg then { g with sto := true, out := l } else g))[q']? = some g' := hg'
      by_cases e : q = q'
      · subst e
        rw [List.getElem?_set_self hql] at hg2
        simp only [Option.some.injEq] at hg2
        have : g'.frame = g.frame := by rw [← hg2]; split <;> rfl
        rw [this]
        exact h.fr q g hm hg
      · rw [List.getElem?_set_ne e] at hg2
        exact h.fr q' g' hm hg2
    · show 0 ≤ (if g.chg then k.outs + 1 else k.outs); split <;> omega
    · show (if g.chg then k.outs + 1 else k.outs) ≤ _; split <;> omega
theorem MWf.comeIn {n : Nat} {k : PK} (h : MWf n k) (hi : k.ins ≤ 2932031007402) {p f : Nat} (hp : p < 16) (hf : f < n) (hl : k.inl.length < 16) : MWf n (k.comeIn p f) := by
  unfold PK.comeIn
  cases hg : k.pages[p]? with
  | none => exact h
  | some g =>
    have hql := (List.getElem?_eq_some_iff.1 hg).1
    have h0 := h.i0
    refine ⟨by simp [h.np], ?_, fun x hx => ?_, fun q' g' hq' hg' => ?_, h.r0, h.r1, ?_, ?_, h.o0, h.o1⟩
    · show (k.inl ++ [(p : Int)]).length ≤ 16
      simp; omega
    · have hx' : x ∈ k.inl ++ [(p : Int)] := hx
      rcases List.mem_append.1 hx' with h1 | h1
      · exact h.pg x h1
      · simp at h1; omega
    · have hg2 : (k.pages.set p { g with frame := (f : Int), chg := false })[q']? = some g' := hg'
      by_cases e : p = q'
      · subst e
        rw [List.getElem?_set_self hql] at hg2
        simp only [Option.some.injEq] at hg2
        exact ⟨f, by rw [← hg2], hf⟩
      · rw [List.getElem?_set_ne e] at hg2
        have hq2 : (q' : Int) ∈ k.inl ++ [(p : Int)] := hq'
        rcases List.mem_append.1 hq2 with h1 | h1
        · exact h.fr q' g' h1 hg2
        · simp at h1; omega
    · show 0 ≤ (if g.sto then k.ins + 1 else k.ins); split <;> omega
    · show (if g.sto then k.ins + 1 else k.ins) ≤ _; split <;> omega

/-- As Sim, but for the memory of environment j. -/
structure SimX (j : Nat) (rs : RSt) (ps : PSt) : Prop where
  ne : ps.envs.length = rs.ne
  al : ∀ (i : Nat) (e : PEnv), ps.envs[i]? = some e → rs.alive[i]? = some e.alive
  kp : ∀ (i : Nat) (e : PEnv), ps.envs[i]? = some e → e.kept = keptB rs i
  km : ∀ (i : Nat) (e : PEnv) (k : KSt), i ≠ j → ps.envs[i]? = some e → rs.kept[i]? = some (some k) → KSim rs k e.mem ps.bytes (inOrd k)
  bl : ps.bytes.length = rs.nf
  b4 : ∀ (f : Nat) (l : List Int), ps.bytes[f]? = some l → l.length = 4 ∧ ∀ (j : Nat) (x : Int), l[j]? = some x → 0 ≤ x ∧ x ≤ 255
  by_ : ∀ (i : Nat) (r : RR), rs.rights[i]? = some r → lv rs.rights i = true → keptB rs r.env = false → ps.bytes[r.fr.toNat]? = rs.bytes[r.fr.toNat]?
  hs : ps.hs = live rs.rights
  last : ps.last = rs.rights.length
  sl : ps.slots = rs.slots
  tn : ps.turn = rs.turn
  en : ∀ (i : Nat) (k : KSt) (q : Nat) (x : Ent), rs.kept[i]? = some (some k) → rs.slots[q]? = some x → x.used = true → x.env = i → ∃ p : Nat, x.page = p ∧ (p : Int) ∈ k.inp ∧ x.fr = frameOf rs k p
theorem SimX.sim {j : Nat} {e : PEnv} {k : KSt} (h : SimX j rs ps) (he : ps.envs[j]? = some e) (hO : rs.kept[j]? = some (some k)) (hk : KSim rs k e.mem ps.bytes (inOrd k)) : Sim rs ps := by
  refine ⟨h.ne, h.al, h.kp, fun i e' k' he' hO' => ?_, h.bl, h.b4, h.by_, h.hs, h.last, h.sl, h.tn, h.en⟩
  by_cases hi : i = j
  · subst hi
    rw [he] at he'
    rw [hO] at hO'
    simp only [Option.some.injEq] at he' hO'
    subst he' hO'
    exact hk
  · exact h.km i e' k' hi he' hO'
/-- Environment j's memory is another. -/
theorem env_set {j : Nat} {e e' : PEnv} (hs : Sim rs ps) (he : ps.envs[j]? = some e) (ha : e'.alive = e.alive) (hkp : e'.kept = e.kept) {k k' : KSt} (hO : rs.kept[j]? = some (some k)) (hk : t.kept = rs.kept.set j (some k')) (hal : t.alive = rs.alive) :
    (∀ (i : Nat) (x : PEnv), (ps.envs.set j e')[i]? = some x → t.alive[i]? = some x.alive) ∧ (∀ (i : Nat) (x : PEnv), (ps.envs.set j e')[i]? = some x → x.kept = keptB t i) := by
  have hj := (List.getElem?_eq_some_iff.1 he).1
  refine ⟨fun i x hx => ?_, fun i x hx => ?_⟩
  · rw [hal]
    by_cases hi : j = i
    · subst hi
      rw [List.getElem?_set_self hj] at hx
      simp only [Option.some.injEq] at hx
      rw [← hx, ha]; exact hs.al j e he
    · rw [List.getElem?_set_ne hi] at hx; exact hs.al i x hx
  · rw [keptB_set hO hk]
    by_cases hi : j = i
    · subst hi
      rw [List.getElem?_set_self hj] at hx
      simp only [Option.some.injEq] at hx
      rw [← hx, hkp]; exact hs.kp j e he
    · rw [List.getElem?_set_ne hi] at hx; exact hs.kp i x hx
theorem page4 {k : KSt} {x : Int} {n : Nat} (h : KLen0 k x n) {p : Nat} (hp : p < 16) : (pageB k p).length = 4 ∧ ∀ (j : Nat) (x : Int), (pageB k p)[j]? = some x → 0 ≤ x ∧ x ≤ 255 := by
  refine ⟨pageB_len h.by_ hp, fun j y hy => ?_⟩
  have hj : j < 4 := by have := (List.getElem?_eq_some_iff.1 hy).1; rw [pageB_len h.by_ hp] at this; exact this
  rw [pageB_get hj] at hy
  exact h.val y (List.mem_of_getElem? hy)
theorem frameOf_in {s : RSt} {k : KSt} {pg : Nat} {h : Int} {q : Nat} (hne : q ≠ pg) (s' : RSt) (hr : FrKeep s s') {j : Nat} {r : RR} (hh : k.hnd[q]? = some ((j : Int) + 1)) (hrr : s.rights[j]? = some r) : frameOf s' (inK k pg h) q = frameOf s k q := by
  obtain ⟨r', a, b⟩ := hr j r hrr
  unfold frameOf inK
  simp only
  rw [List.getElem?_set_ne (fun e => hne e.symm), hh]
  simp only [Option.getD_some]
  rw [show ((j : Int) + 1 - 1).toNat = j by omega, hrr, a]
  simp [b]

/-- A page comes in by a first right. -/
theorem Sim.comeFirst (hs : Sim rs ps) (h : SOk rs) {j : Nat} {e : PEnv} {k : KSt} (he : ps.envs[j]? = some e) (hO : rs.kept[j]? = some (some k)) {pg f : Nat} (hp : pg < 16) (hno : (pg : Int) ∉ k.inp) (hl : leastFree rs = some f) :
    SimX j (putK (addR { rs with bytes := rs.bytes.set f [0, 0, 0, 0] } j f true (-1)) j (inK k pg ((rs.rights.length : Int) + 1))) (comeP (giveP ps j f) j e pg f) ∧
    KSim (putK (addR { rs with bytes := rs.bytes.set f [0, 0, 0, 0] } j f true (-1)) j (inK k pg ((rs.rights.length : Int) + 1))) (inK k pg ((rs.rights.length : Int) + 1)) (e.mem.comeIn pg f) (comeP (giveP ps j f) j e pg f).bytes (inOrd k ++ [(pg : Int)]) ∧
    frameOf (putK (addR { rs with bytes := rs.bytes.set f [0, 0, 0, 0] } j f true (-1)) j (inK k pg ((rs.rights.length : Int) + 1))) (inK k pg ((rs.rights.length : Int) + 1)) pg = f := by
  have hK := h.kok.k1 j k hO
  have hS := hs.km j e k he hO
  have hj := (List.getElem?_eq_some_iff.1 he).1
  have hfl := leastFree_lt hl
  obtain ⟨g, hg⟩ := hS.page hp
  obtain ⟨a1, a2, a3, a4, a5⟩ := hS.pg pg g hg
  have hout : outB e.mem pg = pageB k pg := by simp [outB, hg, a5 (.inl hno)]
  have hF : FrKeep rs (putK (addR { rs with bytes := rs.bytes.set f [0, 0, 0, 0] } j f true (-1)) j (inK k pg ((rs.rights.length : Int) + 1))) := FrKeep.add (x := ⟨rs.rights.length + 1, j, f, true, -1, false⟩) rfl
  have hby : (comeP (giveP ps j f) j e pg f).bytes = ps.bytes.set f (pageB k pg) := by
    show (ps.bytes.set f [0, 0, 0, 0]).set f (outB e.mem pg) = _
    rw [List.set_set, hout]
  have hfr : ∀ q : Nat, (q : Int) ∈ k.inp → frameOf (putK (addR { rs with bytes := rs.bytes.set f [0, 0, 0, 0] } j f true (-1)) j (inK k pg ((rs.rights.length : Int) + 1))) (inK k pg ((rs.rights.length : Int) + 1)) q = frameOf rs k q := fun q hq => by
    obtain ⟨n, r, b, c, d, ee, ff, hL⟩ := kframe h hO hq
    have h1 := hL.1
    simp only [Int.toNat_natCast] at h1
    exact frameOf_in (fun e2 => hno (by rw [← e2]; exact hq)) _ hF h1 b
  have hfp : frameOf (putK (addR { rs with bytes := rs.bytes.set f [0, 0, 0, 0] } j f true (-1)) j (inK k pg ((rs.rights.length : Int) + 1))) (inK k pg ((rs.rights.length : Int) + 1)) pg = f := by
    unfold frameOf
    have e1 : (inK k pg ((rs.rights.length : Int) + 1)).hnd[pg]? = some ((rs.rights.length : Int) + 1) := List.getElem?_set_self (by rw [hK.len.hnd]; exact hp)
    rw [e1]
    simp only [Option.getD_some]
    rw [show ((rs.rights.length : Int) + 1 - 1).toNat = rs.rights.length by omega]
    show (((rs.rights ++ [_])[rs.rights.length]?).map RR.fr).getD 0 = _
    rw [List.getElem?_append_right (Nat.le_refl _)]
    simp
  obtain ⟨es1, es2⟩ := env_set (e' := { e with mem := e.mem.comeIn pg f }) (t := putK (addR { rs with bytes := rs.bytes.set f [0, 0, 0, 0] } j f true (-1)) j (inK k pg ((rs.rights.length : Int) + 1))) (k' := inK k pg ((rs.rights.length : Int) + 1)) hs he rfl rfl hO rfl rfl
  refine ⟨⟨?_, es1, es2, ?_, ?_, ?_, ?_, ?_, ?_, hs.sl, hs.tn, ?_⟩, ?_, hfp⟩
  · show (ps.envs.set j _).length = rs.ne
    rw [List.length_set]; exact hs.ne
  · intro i e' k' hi he' hO'
    have he2 : (ps.envs.set j { e with mem := e.mem.comeIn pg f })[i]? = some e' := he'
    have hO2 : (rs.kept.set j (some (inK k pg ((rs.rights.length : Int) + 1))))[i]? = some (some k') := hO'
    rw [List.getElem?_set_ne (fun e => hi e.symm)] at he2 hO2
    rw [hby]
    exact hs.kms h hF he2 hO2 (fun p hp => List.getElem?_set_ne (fun e => kframe_free h hO2 hp hl e.symm))
  · rw [hby, List.length_set]; exact hs.bl
  · rw [hby]; exact set_b4 hs.b4 (page4 hK.len hp)
  · intro i r hri hli hraw
    rw [hby]
    show _ = (rs.bytes.set f [0, 0, 0, 0])[r.fr.toNat]?
    have hkb := keptB_set (t := putK (addR { rs with bytes := rs.bytes.set f [0, 0, 0, 0] } j f true (-1)) j (inK k pg ((rs.rights.length : Int) + 1))) hO rfl r.env
    rw [hkb] at hraw
    rcases live_add (x := ⟨rs.rights.length + 1, j, f, true, -1, false⟩) h.inv (by simp) (by simp; omega) rfl (lv_neg (by simp)) hri hli with ⟨hri, hli⟩ | rfl
    · have hne : f ≠ r.fr.toNat := fun e => freeB_no h.inv (List.find?_some hl) i r hri hli (by have := h.inv.fr i r hri; omega)
      rw [List.getElem?_set_ne hne, List.getElem?_set_ne hne]
      exact hs.by_ i r hri hli hraw
    · exfalso
      have : keptB rs (j : Int) = false := hraw
      rw [keptB_at hO] at this
      simp at this
  · show addP ps.hs ps.last j f true 0 = live (rs.rights ++ [_])
    rw [live_append h.inv.ord (by simp) (by simp; omega) rfl (lv_neg (by simp)), hs.hs, hs.last]
    rfl
  · show ps.last + 1 = ((rs.rights ++ [_]).length : Int)
    rw [hs.last]; simp
  · intro i k' q x hO' hx hu hi
    have hO2 : (rs.kept.set j (some (inK k pg ((rs.rights.length : Int) + 1))))[i]? = some (some k') := hO'
    by_cases hij : j = i
    · subst hij
      rw [List.getElem?_set_self (kept_lt hO)] at hO2
      simp only [Option.some.injEq] at hO2
      subst hO2
      obtain ⟨p, b1, b2, b3⟩ := hs.en j k q x hO hx hu hi
      exact ⟨p, b1, in_inp.2 (.inl b2), by rw [hfr p b2]; exact b3⟩
    · rw [List.getElem?_set_ne hij] at hO2
      exact hs.ens h hF hO2 hx hu hi
  · rw [hby]
    refine hS.come hK.len hp hno hfr hfp (fun q hq => List.getElem?_set_ne (fun e => kframe_free h hO hq hl e.symm)) ?_
    rw [Int.toNat_natCast]
    exact List.getElem?_set_self (by rw [hs.bl]; exact hfl)
end
end Go.Proofs.Ytinlkcmdbjcofaa

/-
  The program's state and the document's: a page goes out for another one; an access to a page that is in.
-/
namespace Go.Proofs.Ytinlkcmdbjcofaa
set_option linter.unusedVariables false

section
variable {rs t : RSt} {ps qs : PSt}

/-- A page of the program's kept memory, where it lies. -/
theorem Sim.frameAt (hs : Sim rs ps) (h : SOk rs) {j : Nat} {e : PEnv} {k : KSt} (he : ps.envs[j]? = some e) (hO : rs.kept[j]? = some (some k)) {q : Nat} (hq : (q : Int) ∈ k.inp) :
    ∃ (g : PG) (f : Nat), q < 16 ∧ e.mem.pages[q]? = some g ∧ g.frame = f ∧ frameOf rs k q = f ∧ f < rs.nf ∧ ps.bytes[f]? = some (pageB k q) ∧ g.chg = chgB k q := by
  have hK := h.kok.k1 j k hO
  have hS := hs.km j e k he hO
  have hq16 : q < 16 := by have := hK.len.pg q hq; omega
  obtain ⟨g, hg⟩ := hS.page hq16
  obtain ⟨_, _, _, a4, _⟩ := hS.pg q g hg
  obtain ⟨b1, b2, b3⟩ := a4 hq
  have hfl := kframe_lt h hO hq
  refine ⟨g, g.frame.toNat, hq16, hg, by rw [b1]; omega, by rw [b1]; omega, by rw [b1]; omega, b3, b2⟩

theorem Sim.comeLeave (hs : Sim rs ps) (h : SOk rs) {j : Nat} {e : PEnv} {k : KSt} (he : ps.envs[j]? = some e) (hO : rs.kept[j]? = some (some k)) {pg q f : Nat} (hp : pg < 16) (hno : (pg : Int) ∉ k.inp) (hq : (q : Int) ∈ k.inp) (hf : frameOf rs k q = f) :
    SimX j (putK (leavesS rs k j q) j (inK (leaveK k q) pg ((k.hnd[q]?).getD 0))) (comeP (outP ps j e q (pageB k q)) j { e with mem := e.mem.goOut q (pageB k q) } pg f) ∧
    KSim (putK (leavesS rs k j q) j (inK (leaveK k q) pg ((k.hnd[q]?).getD 0))) (inK (leaveK k q) pg ((k.hnd[q]?).getD 0)) ((e.mem.goOut q (pageB k q)).comeIn pg f) (comeP (outP ps j e q (pageB k q)) j { e with mem := e.mem.goOut q (pageB k q) } pg f).bytes (inOrd (leaveK k q) ++ [(pg : Int)]) ∧
    frameOf (putK (leavesS rs k j q) j (inK (leaveK k q) pg ((k.hnd[q]?).getD 0))) (inK (leaveK k q) pg ((k.hnd[q]?).getD 0)) pg = f := by
  have hK := h.kok.k1 j k hO
  have hS := hs.km j e k he hO
  have hj := (List.getElem?_eq_some_iff.1 he).1
  have hne : pg ≠ q := fun e2 => hno (by rw [e2]; exact hq)
  have hq16 : q < 16 := by have := hK.len.pg q hq; omega
  have hfl := kframe_lt h hO hq
  have hL1 : KLen0 (leaveK k q) (-1) (leaveK k q).uses.length := leave_len0 hK.len hq16
  have hS1 : KSim rs (leaveK k q) (e.mem.goOut q (pageB k q)) ps.bytes ((inOrd k).filter (fun x => !(x == (q : Int)))) := hS.leave hK.len hq rfl (fun _ _ _ => rfl)
  have hno1 : (pg : Int) ∉ (leaveK k q).inp := fun hh => hno (leave_inp.1 hh).1
  have hpgB : pageB (leaveK k q) pg = pageB k pg := rfl
  obtain ⟨g, hg⟩ := hS1.page hp
  obtain ⟨a1, a2, a3, a4, a5⟩ := hS1.pg pg g hg
  have hout : outB (e.mem.goOut q (pageB k q)) pg = pageB k pg := by simp [outB, hg, a5 (.inl hno1), hpgB]
  have hF : FrKeep rs (putK (leavesS rs k j q) j (inK (leaveK k q) pg ((k.hnd[q]?).getD 0))) := FrKeep.same rfl
  have hby : (comeP (outP ps j e q (pageB k q)) j { e with mem := e.mem.goOut q (pageB k q) } pg f).bytes = ps.bytes.set f (pageB k pg) := by
    show ps.bytes.set f (outB (e.mem.goOut q (pageB k q)) pg) = _
    rw [hout]
  have hen : (comeP (outP ps j e q (pageB k q)) j { e with mem := e.mem.goOut q (pageB k q) } pg f).envs = ps.envs.set j { e with mem := (e.mem.goOut q (pageB k q)).comeIn pg f } := by
    show (ps.envs.set j _).set j _ = _
    rw [List.set_set]
  have hkt : (putK (leavesS rs k j q) j (inK (leaveK k q) pg ((k.hnd[q]?).getD 0))).kept = rs.kept.set j (some (inK (leaveK k q) pg ((k.hnd[q]?).getD 0))) := by
    show (rs.kept.set j _).set j _ = _
    rw [List.set_set]
  obtain ⟨nq, rq, bq, cq, dq, eq_, fq, hLq⟩ := kframe h hO hq
  have hhq := hLq.1
  simp only [Int.toNat_natCast] at hhq
  have hfr : ∀ q' : Nat, (q' : Int) ∈ (leaveK k q).inp → frameOf (putK (leavesS rs k j q) j (inK (leaveK k q) pg ((k.hnd[q]?).getD 0))) (inK (leaveK k q) pg ((k.hnd[q]?).getD 0)) q' = frameOf rs (leaveK k q) q' := fun q' hq' => by
    obtain ⟨n, r, b, c, d, ee, ff, hL⟩ := kframe h hO (leave_inp.1 hq').1
    have h1 := hL.1
    simp only [Int.toNat_natCast] at h1
    exact frameOf_in (k := leaveK k q) (fun e2 => hno1 (by rw [← e2]; exact hq')) _ hF h1 b
  have hfk : ∀ q', frameOf rs (leaveK k q) q' = frameOf rs k q' := fun q' => rfl
  have hfp : frameOf (putK (leavesS rs k j q) j (inK (leaveK k q) pg ((k.hnd[q]?).getD 0))) (inK (leaveK k q) pg ((k.hnd[q]?).getD 0)) pg = f := by
    rw [← hf]
    unfold frameOf
    have e1 : (inK (leaveK k q) pg ((k.hnd[q]?).getD 0)).hnd[pg]? = some ((k.hnd[q]?).getD 0) := List.getElem?_set_self (by rw [leave_hnd, hK.len.hnd]; exact hp)
    rw [e1]
    rfl
  have hapart : ∀ q' : Nat, (q' : Int) ∈ k.inp → q' ≠ q → (frameOf rs k q').toNat ≠ f := fun q' hq' hn => by
    have := frames_apart h hO hq hq' hn
    rw [hf] at this
    simpa using this
  obtain ⟨es1, es2⟩ := env_set (e' := { e with mem := (e.mem.goOut q (pageB k q)).comeIn pg f }) (t := putK (leavesS rs k j q) j (inK (leaveK k q) pg ((k.hnd[q]?).getD 0))) hs he rfl rfl hO hkt rfl
  refine ⟨⟨?_, by rw [hen]; exact es1, by rw [hen]; exact es2, ?_, ?_, ?_, ?_, hs.hs, hs.last, ?_, hs.tn, ?_⟩, ?_, hfp⟩
  · rw [hen, List.length_set]; exact hs.ne
  · intro i e' k' hi he' hO'
    rw [hen, List.getElem?_set_ne (fun e => hi e.symm)] at he'
    rw [hkt, List.getElem?_set_ne (fun e => hi e.symm)] at hO'
    rw [hby]
    exact hs.kms h hF he' hO' (fun p hp => List.getElem?_set_ne (fun e2 => by
      have := kframe_kept h hO' hO hi hp hq
      rw [hf] at this
      exact this (by simpa using e2.symm)))
  · rw [hby, List.length_set]; exact hs.bl
  · rw [hby]; exact set_b4 hs.b4 (page4 hK.len hp)
  · intro i r hri hli hraw
    rw [hby]
    have hkb := keptB_set hO hkt r.env
    rw [hkb] at hraw
    have hn := kframe_raw h hO hq (n := i) (q := r) hri hli hraw
    rw [hf] at hn
    rw [List.getElem?_set_ne (by simpa using hn)]
    exact hs.by_ i r hri hli hraw
  · show ps.slots.map (remE j q) = rs.slots.map (goneE j q)
    rw [hs.sl, gone_eq h]
  · intro i k' n x hO' hx hu hi
    rw [hkt] at hO'
    obtain ⟨hx1, hx2⟩ := gone_get (rs := rs) hx hu
    by_cases hij : j = i
    · subst hij
      rw [List.getElem?_set_self (kept_lt hO)] at hO'
      simp only [Option.some.injEq] at hO'
      subst hO'
      obtain ⟨p, b1, b2, b3⟩ := hs.en j k n x hO hx1 hu hi
      have hpq : (p : Int) ≠ q := fun e2 => hx2 ⟨hi, by rw [b1]; exact e2⟩
      have hin : (p : Int) ∈ (leaveK k q).inp := leave_inp.2 ⟨b2, hpq⟩
      exact ⟨p, b1, in_inp.2 (.inl hin), by rw [hfr p hin]; exact b3⟩
    · rw [List.getElem?_set_ne hij] at hO'
      exact hs.ens h hF hO' hx1 hu hi
  · rw [hby, inOrd_leave]
    refine hS1.come hL1 hp hno1 hfr hfp (fun q' hq' => ?_) ?_
    · rw [hfk]
      exact List.getElem?_set_ne (fun e2 => hapart q' (leave_inp.1 hq').1 (fun e3 => (leave_inp.1 hq').2 (by rw [e3])) e2.symm)
    · rw [Int.toNat_natCast, hpgB]
      exact List.getElem?_set_self (by rw [hs.bl]; omega)

/-- Where an entry goes: the program's and the document's. -/
theorem refill_eq (h : SOk0 rs) (ht0 : 0 ≤ rs.turn) (ht1 : rs.turn < rs.ns) {j pg : Nat} {x : Ent} (hx1 : x.env = j) (hx2 : x.page = pg) :
    refP rs.slots rs.turn x = rs.slots.set (slotFor rs (entI rs j pg)).1.toNat x ∧ (refQ rs.slots rs.turn x).2 = (slotFor rs (entI rs j pg)).2.turn := by
  have hns := h.ns
  unfold refP refQ putP remP slotP entI slotFor
  rw [hx1, hx2]
  cases hs : rs.slots.findIdx? (entP j pg) with
  | some i =>
    simp only
    rw [if_pos (by omega : (0 : Int) ≤ (i : Int))]
    simp
  | none =>
    simp only
    rw [if_neg (by omega : ¬ (0 : Int) ≤ -1)]
    unfold leastEmpty
    cases hf : rs.slots.findIdx? (fun e => !e.used) with
    | some i =>
      simp only
      rw [if_pos (by omega : (0 : Int) ≤ (i : Int))]
      simp
    | none =>
      simp only
      rw [if_neg (by omega : ¬ (0 : Int) ≤ -1)]
      refine ⟨rfl, ?_⟩
      unfold nextT
      simp only
      by_cases e : rs.turn + 1 = rs.ns
      · rw [if_pos e, if_pos (by omega)]
      · rw [if_neg e, if_neg (by omega)]
theorem need_eq (rs : RSt) (ps : PSt) (h : ps.slots = rs.slots) (j pg : Nat) (wt : Bool) : needP ps j pg wt = needB rs j pg wt := by
  unfold needP needB
  rw [h]
  rcases find_ent rs j pg with ⟨g1, g2⟩ | ⟨q, e, g1, g2, g3⟩
  · rw [g1, g2]; simp
  · rw [g1, g3]
    have : ¬ ((q : Int) < 0) := by omega
    simp only [this, decide_false, Bool.false_or, Int.toNat_natCast, g2, Option.map_some, Option.getD_some]
    cases wt <;> cases e.wr <;> rfl

/-- Behind an access to a page that is in. -/
theorem SimX.touch {j : Nat} {e : PEnv} {k : KSt} (hX : SimX j rs ps) (h : SOk0 rs) (ht0 : 0 ≤ rs.turn) (ht1 : rs.turn < rs.ns) (he : ps.envs[j]? = some e) (hO : rs.kept[j]? = some (some k)) {l : List Int} (hS : KSim rs k e.mem ps.bytes l) (hc : k.chg.length = 16) (hd : k.dty.length = 16) {pg : Nat} (hp : pg < 16) (hin : (pg : Int) ∈ k.inp) (wt : Bool) {f : Int} (hf : frameOf rs k pg = f)
    (hl : (if k.policy == 0 then l else l.filter (fun x => !(x == (pg : Int))) ++ [(pg : Int)]) = inOrd (touchK rs k j pg wt)) : Sim (touchS rs k j pg wt) (tchP ps j e pg f wt) := by
  obtain ⟨h1, h2, h3, h4, h5, h6, h7, h8, h9⟩ := touchS_parts rs k j pg wt
  have hj := (List.getElem?_eq_some_iff.1 he).1
  have hneed := need_eq rs ps hX.sl j pg wt
  obtain ⟨g, hg⟩ := hS.page hp
  obtain ⟨_, _, _, a4, _⟩ := hS.pg pg g hg
  obtain ⟨_, b2, _⟩ := a4 hin
  have hchg : chgP e.mem pg = chgB k pg := by simp [chgP, hg, b2]
  have hmem : refM ps j pg wt e.mem = { e.mem with refills := if needB rs j pg wt then e.mem.refills + 1 else e.mem.refills } := by
    unfold refM
    rw [hneed]
    split <;> rfl
  have hsl : (tchP ps j e pg f wt).slots = (touchS rs k j pg wt).slots ∧ (tchP ps j e pg f wt).turn = (touchS rs k j pg wt).turn ∧ (tchP ps j e pg f wt).bytes = ps.bytes ∧ (tchP ps j e pg f wt).hs = ps.hs ∧ (tchP ps j e pg f wt).last = ps.last := by
    unfold tchP refillP touchS
    rw [hneed]
    cases hn : needB rs j pg wt with
    | false => exact ⟨hX.sl, hX.tn, rfl, rfl, rfl⟩
    | true =>
      simp only [if_true]
      obtain ⟨e1, e2⟩ := refill_eq h ht0 ht1 (x := newE j pg f (wt || chgP e.mem pg)) rfl rfl
      refine ⟨?_, ?_, rfl, rfl, rfl⟩
      · show refP ps.slots ps.turn _ = _
        rw [hX.sl, hX.tn, e1, hchg, ← hf]
        unfold refillS
        have e0 : entI (putK rs j (useK k pg wt)) j pg = entI rs j pg := rfl
        rw [e0]
        have e3 : (slotFor (putK rs j (useK k pg wt)) (entI rs j pg)).1 = (slotFor rs (entI rs j pg)).1 := by
          unfold slotFor
          split
          · rfl
          · show (if 0 ≤ leastEmpty rs.slots then _ else _ : Int × RSt).1 = (if 0 ≤ leastEmpty rs.slots then _ else _ : Int × RSt).1
            split <;> rfl
        rw [e3]
        rfl
      · show (refQ ps.slots ps.turn _).2 = _
        rw [hX.sl, hX.tn, e2]
        unfold refillS
        have e0 : entI (putK rs j (useK k pg wt)) j pg = entI rs j pg := rfl
        rw [e0]
        show (slotFor rs (entI rs j pg)).2.turn = (slotFor (putK rs j (useK k pg wt)) (entI rs j pg)).2.turn
        unfold slotFor
        split
        · rfl
        · show (if 0 ≤ leastEmpty rs.slots then _ else _ : Int × RSt).2.turn = (if 0 ≤ leastEmpty rs.slots then _ else _ : Int × RSt).2.turn
          split <;> rfl
  obtain ⟨s1, s2, s3, s4, s5⟩ := hsl
  have hen : (tchP ps j e pg f wt).envs = ps.envs.set j { e with mem := (refM ps j pg wt e.mem).touch pg wt } := rfl
  have hKs : KSim (touchS rs k j pg wt) (touchK rs k j pg wt) ((refM ps j pg wt e.mem).touch pg wt) (tchP ps j e pg f wt).bytes (inOrd (touchK rs k j pg wt)) := by
    rw [← hl, hmem, s3]
    exact hS.touch hc hd hp hin wt h2
  have hkb : ∀ x, keptB (touchS rs k j pg wt) x = keptB rs x := keptB_set hO h1
  have hX2 : SimX j (touchS rs k j pg wt) (tchP ps j e pg f wt) := by
    refine ⟨by rw [hen, List.length_set, h4]; exact hX.ne, ?_, ?_, ?_, by rw [s3, h5]; exact hX.bl, by rw [s3]; exact hX.b4, ?_, by rw [s4, h2]; exact hX.hs, by rw [s5, h2]; exact hX.last, s1, s2, ?_⟩
    · intro i x hx
      rw [hen] at hx
      rw [h3]
      by_cases hi : j = i
      · subst hi
        rw [List.getElem?_set_self hj] at hx
        simp only [Option.some.injEq] at hx
        rw [← hx]; exact hX.al j e he
      · rw [List.getElem?_set_ne hi] at hx; exact hX.al i x hx
    · intro i x hx
      rw [hen] at hx
      rw [hkb]
      by_cases hi : j = i
      · subst hi
        rw [List.getElem?_set_self hj] at hx
        simp only [Option.some.injEq] at hx
        rw [← hx]; exact hX.kp j e he
      · rw [List.getElem?_set_ne hi] at hx; exact hX.kp i x hx
    · intro i e' k' hi he' hO'
      rw [hen, List.getElem?_set_ne (fun e => hi e.symm)] at he'
      rw [h1, List.getElem?_set_ne (fun e => hi e.symm)] at hO'
      rw [s3]
      exact (hX.km i e' k' hi he' hO').congr (fun q hq => ⟨by unfold frameOf; rw [h2], rfl⟩)
    · intro i r hri hli hraw
      rw [h2] at hri hli
      rw [hkb] at hraw
      rw [s3, h7]
      exact hX.by_ i r hri hli hraw
    · intro i k' q x hO' hx hu hi
      rw [h1] at hO'
      have hfo : ∀ kk p, frameOf (touchS rs k j pg wt) kk p = frameOf rs kk p := fun kk p => by unfold frameOf; rw [h2]
      have hcase : rs.slots[q]? = some x ∨ x = ⟨true, j, pg, frameOf rs k pg, wt || chgB k pg⟩ := by
        rcases h9 with ⟨-, h9⟩ | ⟨-, h9⟩
        · rw [h9] at hx; exact .inl hx
        · rw [h9, List.getElem?_set] at hx
          split at hx
          · split at hx
            · simp only [Option.some.injEq] at hx; exact .inr hx.symm
            · simp at hx
          · exact .inl hx
      by_cases hij : j = i
      · subst hij
        rw [List.getElem?_set_self (kept_lt hO)] at hO'
        simp only [Option.some.injEq] at hO'
        subst hO'
        rcases hcase with hx' | rfl
        · obtain ⟨p, c1, c2, c3⟩ := hX.en j k q x hO hx' hu hi
          exact ⟨p, c1, c2, by rw [hfo]; exact c3⟩
        · exact ⟨pg, rfl, hin, by rw [hfo]; rfl⟩
      · rw [List.getElem?_set_ne hij] at hO'
        rcases hcase with hx' | rfl
        · obtain ⟨p, c1, c2, c3⟩ := hX.en i k' q x hO' hx' hu hi
          exact ⟨p, c1, c2, by rw [hfo]; exact c3⟩
        · exfalso
          have : (j : Int) = i := hi
          omega
  refine hX2.sim (e := { e with mem := (refM ps j pg wt e.mem).touch pg wt }) (k := touchK rs k j pg wt) ?_ ?_ hKs
  · rw [hen]; exact List.getElem?_set_self hj
  · rw [h1]; exact List.getElem?_set_self (kept_lt hO)
end
end Go.Proofs.Ytinlkcmdbjcofaa
