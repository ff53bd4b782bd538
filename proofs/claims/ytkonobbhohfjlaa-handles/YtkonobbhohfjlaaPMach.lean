/-
  The program's machine (stage 1).
-/
import Derived.Test.YtkonobbhohfjlaaPStoreE
namespace Go.Proofs.Ytkonobbhohfjlaa
open Go.RowKit
set_option linter.unusedVariables false

structure PSt where
  alive : List Bool
  nf : Nat
  hs : List PH
  last : Int

/-- A row, whatever it holds. -/
def RowAny (w : World) (v : Value) (e k n : Nat) : Prop := ∃ xs, Row w v e k n xs
theorem RowAny.kept {own : Nat → Nat × Nat} {t : Nat × Nat} {w w' : World} {v : Value} {e k n : Nat} (h : RowAny w v e k n) (ht : Tg own v t) (hk : ∀ b, b < w.heap.size → own b = t → w'.heap[b]? = w.heap[b]?) : RowAny w' v e k n := by
  obtain ⟨xs, h⟩ := h
  exact ⟨xs, h.kept ht hk⟩
theorem RowAny.shape {w : World} {v : Value} {e k n : Nat} (h : RowAny w v e k n) : ∃ ao cap, v = .slice ao n cap ∧ (n = 0 ∨ ∃ g, ao = some ⟨g, 0, none⟩) := by
  obtain ⟨xs, h⟩ := h
  exact h.shape
theorem Tg.congrAny {own own' : Nat → Nat × Nat} {v : Value} {t : Nat × Nat} {w : World} {e k n : Nat} (h : Tg own v t) (hr : RowAny w v e k n) (ho : ∀ b, b < w.heap.size → own' b = own b) : Tg own' v t := by
  obtain ⟨xs, hr⟩ := hr
  exact h.congr hr ho

def ecells (b : Bool) : List Value := [.bool b, .bool false]

/-- 'own': (id, 0): the struct; 1: the environments; 2: the frames; 3: the rights. -/
structure PRep (own : Nat → Nat × Nat) (id : Nat) (w : World) (p : Nat) (s : PSt) (vE vF vL : Value) : Prop where
  st : StoreAt own (id, 3) w p 2 80 [vE, vF, vL, .int .i64 s.last] vL s.hs s.last
  rE : Row w vE 82 2 s.alive.length (s.alive.flatMap ecells)
  rF : RowAny w vF 126 4 s.nf
  tm : own p = (id, 0)
  tE : Tg own vE (id, 1)
  tF : Tg own vF (id, 2)

section
variable {own : Nat → Nat × Nat} {id : Nat} {w : World} {p : Nat} {s : PSt} {vE vF vL : Value}

theorem PRep.of {own' : Nat → Nat × Nat} {w' : World} (h : PRep own id w p s vE vF vL) (ho : ∀ b, b < w.heap.size → own' b = own b) (hb : ∀ b, b < w.heap.size → (own b).1 = id → w'.heap[b]? = w.heap[b]?) : PRep own' id w' p s vE vF vL :=
  ⟨h.st.of ho (hb p h.st.blk.lt (by rw [h.tm])) (fun x hx ht => hb x hx (by rw [ht])), h.rE.kept h.tE (fun x hx ht => hb x hx (by rw [ht])), h.rF.kept h.tF (fun x hx ht => hb x hx (by rw [ht])),
    (ho p h.st.blk.lt).trans h.tm, h.tE.congr h.rE ho, h.tF.congrAny h.rF ho⟩
theorem PRep.below {w' : World} (h : PRep own id w p s vE vF vL) (hb : Below w.heap.size w w') : PRep own id w' p s vE vF vL := h.of (fun _ _ => rfl) (fun b hm _ => hb.block b hm)

def PNext (own : Nat → Nat × Nat) (id : Nat) (w : World) (p : Nat) (w' : World) (s' : PSt) : Prop :=
  ∃ (own' : Nat → Nat × Nat) (vE vF vL : Value), PRep own' id w' p s' vE vF vL ∧ (∀ b, b < w.heap.size → own' b = own b) ∧ Touch w.heap.size (fun b => (own b).1 = id) w w'

theorem PNext.refl (h : PRep own id w p s vE vF vL) : PNext own id w p w s := ⟨own, vE, vF, vL, h, fun _ _ => rfl, Touch.refl _ _ _⟩
theorem PNext.of_below {w' : World} (h : PRep own id w p s vE vF vL) (hb : Below w.heap.size w w') : PNext own id w p w' s := ⟨own, vE, vF, vL, h.below hb, fun _ _ => rfl, Touch.of_below hb _⟩
theorem PNext.after {w1 w2 : World} {s2 : PSt} (ht : Touch w.heap.size (fun b => (own b).1 = id) w w1) (h2 : PNext own id w1 p w2 s2) : PNext own id w p w2 s2 := by
  obtain ⟨own2, a, b, c, hr2, ho2, ht2⟩ := h2
  exact ⟨own2, a, b, c, hr2, fun b hb => ho2 b (Nat.lt_of_lt_of_le hb ht.size), ht.next (fun _ _ => rfl) ht2⟩

/-- The store has turned. -/
theorem PRep.next {w' : World} {hs' : List PH} {last' : Int} (h : PRep own id w p s vE vF vL) (hn : StoreNext own (id, 3) w p 2 80 [vE, vF, vL, .int .i64 s.last] vL w' hs' last') : PNext own id w p w' { s with hs := hs', last := last' } := by
  obtain ⟨own', vL', h1, h2, h3⟩ := hn
  have hpid : (own p).1 = id := by rw [h.tm]
  have hk : ∀ j, j = 1 ∨ j = 2 → ∀ x, x < w.heap.size → own x = (id, j) → w'.heap[x]? = w.heap[x]? := fun j hj x hx ht => h3.block x hx (fun e => by
    rcases e with e | e
    · subst e; rw [h.tm] at ht; simp at ht; omega
    · have := h.st.tag x e; rw [ht] at this; simp at this; omega)
  refine ⟨own', vE, vF, vL', ⟨h1, h.rE.kept h.tE (hk 1 (.inl rfl)), h.rF.kept h.tF (hk 2 (.inr rfl)), (h2 p h.st.blk.lt).trans h.tm, h.tE.congr h.rE h2, h.tF.congrAny h.rF h2⟩, h2, h3.mono (Nat.le_refl _) (fun k hk e => ?_)⟩
  rcases e with e | e
  · subst e; exact hpid
  · rw [h.st.tag k e]

def isEnvP (s : PSt) (env : Int) : Bool := decide (0 ≤ env) && decide (env < s.alive.length)
def aliveP (s : PSt) (env : Int) : Bool := isEnvP s env && s.alive[env.toNat]?.getD false
def rawP (s : PSt) (env : Int) : Int := if aliveP s env then 0 else 2

structure PWf (s : PSt) : Prop where
  ne : s.alive.length ≤ 4
  nf : s.nf ≤ 16
  l0 : 0 ≤ s.last
  l1 : s.last ≤ 4611686018427387904
  size : (s.hs.length + 1) * 48 ≤ 140737488355328

theorem PRep.c0 (h : PRep own id w p s vE vF vL) : w.cell? ⟨p, 0, none⟩ = some vE := (h.st.blk.cell 0).trans rfl
theorem PRep.c1 (h : PRep own id w p s vE vF vL) : w.cell? ⟨p, 1, none⟩ = some vF := (h.st.blk.cell 1).trans rfl

set_option maxHeartbeats 1000000 in
set_option maxRecDepth 100000 in
theorem isEnv_any (h : PRep own id w p s vE vF vL) (hw : PWf s) (env : Int) :
    Calls Try.prog 87 #[.pointer (some ⟨p, 0, none⟩), .int .i64 env] w fun e w' => e = .returned (.bool (isEnvP s env)) ∧ w' = w := by
  have k0 := h.c0
  have hne := hw.ne
  obtain ⟨ao, cap, hv, _⟩ := h.rE.shape
  rw [hv] at k0
  clear hv
  by_cases h1 : 0 ≤ env
  · have HE : Hid (isEnvP s env = decide (env < s.alive.length)) := by simp [Hid, isEnvP, h1]
    go_enter Try.func87, Try.ntmps87
    go_wp2_with fail
    go_ret
    exact ⟨ret_bool (by rw [HE.out]), rfl⟩
  · have HE : Hid (isEnvP s env = false) := by simp [Hid, isEnvP]; omega
    go_enter Try.func87, Try.ntmps87
    go_wp2_with fail
    go_ret
    exact ⟨ret_bool (by rw [HE.out]), rfl⟩

theorem isEnvP_nat {env : Int} (h : isEnvP s env = true) : ∃ j : Nat, env = j ∧ j < s.alive.length := by
  simp [isEnvP] at h
  exact ⟨env.toNat, by omega, by omega⟩

/-- The cells of environment j. -/
theorem PRep.env (h : PRep own id w p s vE vF vL) {j : Nat} {a : Bool} (ha : s.alive[j]? = some a) :
    ∃ g cap, vE = .slice (some ⟨g, 0, none⟩) s.alive.length cap ∧ own g = (id, 1) ∧ w.cell? ⟨g, j * 2, none⟩ = some (.bool a) ∧ w.cell? ⟨g, j * 2 + 1, none⟩ = some (.bool false) ∧ ∀ j, w.frozen? ⟨g, j, none⟩ = false := by
  have hi := (List.getElem?_eq_some_iff.1 ha).1
  obtain ⟨g, cap, hv, hc, hf⟩ := h.rE.form (by omega)
  have hx : ∀ k, k < 2 → w.cell? ⟨g, j * 2 + k, none⟩ = (ecells a)[k]? := fun k hk => by
    rw [hc _ (by omega), flat_get ecells 2 (fun _ => rfl) _ _ k _ ha hk]
  exact ⟨g, cap, hv, h.tE g (by rw [hv]; rfl), hx 0 (by omega), hx 1 (by omega), hf⟩

set_option maxHeartbeats 1000000 in
set_option maxRecDepth 100000 in
theorem isAlive_any (h : PRep own id w p s vE vF vL) (hw : PWf s) (env : Int) :
    Calls Try.prog 40 #[.pointer (some ⟨p, 0, none⟩), .int .i64 env] w fun e w' => e = .returned (.bool (aliveP s env)) ∧ w' = w := by
  have k0 := h.c0
  cases hie : isEnvP s env
  · have HE : Hid (isEnvP s env = false) := hie
    have HA : Hid (aliveP s env = false) := by simp [Hid, aliveP, hie]
    clear hie
    go_enter Try.func40, Try.ntmps40
    go_wp2_with fail
    refine (isEnv_any h hw env).mono ?_
    rintro e w2 ⟨rfl, rfl⟩
    rw [HE.out]
    go_wp2_with fail
    go_ret
    exact ⟨ret_bool (by rw [HA.out]), rfl⟩
  · obtain ⟨j, rfl, hj⟩ := isEnvP_nat hie
    obtain ⟨a, ha⟩ : ∃ a, s.alive[j]? = some a := ⟨s.alive[j], by simp⟩
    obtain ⟨g, cap, hv, _, c0, _, _⟩ := h.env ha
    have HE : Hid (isEnvP s j = true) := hie
    have HA : Hid (aliveP s j = a) := by simp [Hid, aliveP, hie, ha]
    rw [hv] at k0
    have hl : (j : Int) < (s.alive.length : Int) := by omega
    clear hie hv ha
    go_enter Try.func40, Try.ntmps40
    go_wp2_with fail
    refine (isEnv_any h hw j).mono ?_
    rintro e w2 ⟨rfl, rfl⟩
    rw [HE.out]
    go_wp2_with fail
    go_ret
    exact ⟨ret_bool (by rw [HA.out]), rfl⟩

theorem aliveP_nat {env : Int} (h : aliveP s env = true) : ∃ j : Nat, env = j ∧ s.alive[j]? = some true := by
  simp [aliveP] at h
  obtain ⟨j, rfl, hj⟩ := isEnvP_nat h.1
  refine ⟨j, rfl, ?_⟩
  have := h.2
  simp at this
  cases hx : s.alive[j]? with
  | none => rw [hx] at this; simp at this
  | some a => rw [hx] at this; simp at this; rw [this]

theorem rawP_cases (s : PSt) (env : Int) : (rawP s env = 2 ∧ aliveP s env = false) ∨ (rawP s env = 0 ∧ aliveP s env = true) := by
  unfold rawP
  cases aliveP s env <;> simp

set_option maxHeartbeats 1000000 in
set_option maxRecDepth 100000 in
theorem needRaw_any (h : PRep own id w p s vE vF vL) (hw : PWf s) (env : Int) :
    Calls Try.prog 79 #[.pointer (some ⟨p, 0, none⟩), .int .i64 env] w fun e w' => e = .returned (.int .i64 (rawP s env)) ∧ w' = w := by
  have k0 := h.c0
  rcases rawP_cases s env with ⟨hr, ha⟩ | ⟨hr, ha⟩
  · have HA : Hid (aliveP s env = false) := ha
    have HR : Hid (rawP s env = 2) := hr
    clear ha hr
    go_enter Try.func79, Try.ntmps79
    go_wp2_with fail
    refine (isAlive_any h hw env).mono ?_
    rintro e w2 ⟨rfl, rfl⟩
    rw [HA.out]
    go_wp2_with fail
    go_ret
    exact ⟨ret_int (by rw [HR.out]), rfl⟩
  · obtain ⟨j, rfl, haj⟩ := aliveP_nat ha
    have hj := (List.getElem?_eq_some_iff.1 haj).1
    obtain ⟨g, cap, hv, _, c0, c1, _⟩ := h.env haj
    have HA : Hid (aliveP s j = true) := ha
    have HR : Hid (rawP s j = 0) := hr
    rw [hv] at k0
    have hl : (j : Int) < (s.alive.length : Int) := by omega
    clear ha hr hv haj
    go_enter Try.func79, Try.ntmps79
    go_wp2_with fail
    refine (isAlive_any h hw j).mono ?_
    rintro e w2 ⟨rfl, rfl⟩
    rw [HA.out]
    go_wp2_with fail
    go_ret
    exact ⟨ret_int (by rw [HR.out]), rfl⟩

def leastFreeP (s : PSt) : Option Nat := (List.range s.nf).find? fun f => freeP s.hs f
def lfV (x : Option Nat) : Value := match x with
  | some f => .tuple #[.int .i64 f, .bool true]
  | none => .tuple #[.int .i64 0, .bool false]
theorem leastFreeP_some {f : Nat} (hlt : f < s.nf) (hno : ∀ g : Nat, g < f → freeP s.hs g = false) (hy : freeP s.hs f = true) : leastFreeP s = some f := by
  unfold leastFreeP
  rw [List.find?_range_eq_some]
  exact ⟨hy, List.mem_range.2 hlt, fun j hj => by simpa using hno j hj⟩
theorem leastFreeP_none (hno : ∀ g : Nat, g < s.nf → freeP s.hs g = false) : leastFreeP s = none := by
  unfold leastFreeP
  rw [List.find?_eq_none]
  intro x hx
  simp [hno x (List.mem_range.1 hx)]

set_option maxHeartbeats 1000000 in
set_option maxRecDepth 100000 in
theorem leastFree_any (h : PRep own id w p s vE vF vL) (hw : PWf s) :
    Calls Try.prog 80 #[.pointer (some ⟨p, 0, none⟩)] w fun e w' => e = .returned (lfV (leastFreeP s)) ∧ Below w.heap.size w w' := by
  have k1 := h.c1
  have hnf := hw.nf
  have hsz := hw.size
  obtain ⟨ao, cap, hv, _⟩ := h.rF.shape
  rw [hv] at k1
  clear hv
  go_enter Try.func80, Try.ntmps80
  go_wp2_with fail
  go_loopg [10] s.nf (fun k x wr => ∃ f : Nat, x = .int .i64 f ∧ f + k = s.nf ∧ (∀ g : Nat, g < f → freeP s.hs g = false) ∧ Below w.heap.size w wr)
  case atStart => exact ⟨0, rfl, by omega, fun g hg => by omega, Below.refl _ _⟩
  case round =>
    obtain ⟨f, rfl, hk, hno, hbl⟩ := hrel
    have HK : Hid (f + gk = s.nf) := hk
    have HN : Hid (∀ g : Nat, g < f → freeP s.hs g = false) := hno
    have hf : f ≤ s.nf := by omega
    clear hk hno
    by_cases hlt : f < s.nf
    · go_wp2_with fail
      refine (pfree_any (h.below hbl).st (by omega) f).mono ?_
      rintro e w2 ⟨rfl, hb2⟩
      have hbl2 : Below w.heap.size w w2 := hbl.trans (hb2.mono hbl.size)
      cases hfr : freeP s.hs f
      · have HF : Hid (freeP s.hs f = false) := hfr
        clear hfr
        go_wp2_with fail
        go_roundg (gk - 1)
        case measure => have := HK.out; omega
        case rel => exact ⟨f + 1, by go_num, by have := HK.out; omega, fun g hg => by
          rcases Nat.lt_or_ge g f with h1 | h1
          · exact HN.out g h1
          · obtain rfl : g = f := by omega
            exact HF.out, hbl2⟩
      · have HF : Hid (leastFreeP s = some f) := leastFreeP_some hlt HN.out hfr
        clear hfr
        go_wp2_with fail
        go_ret2
        exact ⟨by rw [HF.out]; rfl, hbl2⟩
    · have HF : Hid (leastFreeP s = none) := leastFreeP_none (fun g hg => HN.out g (by omega))
      go_wp2_with fail
      go_ret2
      exact ⟨by rw [HF.out]; rfl, hbl⟩

/-- The right that a call names, and the error. -/
def rightP (s : PSt) (env hd : Int) : Option PH × Int :=
  if rawP s env ≠ 0 then (none, rawP s env) else match findP s.hs env hd with
    | some x => (some x, 0)
    | none => (none, 9)
def rightV (x : Option PH × Int) : Value := match x.1 with
  | some y => .tuple #[.agg #[.int .i64 y.h, .int .i64 y.env, .int .i64 y.fr, .bool y.wr], .int .i64 x.2]
  | none => .tuple #[.agg #[.int .i64 0, .int .i64 0, .int .i64 0, .bool false], .int .i64 x.2]

set_option maxHeartbeats 1000000 in
set_option maxRecDepth 100000 in
theorem needRight_any (h : PRep own id w p s vE vF vL) (hw : PWf s) (env hd : Int) :
    Calls Try.prog 83 #[.pointer (some ⟨p, 0, none⟩), .int .i64 env, .int .i64 hd] w fun e w' => e = .returned (rightV (rightP s env hd)) ∧ Below w.heap.size w w' := by
  have hsz := hw.size
  have h' := h.below ((Below.refl _ _).alloc (Nat.le_refl _) (.cells #[.int .i64 0, .int .i64 0, .int .i64 0, .bool false] 64))
  rcases rawP_cases s env with ⟨hr, ha⟩ | ⟨hr, ha⟩
  · have HR : Hid (rawP s env = 2) := hr
    have HP : Hid (rightP s env hd = (none, 2)) := by simp [Hid, rightP, hr]
    clear ha hr
    go_enter Try.func83, Try.ntmps83
    go_wp2_with fail
    refine (needRaw_any h' hw env).mono ?_
    rintro e w2 ⟨rfl, hw2⟩
    subst hw2
    rw [HR.out]
    go_wp2_with fail
    exact bodyPost_ret (v := .tuple #[.agg #[.int .i64 0, .int .i64 0, .int .i64 0, .bool false], .int .i64 2]) (by simp [results, Try.results83, go_sem]) rfl ⟨by rw [HP.out]; rfl, (Below.refl _ _).alloc (Nat.le_refl _) _⟩
  · have HR : Hid (rawP s env = 0) := hr
    cases hf : findP s.hs env hd with
    | none =>
      have HF : Hid (findP s.hs env hd = none) := hf
      have HP : Hid (rightP s env hd = (none, 9)) := by simp [Hid, rightP, hr, hf]
      clear ha hr hf
      go_enter Try.func83, Try.ntmps83
      go_wp2_with fail
      refine (needRaw_any h' hw env).mono ?_
      rintro e w2 ⟨rfl, hw2⟩
      subst hw2
      rw [HR.out]
      go_wp2_with fail
      refine (find_any h'.st (by omega) env hd).mono ?_
      rintro e w3 ⟨rfl, hb3⟩
      rw [HF.out]
      simp only [findV]
      have hrb := (Blk.new w [.int .i64 0, .int .i64 0, .int .i64 0, .bool false] 64).below hb3 (by simp)
      have hrl := hrb.lt
      have r0 := hrb.cell 0
      have r1 := hrb.cell 1
      have r2 := hrb.cell 2
      have r3 := hrb.cell 3
      simp at r0 r1 r2 r3
      have s0 := hrb.frozen 0
      have s1 := hrb.frozen 1
      have s2 := hrb.frozen 2
      have s3 := hrb.frozen 3
      have hbl3 : Below w.heap.size w w3 := ((Below.refl _ _).alloc (Nat.le_refl _) _).trans (hb3.mono (by simp))
      go_wp2_with fail
      exact bodyPost_ret (v := .tuple #[.agg #[.int .i64 0, .int .i64 0, .int .i64 0, .bool false], .int .i64 9]) (by simp [results, Try.results83, go_sem, r0, r1, r2, r3, hrl]) rfl ⟨by rw [HP.out]; rfl, ((((hbl3.setCell (by simp) _).setCell (by simp) _).setCell (by simp) _).setCell (by simp) _).alloc (by simpa using hbl3.size) _⟩
    | some y =>
      have HF : Hid (findP s.hs env hd = some y) := hf
      have HP : Hid (rightP s env hd = (some y, 0)) := by simp [Hid, rightP, hr, hf]
      clear ha hr hf
      go_enter Try.func83, Try.ntmps83
      go_wp2_with fail
      refine (needRaw_any h' hw env).mono ?_
      rintro e w2 ⟨rfl, hw2⟩
      subst hw2
      rw [HR.out]
      go_wp2_with fail
      refine (find_any h'.st (by omega) env hd).mono ?_
      rintro e w3 ⟨rfl, hb3⟩
      rw [HF.out]
      simp only [findV]
      have hrb := (Blk.new w [.int .i64 0, .int .i64 0, .int .i64 0, .bool false] 64).below hb3 (by simp)
      have hrl := hrb.lt
      have r0 := hrb.cell 0
      have r1 := hrb.cell 1
      have r2 := hrb.cell 2
      have r3 := hrb.cell 3
      simp at r0 r1 r2 r3
      have s0 := hrb.frozen 0
      have s1 := hrb.frozen 1
      have s2 := hrb.frozen 2
      have s3 := hrb.frozen 3
      have hbl3 : Below w.heap.size w w3 := ((Below.refl _ _).alloc (Nat.le_refl _) _).trans (hb3.mono (by simp))
      go_wp2_with fail
      exact bodyPost_ret (v := .tuple #[.agg #[.int .i64 y.h, .int .i64 y.env, .int .i64 y.fr, .bool y.wr], .int .i64 0]) (by simp [results, Try.results83, go_sem, r0, r1, r2, r3, hrl]) rfl ⟨by rw [HP.out]; rfl, ((((hbl3.setCell (by simp) _).setCell (by simp) _).setCell (by simp) _).setCell (by simp) _).alloc (by simpa using hbl3.size) _⟩
end
end Go.Proofs.Ytkonobbhohfjlaa
