import Derived.Test.YtnolplmpanbmhabM03
/-
  The program's machine (stage 2).
-/
namespace Go.Proofs.Ytnolplmpanbmhab
open Go.RowKit
set_option linter.unusedVariables false

structure PSt where
  alive : List Bool
  bytes : List (List Int)
  hs : List PH
  last : Int
  slots : List Ent

def ecells (b : Bool) : List Value := [.bool b, .bool false]
def fcells (l : List Int) : List Value := [.int .u8 (l[0]?.getD 0), .int .u8 (l[1]?.getD 0), .int .u8 (l[2]?.getD 0), .int .u8 (l[3]?.getD 0)]

/-- 'own': (id, 0): the struct; 1: the environments; 2: the frames; 3: the rights; 4: the slots. -/
structure PRep (own : Nat → Nat × Nat) (id : Nat) (w : World) (p : Nat) (s : PSt) (vE vF vL vT : Value) : Prop where
  st : StoreAt own (id, 3) w p 2 61 [vE, vF, vL, .int .i64 s.last, vT] vL s.hs s.last
  tb : TableAt own (id, 4) w p 4 61 [vE, vF, vL, .int .i64 s.last, vT] vT s.slots
  rE : Row w vE 84 2 s.alive.length (s.alive.flatMap ecells)
  rF : Row w vF 64 4 s.bytes.length (s.bytes.flatMap fcells)
  tm : own p = (id, 0)
  tE : Tg own vE (id, 1)
  tF : Tg own vF (id, 2)

section
variable {own : Nat → Nat × Nat} {id : Nat} {w : World} {p : Nat} {s : PSt} {vE vF vL vT : Value}

theorem PRep.of {own' : Nat → Nat × Nat} {w' : World} (h : PRep own id w p s vE vF vL vT) (ho : ∀ b, b < w.heap.size → own' b = own b) (hb : ∀ b, b < w.heap.size → (own b).1 = id → w'.heap[b]? = w.heap[b]?) : PRep own' id w' p s vE vF vL vT :=
  ⟨h.st.of ho (hb p h.st.blk.lt (by rw [h.tm])) (fun x hx ht => hb x hx (by rw [ht])), h.tb.of ho (hb p h.st.blk.lt (by rw [h.tm])) (fun x hx ht => hb x hx (by rw [ht])), h.rE.kept h.tE (fun x hx ht => hb x hx (by rw [ht])), h.rF.kept h.tF (fun x hx ht => hb x hx (by rw [ht])),
    (ho p h.st.blk.lt).trans h.tm, h.tE.congr h.rE ho, h.tF.congr h.rF ho⟩
theorem PRep.below {w' : World} (h : PRep own id w p s vE vF vL vT) (hb : Below w.heap.size w w') : PRep own id w' p s vE vF vL vT := h.of (fun _ _ => rfl) (fun b hm _ => hb.block b hm)

def PNext (own : Nat → Nat × Nat) (id : Nat) (w : World) (p : Nat) (w' : World) (s' : PSt) : Prop :=
  ∃ (own' : Nat → Nat × Nat) (vE vF vL vT : Value), PRep own' id w' p s' vE vF vL vT ∧ (∀ b, b < w.heap.size → own' b = own b) ∧ Touch w.heap.size (fun b => (own b).1 = id) w w'

theorem PNext.refl (h : PRep own id w p s vE vF vL vT) : PNext own id w p w s := ⟨own, vE, vF, vL, vT, h, fun _ _ => rfl, Touch.refl _ _ _⟩
theorem PNext.of_below {w' : World} (h : PRep own id w p s vE vF vL vT) (hb : Below w.heap.size w w') : PNext own id w p w' s := ⟨own, vE, vF, vL, vT, h.below hb, fun _ _ => rfl, Touch.of_below hb _⟩
theorem PNext.after {w1 w2 : World} {s2 : PSt} (ht : Touch w.heap.size (fun b => (own b).1 = id) w w1) (h2 : PNext own id w1 p w2 s2) : PNext own id w p w2 s2 := by
  obtain ⟨own2, a, b, c, d, hr2, ho2, ht2⟩ := h2
  exact ⟨own2, a, b, c, d, hr2, fun b hb => ho2 b (Nat.lt_of_lt_of_le hb ht.size), ht.next (fun _ _ => rfl) ht2⟩
theorem PNext.then {own' : Nat → Nat × Nat} {w1 w2 : World} {s2 : PSt} (ho : ∀ b, b < w.heap.size → own' b = own b) (ht : Touch w.heap.size (fun b => (own b).1 = id) w w1) (h2 : PNext own' id w1 p w2 s2) : PNext own id w p w2 s2 := by
  obtain ⟨own2, a, b, c, d, hr2, ho2, ht2⟩ := h2
  exact ⟨own2, a, b, c, d, hr2, fun b hb => (ho2 b (Nat.lt_of_lt_of_le hb ht.size)).trans (ho b hb), ht.next ho ht2⟩

/-- The store has turned. -/
theorem PRep.next {w' : World} {hs' : List PH} {last' : Int} (h : PRep own id w p s vE vF vL vT) (hn : StoreNext own (id, 3) w p 2 61 [vE, vF, vL, .int .i64 s.last, vT] vL w' hs' last') : PNext own id w p w' { s with hs := hs', last := last' } := by
  obtain ⟨own', vL', h1, h2, h3⟩ := hn
  have hpid : (own p).1 = id := by rw [h.tm]
  have hk : ∀ j, j = 1 ∨ j = 2 ∨ j = 4 → ∀ x, x < w.heap.size → own x = (id, j) → w'.heap[x]? = w.heap[x]? := fun j hj x hx ht => h3.block x hx (fun e => by
    rcases e with e | e
    · subst e; rw [h.tm] at ht; simp at ht; omega
    · have := h.st.tag x e; rw [ht] at this; simp at this; omega)
  refine ⟨own', vE, vF, vL', vT, ⟨h1, ⟨h1.blk, rfl, h.tb.row.kept h.tb.tag (hk 4 (by simp)), h.tb.tag.congr h.tb.row h2, by rw [h2 p h.st.blk.lt]; exact h.tb.ne⟩, h.rE.kept h.tE (hk 1 (by simp)), h.rF.kept h.tF (hk 2 (by simp)), (h2 p h.st.blk.lt).trans h.tm, h.tE.congr h.rE h2, h.tF.congr h.rF h2⟩, h2, h3.mono (Nat.le_refl _) (fun k hk e => ?_)⟩
  rcases e with e | e
  · subst e; exact hpid
  · rw [h.st.tag k e]

/-- The table has turned. -/
theorem PRep.turned {w' : World} {es' : List Ent} (h : PRep own id w p s vE vF vL vT) (ht : TableAt own (id, 4) w' p 4 61 [vE, vF, vL, .int .i64 s.last, vT] vT es') (hT : Touch w.heap.size (fun x => vT.ownBlock = some x) w w') : PRep own id w' p { s with slots := es' } vE vF vL vT := by
  have hk : ∀ j, j ≠ 4 → ∀ x, x < w.heap.size → own x = (id, j) → w'.heap[x]? = w.heap[x]? := fun j hj x hx hx2 => hT.block x hx (fun e => by
    have := h.tb.tag x e; rw [hx2] at this; simp at this; omega)
  exact ⟨⟨ht.blk, rfl, rfl, h.st.row.kept h.st.tag (hk 3 (by simp)), h.st.tag, h.st.ne⟩, ht, h.rE.kept h.tE (hk 1 (by simp)), h.rF.kept h.tF (hk 2 (by simp)), h.tm, h.tE, h.tF⟩
theorem PRep.touch {w' : World} (h : PRep own id w p s vE vF vL vT) (hT : Touch w.heap.size (fun x => vT.ownBlock = some x) w w') : Touch w.heap.size (fun b => (own b).1 = id) w w' :=
  hT.mono (Nat.le_refl _) (fun k hk e => by rw [h.tb.tag k e])

def isEnvP (s : PSt) (env : Int) : Bool := decide (0 ≤ env) && decide (env < s.alive.length)
def aliveP (s : PSt) (env : Int) : Bool := isEnvP s env && s.alive[env.toNat]?.getD false
def rawP (s : PSt) (env : Int) : Int := if aliveP s env then 0 else 2

/-- No two entries of one environment and page. -/
def Uni (es : List Ent) : Prop := ∀ (i j : Nat) (e f : Ent), es[i]? = some e → es[j]? = some f → e.used = true → f.used = true → e.env = f.env → e.page = f.page → i = j

structure PWf (s : PSt) : Prop where
  ne : s.alive.length ≤ 4
  nf : s.bytes.length ≤ 16
  sl : s.slots.length ≤ 8
  uni : Uni s.slots
  fr : ∀ (i : Nat) (e : Ent), s.slots[i]? = some e → e.used = true → 0 ≤ e.fr ∧ e.fr < s.bytes.length
  bys : ∀ (i : Nat) (l : List Int), s.bytes[i]? = some l → l.length = 4 ∧ ∀ (j : Nat) (x : Int), l[j]? = some x → 0 ≤ x ∧ x ≤ 255
  l0 : 0 ≤ s.last
  l1 : s.last ≤ 4611686018427387904
  size : (s.hs.length + 1) * 48 ≤ 140737488355328

theorem PRep.c0 (h : PRep own id w p s vE vF vL vT) : w.cell? ⟨p, 0, none⟩ = some vE := (h.st.blk.cell 0).trans rfl
theorem PRep.c1 (h : PRep own id w p s vE vF vL vT) : w.cell? ⟨p, 1, none⟩ = some vF := (h.st.blk.cell 1).trans rfl

set_option maxHeartbeats 1000000 in
set_option maxRecDepth 100000 in
theorem isEnv_any (h : PRep own id w p s vE vF vL vT) (hw : PWf s) (env : Int) :
    Calls Try.prog 56 #[.pointer (some ⟨p, 0, none⟩), .int .i64 env] w fun e w' => e = .returned (.bool (isEnvP s env)) ∧ w' = w := by
  have k0 := h.c0
  have hne := hw.ne
  obtain ⟨ao, cap, hv, _⟩ := h.rE.shape
  rw [hv] at k0
  clear hv
  by_cases h1 : 0 ≤ env
  · have HE : Hid (isEnvP s env = decide (env < s.alive.length)) := by simp [Hid, isEnvP, h1]
    go_enter Try.func56, Try.ntmps56
    go_wp2_with fail
    go_ret
    exact ⟨ret_bool (by rw [HE.out]), rfl⟩
  · have HE : Hid (isEnvP s env = false) := by simp [Hid, isEnvP]; omega
    go_enter Try.func56, Try.ntmps56
    go_wp2_with fail
    go_ret
    exact ⟨ret_bool (by rw [HE.out]), rfl⟩

theorem isEnvP_nat {env : Int} (h : isEnvP s env = true) : ∃ j : Nat, env = j ∧ j < s.alive.length := by
  simp [isEnvP] at h
  exact ⟨env.toNat, by omega, by omega⟩

/-- The cells of environment j. -/
theorem PRep.env (h : PRep own id w p s vE vF vL vT) {j : Nat} {a : Bool} (ha : s.alive[j]? = some a) :
    ∃ g cap, vE = .slice (some ⟨g, 0, none⟩) s.alive.length cap ∧ own g = (id, 1) ∧ w.cell? ⟨g, j * 2, none⟩ = some (.bool a) ∧ w.cell? ⟨g, j * 2 + 1, none⟩ = some (.bool false) ∧ ∀ j, w.frozen? ⟨g, j, none⟩ = false := by
  have hi := (List.getElem?_eq_some_iff.1 ha).1
  obtain ⟨g, cap, hv, hc, hf⟩ := h.rE.form (by omega)
  have hx : ∀ k, k < 2 → w.cell? ⟨g, j * 2 + k, none⟩ = (ecells a)[k]? := fun k hk => by
    rw [hc _ (by omega), flat_get ecells 2 (fun _ => rfl) _ _ k _ ha hk]
  exact ⟨g, cap, hv, h.tE g (by rw [hv]; rfl), hx 0 (by omega), hx 1 (by omega), hf⟩

set_option maxHeartbeats 1000000 in
set_option maxRecDepth 100000 in
theorem isAlive_any (h : PRep own id w p s vE vF vL vT) (hw : PWf s) (env : Int) :
    Calls Try.prog 47 #[.pointer (some ⟨p, 0, none⟩), .int .i64 env] w fun e w' => e = .returned (.bool (aliveP s env)) ∧ w' = w := by
  have k0 := h.c0
  cases hie : isEnvP s env
  · have HE : Hid (isEnvP s env = false) := hie
    have HA : Hid (aliveP s env = false) := by simp [Hid, aliveP, hie]
    clear hie
    go_enter Try.func47, Try.ntmps47
    go_wp2_with fail
    refine (isEnv_any h hw env).mono ?_
    rintro e w2 ⟨rfl, rfl⟩
    rw [HE.out]
    go_wp2_with fail
    go_ret
    exact ⟨ret_bool (by rw [HA.out]), rfl⟩
  · obtain ⟨j, rfl, hj⟩ := isEnvP_nat hie
    obtain ⟨a, ha⟩ : ∃ a, s.alive[j]? = some a := ⟨s.alive[j], by simp⟩
    obtain ⟨g, cap, hv, _, c0, _, _⟩ := h.env ha
    have HE : Hid (isEnvP s j = true) := hie
    have HA : Hid (aliveP s j = a) := by simp [Hid, aliveP, hie, ha]
    rw [hv] at k0
    have hl : (j : Int) < (s.alive.length : Int) := by omega
    clear hie hv ha
    go_enter Try.func47, Try.ntmps47
    go_wp2_with fail
    refine (isEnv_any h hw j).mono ?_
    rintro e w2 ⟨rfl, rfl⟩
    rw [HE.out]
    go_wp2_with fail
    go_ret
    exact ⟨ret_bool (by rw [HA.out]), rfl⟩

theorem aliveP_nat {env : Int} (h : aliveP s env = true) : ∃ j : Nat, env = j ∧ s.alive[j]? = some true := by
  simp [aliveP] at h
  obtain ⟨j, rfl, hj⟩ := isEnvP_nat h.1
  refine ⟨j, rfl, ?_⟩
  have := h.2
  simp at this
  cases hx : s.alive[j]? with
  | none => rw [hx] at this; simp at this
  | some a => rw [hx] at this; simp at this; rw [this]

theorem rawP_cases (s : PSt) (env : Int) : (rawP s env = 2 ∧ aliveP s env = false) ∨ (rawP s env = 0 ∧ aliveP s env = true) := by
  unfold rawP
  cases aliveP s env <;> simp

set_option maxHeartbeats 1000000 in
set_option maxRecDepth 100000 in
theorem needRaw_any (h : PRep own id w p s vE vF vL vT) (hw : PWf s) (env : Int) :
    Calls Try.prog 23 #[.pointer (some ⟨p, 0, none⟩), .int .i64 env] w fun e w' => e = .returned (.int .i64 (rawP s env)) ∧ w' = w := by
  have k0 := h.c0
  rcases rawP_cases s env with ⟨hr, ha⟩ | ⟨hr, ha⟩
  · have HA : Hid (aliveP s env = false) := ha
    have HR : Hid (rawP s env = 2) := hr
    clear ha hr
    go_enter Try.func23, Try.ntmps23
    go_wp2_with fail
    refine (isAlive_any h hw env).mono ?_
    rintro e w2 ⟨rfl, rfl⟩
    rw [HA.out]
    go_wp2_with fail
    go_ret
    exact ⟨ret_int (by rw [HR.out]), rfl⟩
  · obtain ⟨j, rfl, haj⟩ := aliveP_nat ha
    have hj := (List.getElem?_eq_some_iff.1 haj).1
    obtain ⟨g, cap, hv, _, c0, c1, _⟩ := h.env haj
    have HA : Hid (aliveP s j = true) := ha
    have HR : Hid (rawP s j = 0) := hr
    rw [hv] at k0
    have hl : (j : Int) < (s.alive.length : Int) := by omega
    clear ha hr hv haj
    go_enter Try.func23, Try.ntmps23
    go_wp2_with fail
    refine (isAlive_any h hw j).mono ?_
    rintro e w2 ⟨rfl, rfl⟩
    rw [HA.out]
    go_wp2_with fail
    go_ret
    exact ⟨ret_int (by rw [HR.out]), rfl⟩

def leastFreeP (s : PSt) : Option Nat := (List.range s.bytes.length).find? fun f => freeP s.hs f
def lfV (x : Option Nat) : Value := match x with
  | some f => .tuple #[.int .i64 f, .bool true]
  | none => .tuple #[.int .i64 0, .bool false]
theorem leastFreeP_some {f : Nat} (hlt : f < s.bytes.length) (hno : ∀ g : Nat, g < f → freeP s.hs g = false) (hy : freeP s.hs f = true) : leastFreeP s = some f := by
  unfold leastFreeP
  rw [List.find?_range_eq_some]
  exact ⟨hy, List.mem_range.2 hlt, fun j hj => by simpa using hno j hj⟩
theorem leastFreeP_none (hno : ∀ g : Nat, g < s.bytes.length → freeP s.hs g = false) : leastFreeP s = none := by
  unfold leastFreeP
  rw [List.find?_eq_none]
  intro x hx
  simp [hno x (List.mem_range.1 hx)]

set_option maxHeartbeats 1000000 in
set_option maxRecDepth 100000 in
theorem leastFree_any (h : PRep own id w p s vE vF vL vT) (hw : PWf s) :
    Calls Try.prog 24 #[.pointer (some ⟨p, 0, none⟩)] w fun e w' => e = .returned (lfV (leastFreeP s)) ∧ Below w.heap.size w w' := by
  have k1 := h.c1
  have hnf := hw.nf
  have hsz := hw.size
  obtain ⟨ao, cap, hv, _⟩ := h.rF.shape
  rw [hv] at k1
  clear hv
  go_enter Try.func24, Try.ntmps24
  go_wp2_with fail
  go_loopg [10] s.bytes.length (fun k x wr => ∃ f : Nat, x = .int .i64 f ∧ f + k = s.bytes.length ∧ (∀ g : Nat, g < f → freeP s.hs g = false) ∧ Below w.heap.size w wr)
  case atStart => exact ⟨0, rfl, by omega, fun g hg => by omega, Below.refl _ _⟩
  case round =>
    obtain ⟨f, rfl, hk, hno, hbl⟩ := hrel
    have HK : Hid (f + gk = s.bytes.length) := hk
    have HN : Hid (∀ g : Nat, g < f → freeP s.hs g = false) := hno
    have hf : f ≤ s.bytes.length := by omega
    clear hk hno
    by_cases hlt : f < s.bytes.length
    · go_wp2_with fail
      refine (pfree_any (h.below hbl).st (by omega) f).mono ?_
      rintro e w2 ⟨rfl, hb2⟩
      have hbl2 : Below w.heap.size w w2 := hbl.trans (hb2.mono hbl.size)
      cases hfr : freeP s.hs f
      · have HF : Hid (freeP s.hs f = false) := hfr
        clear hfr
        go_wp2_with fail
        go_roundg (gk - 1)
        case measure => have := HK.out; omega
        case rel => exact ⟨f + 1, by go_num, by have := HK.out; omega, fun g hg => by
          rcases Nat.lt_or_ge g f with h1 | h1
          · exact HN.out g h1
          · obtain rfl : g = f := by omega
            exact HF.out, hbl2⟩
      · have HF : Hid (leastFreeP s = some f) := leastFreeP_some hlt HN.out hfr
        clear hfr
        go_wp2_with fail
        go_ret2
        exact ⟨by rw [HF.out]; rfl, hbl2⟩
    · have HF : Hid (leastFreeP s = none) := leastFreeP_none (fun g hg => HN.out g (by omega))
      go_wp2_with fail
      go_ret2
      exact ⟨by rw [HF.out]; rfl, hbl⟩

/-- The right that a call names, and the error. -/
def rightP (s : PSt) (env hd : Int) : Option PH × Int :=
  if rawP s env ≠ 0 then (none, rawP s env) else match findP s.hs env hd with
    | some x => (some x, 0)
    | none => (none, 9)
def rightV (x : Option PH × Int) : Value := match x.1 with
  | some y => .tuple #[.agg #[.int .i64 y.h, .int .i64 y.env, .int .i64 y.fr, .bool y.wr], .int .i64 x.2]
  | none => .tuple #[.agg #[.int .i64 0, .int .i64 0, .int .i64 0, .bool false], .int .i64 x.2]

set_option maxHeartbeats 1000000 in
set_option maxRecDepth 100000 in
theorem needRight_any (h : PRep own id w p s vE vF vL vT) (hw : PWf s) (env hd : Int) :
    Calls Try.prog 36 #[.pointer (some ⟨p, 0, none⟩), .int .i64 env, .int .i64 hd] w fun e w' => e = .returned (rightV (rightP s env hd)) ∧ Below w.heap.size w w' := by
  have hsz := hw.size
  have h' := h.below ((Below.refl _ _).alloc (Nat.le_refl _) (.cells #[.int .i64 0, .int .i64 0, .int .i64 0, .bool false] 68))
  rcases rawP_cases s env with ⟨hr, ha⟩ | ⟨hr, ha⟩
  · have HR : Hid (rawP s env = 2) := hr
    have HP : Hid (rightP s env hd = (none, 2)) := by simp [Hid, rightP, hr]
    clear ha hr
    go_enter Try.func36, Try.ntmps36
    go_wp2_with fail
    refine (needRaw_any h' hw env).mono ?_
    rintro e w2 ⟨rfl, hw2⟩
    subst hw2
    rw [HR.out]
    go_wp2_with fail
    exact bodyPost_ret (v := .tuple #[.agg #[.int .i64 0, .int .i64 0, .int .i64 0, .bool false], .int .i64 2]) (by simp [results, Try.results36, go_sem]) rfl ⟨by rw [HP.out]; rfl, (Below.refl _ _).alloc (Nat.le_refl _) _⟩
  · have HR : Hid (rawP s env = 0) := hr
    cases hf : findP s.hs env hd with
    | none =>
      have HF : Hid (findP s.hs env hd = none) := hf
      have HP : Hid (rightP s env hd = (none, 9)) := by simp [Hid, rightP, hr, hf]
      clear ha hr hf
      go_enter Try.func36, Try.ntmps36
      go_wp2_with fail
      refine (needRaw_any h' hw env).mono ?_
      rintro e w2 ⟨rfl, hw2⟩
      subst hw2
      rw [HR.out]
      go_wp2_with fail
      refine (find_any h'.st (by omega) env hd).mono ?_
      rintro e w3 ⟨rfl, hb3⟩
      rw [HF.out]
      simp only [findV]
      have hrb := (Blk.new w [.int .i64 0, .int .i64 0, .int .i64 0, .bool false] 68).below hb3 (by simp)
      have hrl := hrb.lt
      have r0 := hrb.cell 0
      have r1 := hrb.cell 1
      have r2 := hrb.cell 2
      have r3 := hrb.cell 3
      simp at r0 r1 r2 r3
      have s0 := hrb.frozen 0
      have s1 := hrb.frozen 1
      have s2 := hrb.frozen 2
      have s3 := hrb.frozen 3
      have hbl3 : Below w.heap.size w w3 := ((Below.refl _ _).alloc (Nat.le_refl _) _).trans (hb3.mono (by simp))
      go_wp2_with fail
      exact bodyPost_ret (v := .tuple #[.agg #[.int .i64 0, .int .i64 0, .int .i64 0, .bool false], .int .i64 9]) (by simp [results, Try.results36, go_sem, r0, r1, r2, r3, hrl]) rfl ⟨by rw [HP.out]; rfl, ((((hbl3.setCell (by simp) _).setCell (by simp) _).setCell (by simp) _).setCell (by simp) _).alloc (by simpa using hbl3.size) _⟩
    | some y =>
      have HF : Hid (findP s.hs env hd = some y) := hf
      have HP : Hid (rightP s env hd = (some y, 0)) := by simp [Hid, rightP, hr, hf]
      clear ha hr hf
      go_enter Try.func36, Try.ntmps36
      go_wp2_with fail
      refine (needRaw_any h' hw env).mono ?_
      rintro e w2 ⟨rfl, hw2⟩
      subst hw2
      rw [HR.out]
      go_wp2_with fail
      refine (find_any h'.st (by omega) env hd).mono ?_
      rintro e w3 ⟨rfl, hb3⟩
      rw [HF.out]
      simp only [findV]
      have hrb := (Blk.new w [.int .i64 0, .int .i64 0, .int .i64 0, .bool false] 68).below hb3 (by simp)
      have hrl := hrb.lt
      have r0 := hrb.cell 0
      have r1 := hrb.cell 1
      have r2 := hrb.cell 2
      have r3 := hrb.cell 3
      simp at r0 r1 r2 r3
      have s0 := hrb.frozen 0
      have s1 := hrb.frozen 1
      have s2 := hrb.frozen 2
      have s3 := hrb.frozen 3
      have hbl3 : Below w.heap.size w w3 := ((Below.refl _ _).alloc (Nat.le_refl _) _).trans (hb3.mono (by simp))
      go_wp2_with fail
      exact bodyPost_ret (v := .tuple #[.agg #[.int .i64 y.h, .int .i64 y.env, .int .i64 y.fr, .bool y.wr], .int .i64 0]) (by simp [results, Try.results36, go_sem, r0, r1, r2, r3, hrl]) rfl ⟨by rw [HP.out]; rfl, ((((hbl3.setCell (by simp) _).setCell (by simp) _).setCell (by simp) _).setCell (by simp) _).alloc (by simpa using hbl3.size) _⟩
end
end Go.Proofs.Ytnolplmpanbmhab

namespace Go.Proofs.Ytnolplmpanbmhab
open Go.RowKit
set_option linter.unusedVariables false
attribute [local go_sem ↓] Go.wp_at_zero Go.wp_at_succ

def swP (hs : List PH) (e : Ent) : Ent := if e.used && !backsP hs e.env e.fr e.wr then Ent.empty else e

theorem mapTo_get {α : Type} (f : α → α) (xs : List α) (q i : Nat) : (mapTo f xs q)[i]? = if i < q then xs[i]?.map f else xs[i]? := by
  unfold mapTo
  by_cases h : i < q
  · rw [if_pos h]
    by_cases h2 : i < xs.length
    · rw [List.getElem?_append_left (by simp; omega)]
      simp [h]
    · rw [List.getElem?_eq_none (by simp; omega), List.getElem?_eq_none (show xs.length ≤ i by omega)]; rfl
  · rw [if_neg h]
    by_cases h2 : q ≤ xs.length
    · rw [List.getElem?_append_right (by simp; omega)]
      simp only [List.length_map, List.length_take, List.getElem?_drop]
      congr 1; omega
    · rw [List.getElem?_eq_none (by simp; omega), List.getElem?_eq_none (by omega)]

/-- One entry goes: no other has its environment and page. -/
theorem rem_one {es : List Ent} (hu : Uni es) {f : Ent → Ent} (hf : ∀ e, f e = e ∨ f e = Ent.empty) {q : Nat} {x : Ent} (hx : es[q]? = some x) (hxu : x.used = true) (hfx : f x = Ent.empty) :
    (mapTo f es q).map (remE x.env x.page) = mapTo f es (q + 1) := by
  apply List.ext_getElem?
  intro i
  rw [List.getElem?_map, mapTo_get, mapTo_get]
  cases hi : es[i]? with
  | none => simp
  | some y =>
    have key : i ≠ q → remE x.env x.page y = y := fun hne => by
      unfold remE
      cases hp : entP x.env x.page y with
      | false => rfl
      | true =>
        simp [entP] at hp
        exact absurd (hu i q y x hi hx hp.1 hxu hp.2.1 hp.2.2) hne
    have hemp : remE x.env x.page Ent.empty = Ent.empty := by simp [remE, entP, Ent.empty]
    by_cases h1 : i < q
    · rw [if_pos h1, if_pos (by omega)]
      simp only [Option.map_some]
      rcases hf y with h | h
      · rw [h, key (by omega)]
      · rw [h, hemp]
    · rw [if_neg h1]
      by_cases h2 : i = q
      · subst h2
        rw [if_pos (by omega)]
        rw [hx] at hi
        simp at hi
        subst hi
        simp only [Option.map_some, hfx]
        congr 1
        simp [remE, entP, hxu]
      · rw [if_neg (by omega)]
        simp only [Option.map_some]
        rw [key h2]

section
variable {own : Nat → Nat × Nat} {id : Nat} {w : World} {p : Nat} {s : PSt} {vE vF vL vT : Value}

set_option maxHeartbeats 4000000 in
set_option maxRecDepth 100000 in
theorem unbacked_any (h : PRep own id w p s vE vF vL vT) (hw : PWf s) :
    Calls Try.prog 39 #[.pointer (some ⟨p, 0, none⟩)] w fun e w' => e = .returned (.tuple #[]) ∧ PRep own id w' p { s with slots := s.slots.map (swP s.hs) } vE vF vL vT ∧ Touch w.heap.size (fun x => vT.ownBlock = some x) w w' := by
  have hsz := hw.size
  have hsl := hw.sl
  have hplt := h.st.blk.lt
  have hvlt := h.tb.row.lt
  have hsm : s.hs.length ≤ 4611686018427387904 := by omega
  go_enter Try.func39, Try.ntmps39
  go_wp2_with fail
  refine (tlist_any h.tb hsl).mono ?_
  rintro e w1 ⟨v, rfl, hb1, hnew, hrow⟩
  have HB1 : Hid (Below w.heap.size w w1) := hb1
  have hs1 := hb1.size
  have h1 := h.below hb1
  obtain ⟨ao, cap, hv, hcase⟩ := hrow.shape
  subst hv
  clear hb1
  rcases hcase with h0 | ⟨g, rfl⟩
  all_goals
    go_wp2_with fail
    go_loopg [9] s.slots.length (fun k x wr => ∃ q : Nat, x = .int .i64 q ∧ q + k = s.slots.length ∧ PRep own id wr p { s with slots := mapTo (swP s.hs) s.slots q } vE vF vL vT ∧ Touch w.heap.size (fun x => vT.ownBlock = some x) w wr ∧ Row wr (.slice _ s.slots.length cap) 74 5 s.slots.length (s.slots.flatMap Ent.cells))
    case atStart => exact ⟨0, rfl, by omega, by rw [mapTo_zero]; exact h1, Touch.of_below HB1.out _, hrow⟩
    case round =>
      obtain ⟨q, rfl, hk, h', ht, hr'⟩ := hrel
      have HK : Hid (q + gk = s.slots.length) := hk
      have hq : q ≤ s.slots.length := by omega
      have hwz := ht.size
      clear hk
      by_cases hlt : q < s.slots.length
      · first
        | (exfalso; omega; done)
        | (obtain ⟨x, hx⟩ : ∃ x, s.slots[q]? = some x := ⟨s.slots[q], by simp⟩
           obtain ⟨c0, c1, c2, c3, c4⟩ := hr'.ent hx
           have hgl : g < wr.heap.size := hr'.lt g rfl
           have hgn : w.heap.size ≤ g := hnew g rfl
           have HX : Hid (s.slots[q]? = some x) := hx
           have hba : Below wr.heap.size wr (wr.alloc (.cells #[.bool x.used, .int .i64 x.env, .int .i64 x.page, .int .i64 x.fr, .bool x.wr] 74)) := (Below.refl _ _).alloc (Nat.le_refl _) _
           have h2 := h'.below hba
           have hbx := Blk.new wr [.bool x.used, .int .i64 x.env, .int .i64 x.page, .int .i64 x.fr, .bool x.wr] 74
           clear hx
           rcases Bool.eq_false_or_eq_true x.used with hu | hu
           · have hu2 := hu
             rw [hu] at c0 hba h2 hbx
             have h2d := h2.below (Below.refl _ _).drew
             have hbxd := hbx.drew
             go_wp2_with fail
             go_region_held3 (fun w' => w'.cell? ⟨wr.heap.size, 0, none⟩ = some (.bool true) ∧ w'.cell? ⟨wr.heap.size, 1, none⟩ = some (.int .i64 x.env) ∧ w'.cell? ⟨wr.heap.size, 3, none⟩ = some (.int .i64 x.fr) ∧ w'.cell? ⟨wr.heap.size, 4, none⟩ = some (.bool x.wr)) (go_keep)
               ((first
                 | (go_at_call 53; refine (backs_any h2d.st hsm x.env x.fr x.wr).mono ?_; rintro e w2 ⟨rfl, hb2⟩
                    have hbxx := hbxd.below hb2 (by simp)
                    have a0 := hbxx.cell 0
                    have a1 := hbxx.cell 1
                    have a2 := hbxx.cell 2
                    have a3 := hbxx.cell 3
                    have a4 := hbxx.cell 4
                    simp at a0 a1 a2 a3 a4)))
             have hbw : Below wr.heap.size wr w2 := hba.drew.trans (hb2.mono (by simp))
             have h3 := h2d.below hb2
             have ht3 : Touch w.heap.size (fun x => vT.ownBlock = some x) w w2 := ht.then_below hbw hwz
             have hr3 := hr'.below hbw
             have hxl := hbxx.lt
             cases hbk : backsP s.hs x.env x.fr x.wr
             · have HW : Hid ((mapTo (swP s.hs) s.slots q).map (remE x.env x.page) = mapTo (swP s.hs) s.slots (q + 1)) := rem_one hw.uni (fun e => by unfold swP; split; exact .inr rfl; exact .inl rfl) HX.out hu2 (by simp [swP, hu2, hbk])
               have hl3 : (mapTo (swP s.hs) s.slots q).length ≤ 8 := by rw [mapTo_len]; exact hsl
               clear hbk
               have h3d := h3.below (Below.refl _ _).drew
               have hbxy := hbxx.drew
               have hxn : ∀ y, vT.ownBlock = some y → y ≠ wr.heap.size := fun y hy e => by have := hvlt y hy; omega
               go_wp2_with fail
               go_region_held3 (fun w' => w'.cell? ⟨wr.heap.size, 1, none⟩ = some (.int .i64 x.env) ∧ w'.cell? ⟨wr.heap.size, 2, none⟩ = some (.int .i64 x.page)) (go_keep)
                 ((first
                   | (go_at_call 42; refine (tremove_any h3d.tb hl3 x.env x.page).mono ?_; rintro e w3 ⟨rfl, h4, ht4⟩
                      have hby := hbxy.of (ht4.block _ hxl (fun e => hxn _ e rfl))
                      have e1 := hby.cell 1
                      have e2 := hby.cell 2
                      simp at e1 e2)))
               go_wp2_with fail
               go_roundg (gk - 1)
               case measure => have := HK.out; omega
               case rel =>
                 refine ⟨q + 1, by go_num, by have := HK.out; omega, ?_, ht3.drew.trans (ht4.mono ht3.size (fun _ _ h => h)), ?_⟩
                 · have h5 := h3d.turned h4 ht4
                   rw [← HW.out]
                   exact h5
                 · exact hr3.drew.of (fun y hy => ht4.block y (hr3.lt y hy) (fun e => by
                     simp [Value.ownBlock] at hy
                     have := hvlt y e
                     omega))
             · have HW : Hid (mapTo (swP s.hs) s.slots (q + 1) = mapTo (swP s.hs) s.slots q) := mapTo_same _ _ _ _ HX.out (by simp [swP, hbk])
               clear hbk
               go_wp2_with fail
               go_roundg (gk - 1)
               case measure => have := HK.out; omega
               case rel => exact ⟨q + 1, by go_num, by have := HK.out; omega, by rw [HW.out]; exact h3, ht3, hr3⟩
           · have HW : Hid (mapTo (swP s.hs) s.slots (q + 1) = mapTo (swP s.hs) s.slots q) := mapTo_same _ _ _ _ HX.out (by simp [swP, hu])
             rw [hu] at c0 hba h2 hbx
             go_wp2_with fail
             go_quiet (fail)
             go_wp2_with fail
             go_roundg (gk - 1)
             case measure => have := HK.out; omega
             case rel => exact ⟨q + 1, by go_num, by have := HK.out; omega, by rw [HW.out]; exact h2.below (below_drewN (Below.refl _ _) _), ht.then_below (below_drewN hba _) hwz, hr'.below (below_drewN hba _)⟩)
      · obtain rfl : q = s.slots.length := by omega
        rw [mapTo_all] at h'
        go_wp2_with fail
        go_end0
        exact ⟨rfl, h', ht⟩
end
end Go.Proofs.Ytnolplmpanbmhab

namespace Go.Proofs.Ytnolplmpanbmhab
open Go.RowKit
set_option linter.unusedVariables false
attribute [local go_sem ↓] Go.wp_at_zero Go.wp_at_succ

section
variable {own : Nat → Nat × Nat} {id : Nat} {w : World} {p : Nat} {s : PSt} {vE vF vL vT : Value}

def allocP (s : PSt) (env : Int) : (Int × Int) × PSt :=
  if rawP s env ≠ 0 then ((0, rawP s env), s) else match leastFreeP s with
    | none => ((0, 12), s)
    | some f => if 32 ≤ s.hs.length then ((0, 12), s) else ((s.last + 1, 0), { s with bytes := s.bytes.set f [0, 0, 0, 0], hs := addP s.hs s.last env f true 0, last := s.last + 1 })

theorem flat_set4 (xs : List (List Int)) (i : Nat) (l : List Int) (hi : i < xs.length) :
    (xs.set i l).flatMap fcells = ((((xs.flatMap fcells).set (i * 4) (.int .u8 (l[0]?.getD 0))).set (i * 4 + 1) (.int .u8 (l[1]?.getD 0))).set (i * 4 + 2) (.int .u8 (l[2]?.getD 0))).set (i * 4 + 3) (.int .u8 (l[3]?.getD 0)) := by
  apply List.ext_getElem?
  intro q
  have hl := flat_length fcells 4 (fun _ => rfl) xs
  rw [flat_at fcells 4 (by omega) (fun _ => rfl)]
  simp only [List.getElem?_set, List.length_set, hl]
  by_cases hp : q / 4 = i
  · have h5 : q % 4 = 0 ∨ q % 4 = 1 ∨ q % 4 = 2 ∨ q % 4 = 3 := by omega
    rw [if_pos hp.symm, if_pos (by omega)]
    rcases h5 with h | h | h | h
    · rw [if_neg (by omega), if_neg (by omega), if_neg (by omega), if_pos (by omega), if_pos (by omega), h]; rfl
    · rw [if_neg (by omega), if_neg (by omega), if_pos (by omega), if_pos (by omega), h]; rfl
    · rw [if_neg (by omega), if_pos (by omega), if_pos (by omega), h]; rfl
    · rw [if_pos (by omega), if_pos (by omega), h]; rfl
  · rw [if_neg (fun e => hp e.symm), if_neg (by omega), if_neg (by omega), if_neg (by omega), if_neg (by omega), flat_at fcells 4 (by omega) (fun _ => rfl)]

/-- The frames have turned. -/
theorem PRep.framed {W : World} {bytes' : List (List Int)} (h : PRep own id w p s vE vF vL vT) (hW : ∀ b, b < w.heap.size → own b ≠ (id, 2) → W.heap[b]? = w.heap[b]?) (hr : Row W vF 64 4 bytes'.length (bytes'.flatMap fcells)) :
    PRep own id W p { s with bytes := bytes' } vE vF vL vT :=
  ⟨h.st.of (fun _ _ => rfl) (hW p h.st.blk.lt (by rw [h.tm]; simp)) (fun x hx ht => hW x hx (by rw [ht]; simp)), h.tb.of (fun _ _ => rfl) (hW p h.st.blk.lt (by rw [h.tm]; simp)) (fun x hx ht => hW x hx (by rw [ht]; simp)),
    h.rE.kept h.tE (fun x hx ht => hW x hx (by rw [ht]; simp)), hr, h.tm, h.tE, h.tF⟩

/-- A frame is written. -/
theorem PRep.setF {g cap : Nat} (h : PRep own id w p s vE vF vL vT) (hv : vF = .slice (some ⟨g, 0, none⟩) s.bytes.length cap) (f : Nat) (hf : f < s.bytes.length) :
    PRep own id ((((w.setCell ⟨g, f * 4, none⟩ (.int .u8 0)).setCell ⟨g, f * 4 + 1, none⟩ (.int .u8 0)).setCell ⟨g, f * 4 + 2, none⟩ (.int .u8 0)).setCell ⟨g, f * 4 + 3, none⟩ (.int .u8 0)) p { s with bytes := s.bytes.set f [0, 0, 0, 0] } vE vF vL vT := by
  have hg : own g = (id, 2) := h.tF g (by rw [hv]; rfl)
  refine h.framed (fun b hb h3 => ?_) ?_
  · have hn : b ≠ g := fun e => h3 (by rw [e]; exact hg)
    rw [Below.heap_setCell _ _ _ _ hn, Below.heap_setCell _ _ _ _ hn, Below.heap_setCell _ _ _ _ hn, Below.heap_setCell _ _ _ _ hn]
  · have h1 := h.rF
    rw [hv] at h1 ⊢
    rw [List.length_set, flat_set4 _ _ _ hf]
    exact (((h1.set _ _).set _ _).set _ _).set _ _

set_option maxHeartbeats 2000000 in
set_option maxRecDepth 100000 in
theorem palloc_any (h : PRep own id w p s vE vF vL vT) (hw : PWf s) (env : Int) :
    Calls Try.prog 10 #[.pointer (some ⟨p, 0, none⟩), .int .i64 env] w fun e w' => e = .returned (.tuple #[.int .i64 (allocP s env).1.1, .int .i64 (allocP s env).1.2]) ∧ PNext own id w p w' (allocP s env).2 := by
  have hsz := hw.size
  rcases rawP_cases s env with ⟨hr, -⟩ | ⟨hr, -⟩
  · have HR : Hid (rawP s env = 2) := hr
    have HP : Hid (allocP s env = ((0, 2), s)) := by simp [Hid, allocP, hr]
    clear hr
    go_enter Try.func10, Try.ntmps10
    go_wp2_with fail
    refine (needRaw_any h hw env).mono ?_
    rintro e w2 ⟨rfl, hw2⟩
    subst hw2
    rw [HR.out]
    go_wp2_with fail
    go_ret2
    exact ⟨ret_int2 (by rw [HP.out]) (by rw [HP.out]), by rw [HP.out]; exact PNext.refl h⟩
  · have HR : Hid (rawP s env = 0) := hr
    cases hf : leastFreeP s with
    | none =>
      have HF : Hid (leastFreeP s = none) := hf
      have HP : Hid (allocP s env = ((0, 12), s)) := by simp [Hid, allocP, hr, hf]
      clear hr hf
      go_enter Try.func10, Try.ntmps10
      go_wp2_with fail
      refine (needRaw_any h hw env).mono ?_
      rintro e w2 ⟨rfl, hw2⟩
      subst hw2
      rw [HR.out]
      go_wp2_with fail
      refine (leastFree_any h hw).mono ?_
      rintro e w3 ⟨rfl, hb3⟩
      rw [HF.out]
      simp only [lfV]
      go_wp2_with fail
      go_ret2
      exact ⟨ret_int2 (by rw [HP.out]) (by rw [HP.out]), by rw [HP.out]; exact PNext.of_below h hb3⟩
    | some f =>
      have HF : Hid (leastFreeP s = some f) := hf
      have hflt : f < s.bytes.length := by have := List.mem_of_find?_eq_some hf; simpa using this
      by_cases hc : 32 ≤ s.hs.length
      · have HP : Hid (allocP s env = ((0, 12), s)) := by simp [Hid, allocP, hr, hf, hc]
        have hcd : decide (32 ≤ s.hs.length) = true := by simpa using hc
        clear hr hf hc
        go_enter Try.func10, Try.ntmps10
        go_wp2_with fail
        refine (needRaw_any h hw env).mono ?_
        rintro e w2 ⟨rfl, hw2⟩
        subst hw2
        rw [HR.out]
        go_wp2_with fail
        refine (leastFree_any h hw).mono ?_
        rintro e w3 ⟨rfl, hb3⟩
        rw [HF.out]
        simp only [lfV]
        go_wp2_with fail
        refine (full_any (h.below hb3).st (by omega)).mono ?_
        rintro e w4 ⟨rfl, hw4⟩
        subst hw4
        rw [hcd]
        go_wp2_with fail
        go_ret2
        exact ⟨ret_int2 (by rw [HP.out]) (by rw [HP.out]), by rw [HP.out]; exact PNext.of_below h hb3⟩
      · have HP : Hid (allocP s env = ((s.last + 1, 0), { s with bytes := s.bytes.set f [0, 0, 0, 0], hs := addP s.hs s.last env f true 0, last := s.last + 1 })) := by simp [Hid, allocP, hr, hf, hc]
        have hcd : decide (32 ≤ s.hs.length) = false := by simpa using hc
        clear hr hf hc
        go_enter Try.func10, Try.ntmps10
        go_wp2_with fail
        refine (needRaw_any h hw env).mono ?_
        rintro e w2 ⟨rfl, hw2⟩
        subst hw2
        rw [HR.out]
        go_wp2_with fail
        refine (leastFree_any h hw).mono ?_
        rintro e w3 ⟨rfl, hb3⟩
        rw [HF.out]
        simp only [lfV]
        have h3 := h.below hb3
        go_wp2_with fail
        refine (full_any h3.st (by omega)).mono ?_
        rintro e w4 ⟨rfl, hw4⟩
        subst hw4
        rw [hcd]
        have k1 := h3.c1
        have hrf := h3.rF
        obtain ⟨g, cap, hv, hcell, hfz⟩ := hrf.form (by omega)
        rw [hv] at k1
        have hxl := hrf.len
        have cx : ∀ j, j < 4 → ∃ v, w4.cell? ⟨g, f * 4 + j, none⟩ = some v := fun j hj => ⟨_, by rw [hcell _ (by omega)]; exact List.getElem?_eq_getElem (by omega)⟩
        obtain ⟨v0, c0⟩ := cx 0 (by omega)
        obtain ⟨v1, c1⟩ := cx 1 (by omega)
        obtain ⟨v2, c2⟩ := cx 2 (by omega)
        obtain ⟨v3, c3⟩ := cx 3 (by omega)
        simp only [Nat.add_zero] at c0
        have z0 := hfz (f * 4)
        have z1 := hfz (f * 4 + 1)
        have z2 := hfz (f * 4 + 2)
        have z3 := hfz (f * 4 + 3)
        have hl : (f : Int) < (s.bytes.length : Int) := by omega
        have hgt : own g = (id, 2) := h3.tF g (by rw [hv]; rfl)
        have hst := h3.setF hv f hflt
        clear hv hcell hfz hrf hxl cx
        go_wp2_with fail
        refine (pfirst_any hst.st hsz hw.l0 hw.l1 env f).mono ?_
        rintro e w5 ⟨rfl, hn⟩
        go_wp2_with fail
        go_ret2
        have hin : (own g).1 = id := by rw [hgt]
        exact ⟨ret_int2 (by rw [HP.out]) (by rw [HP.out]), by rw [HP.out]; exact PNext.after (((((Touch.of_below hb3 _).setCell (.inl hin) _).setCell (.inl hin) _).setCell (.inl hin) _).setCell (.inl hin) _) (hst.next hn)⟩


def deriveP (s : PSt) (env hd te : Int) (wt : Bool) : (Int × Int) × PSt :=
  match rightP s env hd with
  | (none, e) => ((0, e), s)
  | (some y, _) => if rawP s te ≠ 0 then ((0, rawP s te), s) else if wt && !y.wr then ((0, 10), s) else if 32 ≤ s.hs.length then ((0, 12), s)
    else ((s.last + 1, 0), { s with hs := addP s.hs s.last te y.fr wt y.h, last := s.last + 1 })

theorem rightP_cases (s : PSt) (env hd : Int) : (∃ x, rightP s env hd = (none, x) ∧ (x = 2 ∨ x = 9)) ∨ ∃ y, rightP s env hd = (some y, 0) ∧ findP s.hs env hd = some y ∧ aliveP s env = true := by
  unfold rightP
  rcases rawP_cases s env with ⟨hr, _⟩ | ⟨hr, ha⟩
  · exact .inl ⟨2, by simp [hr], .inl rfl⟩
  · cases hf : findP s.hs env hd with
    | none => exact .inl ⟨9, by simp [hr], .inr rfl⟩
    | some y => exact .inr ⟨y, by simp [hr], rfl, ha⟩

set_option maxHeartbeats 4000000 in
set_option maxRecDepth 100000 in
theorem pderive_any (h : PRep own id w p s vE vF vL vT) (hw : PWf s) (env hd te : Int) (wt : Bool) :
    Calls Try.prog 16 #[.pointer (some ⟨p, 0, none⟩), .int .i64 env, .int .i64 hd, .int .i64 te, .bool wt] w fun e w' => e = .returned (.tuple #[.int .i64 (deriveP s env hd te wt).1.1, .int .i64 (deriveP s env hd te wt).1.2]) ∧ PNext own id w p w' (deriveP s env hd te wt).2 := by
  have hsz := hw.size
  rcases rightP_cases s env hd with ⟨x, hx, hx2⟩ | ⟨y, hx, -, -⟩
  · have hx0 : (x != 0) = true := by rcases hx2 with rfl | rfl <;> rfl
    have HP : Hid (deriveP s env hd te wt = ((0, x), s)) := by simp [Hid, deriveP, hx]
    have HX : Hid (rightP s env hd = (none, x)) := hx
    clear hx hx2
    go_enter Try.func16, Try.ntmps16
    go_wp2_with fail
    refine (needRight_any h hw env hd).mono ?_
    rintro e w2 ⟨rfl, hb2⟩
    rw [HX.out]
    simp only [rightV]
    go_wp2_with fail
    go_ret2
    exact ⟨ret_int2 (by rw [HP.out]) (by rw [HP.out]), by rw [HP.out]; exact PNext.of_below h (hb2.alloc hb2.size _)⟩
  · have HX : Hid (rightP s env hd = (some y, 0)) := hx
    rcases rawP_cases s te with ⟨ht, -⟩ | ⟨ht, -⟩
    · have HP : Hid (deriveP s env hd te wt = ((0, 2), s)) := by simp [Hid, deriveP, hx, ht]
      have HT : Hid (rawP s te = 2) := ht
      clear hx ht
      go_enter Try.func16, Try.ntmps16
      go_wp2_with fail
      refine (needRight_any h hw env hd).mono ?_
      rintro e w2 ⟨rfl, hb2⟩
      rw [HX.out]
      simp only [rightV]
      have h3 := (h.below hb2).below ((Below.refl _ _).alloc (Nat.le_refl _) (.cells #[.int .i64 y.h, .int .i64 y.env, .int .i64 y.fr, .bool y.wr] 68))
      go_wp2_with fail
      refine (needRaw_any h3 hw te).mono ?_
      rintro e w3 ⟨rfl, hw3⟩
      subst hw3
      rw [HT.out]
      go_wp2_with fail
      go_ret2
      exact ⟨ret_int2 (by rw [HP.out]) (by rw [HP.out]), by rw [HP.out]; exact PNext.of_below h (hb2.alloc hb2.size _)⟩
    · have HT : Hid (rawP s te = 0) := ht
      have HP : Hid (deriveP s env hd te wt = if wt && !y.wr then (((0 : Int), (10 : Int)), s) else if 32 ≤ s.hs.length then ((0, 12), s) else ((s.last + 1, 0), { s with hs := addP s.hs s.last te y.fr wt y.h, last := s.last + 1 })) := by simp [Hid, deriveP, hx, ht]
      clear hx ht
      go_enter Try.func16, Try.ntmps16
      go_wp2_with fail
      refine (needRight_any h hw env hd).mono ?_
      rintro e w2 ⟨rfl, hb2⟩
      rw [HX.out]
      simp only [rightV]
      have h3 := (h.below hb2).below ((Below.refl _ _).alloc (Nat.le_refl _) (.cells #[.int .i64 y.h, .int .i64 y.env, .int .i64 y.fr, .bool y.wr] 68))
      go_wp2_with fail
      refine (needRaw_any h3 hw te).mono ?_
      rintro e w3 ⟨rfl, hw3⟩
      subst hw3
      rw [HT.out]
      cases hq : (wt && !y.wr)
      · rw [hq] at HP
        simp only [Bool.false_eq_true, if_false] at HP
        have hcase : wt = false ∨ (wt = true ∧ y.wr = true) := by
          cases hwt : wt <;> cases hrw : y.wr <;> simp_all
        clear hq
        by_cases hc : 32 ≤ s.hs.length
        · have hcd : decide (32 ≤ s.hs.length) = true := by simpa using hc
          rw [if_pos hc] at HP
          clear hc
          rcases hcase with rfl | ⟨rfl, hrw⟩
          all_goals
            try rw [hrw] at h3 ⊢
            go_wp2_with fail
            refine (full_any h3.st (by omega)).mono ?_
            rintro e w4 ⟨rfl, hw4⟩
            subst hw4
            rw [hcd]
            go_wp2_with fail
            go_ret2
            exact ⟨ret_int2 (by rw [HP.out]) (by rw [HP.out]), by rw [HP.out]; exact PNext.of_below h (hb2.alloc hb2.size _)⟩
        · have hcd : decide (32 ≤ s.hs.length) = false := by simpa using hc
          rw [if_neg hc] at HP
          clear hc
          rcases hcase with rfl | ⟨rfl, hrw⟩
          · go_wp2_with fail
            refine (full_any h3.st (by omega)).mono ?_
            rintro e w4 ⟨rfl, hw4⟩
            subst hw4
            rw [hcd]
            have hplt := h3.st.blk.lt
            have hvlt := (h.below hb2).st.row.lt
            have hplt2 := (h.below hb2).st.blk.lt
            have h3d := h3.below (Below.refl _ _).drew
            have hbx := Blk.new w2 [.int .i64 y.h, .int .i64 y.env, .int .i64 y.fr, .bool y.wr] 68
            go_wp2_with fail
            go_region_held3 (fun w' => w'.cell? ⟨w2.heap.size, 0, none⟩ = some (.int .i64 y.h) ∧ w'.cell? ⟨w2.heap.size, 1, none⟩ = some (.int .i64 y.env) ∧ w'.cell? ⟨w2.heap.size, 2, none⟩ = some (.int .i64 y.fr) ∧ w'.cell? ⟨w2.heap.size, 3, none⟩ = some (.bool y.wr)) (go_keep)
              ((first
                | (go_at_call 37; refine (psderive_any h3d.st hsz hw.l0 hw.l1 y.h y.env y.fr y.wr te false).mono ?_; rintro e w5 ⟨rfl, hn⟩
                   have hb5 : Blk w5 w2.heap.size [.int .i64 y.h, .int .i64 y.env, .int .i64 y.fr, .bool y.wr] 68 := by
                     obtain ⟨_, _, _, _, ht5⟩ := hn
                     exact hbx.of (ht5.block _ (by show w2.heap.size < (w2.alloc _).heap.size; simp) (fun e => by
                       rcases e with e | e
                       · omega
                       · have := hvlt _ e; omega))
                   have a0 := hb5.cell 0
                   have a1 := hb5.cell 1
                   have a2 := hb5.cell 2
                   have a3 := hb5.cell 3
                   simp at a0 a1 a2 a3)))
            go_wp2_with fail
            go_ret2
            exact ⟨ret_int2 (by rw [HP.out]) (by rw [HP.out]), by rw [HP.out]; exact PNext.after (Touch.of_below (hb2.alloc hb2.size _).drew _) (h3d.next hn)⟩
          · rw [hrw] at h3 ⊢
            go_wp2_with fail
            refine (full_any h3.st (by omega)).mono ?_
            rintro e w4 ⟨rfl, hw4⟩
            subst hw4
            rw [hcd]
            have hplt := h3.st.blk.lt
            have hvlt := (h.below hb2).st.row.lt
            have hplt2 := (h.below hb2).st.blk.lt
            have h3d := h3.below (Below.refl _ _).drew
            have hbx := Blk.new w2 [.int .i64 y.h, .int .i64 y.env, .int .i64 y.fr, .bool true] 68
            go_wp2_with fail
            go_region_held3 (fun w' => w'.cell? ⟨w2.heap.size, 0, none⟩ = some (.int .i64 y.h) ∧ w'.cell? ⟨w2.heap.size, 1, none⟩ = some (.int .i64 y.env) ∧ w'.cell? ⟨w2.heap.size, 2, none⟩ = some (.int .i64 y.fr) ∧ w'.cell? ⟨w2.heap.size, 3, none⟩ = some (.bool true)) (go_keep)
              ((first
                | (go_at_call 37; refine (psderive_any h3d.st hsz hw.l0 hw.l1 y.h y.env y.fr true te true).mono ?_; rintro e w5 ⟨rfl, hn⟩
                   have hb5 : Blk w5 w2.heap.size [.int .i64 y.h, .int .i64 y.env, .int .i64 y.fr, .bool true] 68 := by
                     obtain ⟨_, _, _, _, ht5⟩ := hn
                     exact hbx.of (ht5.block _ (by show w2.heap.size < (w2.alloc _).heap.size; simp) (fun e => by
                       rcases e with e | e
                       · omega
                       · have := hvlt _ e; omega))
                   have a0 := hb5.cell 0
                   have a1 := hb5.cell 1
                   have a2 := hb5.cell 2
                   have a3 := hb5.cell 3
                   simp at a0 a1 a2 a3)))
            go_wp2_with fail
            go_ret2
            exact ⟨ret_int2 (by rw [HP.out]) (by rw [HP.out]), by rw [HP.out]; exact PNext.after (Touch.of_below (hb2.alloc hb2.size _).drew _) (h3d.next hn)⟩
      · rw [hq] at HP
        simp only [if_true] at HP
        obtain ⟨rfl, hrw⟩ : wt = true ∧ y.wr = false := by cases hwt : wt <;> cases hrw : y.wr <;> simp_all
        rw [hrw]
        clear hq
        go_wp2_with fail
        go_ret2
        exact ⟨ret_int2 (by rw [HP.out]) (by rw [HP.out]), by rw [HP.out]; exact PNext.of_below h (hb2.alloc hb2.size _)⟩
end
end Go.Proofs.Ytnolplmpanbmhab

namespace Go.Proofs.Ytnolplmpanbmhab
open Go.RowKit
set_option linter.unusedVariables false
attribute [local go_sem ↓] Go.wp_at_zero Go.wp_at_succ

section
variable {own : Nat → Nat × Nat} {id : Nat} {w : World} {p : Nat} {s : PSt} {vE vF vL vT : Value}

/-- Rights have ended: only these are left. -/
def endP (s : PSt) (hs' : List PH) : PSt := { s with hs := hs', slots := s.slots.map (swP hs') }
theorem endAllP_le (hs : List PH) (hd : List Int) : (endAllP hs hd).length ≤ hs.length := (eaTo_len hs hd hs.length).1
theorem PWf.ends (h : PWf s) {hs' : List PH} (hl : hs'.length ≤ s.hs.length) : PWf { s with hs := hs' } := ⟨h.ne, h.nf, h.sl, h.uni, h.fr, h.bys, h.l0, h.l1, by have := h.size; show (hs'.length + 1) * 48 ≤ _; omega⟩

def revokeP (s : PSt) (env hd : Int) : Int × PSt := match rightP s env hd with
  | (none, e) => (e, s)
  | (some y, _) => (0, endP s (endAllP s.hs (hdTo s.hs (fun x => x.par == y.h) s.hs.length)))
def dropP (s : PSt) (env hd : Int) : Int × PSt := match rightP s env hd with
  | (none, e) => (e, s)
  | (some y, _) => (0, endP s (endAllP s.hs [y.h]))

set_option maxHeartbeats 4000000 in
set_option maxRecDepth 100000 in
theorem prevoke_any (h : PRep own id w p s vE vF vL vT) (hw : PWf s) (env hd : Int) :
    Calls Try.prog 17 #[.pointer (some ⟨p, 0, none⟩), .int .i64 env, .int .i64 hd] w fun e w' => e = .returned (.int .i64 (revokeP s env hd).1) ∧ PNext own id w p w' (revokeP s env hd).2 := by
  have hsz := hw.size
  rcases rightP_cases s env hd with ⟨x, hx, hx2⟩ | ⟨y, hx, -, -⟩
  · have hx0 : (x != 0) = true := by rcases hx2 with rfl | rfl <;> rfl
    have HP : Hid (revokeP s env hd = (x, s)) := by simp [Hid, revokeP, hx]
    have HX : Hid (rightP s env hd = (none, x)) := hx
    clear hx hx2
    go_enter Try.func17, Try.ntmps17
    go_wp2_with fail
    refine (needRight_any h hw env hd).mono ?_
    rintro e w2 ⟨rfl, hb2⟩
    rw [HX.out]
    simp only [rightV]
    go_wp2_with fail
    go_ret
    exact ⟨ret_int (by rw [HP.out]), by rw [HP.out]; exact PNext.of_below h (hb2.alloc hb2.size _)⟩
  · have HX : Hid (rightP s env hd = (some y, 0)) := hx
    have HP : Hid (revokeP s env hd = (0, endP s (endAllP s.hs (hdTo s.hs (fun x => x.par == y.h) s.hs.length)))) := by simp [Hid, revokeP, hx]
    clear hx
    go_enter Try.func17, Try.ntmps17
    go_wp2_with fail
    refine (needRight_any h hw env hd).mono ?_
    rintro e w2 ⟨rfl, hb2⟩
    rw [HX.out]
    simp only [rightV]
    have h3 := (h.below hb2).below ((Below.refl _ _).alloc (Nat.le_refl _) (.cells #[.int .i64 y.h, .int .i64 y.env, .int .i64 y.fr, .bool y.wr] 68))
    have hplt := h3.st.blk.lt
    have hvlt := (h.below hb2).st.row.lt
    have hplt2 := (h.below hb2).st.blk.lt
    have h3d := h3.below (Below.refl _ _).drew
    have hbx := Blk.new w2 [.int .i64 y.h, .int .i64 y.env, .int .i64 y.fr, .bool y.wr] 68
    go_wp2_with fail
    go_region_held3 (fun w' => w'.cell? ⟨w2.heap.size, 0, none⟩ = some (.int .i64 y.h)) (go_keep)
      ((first
        | (go_at_call 38; refine (endDerived_any h3d.st hsz y.h).mono ?_; rintro e w5 ⟨rfl, hn⟩
           have hb5 : Blk w5 w2.heap.size [.int .i64 y.h, .int .i64 y.env, .int .i64 y.fr, .bool y.wr] 68 := by
             obtain ⟨_, _, _, _, ht5⟩ := hn
             exact hbx.of (ht5.block _ (by show w2.heap.size < (w2.alloc _).heap.size; simp) (fun e => by
               rcases e with e | e
               · omega
               · have := hvlt _ e; omega))
           have a0 := hb5.cell 0
           simp at a0)))
    obtain ⟨own', vE', vF', vL', vT', h6, ho6, ht6⟩ := h3d.next hn
    have hw6 := hw.ends (endAllP_le s.hs (hdTo s.hs (fun x => x.par == y.h) s.hs.length))
    go_wp2_with fail
    refine (unbacked_any h6 hw6).mono ?_
    rintro e w7 ⟨rfl, h7, ht7⟩
    go_wp2_with fail
    go_ret
    exact ⟨ret_int (by rw [HP.out]), by rw [HP.out]; exact PNext.after (Touch.of_below (hb2.alloc hb2.size _).drew _) (PNext.then ho6 ht6 ⟨own', _, _, _, _, h7, fun _ _ => rfl, h6.touch ht7⟩)⟩

set_option maxHeartbeats 4000000 in
set_option maxRecDepth 100000 in
theorem pdrop_any (h : PRep own id w p s vE vF vL vT) (hw : PWf s) (env hd : Int) :
    Calls Try.prog 43 #[.pointer (some ⟨p, 0, none⟩), .int .i64 env, .int .i64 hd] w fun e w' => e = .returned (.int .i64 (dropP s env hd).1) ∧ PNext own id w p w' (dropP s env hd).2 := by
  have hsz := hw.size
  rcases rightP_cases s env hd with ⟨x, hx, hx2⟩ | ⟨y, hx, -, -⟩
  · have hx0 : (x != 0) = true := by rcases hx2 with rfl | rfl <;> rfl
    have HP : Hid (dropP s env hd = (x, s)) := by simp [Hid, dropP, hx]
    have HX : Hid (rightP s env hd = (none, x)) := hx
    clear hx hx2
    go_enter Try.func43, Try.ntmps43
    go_wp2_with fail
    refine (needRight_any h hw env hd).mono ?_
    rintro e w2 ⟨rfl, hb2⟩
    rw [HX.out]
    simp only [rightV]
    go_wp2_with fail
    go_ret
    exact ⟨ret_int (by rw [HP.out]), by rw [HP.out]; exact PNext.of_below h (hb2.alloc hb2.size _)⟩
  · have HX : Hid (rightP s env hd = (some y, 0)) := hx
    have HP : Hid (dropP s env hd = (0, endP s (endAllP s.hs [y.h]))) := by simp [Hid, dropP, hx]
    clear hx
    go_enter Try.func43, Try.ntmps43
    go_wp2_with fail
    refine (needRight_any h hw env hd).mono ?_
    rintro e w2 ⟨rfl, hb2⟩
    rw [HX.out]
    simp only [rightV]
    have h3 := (h.below hb2).below ((Below.refl _ _).alloc (Nat.le_refl _) (.cells #[.int .i64 y.h, .int .i64 y.env, .int .i64 y.fr, .bool y.wr] 68))
    have hplt := h3.st.blk.lt
    have hvlt := (h.below hb2).st.row.lt
    have hplt2 := (h.below hb2).st.blk.lt
    have h3d := h3.below (Below.refl _ _).drew
    have hbx := Blk.new w2 [.int .i64 y.h, .int .i64 y.env, .int .i64 y.fr, .bool y.wr] 68
    go_wp2_with fail
    go_region_held3 (fun w' => w'.cell? ⟨w2.heap.size, 0, none⟩ = some (.int .i64 y.h)) (go_keep)
      ((first
        | (go_at_call 54; refine (end_any h3d.st hsz y.h).mono ?_; rintro e w5 ⟨rfl, hn⟩
           have hb5 : Blk w5 w2.heap.size [.int .i64 y.h, .int .i64 y.env, .int .i64 y.fr, .bool y.wr] 68 := by
             obtain ⟨_, _, _, _, ht5⟩ := hn
             exact hbx.of (ht5.block _ (by show w2.heap.size < (w2.alloc _).heap.size; simp) (fun e => by
               rcases e with e | e
               · omega
               · have := hvlt _ e; omega))
           have a0 := hb5.cell 0
           simp at a0)))
    obtain ⟨own', vE', vF', vL', vT', h6, ho6, ht6⟩ := h3d.next hn
    have hw6 := hw.ends (endAllP_le s.hs [y.h])
    go_wp2_with fail
    refine (unbacked_any h6 hw6).mono ?_
    rintro e w7 ⟨rfl, h7, ht7⟩
    go_wp2_with fail
    go_ret
    exact ⟨ret_int (by rw [HP.out]), by rw [HP.out]; exact PNext.after (Touch.of_below (hb2.alloc hb2.size _).drew _) (PNext.then ho6 ht6 ⟨own', _, _, _, _, h7, fun _ _ => rfl, h6.touch ht7⟩)⟩

def killP (s : PSt) (env : Int) : Int × PSt :=
  if aliveP s env then (0, { endP s (endAllP s.hs (hdTo s.hs (fun x => x.env == env) s.hs.length)) with alive := s.alive.set env.toNat false }) else (2, s)
def spawnP (s : PSt) (env : Int) : Int × PSt :=
  if isEnvP s env then if aliveP s env then (3, s) else (0, { s with alive := s.alive.set env.toNat true }) else (2, s)

theorem flat_setE (xs : List Bool) (i : Nat) (b : Bool) (hi : i < xs.length) : (xs.set i b).flatMap ecells = ((xs.flatMap ecells).set (i * 2) (.bool b)).set (i * 2 + 1) (.bool false) := by
  apply List.ext_getElem?
  intro q
  have hl := flat_length ecells 2 (fun _ => rfl) xs
  rw [flat_at ecells 2 (by omega) (fun _ => rfl)]
  simp only [List.getElem?_set, List.length_set, hl]
  by_cases hp : q / 2 = i
  · rw [if_pos hp.symm, if_pos (by omega)]
    have : q % 2 = 0 ∨ q % 2 = 1 := by omega
    rcases this with h | h
    · rw [if_neg (by omega), if_pos (by omega), if_pos (by omega), h]; rfl
    · rw [if_pos (by omega), if_pos (by omega), h]; rfl
  · rw [if_neg (fun e => hp e.symm), if_neg (by omega), if_neg (by omega), flat_at ecells 2 (by omega) (fun _ => rfl)]

/-- An environment is written. -/
theorem PRep.setE {g cap : Nat} (h : PRep own id w p s vE vF vL vT) (hv : vE = .slice (some ⟨g, 0, none⟩) s.alive.length cap) (i : Nat) (b : Bool) (hi : i < s.alive.length) :
    PRep own id ((w.setCell ⟨g, i * 2, none⟩ (.bool b)).setCell ⟨g, i * 2 + 1, none⟩ (.bool false)) p { s with alive := s.alive.set i b } vE vF vL vT := by
  have hg : own g = (id, 1) := h.tE g (by rw [hv]; rfl)
  have hW : ∀ x, x < w.heap.size → own x ≠ (id, 1) → ((w.setCell ⟨g, i * 2, none⟩ (.bool b)).setCell ⟨g, i * 2 + 1, none⟩ (.bool false)).heap[x]? = w.heap[x]? := fun x hx h3 => by
    have hn : x ≠ g := fun e => h3 (by rw [e]; exact hg)
    rw [Below.heap_setCell _ _ _ _ hn, Below.heap_setCell _ _ _ _ hn]
  refine ⟨h.st.of (fun _ _ => rfl) (hW p h.st.blk.lt (by rw [h.tm]; simp)) (fun x hx ht => hW x hx (by rw [ht]; simp)), h.tb.of (fun _ _ => rfl) (hW p h.st.blk.lt (by rw [h.tm]; simp)) (fun x hx ht => hW x hx (by rw [ht]; simp)), ?_, h.rF.kept h.tF (fun x hx ht => hW x hx (by rw [ht]; simp)), h.tm, h.tE, h.tF⟩
  have h1 := h.rE
  rw [hv] at h1 ⊢
  rw [List.length_set, flat_setE _ _ _ hi]
  exact (h1.set _ _).set _ _

set_option maxHeartbeats 4000000 in
set_option maxRecDepth 100000 in
theorem pspawn_any (h : PRep own id w p s vE vF vL vT) (hw : PWf s) (env : Int) :
    Calls Try.prog 46 #[.pointer (some ⟨p, 0, none⟩), .int .i64 env] w fun e w' => e = .returned (.int .i64 (spawnP s env).1) ∧ PNext own id w p w' (spawnP s env).2 := by
  have k0 := h.c0
  cases hie : isEnvP s env
  · have HE : Hid (isEnvP s env = false) := hie
    have HP : Hid (spawnP s env = (2, s)) := by simp [Hid, spawnP, hie]
    clear hie
    go_enter Try.func46, Try.ntmps46
    go_wp2_with fail
    refine (isEnv_any h hw env).mono ?_
    rintro e w2 ⟨rfl, hw2⟩
    subst hw2
    rw [HE.out]
    go_wp2_with fail
    go_ret
    exact ⟨ret_int (by rw [HP.out]), by rw [HP.out]; exact PNext.refl h⟩
  · have HE : Hid (isEnvP s env = true) := hie
    obtain ⟨j, rfl, hj⟩ := isEnvP_nat hie
    obtain ⟨a, ha⟩ : ∃ a, s.alive[j]? = some a := ⟨s.alive[j], by simp⟩
    obtain ⟨g, cap, hv, hgt, c0, c1, hfz⟩ := h.env ha
    have hst := h.setE hv j true hj
    have z0 := hfz (j * 2)
    have z1 := hfz (j * 2 + 1)
    rw [hv] at k0
    have hl : (j : Int) < (s.alive.length : Int) := by omega
    cases a
    · have HP : Hid (spawnP s j = (0, { s with alive := s.alive.set j true })) := by simp [Hid, spawnP, aliveP, hie, ha]
      clear hie ha hv hfz
      go_enter Try.func46, Try.ntmps46
      go_wp2_with fail
      refine (isEnv_any h hw j).mono ?_
      rintro e w2 ⟨rfl, hw2⟩
      subst hw2
      rw [HE.out]
      go_wp2_with fail
      go_ret
      have hin : (own g).1 = id := by rw [hgt]
      exact ⟨ret_int (by rw [HP.out]), by rw [HP.out]; exact ⟨own, _, _, _, _, hst, fun _ _ => rfl, ((Touch.refl _ _ _).setCell (.inl hin) _).setCell (.inl hin) _⟩⟩
    · have HP : Hid (spawnP s j = (3, s)) := by simp [Hid, spawnP, aliveP, hie, ha]
      clear hie ha hv hfz
      go_enter Try.func46, Try.ntmps46
      go_wp2_with fail
      refine (isEnv_any h hw j).mono ?_
      rintro e w2 ⟨rfl, hw2⟩
      subst hw2
      rw [HE.out]
      go_wp2_with fail
      go_ret
      exact ⟨ret_int (by rw [HP.out]), by rw [HP.out]; exact PNext.refl h⟩

set_option maxHeartbeats 4000000 in
set_option maxRecDepth 100000 in
theorem pkill_any (h : PRep own id w p s vE vF vL vT) (hw : PWf s) (env : Int) :
    Calls Try.prog 45 #[.pointer (some ⟨p, 0, none⟩), .int .i64 env] w fun e w' => e = .returned (.int .i64 (killP s env).1) ∧ PNext own id w p w' (killP s env).2 := by
  have hsz := hw.size
  cases hal : aliveP s env
  · have HA : Hid (aliveP s env = false) := hal
    have HP : Hid (killP s env = (2, s)) := by simp [Hid, killP, hal]
    clear hal
    go_enter Try.func45, Try.ntmps45
    go_wp2_with fail
    refine (isAlive_any h hw env).mono ?_
    rintro e w2 ⟨rfl, hw2⟩
    subst hw2
    rw [HA.out]
    go_wp2_with fail
    go_ret
    exact ⟨ret_int (by rw [HP.out]), by rw [HP.out]; exact PNext.refl h⟩
  · have HA : Hid (aliveP s env = true) := hal
    obtain ⟨j, rfl, haj⟩ := aliveP_nat hal
    have hj := (List.getElem?_eq_some_iff.1 haj).1
    have HP : Hid (killP s j = (0, { endP s (endAllP s.hs (hdTo s.hs (fun x => x.env == (j : Int)) s.hs.length)) with alive := s.alive.set j false })) := by simp [Hid, killP, hal]
    have HJ : Hid (s.alive[j]? = some true) := haj
    have hl : (j : Int) < (s.alive.length : Int) := by omega
    clear hal haj
    go_enter Try.func45, Try.ntmps45
    go_wp2_with fail
    refine (isAlive_any h hw j).mono ?_
    rintro e w2 ⟨rfl, hw2⟩
    subst hw2
    rw [HA.out]
    go_wp2_with fail
    refine (endOf_any h.st hsz j).mono ?_
    rintro e w3 ⟨rfl, hn⟩
    obtain ⟨own', vE', vF', vL', vT', h6, ho3, ht6⟩ := h.next hn
    have hw6 := hw.ends (endAllP_le s.hs (hdTo s.hs (fun x => x.env == (j : Int)) s.hs.length))
    go_wp2_with fail
    refine (unbacked_any h6 hw6).mono ?_
    rintro e w7 ⟨rfl, h3, ht7⟩
    have ht3 := ht6.next ho3 (h6.touch ht7)
    have k0 := h3.c0
    obtain ⟨g, cap, hv, hgt, c0, c1, hfz⟩ := h3.env HJ.out
    have hst := h3.setE hv j false hj
    have z0 := hfz (j * 2)
    have z1 := hfz (j * 2 + 1)
    rw [hv] at k0
    clear hv hfz
    go_wp2_with fail
    go_ret
    have hin : (own' g).1 = id := by rw [hgt]
    refine ⟨ret_int (by rw [HP.out]), ?_⟩
    rw [HP.out]
    exact ⟨own', _, _, _, _, hst, ho3, ht3.next ho3 (((Touch.refl _ _ _).setCell (.inl hin) _).setCell (.inl hin) _)⟩

end
end Go.Proofs.Ytnolplmpanbmhab
