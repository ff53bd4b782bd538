import Derived.Test.YtinlkcmdbjcofabM06
/-
  The program's machine, with kept memories.
-/
namespace Go.Proofs.Ytinlkcmdbjcofab
open Go.RowKit
set_option linter.unusedVariables false

structure PEnv where
  alive : Bool
  kept : Bool
  mem : PK
structure PSt where
  envs : List PEnv
  bytes : List (List Int)
  hs : List PH
  last : Int
  slots : List Ent
  turn : Int

def PG.zero : PG := ⟨0, false, false, false, [0, 0, 0, 0]⟩
def PG.cells (g : PG) : List Value := [.int .i64 g.frame, .bool g.chg, .bool g.dty, .bool g.sto, .int .u8 (g.out[0]?.getD 0), .int .u8 (g.out[1]?.getD 0), .int .u8 (g.out[2]?.getD 0), .int .u8 (g.out[3]?.getD 0)]
def PK.pcells (k : PK) : List Value := (List.range 16).flatMap fun p => ((k.pages[p]?).getD PG.zero).cells
/-- The 134 cells of a memory; v: its list of pages. -/
def PK.cells (k : PK) (v : Value) : List Value := .int .i64 k.quota :: .int .i64 k.policy :: (k.pcells ++ [v, .int .i64 k.refills, .int .i64 k.ins, .int .i64 k.outs])
def ecells (e : PEnv × Value) : List Value := .bool e.1.alive :: .bool e.1.kept :: e.1.mem.cells e.2
def PK.none : PK := ⟨0, 0, List.replicate 16 PG.zero, [], 0, 0, 0⟩
def fcells (l : List Int) : List Value := [.int .u8 (l[0]?.getD 0), .int .u8 (l[1]?.getD 0), .int .u8 (l[2]?.getD 0), .int .u8 (l[3]?.getD 0)]

theorem PK.pcells_len (k : PK) : k.pcells.length = 128 := by
  unfold PK.pcells
  rw [flat_length _ 8 (fun _ => rfl)]; simp
theorem PK.cells_len (k : PK) (v : Value) : (k.cells v).length = 134 := by
  unfold PK.cells
  simp [PK.pcells_len]
theorem ecells_len (e : PEnv × Value) : (ecells e).length = 136 := by
  unfold ecells
  simp [PK.cells_len]
theorem PK.cell_page {k : PK} {v : Value} {p : Nat} {g : PG} (hp : p < 16) (hg : k.pages[p]? = some g) {j : Nat} (hj : j < 8) : (k.cells v)[2 + p * 8 + j]? = g.cells[j]? := by
  have h1 : k.pcells[p * 8 + j]? = g.cells[j]? := by
    unfold PK.pcells
    rw [flat_get _ 8 (fun _ => rfl) _ p j p (by simp [hp]) hj, hg]; rfl
  unfold PK.cells
  rw [show 2 + p * 8 + j = (p * 8 + j) + 1 + 1 by omega, List.getElem?_cons_succ, List.getElem?_cons_succ, List.getElem?_append_left (by rw [PK.pcells_len]; omega), h1]
theorem PK.cell_in (k : PK) (v : Value) : (k.cells v)[130]? = some v := by
  unfold PK.cells
  rw [List.getElem?_cons_succ, List.getElem?_cons_succ, List.getElem?_append_right (by rw [PK.pcells_len]; omega), PK.pcells_len]; rfl
theorem PK.cell_refills (k : PK) (v : Value) : (k.cells v)[131]? = some (.int .i64 k.refills) := by
  unfold PK.cells
  rw [List.getElem?_cons_succ, List.getElem?_cons_succ, List.getElem?_append_right (by rw [PK.pcells_len]; omega), PK.pcells_len]; rfl
theorem PK.cell_ins (k : PK) (v : Value) : (k.cells v)[132]? = some (.int .i64 k.ins) := by
  unfold PK.cells
  rw [List.getElem?_cons_succ, List.getElem?_cons_succ, List.getElem?_append_right (by rw [PK.pcells_len]; omega), PK.pcells_len]; rfl
theorem PK.cell_outs (k : PK) (v : Value) : (k.cells v)[133]? = some (.int .i64 k.outs) := by
  unfold PK.cells
  rw [List.getElem?_cons_succ, List.getElem?_cons_succ, List.getElem?_append_right (by rw [PK.pcells_len]; omega), PK.pcells_len]; rfl
/-- Of the last four cells one is written. -/
theorem PK.set_tail (k : PK) (v : Value) (j : Nat) (u : Value) : (k.cells v).set (130 + j) u = .int .i64 k.quota :: .int .i64 k.policy :: (k.pcells ++ [v, .int .i64 k.refills, .int .i64 k.ins, .int .i64 k.outs].set j u) := by
  unfold PK.cells
  rw [show 130 + j = 128 + j + 1 + 1 by omega, List.set_cons_succ, List.set_cons_succ, List.set_append_right _ _ (by rw [PK.pcells_len]; omega), PK.pcells_len, show 128 + j - 128 = j by omega]
theorem PK.set_in (k : PK) (v u : Value) (l : List Int) : ({ k with inl := l } : PK).cells u = (k.cells v).set 130 u := by
  rw [show (130 : Nat) = 130 + 0 by rfl, PK.set_tail]; rfl
theorem PK.set_refills (k : PK) (v : Value) (n : Int) : ({ k with refills := n } : PK).cells v = (k.cells v).set 131 (.int .i64 n) := by
  rw [show (131 : Nat) = 130 + 1 by rfl, PK.set_tail]; rfl
theorem PK.set_ins (k : PK) (v : Value) (n : Int) : ({ k with ins := n } : PK).cells v = (k.cells v).set 132 (.int .i64 n) := by
  rw [show (132 : Nat) = 130 + 2 by rfl, PK.set_tail]; rfl
theorem PK.set_outs (k : PK) (v : Value) (n : Int) : ({ k with outs := n } : PK).cells v = (k.cells v).set 133 (.int .i64 n) := by
  rw [show (133 : Nat) = 130 + 3 by rfl, PK.set_tail]; rfl
theorem PK.set_quota (k : PK) (v : Value) (n : Int) : ({ k with quota := n } : PK).cells v = (k.cells v).set 0 (.int .i64 n) := rfl
/-- A cell of a page is written. -/
theorem PK.set_page {k : PK} {v u : Value} {p j : Nat} {g g' : PG} (hp : p < 16) (hn : k.pages.length = 16) (hg : k.pages[p]? = some g) (hj : j < 8) (hc : g'.cells = g.cells.set j u) : ({ k with pages := k.pages.set p g' } : PK).cells v = (k.cells v).set (2 + p * 8 + j) u := by
  have h1 : ({ k with pages := k.pages.set p g' } : PK).pcells = k.pcells.set (p * 8 + j) u := by
    apply List.ext_getElem?
    intro q
    have hl := PK.pcells_len k
    rw [List.getElem?_set, hl]
    unfold PK.pcells
    rw [flat_at _ 8 (by omega) (fun _ => rfl), flat_at _ 8 (by omega) (fun _ => rfl)]
    by_cases hq : q < 128
    · have hq8 : q / 8 < 16 := by omega
      rw [List.getElem?_range hq8]
      simp only [Option.bind_some]
      by_cases e : q / 8 = p
      · rw [e, List.getElem?_set_self (by omega), hg]
        simp only [Option.getD_some]
        rw [hc, List.getElem?_set]
        by_cases e2 : p * 8 + j = q
        · have hcl : g.cells.length = 8 := rfl
          rw [if_pos (show j = q % 8 by omega), hcl, if_pos (show j < 8 by omega), if_pos e2, if_pos (show p * 8 + j < 128 by omega)]
        · rw [if_neg e2, if_neg (show ¬ j = q % 8 by omega)]
      · rw [List.getElem?_set_ne (fun h => e h.symm), if_neg (by omega)]
    · rw [List.getElem?_eq_none (by simp; omega), if_neg (by omega)]; rfl
  unfold PK.cells
  rw [show 2 + p * 8 + j = (p * 8 + j) + 1 + 1 by omega, List.set_cons_succ, List.set_cons_succ, List.set_append_left _ _ (by rw [PK.pcells_len]; omega), ← h1]

/-- 'own': (id, 0): the struct; 1: the environments; 2: the frames; 3: the rights; 4: the slots; 5 + i: the pages that are in, of environment i. -/
structure PRep (own : Nat → Nat × Nat) (id : Nat) (w : World) (p : Nat) (s : PSt) (gE : Nat) (vF vL vT : Value) (L : List (PEnv × Value)) : Prop where
  st : StoreAt own (id, 3) w p 2 75 [.slice (some ⟨gE, 0, none⟩) s.envs.length s.envs.length, vF, vL, .int .i64 s.last, vT, .int .i64 s.turn] vL s.hs s.last
  tb : TableAt own (id, 4) w p 4 75 [.slice (some ⟨gE, 0, none⟩) s.envs.length s.envs.length, vF, vL, .int .i64 s.last, vT, .int .i64 s.turn] vT s.slots s.turn
  hL : L.map Prod.fst = s.envs
  bE : Blk w gE (L.flatMap ecells) 108
  rF : Row w vF 84 4 s.bytes.length (s.bytes.flatMap fcells)
  tm : own p = (id, 0)
  tE : own gE = (id, 1)
  tF : Tg own vF (id, 2)
  rI : ∀ (i : Nat) (e : PEnv) (v : Value), L[i]? = some (e, v) → Row w v 3 1 e.mem.inl.length (e.mem.inl.map (.int .i64)) ∧ Tg own v (id, 5 + i)

section
variable {own : Nat → Nat × Nat} {id : Nat} {w : World} {p : Nat} {s : PSt} {gE : Nat} {vF vL vT : Value} {L : List (PEnv × Value)}

theorem PRep.of {own' : Nat → Nat × Nat} {w' : World} (h : PRep own id w p s gE vF vL vT L) (ho : ∀ b, b < w.heap.size → own' b = own b) (hb : ∀ b, b < w.heap.size → (own b).1 = id → w'.heap[b]? = w.heap[b]?) : PRep own' id w' p s gE vF vL vT L :=
  ⟨h.st.of ho (hb p h.st.blk.lt (by rw [h.tm])) (fun x hx ht => hb x hx (by rw [ht])), h.tb.of ho (hb p h.st.blk.lt (by rw [h.tm])) (fun x hx ht => hb x hx (by rw [ht])), h.hL, h.bE.of (hb gE h.bE.lt (by rw [h.tE])), h.rF.kept h.tF (fun x hx ht => hb x hx (by rw [ht])),
    (ho p h.st.blk.lt).trans h.tm, (ho gE h.bE.lt).trans h.tE, h.tF.congr h.rF ho, fun i e v hi => ⟨(h.rI i e v hi).1.kept (h.rI i e v hi).2 (fun x hx ht => hb x hx (by rw [ht])), (h.rI i e v hi).2.congr (h.rI i e v hi).1 ho⟩⟩
theorem PRep.below {w' : World} (h : PRep own id w p s gE vF vL vT L) (hb : Below w.heap.size w w') : PRep own id w' p s gE vF vL vT L := h.of (fun _ _ => rfl) (fun b hm _ => hb.block b hm)

def PNext (own : Nat → Nat × Nat) (id : Nat) (w : World) (p : Nat) (w' : World) (s' : PSt) : Prop :=
  ∃ (own' : Nat → Nat × Nat) (gE : Nat) (vF vL vT : Value) (L : List (PEnv × Value)), PRep own' id w' p s' gE vF vL vT L ∧ (∀ b, b < w.heap.size → own' b = own b) ∧ Touch w.heap.size (fun b => (own b).1 = id) w w'

theorem PNext.refl (h : PRep own id w p s gE vF vL vT L) : PNext own id w p w s := ⟨own, gE, vF, vL, vT, L, h, fun _ _ => rfl, Touch.refl _ _ _⟩
theorem PNext.of_below {w' : World} (h : PRep own id w p s gE vF vL vT L) (hb : Below w.heap.size w w') : PNext own id w p w' s := ⟨own, gE, vF, vL, vT, L, h.below hb, fun _ _ => rfl, Touch.of_below hb _⟩
theorem PNext.after {w1 w2 : World} {s2 : PSt} (ht : Touch w.heap.size (fun b => (own b).1 = id) w w1) (h2 : PNext own id w1 p w2 s2) : PNext own id w p w2 s2 := by
  obtain ⟨own2, a, b, c, d, f, hr2, ho2, ht2⟩ := h2
  exact ⟨own2, a, b, c, d, f, hr2, fun b hb => ho2 b (Nat.lt_of_lt_of_le hb ht.size), ht.next (fun _ _ => rfl) ht2⟩
theorem PNext.then {own' : Nat → Nat × Nat} {w1 w2 : World} {s2 : PSt} (ho : ∀ b, b < w.heap.size → own' b = own b) (ht : Touch w.heap.size (fun b => (own b).1 = id) w w1) (h2 : PNext own' id w1 p w2 s2) : PNext own id w p w2 s2 := by
  obtain ⟨own2, a, b, c, d, f, hr2, ho2, ht2⟩ := h2
  exact ⟨own2, a, b, c, d, f, hr2, fun b hb => (ho2 b (Nat.lt_of_lt_of_le hb ht.size)).trans (ho b hb), ht.next ho ht2⟩

/-- The store has turned. -/
theorem PRep.next {w' : World} {hs' : List PH} {last' : Int} (h : PRep own id w p s gE vF vL vT L) (hn : StoreNext own (id, 3) w p 2 75 [.slice (some ⟨gE, 0, none⟩) s.envs.length s.envs.length, vF, vL, .int .i64 s.last, vT, .int .i64 s.turn] vL w' hs' last') : PNext own id w p w' { s with hs := hs', last := last' } := by
  obtain ⟨own', vL', h1, h2, h3⟩ := hn
  have hpid : (own p).1 = id := by rw [h.tm]
  have hk : ∀ j, j ≠ 0 → j ≠ 3 → ∀ x, x < w.heap.size → own x = (id, j) → w'.heap[x]? = w.heap[x]? := fun j hj0 hj x hx ht => h3.block x hx (fun e => by
    rcases e with e | e
    · subst e; rw [h.tm] at ht; simp at ht; omega
    · have := h.st.tag x e; rw [ht] at this; simp at this; omega)
  refine ⟨own', gE, vF, vL', vT, L, ⟨h1, ⟨h1.blk, rfl, rfl, h.tb.row.kept h.tb.tag (hk 4 (by simp) (by simp)), h.tb.tag.congr h.tb.row h2, by rw [h2 p h.st.blk.lt]; exact h.tb.ne⟩, h.hL, h.bE.of (hk 1 (by simp) (by simp) gE h.bE.lt h.tE), h.rF.kept h.tF (hk 2 (by simp) (by simp)), (h2 p h.st.blk.lt).trans h.tm, (h2 gE h.bE.lt).trans h.tE, h.tF.congr h.rF h2, ?_⟩, h2, h3.mono (Nat.le_refl _) (fun k hk e => ?_)⟩
  · intro i e v hi
    obtain ⟨r1, r2⟩ := h.rI i e v hi
    exact ⟨r1.kept r2 (hk (5 + i) (by omega) (by omega)), r2.congr r1 h2⟩
  · rcases e with e | e
    · subst e; exact hpid
    · rw [h.st.tag k e]

/-- The table has turned. -/
theorem PRep.turned {w' : World} {es' : List Ent} {tn' : Int} (h : PRep own id w p s gE vF vL vT L) (ht : TableAt own (id, 4) w' p 4 75 [.slice (some ⟨gE, 0, none⟩) s.envs.length s.envs.length, vF, vL, .int .i64 s.last, vT, .int .i64 tn'] vT es' tn') (hT : Touch w.heap.size (fun x => x = p ∨ vT.ownBlock = some x) w w') : PRep own id w' p { s with slots := es', turn := tn' } gE vF vL vT L := by
  have hk : ∀ j, j ≠ 0 → j ≠ 4 → ∀ x, x < w.heap.size → own x = (id, j) → w'.heap[x]? = w.heap[x]? := fun j hj0 hj x hx hx2 => hT.block x hx (fun e => by
    rcases e with e | e
    · subst e; rw [h.tm] at hx2; simp at hx2; omega
    · have := h.tb.tag x e; rw [hx2] at this; simp at this; omega)
  refine ⟨⟨ht.blk, rfl, rfl, h.st.row.kept h.st.tag (hk 3 (by simp) (by simp)), h.st.tag, h.st.ne⟩, ht, h.hL, h.bE.of (hk 1 (by simp) (by simp) gE h.bE.lt h.tE), h.rF.kept h.tF (hk 2 (by simp) (by simp)), h.tm, h.tE, h.tF, fun i e v hi => ?_⟩
  obtain ⟨r1, r2⟩ := h.rI i e v hi
  exact ⟨r1.kept r2 (hk (5 + i) (by omega) (by omega)), r2⟩
theorem PRep.touch {w' : World} (h : PRep own id w p s gE vF vL vT L) (hT : Touch w.heap.size (fun x => x = p ∨ vT.ownBlock = some x) w w') : Touch w.heap.size (fun b => (own b).1 = id) w w' :=
  hT.mono (Nat.le_refl _) (fun k hk e => by
    rcases e with e | e
    · subst e; rw [h.tm]
    · rw [h.tb.tag k e])
theorem Touch.tab {vT : Value} {B : Nat} {w w' : World} (h : Touch B (fun x => vT.ownBlock = some x) w w') (p : Nat) : Touch B (fun x => x = p ∨ vT.ownBlock = some x) w w' := h.mono (Nat.le_refl _) (fun _ _ e => .inr e)

def isEnvP (s : PSt) (env : Int) : Bool := decide (0 ≤ env) && decide (env < s.envs.length)
def aliveP (s : PSt) (env : Int) : Bool := isEnvP s env && ((s.envs[env.toNat]?).map PEnv.alive).getD false
def keptP (s : PSt) (env : Int) : Bool := ((s.envs[env.toNat]?).map PEnv.kept).getD false
def rawP (s : PSt) (env : Int) : Int := if aliveP s env then (if keptP s env then 4 else 0) else 2
def heldP (s : PSt) (env : Int) : Int := if aliveP s env then (if keptP s env then 0 else 5) else 2

/-- No two entries of one environment and page. -/
def Uni (es : List Ent) : Prop := ∀ (i j : Nat) (e f : Ent), es[i]? = some e → es[j]? = some f → e.used = true → f.used = true → e.env = f.env → e.page = f.page → i = j

structure PWf (s : PSt) : Prop where
  ne : s.envs.length ≤ 4
  nf : s.bytes.length ≤ 16
  sl : s.slots.length ≤ 8
  uni : Uni s.slots
  fr : ∀ (i : Nat) (e : Ent), s.slots[i]? = some e → e.used = true → 0 ≤ e.fr ∧ e.fr < s.bytes.length
  bys : ∀ (i : Nat) (l : List Int), s.bytes[i]? = some l → l.length = 4 ∧ ∀ (j : Nat) (x : Int), l[j]? = some x → 0 ≤ x ∧ x ≤ 255
  l0 : 0 ≤ s.last
  l1 : s.last ≤ 4611686018427387904
  size : (s.hs.length + 1) * 48 ≤ 140737488355328
  t0 : 0 ≤ s.turn
  t1 : s.turn < s.slots.length

theorem PRep.c0 (h : PRep own id w p s gE vF vL vT L) : w.cell? ⟨p, 0, none⟩ = some (.slice (some ⟨gE, 0, none⟩) s.envs.length s.envs.length) := (h.st.blk.cell 0).trans rfl
theorem PRep.c1 (h : PRep own id w p s gE vF vL vT L) : w.cell? ⟨p, 1, none⟩ = some vF := (h.st.blk.cell 1).trans rfl
theorem PRep.len (h : PRep own id w p s gE vF vL vT L) : L.length = s.envs.length := by rw [← h.hL, List.length_map]

set_option maxHeartbeats 1000000 in
set_option maxRecDepth 100000 in
theorem isEnv_any (h : PRep own id w p s gE vF vL vT L) (hw : PWf s) (env : Int) :
    Calls Try.prog 88 #[.pointer (some ⟨p, 0, none⟩), .int .i64 env] w fun e w' => e = .returned (.bool (isEnvP s env)) ∧ w' = w := by
  have k0 := h.c0
  have hne := hw.ne
  by_cases h1 : 0 ≤ env
  · have HE : Hid (isEnvP s env = decide (env < s.envs.length)) := by simp [Hid, isEnvP, h1]
    go_enter Try.func88, Try.ntmps88
    go_wp2_with fail
    go_ret
    exact ⟨ret_bool (by rw [HE.out]), rfl⟩
  · have HE : Hid (isEnvP s env = false) := by simp [Hid, isEnvP]; omega
    go_enter Try.func88, Try.ntmps88
    go_wp2_with fail
    go_ret
    exact ⟨ret_bool (by rw [HE.out]), rfl⟩

theorem isEnvP_nat {env : Int} (h : isEnvP s env = true) : ∃ j : Nat, env = j ∧ j < s.envs.length := by
  simp [isEnvP] at h
  exact ⟨env.toNat, by omega, by omega⟩

theorem PRep.pair (h : PRep own id w p s gE vF vL vT L) {j : Nat} {e : PEnv} (he : s.envs[j]? = some e) : ∃ v, L[j]? = some (e, v) := by
  rw [← h.hL, List.getElem?_map] at he
  cases hx : L[j]? with
  | none => rw [hx] at he; simp at he
  | some x => obtain ⟨a, v⟩ := x; rw [hx] at he; simp at he; subst he; exact ⟨v, rfl⟩
/-- The first two cells of environment j. -/
theorem PRep.env (h : PRep own id w p s gE vF vL vT L) {j : Nat} {e : PEnv} (he : s.envs[j]? = some e) :
    w.cell? ⟨gE, j * 136, none⟩ = some (.bool e.alive) ∧ w.cell? ⟨gE, j * 136 + 1, none⟩ = some (.bool e.kept) := by
  obtain ⟨v, hv⟩ := h.pair he
  have hx : ∀ k, k < 136 → w.cell? ⟨gE, j * 136 + k, none⟩ = (ecells (e, v))[k]? := fun k hk => by
    rw [h.bE.cell, flat_get ecells 136 ecells_len _ _ k _ hv hk]
  exact ⟨hx 0 (by omega), hx 1 (by omega)⟩

set_option maxHeartbeats 1000000 in
set_option maxRecDepth 100000 in
theorem isAlive_any (h : PRep own id w p s gE vF vL vT L) (hw : PWf s) (env : Int) :
    Calls Try.prog 65 #[.pointer (some ⟨p, 0, none⟩), .int .i64 env] w fun e w' => e = .returned (.bool (aliveP s env)) ∧ w' = w := by
  have k0 := h.c0
  cases hie : isEnvP s env
  · have HE : Hid (isEnvP s env = false) := hie
    have HA : Hid (aliveP s env = false) := by simp [Hid, aliveP, hie]
    clear hie
    go_enter Try.func65, Try.ntmps65
    go_wp2_with fail
    refine (isEnv_any h hw env).mono ?_
    rintro e w2 ⟨rfl, rfl⟩
    rw [HE.out]
    go_wp2_with fail
    go_ret
    exact ⟨ret_bool (by rw [HA.out]), rfl⟩
  · obtain ⟨j, rfl, hj⟩ := isEnvP_nat hie
    obtain ⟨a, ha⟩ : ∃ a, s.envs[j]? = some a := ⟨s.envs[j], by simp⟩
    obtain ⟨c0, _⟩ := h.env ha
    have HE : Hid (isEnvP s j = true) := hie
    have HA : Hid (aliveP s j = a.alive) := by simp [Hid, aliveP, hie, ha]
    have hl : (j : Int) < (s.envs.length : Int) := by omega
    clear hie ha
    go_enter Try.func65, Try.ntmps65
    go_wp2_with fail
    refine (isEnv_any h hw j).mono ?_
    rintro e w2 ⟨rfl, rfl⟩
    rw [HE.out]
    go_wp2_with fail
    go_ret
    exact ⟨ret_bool (by rw [HA.out]), rfl⟩

theorem aliveP_nat {env : Int} (h : aliveP s env = true) : ∃ (j : Nat) (e : PEnv), env = j ∧ s.envs[j]? = some e ∧ e.alive = true ∧ keptP s env = e.kept := by
  simp [aliveP] at h
  obtain ⟨j, rfl, hj⟩ := isEnvP_nat h.1
  have h2 := h.2
  simp only [Int.toNat_natCast] at h2
  cases hx : s.envs[j]? with
  | none => rw [hx] at h2; simp at h2
  | some e => rw [hx] at h2; simp at h2; exact ⟨j, e, rfl, hx, h2, by simp [keptP, hx]⟩

theorem rawP_cases (s : PSt) (env : Int) : (rawP s env = 2 ∧ aliveP s env = false) ∨ (rawP s env = 4 ∧ aliveP s env = true ∧ keptP s env = true) ∨ (rawP s env = 0 ∧ aliveP s env = true ∧ keptP s env = false) := by
  unfold rawP
  cases aliveP s env <;> cases keptP s env <;> simp
theorem heldP_cases (s : PSt) (env : Int) : (heldP s env = 2 ∧ aliveP s env = false) ∨ (heldP s env = 5 ∧ aliveP s env = true ∧ keptP s env = false) ∨ (heldP s env = 0 ∧ aliveP s env = true ∧ keptP s env = true) := by
  unfold heldP
  cases aliveP s env <;> cases keptP s env <;> simp

set_option maxHeartbeats 1000000 in
set_option maxRecDepth 100000 in
theorem needRaw_any (h : PRep own id w p s gE vF vL vT L) (hw : PWf s) (env : Int) :
    Calls Try.prog 33 #[.pointer (some ⟨p, 0, none⟩), .int .i64 env] w fun e w' => e = .returned (.int .i64 (rawP s env)) ∧ w' = w := by
  have k0 := h.c0
  cases ha : aliveP s env
  · have HA : Hid (aliveP s env = false) := ha
    have HR : Hid (rawP s env = 2) := by simp [Hid, rawP, ha]
    clear ha
    go_enter Try.func33, Try.ntmps33
    go_wp2_with fail
    refine (isAlive_any h hw env).mono ?_
    rintro e w2 ⟨rfl, rfl⟩
    rw [HA.out]
    go_wp2_with fail
    go_ret
    exact ⟨ret_int (by rw [HR.out]), rfl⟩
  · obtain ⟨j, x, rfl, hx, _, hkp⟩ := aliveP_nat ha
    have hj := (List.getElem?_eq_some_iff.1 hx).1
    obtain ⟨c0, c1⟩ := h.env hx
    have HA : Hid (aliveP s j = true) := ha
    have HR : Hid (rawP s j = if x.kept then 4 else 0) := by simp [Hid, rawP, ha, hkp]
    have hl : (j : Int) < (s.envs.length : Int) := by omega
    clear ha hx hkp
    rcases Bool.eq_false_or_eq_true x.kept with hk | hk
    all_goals
      rw [hk] at c1 HR
      clear hk
      go_enter Try.func33, Try.ntmps33
      go_wp2_with fail
      refine (isAlive_any h hw j).mono ?_
      rintro e w2 ⟨rfl, rfl⟩
      rw [HA.out]
      go_wp2_with fail
      go_ret
      exact ⟨ret_int (by rw [HR.out]; rfl), rfl⟩

set_option maxHeartbeats 1000000 in
set_option maxRecDepth 100000 in
theorem needKept_any (h : PRep own id w p s gE vF vL vT L) (hw : PWf s) (env : Int) :
    Calls Try.prog 79 #[.pointer (some ⟨p, 0, none⟩), .int .i64 env] w fun e w' => e = .returned (.int .i64 (heldP s env)) ∧ w' = w := by
  have k0 := h.c0
  cases ha : aliveP s env
  · have HA : Hid (aliveP s env = false) := ha
    have HR : Hid (heldP s env = 2) := by simp [Hid, heldP, ha]
    clear ha
    go_enter Try.func79, Try.ntmps79
    go_wp2_with fail
    refine (isAlive_any h hw env).mono ?_
    rintro e w2 ⟨rfl, rfl⟩
    rw [HA.out]
    go_wp2_with fail
    go_ret
    exact ⟨ret_int (by rw [HR.out]), rfl⟩
  · obtain ⟨j, x, rfl, hx, _, hkp⟩ := aliveP_nat ha
    have hj := (List.getElem?_eq_some_iff.1 hx).1
    obtain ⟨c0, c1⟩ := h.env hx
    have HA : Hid (aliveP s j = true) := ha
    have HR : Hid (heldP s j = if x.kept then 0 else 5) := by simp [Hid, heldP, ha, hkp]
    have hl : (j : Int) < (s.envs.length : Int) := by omega
    clear ha hx hkp
    rcases Bool.eq_false_or_eq_true x.kept with hk | hk
    all_goals
      rw [hk] at c1 HR
      clear hk
      go_enter Try.func79, Try.ntmps79
      go_wp2_with fail
      refine (isAlive_any h hw j).mono ?_
      rintro e w2 ⟨rfl, rfl⟩
      rw [HA.out]
      go_wp2_with fail
      go_ret
      exact ⟨ret_int (by rw [HR.out]; rfl), rfl⟩

def leastFreeP (s : PSt) : Option Nat := if 32 ≤ s.hs.length then none else (List.range s.bytes.length).find? fun f => freeP s.hs f
theorem leastFreeP_some {f : Nat} (hc : ¬ 32 ≤ s.hs.length) (hlt : f < s.bytes.length) (hno : ∀ g : Nat, g < f → freeP s.hs g = false) (hy : freeP s.hs f = true) : leastFreeP s = some f := by
  unfold leastFreeP
  rw [if_neg hc, List.find?_range_eq_some]
  exact ⟨hy, List.mem_range.2 hlt, fun j hj => by simpa using hno j hj⟩
theorem leastFreeP_none (hc : ¬ 32 ≤ s.hs.length) (hno : ∀ g : Nat, g < s.bytes.length → freeP s.hs g = false) : leastFreeP s = none := by
  unfold leastFreeP
  rw [if_neg hc, List.find?_eq_none]
  intro x hx
  simp [hno x (List.mem_range.1 hx)]
theorem leastFreeP_lt {f : Nat} (h : leastFreeP s = some f) : f < s.bytes.length ∧ s.hs.length < 32 ∧ freeP s.hs f = true := by
  unfold leastFreeP at h
  split at h
  · simp at h
  · exact ⟨by have := List.mem_of_find?_eq_some h; simpa using this, by omega, by have := List.find?_some h; simpa using this⟩

set_option maxHeartbeats 1000000 in
set_option maxRecDepth 100000 in
theorem leastFree_any (h : PRep own id w p s gE vF vL vT L) (hw : PWf s) :
    Calls Try.prog 34 #[.pointer (some ⟨p, 0, none⟩)] w fun e w' => e = .returned (lfV (leastFreeP s)) ∧ Below w.heap.size w w' := by
  have k1 := h.c1
  have hnf := hw.nf
  have hsz := hw.size
  obtain ⟨ao, cap, hv, _⟩ := h.rF.shape
  rw [hv] at k1
  clear hv
  by_cases hc : 32 ≤ s.hs.length
  · have hcd : decide (32 ≤ s.hs.length) = true := by simpa using hc
    have HF : Hid (leastFreeP s = none) := by simp [Hid, leastFreeP, hc]
    clear hc
    go_enter Try.func34, Try.ntmps34
    go_wp2_with fail
    refine (full_any h.st (by omega)).mono ?_
    rintro e w2 ⟨rfl, hw2⟩
    subst hw2
    rw [hcd]
    go_wp2_with fail
    go_ret2
    exact ⟨by rw [HF.out]; rfl, Below.refl _ _⟩
  have hcd : decide (32 ≤ s.hs.length) = false := by simpa using hc
  have HC : Hid (¬ 32 ≤ s.hs.length) := hc
  clear hc
  go_enter Try.func34, Try.ntmps34
  go_wp2_with fail
  refine (full_any h.st (by omega)).mono ?_
  rintro e w2 ⟨rfl, hw2⟩
  subst hw2
  rw [hcd]
  go_wp2_with fail
  go_loopg [14] s.bytes.length (fun k x wr => ∃ f : Nat, x = .int .i64 f ∧ f + k = s.bytes.length ∧ (∀ g : Nat, g < f → freeP s.hs g = false) ∧ Below w2.heap.size w2 wr)
  case atStart => exact ⟨0, rfl, by omega, fun g hg => by omega, Below.refl _ _⟩
  case round =>
    obtain ⟨f, rfl, hk, hno, hbl⟩ := hrel
    have HK : Hid (f + gk = s.bytes.length) := hk
    have HN : Hid (∀ g : Nat, g < f → freeP s.hs g = false) := hno
    have hf : f ≤ s.bytes.length := by omega
    clear hk hno
    by_cases hlt : f < s.bytes.length
    · go_wp2_with fail
      refine (pfree_any (h.below hbl).st (by omega) f).mono ?_
      rintro e w3 ⟨rfl, hb2⟩
      have hbl2 : Below w2.heap.size w2 w3 := hbl.trans (hb2.mono hbl.size)
      cases hfr : freeP s.hs f
      · have HF : Hid (freeP s.hs f = false) := hfr
        clear hfr
        go_wp2_with fail
        go_roundg (gk - 1)
        case measure => have := HK.out; omega
        case rel => exact ⟨f + 1, by go_num, by have := HK.out; omega, fun g hg => by
          rcases Nat.lt_or_ge g f with h1 | h1
          · exact HN.out g h1
          · obtain rfl : g = f := by omega
            exact HF.out, hbl2⟩
      · have HF : Hid (leastFreeP s = some f) := leastFreeP_some HC.out hlt HN.out hfr
        clear hfr
        go_wp2_with fail
        go_ret2
        exact ⟨by rw [HF.out]; rfl, hbl2⟩
    · have HF : Hid (leastFreeP s = none) := leastFreeP_none HC.out (fun g hg => HN.out g (by omega))
      go_wp2_with fail
      go_ret2
      exact ⟨by rw [HF.out]; rfl, hbl⟩

/-- The right that a call names, and the error. -/
def rightP (s : PSt) (env hd : Int) : Option PH × Int :=
  if rawP s env ≠ 0 then (none, rawP s env) else match findP s.hs env hd with
    | some x => (some x, 0)
    | none => (none, 9)
def rightV (x : Option PH × Int) : Value := match x.1 with
  | some y => .tuple #[.agg #[.int .i64 y.h, .int .i64 y.env, .int .i64 y.fr, .bool y.wr], .int .i64 x.2]
  | none => .tuple #[.agg #[.int .i64 0, .int .i64 0, .int .i64 0, .bool false], .int .i64 x.2]

set_option maxHeartbeats 1000000 in
set_option maxRecDepth 100000 in
theorem needRight_any (h : PRep own id w p s gE vF vL vT L) (hw : PWf s) (env hd : Int) :
    Calls Try.prog 46 #[.pointer (some ⟨p, 0, none⟩), .int .i64 env, .int .i64 hd] w fun e w' => e = .returned (rightV (rightP s env hd)) ∧ Below w.heap.size w w' := by
  have hsz := hw.size
  have h' := h.below ((Below.refl _ _).alloc (Nat.le_refl _) (.cells #[.int .i64 0, .int .i64 0, .int .i64 0, .bool false] 64))
  by_cases hr : rawP s env = 0
  · have HR : Hid (rawP s env = 0) := hr
    cases hf : findP s.hs env hd with
    | none =>
      have HF : Hid (findP s.hs env hd = none) := hf
      have HP : Hid (rightP s env hd = (none, 9)) := by simp [Hid, rightP, hr, hf]
      clear hr hf
      go_enter Try.func46, Try.ntmps46
      go_wp2_with fail
      refine (needRaw_any h' hw env).mono ?_
      rintro e w2 ⟨rfl, hw2⟩
      subst hw2
      rw [HR.out]
      go_wp2_with fail
      refine (find_any h'.st (by omega) env hd).mono ?_
      rintro e w3 ⟨rfl, hb3⟩
      rw [HF.out]
      simp only [findV]
      have hrb := (Blk.new w [.int .i64 0, .int .i64 0, .int .i64 0, .bool false] 64).below hb3 (by simp)
      have hrl := hrb.lt
      have r0 := hrb.cell 0
      have r1 := hrb.cell 1
      have r2 := hrb.cell 2
      have r3 := hrb.cell 3
      simp at r0 r1 r2 r3
      have s0 := hrb.frozen 0
      have s1 := hrb.frozen 1
      have s2 := hrb.frozen 2
      have s3 := hrb.frozen 3
      have hbl3 : Below w.heap.size w w3 := ((Below.refl _ _).alloc (Nat.le_refl _) _).trans (hb3.mono (by simp))
      go_wp2_with fail
      exact bodyPost_ret (v := .tuple #[.agg #[.int .i64 0, .int .i64 0, .int .i64 0, .bool false], .int .i64 9]) (by simp [results, Try.results46, go_sem, r0, r1, r2, r3, hrl]) rfl ⟨by rw [HP.out]; rfl, ((((hbl3.setCell (by simp) _).setCell (by simp) _).setCell (by simp) _).setCell (by simp) _).alloc (by simpa using hbl3.size) _⟩
    | some y =>
      have HF : Hid (findP s.hs env hd = some y) := hf
      have HP : Hid (rightP s env hd = (some y, 0)) := by simp [Hid, rightP, hr, hf]
      clear hr hf
      go_enter Try.func46, Try.ntmps46
      go_wp2_with fail
      refine (needRaw_any h' hw env).mono ?_
      rintro e w2 ⟨rfl, hw2⟩
      subst hw2
      rw [HR.out]
      go_wp2_with fail
      refine (find_any h'.st (by omega) env hd).mono ?_
      rintro e w3 ⟨rfl, hb3⟩
      rw [HF.out]
      simp only [findV]
      have hrb := (Blk.new w [.int .i64 0, .int .i64 0, .int .i64 0, .bool false] 64).below hb3 (by simp)
      have hrl := hrb.lt
      have r0 := hrb.cell 0
      have r1 := hrb.cell 1
      have r2 := hrb.cell 2
      have r3 := hrb.cell 3
      simp at r0 r1 r2 r3
      have s0 := hrb.frozen 0
      have s1 := hrb.frozen 1
      have s2 := hrb.frozen 2
      have s3 := hrb.frozen 3
      have hbl3 : Below w.heap.size w w3 := ((Below.refl _ _).alloc (Nat.le_refl _) _).trans (hb3.mono (by simp))
      go_wp2_with fail
      exact bodyPost_ret (v := .tuple #[.agg #[.int .i64 y.h, .int .i64 y.env, .int .i64 y.fr, .bool y.wr], .int .i64 0]) (by simp [results, Try.results46, go_sem, r0, r1, r2, r3, hrl]) rfl ⟨by rw [HP.out]; rfl, ((((hbl3.setCell (by simp) _).setCell (by simp) _).setCell (by simp) _).setCell (by simp) _).alloc (by simpa using hbl3.size) _⟩
  · have hr0 : (rawP s env != 0) = true := by simpa using hr
    have HP : Hid (rightP s env hd = (none, rawP s env)) := by simp [Hid, rightP, hr]
    clear hr
    obtain ⟨rv, hrv⟩ : ∃ rv, rawP s env = rv := ⟨_, rfl⟩
    have HR : Hid (rawP s env = rv) := hrv
    rw [hrv] at hr0 HP
    clear hrv
    go_enter Try.func46, Try.ntmps46
    go_wp2_with fail
    refine (needRaw_any h' hw env).mono ?_
    rintro e w2 ⟨rfl, hw2⟩
    subst hw2
    rw [HR.out]
    go_wp2_with fail
    exact bodyPost_ret (v := .tuple #[.agg #[.int .i64 0, .int .i64 0, .int .i64 0, .bool false], .int .i64 rv]) (by simp [results, Try.results46, go_sem]) rfl ⟨by rw [HP.out]; rfl, (Below.refl _ _).alloc (Nat.le_refl _) _⟩
end
end Go.Proofs.Ytinlkcmdbjcofab

namespace Go.Proofs.Ytinlkcmdbjcofab
open Go.RowKit
set_option linter.unusedVariables false
attribute [local go_sem ↓] Go.wp_at_zero Go.wp_at_succ

def swP (hs : List PH) (e : Ent) : Ent := if e.used && !backsP hs e.env e.fr e.wr then Ent.empty else e

theorem mapTo_get {α : Type} (f : α → α) (xs : List α) (q i : Nat) : (mapTo f xs q)[i]? = if i < q then xs[i]?.map f else xs[i]? := by
  unfold mapTo
  by_cases h : i < q
  · rw [if_pos h]
    by_cases h2 : i < xs.length
    · rw [List.getElem?_append_left (by simp; omega)]
      simp [h]
    · rw [List.getElem?_eq_none (by simp; omega), List.getElem?_eq_none (show xs.length ≤ i by omega)]; rfl
  · rw [if_neg h]
    by_cases h2 : q ≤ xs.length
    · rw [List.getElem?_append_right (by simp; omega)]
      simp only [List.length_map, List.length_take, List.getElem?_drop]
      congr 1; omega
    · rw [List.getElem?_eq_none (by simp; omega), List.getElem?_eq_none (by omega)]

/-- One entry goes: no other has its environment and page. -/
theorem rem_one {es : List Ent} (hu : Uni es) {f : Ent → Ent} (hf : ∀ e, f e = e ∨ f e = Ent.empty) {q : Nat} {x : Ent} (hx : es[q]? = some x) (hxu : x.used = true) (hfx : f x = Ent.empty) :
    (mapTo f es q).map (remE x.env x.page) = mapTo f es (q + 1) := by
  apply List.ext_getElem?
  intro i
  rw [List.getElem?_map, mapTo_get, mapTo_get]
  cases hi : es[i]? with
  | none => simp
  | some y =>
    have key : i ≠ q → remE x.env x.page y = y := fun hne => by
      unfold remE
      cases hp : entP x.env x.page y with
      | false => rfl
      | true =>
        simp [entP] at hp
        exact absurd (hu i q y x hi hx hp.1 hxu hp.2.1 hp.2.2) hne
    have hemp : remE x.env x.page Ent.empty = Ent.empty := by simp [remE, entP, Ent.empty]
    by_cases h1 : i < q
    · rw [if_pos h1, if_pos (by omega)]
      simp only [Option.map_some]
      rcases hf y with h | h
      · rw [h, key (by omega)]
      · rw [h, hemp]
    · rw [if_neg h1]
      by_cases h2 : i = q
      · subst h2
        rw [if_pos (by omega)]
        rw [hx] at hi
        simp at hi
        subst hi
        simp only [Option.map_some, hfx]
        congr 1
        simp [remE, entP, hxu]
      · rw [if_neg (by omega)]
        simp only [Option.map_some]
        rw [key h2]

theorem remP_map {es : List Ent} (hu : Uni es) (env page : Int) : remP es env page = es.map (remE env page) := by
  unfold remP
  cases hs : slotP es env page with
  | none =>
    have hn := List.findIdx?_eq_none_iff.1 hs
    simp only
    have : es.map (remE env page) = es.map (fun x => x) := List.map_congr_left (fun x hx => by unfold remE; rw [hn x hx]; rfl)
    rw [this]; simp
  | some q =>
    obtain ⟨x, hx, hp, hq, hno⟩ := findIdx_get hs
    simp only
    apply List.ext_getElem?
    intro i
    rw [List.getElem?_set, List.getElem?_map]
    by_cases e : q = i
    · subst e
      rw [if_pos rfl, if_pos hq, hx]
      simp [remE, hp]
    · rw [if_neg e]
      cases hi : es[i]? with
      | none => rfl
      | some y =>
        simp only [Option.map_some]
        congr 1
        unfold remE
        cases hy : entP env page y with
        | false => rfl
        | true =>
          exfalso
          simp [entP] at hp hy
          exact e (hu q i x y hx hi hp.1 hy.1 (hp.2.1.trans hy.2.1.symm) (hp.2.2.trans hy.2.2.symm))
theorem uni_mapTo {es : List Ent} (hu : Uni es) {f : Ent → Ent} (hf : ∀ e, f e = e ∨ f e = Ent.empty) (q : Nat) : Uni (mapTo f es q) := by
  have key : ∀ (i : Nat) (e : Ent), (mapTo f es q)[i]? = some e → e.used = true → es[i]? = some e := fun i e he hu => by
    rw [mapTo_get] at he
    split at he
    · cases hx : es[i]? with
      | none => rw [hx] at he; simp at he
      | some y =>
        rw [hx] at he
        simp at he
        rcases hf y with h | h
        · rw [h] at he; rw [he]
        · rw [h] at he; subst he; simp [Ent.empty] at hu
    · exact he
  exact fun i j e g he hg h1 h2 h3 h4 => hu i j e g (key i e he h1) (key j g hg h2) h1 h2 h3 h4

section
variable {own : Nat → Nat × Nat} {id : Nat} {w : World} {p : Nat} {s : PSt} {gE : Nat} {vF vL vT : Value} {L : List (PEnv × Value)}

set_option maxHeartbeats 4000000 in
set_option maxRecDepth 100000 in
theorem unbacked_any (h : PRep own id w p s gE vF vL vT L) (hw : PWf s) :
    Calls Try.prog 50 #[.pointer (some ⟨p, 0, none⟩)] w fun e w' => e = .returned (.tuple #[]) ∧ PRep own id w' p { s with slots := s.slots.map (swP s.hs) } gE vF vL vT L ∧ Touch w.heap.size (fun x => vT.ownBlock = some x) w w' := by
  have hsz := hw.size
  have hsl := hw.sl
  have hplt := h.st.blk.lt
  have hvlt := h.tb.row.lt
  have hsm : s.hs.length ≤ 4611686018427387904 := by omega
  go_enter Try.func50, Try.ntmps50
  go_wp2_with fail
  refine (tlist_any h.tb hsl).mono ?_
  rintro e w1 ⟨v, rfl, hb1, hnew, hrow⟩
  have HB1 : Hid (Below w.heap.size w w1) := hb1
  have hs1 := hb1.size
  have h1 := h.below hb1
  obtain ⟨ao, cap, hv, hcase⟩ := hrow.shape
  subst hv
  clear hb1
  rcases hcase with h0 | ⟨g, rfl⟩
  all_goals
    go_wp2_with fail
    go_loopg [9] s.slots.length (fun k x wr => ∃ q : Nat, x = .int .i64 q ∧ q + k = s.slots.length ∧ PRep own id wr p { s with slots := mapTo (swP s.hs) s.slots q } gE vF vL vT L ∧ Touch w.heap.size (fun x => vT.ownBlock = some x) w wr ∧ Row wr (.slice _ s.slots.length cap) 80 5 s.slots.length (s.slots.flatMap Ent.cells))
    case atStart => exact ⟨0, rfl, by omega, by rw [mapTo_zero]; exact h1, Touch.of_below HB1.out _, hrow⟩
    case round =>
      obtain ⟨q, rfl, hk, h', ht, hr'⟩ := hrel
      have HK : Hid (q + gk = s.slots.length) := hk
      have hq : q ≤ s.slots.length := by omega
      have hwz := ht.size
      clear hk
      by_cases hlt : q < s.slots.length
      · first
        | (exfalso; omega; done)
        | (obtain ⟨x, hx⟩ : ∃ x, s.slots[q]? = some x := ⟨s.slots[q], by simp⟩
           obtain ⟨c0, c1, c2, c3, c4⟩ := hr'.ent hx
           have hgl : g < wr.heap.size := hr'.lt g rfl
           have hgn : w.heap.size ≤ g := hnew g rfl
           have HX : Hid (s.slots[q]? = some x) := hx
           have hba : Below wr.heap.size wr (wr.alloc (.cells #[.bool x.used, .int .i64 x.env, .int .i64 x.page, .int .i64 x.fr, .bool x.wr] 80)) := (Below.refl _ _).alloc (Nat.le_refl _) _
           have h2 := h'.below hba
           have hbx := Blk.new wr [.bool x.used, .int .i64 x.env, .int .i64 x.page, .int .i64 x.fr, .bool x.wr] 80
           clear hx
           rcases Bool.eq_false_or_eq_true x.used with hu | hu
           · have hu2 := hu
             rw [hu] at c0 hba h2 hbx
             have h2d := h2.below (Below.refl _ _).drew
             have hbxd := hbx.drew
             go_wp2_with fail
             go_region_held3 (fun w' => w'.cell? ⟨wr.heap.size, 0, none⟩ = some (.bool true) ∧ w'.cell? ⟨wr.heap.size, 1, none⟩ = some (.int .i64 x.env) ∧ w'.cell? ⟨wr.heap.size, 3, none⟩ = some (.int .i64 x.fr) ∧ w'.cell? ⟨wr.heap.size, 4, none⟩ = some (.bool x.wr)) (go_keep)
               ((first
                 | (go_at_call 78; refine (backs_any h2d.st hsm x.env x.fr x.wr).mono ?_; rintro e w2 ⟨rfl, hb2⟩
                    have hbxx := hbxd.below hb2 (by simp)
                    have a0 := hbxx.cell 0
                    have a1 := hbxx.cell 1
                    have a2 := hbxx.cell 2
                    have a3 := hbxx.cell 3
                    have a4 := hbxx.cell 4
                    simp at a0 a1 a2 a3 a4)))
             have hbw : Below wr.heap.size wr w2 := hba.drew.trans (hb2.mono (by simp))
             have h3 := h2d.below hb2
             have ht3 : Touch w.heap.size (fun x => vT.ownBlock = some x) w w2 := ht.then_below hbw hwz
             have hr3 := hr'.below hbw
             have hxl := hbxx.lt
             cases hbk : backsP s.hs x.env x.fr x.wr
             · have HW : Hid (remP (mapTo (swP s.hs) s.slots q) x.env x.page = mapTo (swP s.hs) s.slots (q + 1)) := by
                 unfold Hid
                 rw [remP_map (uni_mapTo hw.uni (fun e => by unfold swP; split; exact .inr rfl; exact .inl rfl) q)]
                 exact rem_one hw.uni (fun e => by unfold swP; split; exact .inr rfl; exact .inl rfl) HX.out hu2 (by simp [swP, hu2, hbk])
               have hl3 : (mapTo (swP s.hs) s.slots q).length ≤ 8 := by rw [mapTo_len]; exact hsl
               clear hbk
               have h3d := h3.below (Below.refl _ _).drew
               have hbxy := hbxx.drew
               have hxn : ∀ y, vT.ownBlock = some y → y ≠ wr.heap.size := fun y hy e => by have := hvlt y hy; omega
               go_wp2_with fail
               go_region_held3 (fun w' => w'.cell? ⟨wr.heap.size, 1, none⟩ = some (.int .i64 x.env) ∧ w'.cell? ⟨wr.heap.size, 2, none⟩ = some (.int .i64 x.page)) (go_keep)
                 ((first
                   | (go_at_call 60; refine (tremove_any h3d.tb hl3 x.env x.page).mono ?_; rintro e w3 ⟨rfl, h4, ht4⟩
                      have hby := hbxy.of (ht4.block _ hxl (fun e => hxn _ e rfl))
                      have e1 := hby.cell 1
                      have e2 := hby.cell 2
                      simp at e1 e2)))
               go_wp2_with fail
               go_roundg (gk - 1)
               case measure => have := HK.out; omega
               case rel =>
                 refine ⟨q + 1, by go_num, by have := HK.out; omega, ?_, ht3.drew.trans (ht4.mono ht3.size (fun _ _ h => h)), ?_⟩
                 · have h5 := h3d.turned h4 (ht4.tab p)
                   rw [← HW.out]
                   exact h5
                 · exact hr3.drew.of (fun y hy => ht4.block y (hr3.lt y hy) (fun e => by
                     simp [Value.ownBlock] at hy
                     have := hvlt y e
                     omega))
             · have HW : Hid (mapTo (swP s.hs) s.slots (q + 1) = mapTo (swP s.hs) s.slots q) := mapTo_same _ _ _ _ HX.out (by simp [swP, hbk])
               clear hbk
               go_wp2_with fail
               go_roundg (gk - 1)
               case measure => have := HK.out; omega
               case rel => exact ⟨q + 1, by go_num, by have := HK.out; omega, by rw [HW.out]; exact h3, ht3, hr3⟩
           · have HW : Hid (mapTo (swP s.hs) s.slots (q + 1) = mapTo (swP s.hs) s.slots q) := mapTo_same _ _ _ _ HX.out (by simp [swP, hu])
             rw [hu] at c0 hba h2 hbx
             go_wp2_with fail
             go_quiet (fail)
             go_wp2_with fail
             go_roundg (gk - 1)
             case measure => have := HK.out; omega
             case rel => exact ⟨q + 1, by go_num, by have := HK.out; omega, by rw [HW.out]; exact h2.below (below_drewN (Below.refl _ _) _), ht.then_below (below_drewN hba _) hwz, hr'.below (below_drewN hba _)⟩)
      · obtain rfl : q = s.slots.length := by omega
        rw [mapTo_all] at h'
        go_wp2_with fail
        go_end0
        exact ⟨rfl, h', ht⟩
end
end Go.Proofs.Ytinlkcmdbjcofab

namespace Go.Proofs.Ytinlkcmdbjcofab
open Go.RowKit
set_option linter.unusedVariables false
attribute [local go_sem ↓] Go.wp_at_zero Go.wp_at_succ

section
variable {own : Nat → Nat × Nat} {id : Nat} {w : World} {p : Nat} {s : PSt} {gE : Nat} {vF vL vT : Value} {L : List (PEnv × Value)}

def giveP (s : PSt) (env : Int) (f : Nat) : PSt := { s with bytes := s.bytes.set f [0, 0, 0, 0], hs := addP s.hs s.last env f true 0, last := s.last + 1 }
def allocP (s : PSt) (env : Int) : (Int × Int) × PSt :=
  if rawP s env ≠ 0 then ((0, rawP s env), s) else match leastFreeP s with
    | none => ((0, 12), s)
    | some f => ((s.last + 1, 0), giveP s env f)

theorem flat_set4 (xs : List (List Int)) (i : Nat) (l : List Int) (hi : i < xs.length) :
    (xs.set i l).flatMap fcells = ((((xs.flatMap fcells).set (i * 4) (.int .u8 (l[0]?.getD 0))).set (i * 4 + 1) (.int .u8 (l[1]?.getD 0))).set (i * 4 + 2) (.int .u8 (l[2]?.getD 0))).set (i * 4 + 3) (.int .u8 (l[3]?.getD 0)) := by
  apply List.ext_getElem?
  intro q
  have hl := flat_length fcells 4 (fun _ => rfl) xs
  rw [flat_at fcells 4 (by omega) (fun _ => rfl)]
  simp only [List.getElem?_set, List.length_set, hl]
  by_cases hp : q / 4 = i
  · have h5 : q % 4 = 0 ∨ q % 4 = 1 ∨ q % 4 = 2 ∨ q % 4 = 3 := by omega
    rw [if_pos hp.symm, if_pos (by omega)]
    rcases h5 with h | h | h | h
    · rw [if_neg (by omega), if_neg (by omega), if_neg (by omega), if_pos (by omega), if_pos (by omega), h]; rfl
    · rw [if_neg (by omega), if_neg (by omega), if_pos (by omega), if_pos (by omega), h]; rfl
    · rw [if_neg (by omega), if_pos (by omega), if_pos (by omega), h]; rfl
    · rw [if_pos (by omega), if_pos (by omega), h]; rfl
  · rw [if_neg (fun e => hp e.symm), if_neg (by omega), if_neg (by omega), if_neg (by omega), if_neg (by omega), flat_at fcells 4 (by omega) (fun _ => rfl)]

/-- The frames have turned. -/
theorem PRep.framed {W : World} {bytes' : List (List Int)} (h : PRep own id w p s gE vF vL vT L) (hW : ∀ b, b < w.heap.size → own b ≠ (id, 2) → W.heap[b]? = w.heap[b]?) (hr : Row W vF 84 4 bytes'.length (bytes'.flatMap fcells)) :
    PRep own id W p { s with bytes := bytes' } gE vF vL vT L :=
  ⟨h.st.of (fun _ _ => rfl) (hW p h.st.blk.lt (by rw [h.tm]; simp)) (fun x hx ht => hW x hx (by rw [ht]; simp)), h.tb.of (fun _ _ => rfl) (hW p h.st.blk.lt (by rw [h.tm]; simp)) (fun x hx ht => hW x hx (by rw [ht]; simp)),
    h.hL, h.bE.of (hW gE h.bE.lt (by rw [h.tE]; simp)), hr, h.tm, h.tE, h.tF, fun i e v hi => ⟨(h.rI i e v hi).1.kept (h.rI i e v hi).2 (fun x hx ht => hW x hx (by rw [ht]; simp; omega)), (h.rI i e v hi).2⟩⟩

/-- A frame is written. -/
theorem PRep.setF {g cap : Nat} (h : PRep own id w p s gE vF vL vT L) (hv : vF = .slice (some ⟨g, 0, none⟩) s.bytes.length cap) (f : Nat) (hf : f < s.bytes.length) (l : List Int) :
    PRep own id ((((w.setCell ⟨g, f * 4, none⟩ (.int .u8 (l[0]?.getD 0))).setCell ⟨g, f * 4 + 1, none⟩ (.int .u8 (l[1]?.getD 0))).setCell ⟨g, f * 4 + 2, none⟩ (.int .u8 (l[2]?.getD 0))).setCell ⟨g, f * 4 + 3, none⟩ (.int .u8 (l[3]?.getD 0))) p { s with bytes := s.bytes.set f l } gE vF vL vT L := by
  have hg : own g = (id, 2) := h.tF g (by rw [hv]; rfl)
  refine h.framed (fun b hb h3 => ?_) ?_
  · have hn : b ≠ g := fun e => h3 (by rw [e]; exact hg)
    rw [Below.heap_setCell _ _ _ _ hn, Below.heap_setCell _ _ _ _ hn, Below.heap_setCell _ _ _ _ hn, Below.heap_setCell _ _ _ _ hn]
  · have h1 := h.rF
    rw [hv] at h1 ⊢
    rw [List.length_set, flat_set4 _ _ _ hf]
    exact (((h1.set _ _).set _ _).set _ _).set _ _
/-- The cells of a frame. -/
theorem PRep.frame (h : PRep own id w p s gE vF vL vT L) {f : Nat} {l : List Int} (hl : s.bytes[f]? = some l) :
    ∃ g cap, vF = .slice (some ⟨g, 0, none⟩) s.bytes.length cap ∧ own g = (id, 2) ∧ w.cell? ⟨g, f * 4, none⟩ = some (.int .u8 (l[0]?.getD 0)) ∧ w.cell? ⟨g, f * 4 + 1, none⟩ = some (.int .u8 (l[1]?.getD 0)) ∧ w.cell? ⟨g, f * 4 + 2, none⟩ = some (.int .u8 (l[2]?.getD 0)) ∧ w.cell? ⟨g, f * 4 + 3, none⟩ = some (.int .u8 (l[3]?.getD 0)) ∧ ∀ j, w.frozen? ⟨g, j, none⟩ = false := by
  have hf := (List.getElem?_eq_some_iff.1 hl).1
  obtain ⟨g, cap, hv, hc, hfz⟩ := h.rF.form (by omega)
  have hx : ∀ j, j < 4 → w.cell? ⟨g, f * 4 + j, none⟩ = (fcells l)[j]? := fun j hj => by rw [hc _ (by omega), flat_get fcells 4 (fun _ => rfl) _ _ j _ hl hj]
  exact ⟨g, cap, hv, h.tF g (by rw [hv]; rfl), hx 0 (by omega), hx 1 (by omega), hx 2 (by omega), hx 3 (by omega), hfz⟩

set_option maxHeartbeats 2000000 in
set_option maxRecDepth 100000 in
theorem give_any (h : PRep own id w p s gE vF vL vT L) (hw : PWf s) (env : Int) {f : Nat} (hflt : f < s.bytes.length) :
    Calls Try.prog 35 #[.pointer (some ⟨p, 0, none⟩), .int .i64 env, .int .i64 f] w fun e w' => e = .returned (.int .i64 (s.last + 1)) ∧ PNext own id w p w' (giveP s env f) := by
  have hsz := hw.size
  obtain ⟨l, hl⟩ : ∃ l, s.bytes[f]? = some l := ⟨s.bytes[f], by simp⟩
  obtain ⟨g, cap, hv, hgt, c0, c1, c2, c3, hfz⟩ := h.frame hl
  have k1 := h.c1
  have hst := h.setF hv f hflt [0, 0, 0, 0]
  rw [hv] at k1
  have z0 := hfz (f * 4)
  have z1 := hfz (f * 4 + 1)
  have z2 := hfz (f * 4 + 2)
  have z3 := hfz (f * 4 + 3)
  have hll : (f : Int) < (s.bytes.length : Int) := by omega
  clear hv hfz hl
  go_enter Try.func35, Try.ntmps35
  go_wp2_with fail
  refine (pfirst_any hst.st hsz hw.l0 hw.l1 env f).mono ?_
  rintro e w5 ⟨rfl, hn⟩
  go_wp2_with fail
  go_ret
  have hin : (own g).1 = id := by rw [hgt]
  exact ⟨rfl, PNext.after (((((Touch.refl _ _ _).setCell (.inl hin) _).setCell (.inl hin) _).setCell (.inl hin) _).setCell (.inl hin) _) (hst.next hn)⟩

set_option maxHeartbeats 2000000 in
set_option maxRecDepth 100000 in
theorem palloc_any (h : PRep own id w p s gE vF vL vT L) (hw : PWf s) (env : Int) :
    Calls Try.prog 13 #[.pointer (some ⟨p, 0, none⟩), .int .i64 env] w fun e w' => e = .returned (.tuple #[.int .i64 (allocP s env).1.1, .int .i64 (allocP s env).1.2]) ∧ PNext own id w p w' (allocP s env).2 := by
  have hsz := hw.size
  by_cases hr : rawP s env = 0
  · have HR : Hid (rawP s env = 0) := hr
    cases hf : leastFreeP s with
    | none =>
      have HF : Hid (leastFreeP s = none) := hf
      have HP : Hid (allocP s env = ((0, 12), s)) := by simp [Hid, allocP, hr, hf]
      clear hr hf
      go_enter Try.func13, Try.ntmps13
      go_wp2_with fail
      refine (needRaw_any h hw env).mono ?_
      rintro e w2 ⟨rfl, hw2⟩
      subst hw2
      rw [HR.out]
      go_wp2_with fail
      refine (leastFree_any h hw).mono ?_
      rintro e w3 ⟨rfl, hb3⟩
      rw [HF.out]
      simp only [lfV]
      go_wp2_with fail
      go_ret2
      exact ⟨ret_int2 (by rw [HP.out]) (by rw [HP.out]), by rw [HP.out]; exact PNext.of_below h hb3⟩
    | some f =>
      have HF : Hid (leastFreeP s = some f) := hf
      have hflt := (leastFreeP_lt hf).1
      have HP : Hid (allocP s env = ((s.last + 1, 0), giveP s env f)) := by simp [Hid, allocP, hr, hf]
      clear hr hf
      go_enter Try.func13, Try.ntmps13
      go_wp2_with fail
      refine (needRaw_any h hw env).mono ?_
      rintro e w2 ⟨rfl, hw2⟩
      subst hw2
      rw [HR.out]
      go_wp2_with fail
      refine (leastFree_any h hw).mono ?_
      rintro e w3 ⟨rfl, hb3⟩
      rw [HF.out]
      simp only [lfV]
      have h3 := h.below hb3
      go_wp2_with fail
      refine (give_any h3 hw env hflt).mono ?_
      rintro e w4 ⟨rfl, hn⟩
      go_wp2_with fail
      go_ret2
      exact ⟨ret_int2 (by rw [HP.out]) (by rw [HP.out]), by rw [HP.out]; exact PNext.after (Touch.of_below hb3 _) hn⟩
  · have hr0 : (rawP s env != 0) = true := by simpa using hr
    have HP : Hid (allocP s env = ((0, rawP s env), s)) := by simp [Hid, allocP, hr]
    clear hr
    obtain ⟨rv, hrv⟩ : ∃ rv, rawP s env = rv := ⟨_, rfl⟩
    have HR : Hid (rawP s env = rv) := hrv
    rw [hrv] at hr0 HP
    clear hrv
    go_enter Try.func13, Try.ntmps13
    go_wp2_with fail
    refine (needRaw_any h hw env).mono ?_
    rintro e w2 ⟨rfl, hw2⟩
    subst hw2
    rw [HR.out]
    go_wp2_with fail
    go_ret2
    exact ⟨ret_int2 (by rw [HP.out]) (by rw [HP.out]), by rw [HP.out]; exact PNext.refl h⟩

def deriveP (s : PSt) (env hd te : Int) (wt : Bool) : (Int × Int) × PSt :=
  match rightP s env hd with
  | (none, e) => ((0, e), s)
  | (some y, _) => if rawP s te ≠ 0 then ((0, rawP s te), s) else if wt && !y.wr then ((0, 10), s) else if 32 ≤ s.hs.length then ((0, 12), s)
    else ((s.last + 1, 0), { s with hs := addP s.hs s.last te y.fr wt y.h, last := s.last + 1 })

theorem rightP_cases (s : PSt) (env hd : Int) : (∃ x, rightP s env hd = (none, x) ∧ x ≠ 0) ∨ ∃ y, rightP s env hd = (some y, 0) ∧ findP s.hs env hd = some y ∧ rawP s env = 0 := by
  unfold rightP
  by_cases hr : rawP s env = 0
  · cases hf : findP s.hs env hd with
    | none => exact .inl ⟨9, by simp [hr], by omega⟩
    | some y => exact .inr ⟨y, by simp [hr], rfl, hr⟩
  · exact .inl ⟨rawP s env, by simp [hr], hr⟩

set_option maxHeartbeats 4000000 in
set_option maxRecDepth 100000 in
theorem pderive_any (h : PRep own id w p s gE vF vL vT L) (hw : PWf s) (env hd te : Int) (wt : Bool) :
    Calls Try.prog 19 #[.pointer (some ⟨p, 0, none⟩), .int .i64 env, .int .i64 hd, .int .i64 te, .bool wt] w fun e w' => e = .returned (.tuple #[.int .i64 (deriveP s env hd te wt).1.1, .int .i64 (deriveP s env hd te wt).1.2]) ∧ PNext own id w p w' (deriveP s env hd te wt).2 := by
  have hsz := hw.size
  rcases rightP_cases s env hd with ⟨x, hx, hx2⟩ | ⟨y, hx, -, -⟩
  · have hx0 : (x != 0) = true := by simpa using hx2
    have HP : Hid (deriveP s env hd te wt = ((0, x), s)) := by simp [Hid, deriveP, hx]
    have HX : Hid (rightP s env hd = (none, x)) := hx
    clear hx hx2
    go_enter Try.func19, Try.ntmps19
    go_wp2_with fail
    refine (needRight_any h hw env hd).mono ?_
    rintro e w2 ⟨rfl, hb2⟩
    rw [HX.out]
    simp only [rightV]
    go_wp2_with fail
    go_ret2
    exact ⟨ret_int2 (by rw [HP.out]) (by rw [HP.out]), by rw [HP.out]; exact PNext.of_below h (hb2.alloc hb2.size _)⟩
  · have HX : Hid (rightP s env hd = (some y, 0)) := hx
    by_cases ht : rawP s te = 0
    case neg =>
      have ht0 : (rawP s te != 0) = true := by simpa using ht
      have HP : Hid (deriveP s env hd te wt = ((0, rawP s te), s)) := by simp [Hid, deriveP, hx, ht]
      obtain ⟨rv, hrv⟩ : ∃ rv, rawP s te = rv := ⟨_, rfl⟩
      have HT : Hid (rawP s te = rv) := hrv
      rw [hrv] at ht0 HP
      clear hx ht hrv
      go_enter Try.func19, Try.ntmps19
      go_wp2_with fail
      refine (needRight_any h hw env hd).mono ?_
      rintro e w2 ⟨rfl, hb2⟩
      rw [HX.out]
      simp only [rightV]
      have h3 := (h.below hb2).below ((Below.refl _ _).alloc (Nat.le_refl _) (.cells #[.int .i64 y.h, .int .i64 y.env, .int .i64 y.fr, .bool y.wr] 64))
      go_wp2_with fail
      refine (needRaw_any h3 hw te).mono ?_
      rintro e w3 ⟨rfl, hw3⟩
      subst hw3
      rw [HT.out]
      go_wp2_with fail
      go_ret2
      exact ⟨ret_int2 (by rw [HP.out]) (by rw [HP.out]), by rw [HP.out]; exact PNext.of_below h (hb2.alloc hb2.size _)⟩
    case pos =>
      have HT : Hid (rawP s te = 0) := ht
      have HP : Hid (deriveP s env hd te wt = if wt && !y.wr then (((0 : Int), (10 : Int)), s) else if 32 ≤ s.hs.length then ((0, 12), s) else ((s.last + 1, 0), { s with hs := addP s.hs s.last te y.fr wt y.h, last := s.last + 1 })) := by simp [Hid, deriveP, hx, ht]
      clear hx ht
      go_enter Try.func19, Try.ntmps19
      go_wp2_with fail
      refine (needRight_any h hw env hd).mono ?_
      rintro e w2 ⟨rfl, hb2⟩
      rw [HX.out]
      simp only [rightV]
      have h3 := (h.below hb2).below ((Below.refl _ _).alloc (Nat.le_refl _) (.cells #[.int .i64 y.h, .int .i64 y.env, .int .i64 y.fr, .bool y.wr] 64))
      go_wp2_with fail
      refine (needRaw_any h3 hw te).mono ?_
      rintro e w3 ⟨rfl, hw3⟩
      subst hw3
      rw [HT.out]
      cases hq : (wt && !y.wr)
      · rw [hq] at HP
        simp only [Bool.false_eq_true, if_false] at HP
        have hcase : wt = false ∨ (wt = true ∧ y.wr = true) := by
          cases hwt : wt <;> cases hrw : y.wr <;> simp_all
        clear hq
        by_cases hc : 32 ≤ s.hs.length
        · have hcd : decide (32 ≤ s.hs.length) = true := by simpa using hc
          rw [if_pos hc] at HP
          clear hc
          rcases hcase with rfl | ⟨rfl, hrw⟩
          all_goals
            try rw [hrw] at h3 ⊢
            go_wp2_with fail
            refine (full_any h3.st (by omega)).mono ?_
            rintro e w4 ⟨rfl, hw4⟩
            subst hw4
            rw [hcd]
            go_wp2_with fail
            go_ret2
            exact ⟨ret_int2 (by rw [HP.out]) (by rw [HP.out]), by rw [HP.out]; exact PNext.of_below h (hb2.alloc hb2.size _)⟩
        · have hcd : decide (32 ≤ s.hs.length) = false := by simpa using hc
          rw [if_neg hc] at HP
          clear hc
          rcases hcase with rfl | ⟨rfl, hrw⟩
          · go_wp2_with fail
            refine (full_any h3.st (by omega)).mono ?_
            rintro e w4 ⟨rfl, hw4⟩
            subst hw4
            rw [hcd]
            have hplt := h3.st.blk.lt
            have hvlt := (h.below hb2).st.row.lt
            have hplt2 := (h.below hb2).st.blk.lt
            have h3d := h3.below (Below.refl _ _).drew
            have hbx := Blk.new w2 [.int .i64 y.h, .int .i64 y.env, .int .i64 y.fr, .bool y.wr] 64
            go_wp2_with fail
            go_region_held3 (fun w' => w'.cell? ⟨w2.heap.size, 0, none⟩ = some (.int .i64 y.h) ∧ w'.cell? ⟨w2.heap.size, 1, none⟩ = some (.int .i64 y.env) ∧ w'.cell? ⟨w2.heap.size, 2, none⟩ = some (.int .i64 y.fr) ∧ w'.cell? ⟨w2.heap.size, 3, none⟩ = some (.bool y.wr)) (go_keep)
              ((first
                | (go_at_call 48; refine (psderive_any h3d.st hsz hw.l0 hw.l1 y.h y.env y.fr y.wr te false).mono ?_; rintro e w5 ⟨rfl, hn⟩
                   have hb5 : Blk w5 w2.heap.size [.int .i64 y.h, .int .i64 y.env, .int .i64 y.fr, .bool y.wr] 64 := by
                     obtain ⟨_, _, _, _, ht5⟩ := hn
                     exact hbx.of (ht5.block _ (by show w2.heap.size < (w2.alloc _).heap.size; simp) (fun e => by
                       rcases e with e | e
                       · omega
                       · have := hvlt _ e; omega))
                   have a0 := hb5.cell 0
                   have a1 := hb5.cell 1
                   have a2 := hb5.cell 2
                   have a3 := hb5.cell 3
                   simp at a0 a1 a2 a3)))
            go_wp2_with fail
            go_ret2
            exact ⟨ret_int2 (by rw [HP.out]) (by rw [HP.out]), by rw [HP.out]; exact PNext.after (Touch.of_below (hb2.alloc hb2.size _).drew _) (h3d.next hn)⟩
          · rw [hrw] at h3 ⊢
            go_wp2_with fail
            refine (full_any h3.st (by omega)).mono ?_
            rintro e w4 ⟨rfl, hw4⟩
            subst hw4
            rw [hcd]
            have hplt := h3.st.blk.lt
            have hvlt := (h.below hb2).st.row.lt
            have hplt2 := (h.below hb2).st.blk.lt
            have h3d := h3.below (Below.refl _ _).drew
            have hbx := Blk.new w2 [.int .i64 y.h, .int .i64 y.env, .int .i64 y.fr, .bool true] 64
            go_wp2_with fail
            go_region_held3 (fun w' => w'.cell? ⟨w2.heap.size, 0, none⟩ = some (.int .i64 y.h) ∧ w'.cell? ⟨w2.heap.size, 1, none⟩ = some (.int .i64 y.env) ∧ w'.cell? ⟨w2.heap.size, 2, none⟩ = some (.int .i64 y.fr) ∧ w'.cell? ⟨w2.heap.size, 3, none⟩ = some (.bool true)) (go_keep)
              ((first
                | (go_at_call 48; refine (psderive_any h3d.st hsz hw.l0 hw.l1 y.h y.env y.fr true te true).mono ?_; rintro e w5 ⟨rfl, hn⟩
                   have hb5 : Blk w5 w2.heap.size [.int .i64 y.h, .int .i64 y.env, .int .i64 y.fr, .bool true] 64 := by
                     obtain ⟨_, _, _, _, ht5⟩ := hn
                     exact hbx.of (ht5.block _ (by show w2.heap.size < (w2.alloc _).heap.size; simp) (fun e => by
                       rcases e with e | e
                       · omega
                       · have := hvlt _ e; omega))
                   have a0 := hb5.cell 0
                   have a1 := hb5.cell 1
                   have a2 := hb5.cell 2
                   have a3 := hb5.cell 3
                   simp at a0 a1 a2 a3)))
            go_wp2_with fail
            go_ret2
            exact ⟨ret_int2 (by rw [HP.out]) (by rw [HP.out]), by rw [HP.out]; exact PNext.after (Touch.of_below (hb2.alloc hb2.size _).drew _) (h3d.next hn)⟩
      · rw [hq] at HP
        simp only [if_true] at HP
        obtain ⟨rfl, hrw⟩ : wt = true ∧ y.wr = false := by cases hwt : wt <;> cases hrw : y.wr <;> simp_all
        rw [hrw]
        clear hq
        go_wp2_with fail
        go_ret2
        exact ⟨ret_int2 (by rw [HP.out]) (by rw [HP.out]), by rw [HP.out]; exact PNext.of_below h (hb2.alloc hb2.size _)⟩
end
end Go.Proofs.Ytinlkcmdbjcofab
