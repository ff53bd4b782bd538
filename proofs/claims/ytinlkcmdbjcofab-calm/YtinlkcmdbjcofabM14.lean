import Derived.Deep.RegionWith
import Derived.Test.YtinlkcmdbjcofabM13
namespace Go.Proofs.Ytinlkcmdbjcofab
open Go.RowKit
set_option linter.unusedVariables false

theorem Try.infoEnv : (Try.prog.info? 108).map (fun i => (i.zero, i.size, i.bytes)) = some (some (.agg (zenv false).toArray), 136, 328) := by kernel_rfl
theorem Try.infoFrame : (Try.prog.info? 84).map (fun i => (i.zero, i.size, i.bytes)) = some (some (.agg #[.int .u8 0, .int .u8 0, .int .u8 0, .int .u8 0]), 4, 4) := by kernel_rfl

/-- 'make([]T, n)': the block, written out. -/
theorem run_make_n {P : Program} {t e : TypeId} {z : Value} {size bytes : Nat} (ht : P.underlying t = some (.slice e))
    (hinfo : (P.info? e).map (fun i => (i.zero, i.size, i.bytes)) = some (some z, size, bytes)) (n : Nat) (hn : n ≤ 1000) (hb : bytes ≤ 1000) (C : List Value) (hC : madeCells z.cells (n * size) = C.toArray) (w : World) :
    (Instr.makeSlice t (.int .i64 (n : Int)) (.int .i64 (n : Int))).run P w = .ok (.slice (some ⟨w.heap.size, 0, none⟩) n n) (w.alloc (.cells C.toArray e)) := by
  obtain ⟨i, hi, hz, hs, hby⟩ := info_parts hinfo
  subst hs; subst hby
  have hb' : (i.bytes : Int) * (n : Int) ≤ 281474976710656 := by
    have h : i.bytes * n ≤ 1000 * 1000 := Nat.mul_le_mul hb hn
    have : ((i.bytes * n : Nat) : Int) ≤ 281474976710656 := by omega
    rwa [Int.natCast_mul] at this
  have hr := run_make (P := P) w t e i z ht hi hz .i64 .i64 n n (by omega) (Int.le_refl _) hb' (by omega)
  simp only [Int.toNat_natCast] at hr
  rw [hC] at hr
  exact hr

/-- The environments' cells: k of n are alive. -/
def newEnvs (k n : Nat) : List (PEnv × Value) := (List.range n).map fun i => (⟨decide (i < k), false, PK.none⟩, .slice none 0 0)
def envCells (k n : Nat) : List Value := (newEnvs k n).flatMap ecells
theorem newEnvs_get {k n i : Nat} (hi : i < n) : (newEnvs k n)[i]? = some (⟨decide (i < k), false, PK.none⟩, .slice none 0 0) := by simp [newEnvs, hi]
theorem newEnvs_len (k n : Nat) : (newEnvs k n).length = n := by simp [newEnvs]
def frameCells (n : Nat) : List Value := List.replicate (n * 4) (.int .u8 0)

theorem made_env (n : Nat) : madeCells (Value.agg (zenv false).toArray).cells (n * 136) = (envCells 0 n).toArray := by
  apply Array.ext'
  apply List.ext_getElem?
  intro i
  rw [envCells, flat_at ecells 136 (by omega) ecells_len]
  have hz : (zenv false).length = 136 := zenv_len false
  simp only [madeCells, Value.cells]
  by_cases hi : i < n * 136
  · rw [newEnvs_get (by omega)]
    have hm : i % 136 < (zenv false).length := by rw [hz]; omega
    simp [hi, hz]
    show _ = (ecells (⟨false, false, PK.none⟩, .slice none 0 0))[i % 136]?
    show _ = (zenv false)[i % 136]?
    rw [List.getElem?_eq_getElem hm]
    simp
  · have e : (newEnvs 0 n)[i / 136]? = none := List.getElem?_eq_none (by rw [newEnvs_len]; omega)
    rw [e]
    simp [hi]
theorem made_frame (n : Nat) : madeCells (Value.agg #[.int .u8 0, .int .u8 0, .int .u8 0, .int .u8 0]).cells (n * 4) = (frameCells n).toArray := by
  apply Array.ext'
  simp [madeCells, frameCells, Value.cells]
  apply List.ext_getElem
  · simp
  · intro i h1 h2
    simp
    have : i % 4 = 0 ∨ i % 4 = 1 ∨ i % 4 = 2 ∨ i % 4 = 3 := by omega
    rcases this with h | h | h | h <;> simp [h]

theorem made_ent (n : Nat) : madeCells (Value.agg #[.bool false, .int .i64 0, .int .i64 0, .int .i64 0, .bool false]).cells (n * 5) = ((List.replicate n Ent.empty).flatMap Ent.cells).toArray := by
  apply Array.ext'
  simp only [madeCells, Value.cells]
  apply List.ext_getElem?
  intro i
  rw [flat_at Ent.cells 5 (by omega) (fun _ => rfl)]
  by_cases hi : i < n * 5
  · rw [List.getElem?_replicate, if_pos (by omega)]
    have : i % 5 = 0 ∨ i % 5 = 1 ∨ i % 5 = 2 ∨ i % 5 = 3 ∨ i % 5 = 4 := by omega
    rcases this with h | h | h | h | h <;> simp [h, hi, Ent.cells, Ent.empty]
  · rw [List.getElem?_replicate, if_neg (by omega)]
    simp [hi]

def emptyCells (n : Nat) : List Value := (List.replicate n Ent.empty).flatMap Ent.cells
set_option maxHeartbeats 1000000 in
set_option maxRecDepth 100000 in
theorem tempty_any (n : Nat) (hn : n ≤ 8) (w : World) :
    Calls Try.prog 59 #[.int .i64 n] w fun e w' => ∃ g : Nat, e = .returned (.agg #[.slice (some ⟨g, 0, none⟩) n n, .int .i64 0]) ∧ w.heap.size ≤ g ∧ Below w.heap.size w w' ∧ Blk w' g (emptyCells n) 80 := by
  have hmk := run_make_n (P := Try.prog) Try.underlying71 Try.infoEnt n (by omega) (by omega) (emptyCells n) (made_ent n)
  go_enter Try.func59, Try.ntmps59
  go_wp2_with fail
  exact bodyPost_ret (v := .agg #[.slice (some ⟨w.heap.size + 1, 0, none⟩) n n, .int .i64 0]) (by simp [results, Try.results59, go_sem]) rfl
    ⟨w.heap.size + 1, rfl, by omega, ((Below.refl _ _).alloc (Nat.le_refl _) _).alloc (by simp) _, Blk.at _ _ _ _ (by simp)⟩

theorem envCells_set (k n : Nat) (h : k < n) : (envCells k n).set (k * 136) (.bool true) = envCells (k + 1) n := by
  apply List.ext_getElem?
  intro q
  unfold envCells
  have hl := flat_length ecells 136 ecells_len (newEnvs k n)
  rw [newEnvs_len] at hl
  rw [List.getElem?_set, hl, flat_at ecells 136 (by omega) ecells_len, flat_at ecells 136 (by omega) ecells_len]
  by_cases hq : q < n * 136
  · rw [newEnvs_get (by omega), newEnvs_get (by omega)]
    show _ = (ecells (⟨decide (q / 136 < k + 1), false, PK.none⟩, .slice none 0 0))[q % 136]?
    by_cases h1 : k * 136 = q
    · rw [if_pos h1, if_pos (by omega), show q % 136 = 0 by omega]
      have : decide (q / 136 < k + 1) = true := by simp; omega
      rw [this]; rfl
    · rw [if_neg h1]
      show (ecells (⟨decide (q / 136 < k), false, PK.none⟩, .slice none 0 0))[q % 136]? = _
      by_cases h2 : q % 136 = 0
      · have : decide (q / 136 < k) = decide (q / 136 < k + 1) := by rw [Bool.eq_iff_iff]; simp; omega
        rw [this]
      · obtain ⟨m, hm⟩ : ∃ m, q % 136 = m + 1 := ⟨q % 136 - 1, by omega⟩
        rw [hm]; rfl
  · rw [if_neg (by omega), List.getElem?_eq_none (by rw [newEnvs_len]; omega), List.getElem?_eq_none (by rw [newEnvs_len]; omega)]

set_option maxHeartbeats 400000 in
theorem new_no (a b c : Int) (w : World) (h : mayB a b c = false) :
    Calls Try.prog 28 #[.agg #[.int .i64 a, .int .i64 b, .int .i64 c]] w fun e w' => e = .returned (.tuple #[.pointer none, .int .i64 1]) ∧ Below w.heap.size w w' := by
  go_enter Try.func28, Try.ntmps28
  go_wp2_with (go_at_call 58; refine (mayBe_any _ _ _ _).mono ?_; rintro e w' ⟨rfl, hb⟩; rw [h])
  go_ret2
  refine ⟨rfl, ((Below.refl _ _).alloc (Nat.le_refl _) _).trans (hb.mono (by simp))⟩


def machCells (e f g c a b : Nat) : List Value := [.slice (some ⟨e, 0, none⟩) c c, .slice (some ⟨f, 0, none⟩) a a, .slice none 0 0, .int .i64 0, .slice (some ⟨g, 0, none⟩) b b, .int .i64 0]

def NewMach (w w' : World) (m a b c : Nat) : Prop :=
  ∃ e f g, Blk w' m (machCells e f g c a b) 75 ∧ Blk w' e (envCells c c) 108 ∧ Blk w' f (frameCells a) 84 ∧ Blk w' g (emptyCells b) 80 ∧ m ≠ e ∧ m ≠ f ∧ m ≠ g ∧ e ≠ f ∧ e ≠ g ∧ f ≠ g ∧ w.heap.size ≤ m ∧ w.heap.size ≤ e ∧ w.heap.size ≤ f ∧ w.heap.size ≤ g

set_option maxHeartbeats 8000000 in
set_option maxRecDepth 100000 in
theorem new_yes (a b c : Nat) (w : World) (h : mayB a b c = true) (ha : a ≤ 16) (hb8 : b ≤ 8) (hc : c ≤ 4) (hc1 : 1 ≤ c) :
    Calls Try.prog 28 #[.agg #[.int .i64 a, .int .i64 b, .int .i64 c]] w fun e w' => ∃ m, e = .returned (.tuple #[.pointer (some ⟨m, 0, none⟩), .int .i64 0]) ∧ Below w.heap.size w w' ∧ NewMach w w' m a b c := by
  have hmk := run_make_n (P := Try.prog) Try.underlying66 Try.infoEnv c (by omega) (by omega) _ (made_env c)
  have hmk2 := run_make_n (P := Try.prog) Try.underlying67 Try.infoFrame a (by omega) (by omega) _ (made_frame a)
  go_enter Try.func28, Try.ntmps28
  go_wp2_with (go_at_call 58; refine (mayBe_any _ _ _ _).mono ?_; rintro e w' ⟨rfl, hb⟩; rw [h])
  have hbk := (Blk.new w [.int .i64 a, .int .i64 b, .int .i64 c] 27).below hb (by simp)
  have k0 := hbk.cell 0
  have k1 := hbk.cell 1
  have k2 := hbk.cell 2
  simp at k0 k1 k2
  have hsz : w.heap.size < w'.heap.size := by have := hb.size; simp at this; omega
  have hbw : Below w.heap.size w w' := ((Below.refl _ _).alloc (Nat.le_refl _) _).trans (hb.mono (by simp))
  go_cut [4] (fun p wc => ∃ m e f g, p = .pointer (some ⟨m, 0, none⟩) ∧ Below w.heap.size w wc ∧ Blk wc m (machCells e f g c a b) 75 ∧ Blk wc e (envCells 0 c) 108 ∧ Blk wc f (frameCells a) 84 ∧ Blk wc g (emptyCells b) 80 ∧ m ≠ e ∧ m ≠ f ∧ m ≠ g ∧ e ≠ f ∧ e ≠ g ∧ f ≠ g ∧ w.heap.size ≤ m ∧ w.heap.size ≤ e ∧ w.heap.size ≤ f ∧ w.heap.size ≤ g)
  case first =>
    have n0 : w.heap.size ≠ w'.heap.size := by omega
    have n1 : w'.heap.size ≠ w.heap.size := by omega
    clear hbk hb h
    go_region_held3 (fun x => x.cell? ⟨w.heap.size, 0, none⟩ = some (.int .i64 a) ∧ x.cell? ⟨w.heap.size, 1, none⟩ = some (.int .i64 b) ∧ x.cell? ⟨w.heap.size, 2, none⟩ = some (.int .i64 c)) (go_keep)
      ((first
        | (go_at_call 59; refine (tempty_any b hb8 _).mono ?_; rintro e w1 ⟨g, rfl, hg, hb1, hblk⟩
           have hl1 : w.heap.size < w1.heap.size := by have := hb1.size; simp at this; omega
           have n2 : w.heap.size ≠ w1.heap.size := by omega
           have n3 : w1.heap.size ≠ w.heap.size := by omega
           have q0 : w1.cell? ⟨w.heap.size, 0, none⟩ = some (.int .i64 a) := (hb1.cell (p := ⟨w.heap.size, 0, none⟩) (by simp; omega)).trans (by first | exact k0 | (simp [go_sem, *]; done))
           have q1 : w1.cell? ⟨w.heap.size, 1, none⟩ = some (.int .i64 b) := (hb1.cell (p := ⟨w.heap.size, 1, none⟩) (by simp; omega)).trans (by first | exact k1 | (simp [go_sem, *]; done))
           have q2 : w1.cell? ⟨w.heap.size, 2, none⟩ = some (.int .i64 c) := (hb1.cell (p := ⟨w.heap.size, 2, none⟩) (by simp; omega)).trans (by first | exact k2 | (simp [go_sem, *]; done)))))
    · go_wp2
      go_meet
      case rel =>
        have hX := hb1.size
        have hgl := hblk.lt
        simp at hX hg
        refine ⟨_, w'.heap.size, w'.heap.size + 1, g, rfl, (((((hbw.alloc (by omega) _).alloc (by simp; omega) _).drew).trans (hb1.mono (by simp; omega))).alloc (by omega) _), Blk.at _ (machCells _ _ _ c a b) _ _ (by simp), (((((Blk.at _ _ _ _ rfl).alloc _).drew).below hb1 (by simp <;> omega)).alloc _), ((((Blk.at _ _ _ _ (by simp)).drew).below hb1 (by simp <;> omega)).alloc _), (hblk.alloc _), ?_, ?_, ?_, ?_, ?_, ?_, ?_, ?_, ?_, ?_⟩
        all_goals omega
    · go_wp2
      go_meet
      case rel =>
        have hX := hb1.size
        have hgl := hblk.lt
        simp at hX hg
        refine ⟨_, w'.heap.size, w1.heap.size, g, rfl, (((((hbw.alloc (by omega) _).drew).trans (hb1.mono (by simp; omega))).alloc (by omega) _).alloc (by simp; omega) _), Blk.at _ (machCells _ _ _ c a b) _ _ (by simp), (((((Blk.at _ _ _ _ rfl).drew).below hb1 (by simp <;> omega)).alloc _).alloc _), ((Blk.at _ _ _ _ rfl).alloc _), ((hblk.alloc _).alloc _), ?_, ?_, ?_, ?_, ?_, ?_, ?_, ?_, ?_, ?_⟩
        all_goals omega
    · go_wp2
      go_meet
      case rel =>
        have hX := hb1.size
        have hgl := hblk.lt
        simp at hX hg
        refine ⟨_, w'.heap.size + 1, w'.heap.size, g, rfl, (((((hbw.alloc (by omega) _).alloc (by simp; omega) _).drew).trans (hb1.mono (by simp; omega))).alloc (by omega) _), Blk.at _ (machCells _ _ _ c a b) _ _ (by simp), ((((Blk.at _ _ _ _ (by simp)).drew).below hb1 (by simp <;> omega)).alloc _), (((((Blk.at _ _ _ _ rfl).alloc _).drew).below hb1 (by simp <;> omega)).alloc _), (hblk.alloc _), ?_, ?_, ?_, ?_, ?_, ?_, ?_, ?_, ?_, ?_⟩
        all_goals omega
    · go_wp2
      go_meet
      case rel =>
        have hX := hb1.size
        have hgl := hblk.lt
        simp at hX hg
        refine ⟨_, w1.heap.size, w'.heap.size, g, rfl, (((((hbw.alloc (by omega) _).drew).trans (hb1.mono (by simp; omega))).alloc (by omega) _).alloc (by simp; omega) _), Blk.at _ (machCells _ _ _ c a b) _ _ (by simp), ((Blk.at _ _ _ _ rfl).alloc _), (((((Blk.at _ _ _ _ rfl).drew).below hb1 (by simp <;> omega)).alloc _).alloc _), ((hblk.alloc _).alloc _), ?_, ?_, ?_, ?_, ?_, ?_, ?_, ?_, ?_, ?_⟩
        all_goals omega
    · go_wp2
      go_meet
      case rel =>
        have hX := hb1.size
        have hgl := hblk.lt
        simp at hX hg
        refine ⟨_, w1.heap.size, w1.heap.size + 1, g, rfl, ((((hbw.drew.trans (hb1.mono (by simp; omega))).alloc (by omega) _).alloc (by simp; omega) _).alloc (by simp; omega) _), Blk.at _ (machCells _ _ _ c a b) _ _ (by simp), (((Blk.at _ _ _ _ rfl).alloc _).alloc _), ((Blk.at _ _ _ _ (by simp)).alloc _), (((hblk.alloc _).alloc _).alloc _), ?_, ?_, ?_, ?_, ?_, ?_, ?_, ?_, ?_, ?_⟩
        all_goals omega
    · go_wp2
      go_meet
      case rel =>
        have hX := hb1.size
        have hgl := hblk.lt
        simp at hX hg
        refine ⟨_, w1.heap.size + 1, w1.heap.size, g, rfl, ((((hbw.drew.trans (hb1.mono (by simp; omega))).alloc (by omega) _).alloc (by simp; omega) _).alloc (by simp; omega) _), Blk.at _ (machCells _ _ _ c a b) _ _ (by simp), ((Blk.at _ _ _ _ (by simp)).alloc _), (((Blk.at _ _ _ _ rfl).alloc _).alloc _), (((hblk.alloc _).alloc _).alloc _), ?_, ?_, ?_, ?_, ?_, ?_, ?_, ?_, ?_, ?_⟩
        all_goals omega
  case rest =>
    obtain ⟨m, e, f, g, hp, hbl, hm, he, hf, hgk, n1, n2, n3, n4, n5, n6, g1, g2, g3, g4⟩ := hcut
    rw [hp]
    have j0 := hm.cell 0
    simp [machCells] at j0
    go_wp2
    go_loopg [25, 5] c (fun k i _ wr => ∃ r : Nat, r + k = c ∧ i = .int .i64 r ∧ Below w.heap.size w wr ∧ Blk wr m (machCells e f g c a b) 75 ∧ Blk wr e (envCells r c) 108 ∧ Blk wr f (frameCells a) 84 ∧ Blk wr g (emptyCells b) 80)
    case atStart => exact ⟨0, by omega, rfl, hbl, hm, he, hf, hgk⟩
    case round =>
      obtain ⟨r, hr, rfl, hbl', hm', he', hf', hg'⟩ := hrel
      have i0 := hm'.cell 0
      simp [machCells] at i0
      have fe := he'.frozen (r * 136)
      by_cases hlt : r < c
      · obtain ⟨v, hv⟩ : ∃ v, (envCells r c)[r * 136]? = some (.bool v) := ⟨decide (r < r), by rw [envCells, flat_at ecells 136 (by omega) ecells_len, show r * 136 / 136 = r by omega, show r * 136 % 136 = 0 by omega, newEnvs_get hlt]; rfl⟩
        have ie := (he'.cell (r * 136)).trans hv
        clear hv
        go_wp2
        go_roundg (gk - 1)
        case measure => omega
        case rel => exact ⟨r + 1, by omega, by go_num, hbl'.setCell (by simpa using g2) _, hm'.other _ (by simpa using n1), by rw [← envCells_set r c hlt]; exact he'.set _ _, hf'.other _ (by simpa using Ne.symm n4), hg'.other _ (by simpa using Ne.symm n5)⟩
      · go_wp2
        go_ret2
        obtain rfl : r = c := by omega
        exact ⟨m, rfl, hbl', e, f, g, hm', he', hf', hg', n1, n2, n3, n4, n5, n6, g1, g2, g3, g4⟩
end Go.Proofs.Ytinlkcmdbjcofab

/-
  The program's machine keeps the contracts of Api.
-/
namespace Go.Proofs.Ytinlkcmdbjcofab
open Go.RowKit
set_option linter.unusedVariables false

def MRep : MT := fun own id w p s => ∃ ps gE vF vL vT L, PRep own id w p ps gE vF vL vT L ∧ Sim s ps

section
variable {own own' : Nat → Nat × Nat} {id : Nat} {w w' : World} {p : Nat} {s s' : RSt} {ps : PSt} {gE : Nat} {vF vL vT : Value} {L : List (PEnv × Value)}

theorem PRep.retag (h : PRep own id w p ps gE vF vL vT L) (ho : ∀ b, b < w.heap.size → (own b).1 = id → own' b = own b) : PRep own' id w p ps gE vF vL vT L := by
  have ht : ∀ {v : Value} {e k n : Nat} {xs : List Value} {j : Nat}, Row w v e k n xs → Tg own v (id, j) → Tg own' v (id, j) := fun hr ht b hb => (ho b (hr.lt b hb) (by rw [ht b hb])).trans (ht b hb)
  have hp := ho p h.st.blk.lt (by rw [h.tm])
  have hE := ho gE h.bE.lt (by rw [h.tE])
  exact ⟨⟨h.st.blk, h.st.c0, h.st.c1, h.st.row, ht h.st.row h.st.tag, by rw [hp]; exact h.st.ne⟩, ⟨h.tb.blk, h.tb.c0, h.tb.c1, h.tb.row, ht h.tb.row h.tb.tag, by rw [hp]; exact h.tb.ne⟩, h.hL, h.bE, h.rF, hp.trans h.tm, hE.trans h.tE, ht h.rF h.tF, fun i e v hi => ⟨(h.rI i e v hi).1, ht (h.rI i e v hi).1 (h.rI i e v hi).2⟩⟩

theorem PNext.m (h : PNext own id w p w' ps) (hs : Sim s' ps) : MNext MRep own id w p w' s' := by
  obtain ⟨own', a, b, c, d, e, h1, h2, h3⟩ := h
  exact ⟨own', ⟨ps, a, b, c, d, e, h1, hs⟩, h2, h3⟩
theorem PRep.mb (h : PRep own id w p ps gE vF vL vT L) (hs : Sim s ps) (hb : Below w.heap.size w w') : MNext MRep own id w p w' s := (PNext.of_below h hb).m hs
theorem PRep.ms (h : PRep own id w p ps gE vF vL vT L) (hs : Sim s ps) : MNext MRep own id w p w s := (PNext.refl h).m hs

theorem m_of (h : MRep own id w p s) (ho : ∀ b, b < w.heap.size → own' b = own b) (hb : ∀ b, b < w.heap.size → (own b).1 = id → w'.heap[b]? = w.heap[b]?) : MRep own' id w' p s := by
  obtain ⟨ps, a, b, c, d, e, h, hs⟩ := h
  exact ⟨ps, a, b, c, d, e, h.of ho hb, hs⟩
theorem m_retag (h : MRep own id w p s) (ho : ∀ b, b < w.heap.size → (own b).1 = id → own' b = own b) : MRep own' id w p s := by
  obtain ⟨ps, a, b, c, d, e, h, hs⟩ := h
  exact ⟨ps, a, b, c, d, e, h.retag ho, hs⟩

theorem m_alloc (h : MRep own id w p s) (hk : SOk s) (hf : Few s) (env : Int) (_ : I64 env) :
    Calls Try.prog 13 #[.pointer (some ⟨p, 0, none⟩), .int .i64 env] w fun e w' => e = .returned (.tuple #[.int .i64 (allocR s env).1.1, .int .i64 (allocR s env).1.2]) ∧ MNext MRep own id w p w' (allocR s env).2 := by
  obtain ⟨ps, a0, b0, c0, d0, e0, h, hs⟩ := h
  obtain ⟨h1, h2⟩ := hs.alloc hk env
  refine (palloc_any h (hs.pwf hk hf) env).mono ?_
  rintro e w' ⟨rfl, hn⟩
  exact ⟨by rw [h1], hn.m h2⟩
theorem m_derive (h : MRep own id w p s) (hk : SOk s) (hf : Few s) (env hd te : Int) (wt : Bool) (_ : I64 env) (_ : I64 hd) (_ : I64 te) :
    Calls Try.prog 19 #[.pointer (some ⟨p, 0, none⟩), .int .i64 env, .int .i64 hd, .int .i64 te, .bool wt] w fun e w' => e = .returned (.tuple #[.int .i64 (deriveR s env hd te wt).1.1, .int .i64 (deriveR s env hd te wt).1.2]) ∧ MNext MRep own id w p w' (deriveR s env hd te wt).2 := by
  obtain ⟨ps, a0, b0, c0, d0, e0, h, hs⟩ := h
  obtain ⟨h1, h2⟩ := hs.derive hk env hd te wt
  refine (pderive_any h (hs.pwf hk hf) env hd te wt).mono ?_
  rintro e w' ⟨rfl, hn⟩
  exact ⟨by rw [h1], hn.m h2⟩
theorem m_revoke (h : MRep own id w p s) (hk : SOk s) (hf : Few s) (env hd : Int) (_ : I64 env) (_ : I64 hd) :
    Calls Try.prog 20 #[.pointer (some ⟨p, 0, none⟩), .int .i64 env, .int .i64 hd] w fun e w' => e = .returned (.int .i64 (revokeR s env hd).1) ∧ MNext MRep own id w p w' (revokeR s env hd).2 := by
  obtain ⟨ps, a0, b0, c0, d0, e0, h, hs⟩ := h
  obtain ⟨h1, h2⟩ := hs.revoke hk env hd
  refine (prevoke_any h (hs.pwf hk hf) env hd).mono ?_
  rintro e w' ⟨rfl, hn⟩
  exact ⟨by rw [h1], hn.m h2⟩
theorem m_drop (h : MRep own id w p s) (hk : SOk s) (hf : Few s) (env hd : Int) (_ : I64 env) (_ : I64 hd) :
    Calls Try.prog 61 #[.pointer (some ⟨p, 0, none⟩), .int .i64 env, .int .i64 hd] w fun e w' => e = .returned (.int .i64 (dropR s env hd).1) ∧ MNext MRep own id w p w' (dropR s env hd).2 := by
  obtain ⟨ps, a0, b0, c0, d0, e0, h, hs⟩ := h
  obtain ⟨h1, h2⟩ := hs.drop hk env hd
  refine (pdrop_any h (hs.pwf hk hf) env hd).mono ?_
  rintro e w' ⟨rfl, hn⟩
  exact ⟨by rw [h1], hn.m h2⟩
theorem m_kill (h : MRep own id w p s) (hk : SOk s) (hf : Few s) (env : Int) (_ : I64 env) :
    Calls Try.prog 63 #[.pointer (some ⟨p, 0, none⟩), .int .i64 env] w fun e w' => e = .returned (.int .i64 (killR s env).1) ∧ MNext MRep own id w p w' (killR s env).2 := by
  obtain ⟨ps, a0, b0, c0, d0, e0, h, hs⟩ := h
  obtain ⟨h1, h2⟩ := hs.kill hk env
  refine (pkill_any h (hs.pwf hk hf) env).mono ?_
  rintro e w' ⟨rfl, hn⟩
  exact ⟨by rw [h1], hn.m h2⟩
theorem m_spawn (h : MRep own id w p s) (hk : SOk s) (hf : Few s) (env : Int) (_ : I64 env) :
    Calls Try.prog 64 #[.pointer (some ⟨p, 0, none⟩), .int .i64 env] w fun e w' => e = .returned (.int .i64 (spawnR s env).1) ∧ MNext MRep own id w p w' (spawnR s env).2 := by
  obtain ⟨ps, a0, b0, c0, d0, e0, h, hs⟩ := h
  obtain ⟨h1, h2⟩ := hs.spawn hk env
  refine (pspawn_any h (hs.pwf hk hf) env).mono ?_
  rintro e w' ⟨rfl, hn⟩
  exact ⟨by rw [h1], hn.m h2⟩
theorem m_map (h : MRep own id w p s) (hk : SOk s) (hf : Few s) (env page hd : Int) (wt : Bool) (slot : Int) (_ : I64 env) (_ : I64 page) (_ : I64 hd) (_ : I64 slot) :
    Calls Try.prog 16 #[.pointer (some ⟨p, 0, none⟩), .int .i64 env, .int .i64 page, .int .i64 hd, .bool wt, .int .i64 slot] w fun e w' => e = .returned (.int .i64 (mapR s env page hd wt slot).1) ∧ MNext MRep own id w p w' (mapR s env page hd wt slot).2 := by
  obtain ⟨ps, a0, b0, c0, d0, e0, h, hs⟩ := h
  obtain ⟨h1, h2⟩ := hs.map hk env page hd wt slot
  refine (pmap_any h (hs.pwf hk hf) env page hd wt slot).mono ?_
  rintro e w' ⟨rfl, hn⟩
  exact ⟨by rw [h1], hn.m h2⟩
theorem m_unmap (h : MRep own id w p s) (hk : SOk s) (hf : Few s) (env page : Int) (_ : I64 env) (_ : I64 page) :
    Calls Try.prog 31 #[.pointer (some ⟨p, 0, none⟩), .int .i64 env, .int .i64 page] w fun e w' => e = .returned (.int .i64 (unmapR s env page).1) ∧ MNext MRep own id w p w' (unmapR s env page).2 := by
  obtain ⟨ps, a0, b0, c0, d0, e0, h, hs⟩ := h
  obtain ⟨h1, h2⟩ := hs.unmap hk env page
  refine (punmap_any h (hs.pwf hk hf) env page).mono ?_
  rintro e w' ⟨rfl, hn⟩
  exact ⟨by rw [h1], hn.m h2⟩
theorem m_store (h : MRep own id w p s) (hk : SOk s) (hf : Few s) (env page at_ v : Int) (_ : I64 env) (_ : I64 page) (_ : I64 at_) (_ : I64 v) :
    Calls Try.prog 18 #[.pointer (some ⟨p, 0, none⟩), .int .i64 env, .int .i64 page, .int .i64 at_, .int .i64 v] w fun e w' => e = .returned (.int .i64 (storeR s env page at_ v).1) ∧ MNext MRep own id w p w' (storeR s env page at_ v).2 := by
  obtain ⟨ps, a0, b0, c0, d0, e0, h, hs⟩ := h
  obtain ⟨h1, h2⟩ := hs.store hk env page at_ v
  refine (pstore_any h (hs.pwf hk hf) env page at_ v).mono ?_
  rintro e w' ⟨rfl, hn⟩
  exact ⟨by rw [h1], hn.m h2⟩
theorem rc_map (l : List RR) : (l.map toPH).flatMap PH.rc = l.flatMap rcells := by
  induction l with
  | nil => rfl
  | cons x l ih => simp only [List.map_cons, List.flatMap_cons, ih]; rfl
theorem m_rights (h : MRep own id w p s) (hk : SOk s) (hf : Few s) (env : Int) (_ : I64 env) :
    Calls Try.prog 53 #[.pointer (some ⟨p, 0, none⟩), .int .i64 env] w fun e w' => ∃ v, e = .returned (.tuple #[v, .int .i64 (liveE s env)]) ∧ Below w.heap.size w w' ∧ (∀ x, v.ownBlock = some x → w.heap.size ≤ x) ∧
      Row w' v 64 4 (toldR s env).length ((toldR s env).flatMap rcells) := by
  obtain ⟨ps, a, b, c, d, e, h, hs⟩ := h
  have hal := hs.alive env
  have hl := hs.list env
  refine (prights_any h (hs.pwf hk hf) env).mono ?_
  rintro e w' ⟨v, hb, hn, h1 | h1⟩
  · obtain ⟨h2, rfl, rfl⟩ := h1
    rw [h2] at hal
    refine ⟨_, by simp [liveE, hal], hb, hn, ?_⟩
    simp only [toldR, hal, Bool.false_eq_true, if_false]
    exact Row.nil _ _ _
  · obtain ⟨h2, h3, rfl⟩ := h1
    rw [h2] at hal
    refine ⟨v, by simp [liveE, hal], hb, hn, ?_⟩
    simp only [toldR, hal, if_true]
    rw [hl, List.length_map, rc_map] at h3
    exact h3
theorem m_load (h : MRep own id w p s) (hk : SOk s) (hf : Few s) (env page at_ : Int) (_ : I64 env) (_ : I64 page) (_ : I64 at_) :
    Calls Try.prog 17 #[.pointer (some ⟨p, 0, none⟩), .int .i64 env, .int .i64 page, .int .i64 at_] w fun e w' => e = .returned (.tuple #[.int .i64 (loadR s env page at_).1, .int .i64 (loadR s env page at_).2]) ∧ MNext MRep own id w p w' s := by
  obtain ⟨ps, a, b, c, d, e, h, hs⟩ := h
  have h1 := hs.load hk env page at_
  refine (pload_any h (hs.pwf hk hf) env page at_).mono ?_
  rintro e w' ⟨rfl, hb⟩
  exact ⟨by rw [h1], h.mb hs hb⟩
theorem m_table (h : MRep own id w p s) (hk : SOk s) (hf : Few s) :
    Calls Try.prog 81 #[.pointer (some ⟨p, 0, none⟩)] w fun e w' => ∃ v, e = .returned v ∧ Below w.heap.size w w' ∧ (∀ x, v.ownBlock = some x → w.heap.size ≤ x) ∧ Row w' v 80 5 s.slots.length (s.slots.flatMap Ent.cells) := by
  obtain ⟨ps, a, b, c, d, e, h, hs⟩ := h
  have := ptable_any h (hs.pwf hk hf)
  rw [hs.sl] at this
  exact this

theorem kept_env (hs : Sim s ps) (hk : SOk s) {j : Nat} {k : KSt} (hO : s.kept[j]? = some (some k)) : ∃ e, ps.envs[j]? = some e := by
  have := kept_lt hO
  rw [hk.kok.klen] at this
  exact hs.env this
theorem adr_eq (hs : Sim s ps) (env a : Int) : adrP ps env a = if heldE s env ≠ 0 then heldE s env else if a < 0 ∨ 63 < a then 6 else 0 := by
  unfold adrP
  rw [← hs.held]

theorem m_read (h : MRep own id w p s) (hk : SOk s) (hf : Few s) (hF : FewU s) (env a : Int) (_ : I64 env) (_ : I64 a) :
    Calls Try.prog 37 #[.pointer (some ⟨p, 0, none⟩), .int .i64 env, .int .i64 a] w fun e w' => e = .returned (.tuple #[.int .i64 (readR s env a).1.1, .int .i64 (readR s env a).1.2]) ∧ MNext MRep own id w p w' (readR s env a).2 := by
  obtain ⟨ps, a0, b0, c0, d0, e0, h, hs⟩ := h
  have hw := hs.pwf hk hf
  have had := adr_eq hs env a
  by_cases hx : adrP ps env a = 0
  case neg =>
    refine (pread_no h hw env a hx).mono ?_
    rintro e w' ⟨rfl, hw'⟩
    subst hw'
    have : readR s env a = ((0, adrP ps env a), s) := by
      unfold readR
      rw [had] at hx ⊢
      by_cases h1 : heldE s env = 0
      · simp only [h1, ne_eq, not_true_eq_false, if_false] at hx ⊢
        by_cases h2 : a < 0 ∨ 63 < a
        · rw [if_pos h2, if_pos h2]
        · rw [if_neg h2] at hx; simp at hx
      · simp only [ne_eq, h1, not_false_eq_true, if_true]
    rw [this]
    exact ⟨rfl, h.ms hs⟩
  case pos =>
    have hx0 := hx
    rw [had] at hx0
    have h1 : heldE s env = 0 := by
      by_cases h1 : heldE s env = 0
      · exact h1
      · rw [if_pos h1] at hx0; exact absurd hx0 h1
    rw [if_neg (by rw [h1]; simp)] at hx0
    have h2 : ¬ (a < 0 ∨ 63 < a) := fun h2 => by rw [if_pos h2] at hx0; simp at hx0
    rcases heldE_cases s env with ⟨y, hr, hy⟩ | ⟨j, k, hr, rfl, hj, hO⟩
    · omega
    obtain ⟨A, rfl⟩ : ∃ A : Nat, a = A := ⟨a.toNat, by omega⟩
    have hA : A < 64 := by omega
    have e4 : ((A : Int) / 4).toNat = A / 4 := by omega
    rcases acc_any h hs hk hf hF (keptO_get hO) (pg := A / 4) (by omega) false with ⟨ha, hc⟩ | ⟨s1, f, ps1, k1, e1, ha, hc, hs1, hk1, he1, hO1, hin, hfo, hby, -⟩
    · refine (pread_full h hw hA hx hc).mono ?_
      rintro e w' ⟨rfl, hb⟩
      have : readR s j A = ((0, 12), s) := by
        unfold readR
        rw [hr, hO, e4]
        simp only [ne_eq, not_true_eq_false, if_false, if_neg h2, Int.toNat_natCast, ha]
      rw [this]
      exact ⟨rfl, h.mb hs hb⟩
    · obtain ⟨g, f', hq16, hg, hgf, hff, hfl, hfb, hgc⟩ := hs1.frameAt hk1 he1 hO1 hin
      have hff' : f' = f := by rw [hfo] at hff; omega
      subst hff'
      have hK1 := hk1.kok.k1 j k1 hO1
      have hget : (pageB k1 (A / 4))[A % 4]? = some (k.bytes[A]?.getD 0) := by
        rw [pageB_get (by omega), show 4 * (A / 4) + A % 4 = A by omega, hby]
        have : A < k.bytes.length := by rw [← hby, hK1.len.by_]; exact hA
        rw [List.getElem?_eq_getElem this]; rfl
      have hrg := (page4 hK1.len hq16).2 _ _ hget
      refine (pread_of h hw hA hx hc hfb hget hrg.1 hrg.2).mono ?_
      rintro e w' ⟨rfl, hn⟩
      have : readR s j A = ((k.bytes[A]?.getD 0, 0), s1) := by
        unfold readR
        rw [hr, hO, e4]
        simp only [ne_eq, not_true_eq_false, if_false, if_neg h2, Int.toNat_natCast, ha]
      rw [this]
      exact ⟨rfl, hn.m hs1⟩

theorem m_write (h : MRep own id w p s) (hk : SOk s) (hf : Few s) (hF : FewU s) (env a v : Int) (_ : I64 env) (_ : I64 a) (_ : I64 v) :
    Calls Try.prog 38 #[.pointer (some ⟨p, 0, none⟩), .int .i64 env, .int .i64 a, .int .i64 v] w fun e w' => e = .returned (.int .i64 (writeR s env a v).1) ∧ MNext MRep own id w p w' (writeR s env a v).2 := by
  obtain ⟨ps, a0, b0, c0, d0, e0, h, hs⟩ := h
  have hw := hs.pwf hk hf
  have had := adr_eq hs env a
  by_cases hx : adrP ps env a = 0
  case neg =>
    refine (pwrite_no h hw env a v hx).mono ?_
    rintro e w' ⟨rfl, hw'⟩
    subst hw'
    have : writeR s env a v = (adrP ps env a, s) := by
      unfold writeR
      rw [had] at hx ⊢
      by_cases h1 : heldE s env = 0
      · simp only [h1, ne_eq, not_true_eq_false, if_false] at hx ⊢
        by_cases h2 : a < 0 ∨ 63 < a
        · rw [if_pos h2, if_pos (by omega)]
        · rw [if_neg h2] at hx; simp at hx
      · simp only [ne_eq, h1, not_false_eq_true, if_true]
    rw [this]
    exact ⟨rfl, h.ms hs⟩
  case pos =>
    have hx0 := hx
    rw [had] at hx0
    have h1 : heldE s env = 0 := by
      by_cases h1 : heldE s env = 0
      · exact h1
      · rw [if_pos h1] at hx0; exact absurd hx0 h1
    rw [if_neg (by rw [h1]; simp)] at hx0
    have h2 : ¬ (a < 0 ∨ 63 < a) := fun h2 => by rw [if_pos h2] at hx0; simp at hx0
    rcases heldE_cases s env with ⟨y, hr, hy⟩ | ⟨j, k, hr, rfl, hj, hO⟩
    · omega
    cases hv : byteOk v
    case false =>
      refine (pwrite_arg h hw j a v hx hv).mono ?_
      rintro e w' ⟨rfl, hw'⟩
      subst hw'
      have hvv : v < 0 ∨ 255 < v := by
        simp [byteOk] at hv
        omega
      have : writeR s j a v = (6, s) := by
        unfold writeR
        rw [hr]
        simp only [ne_eq, not_true_eq_false, if_false]
        rw [if_pos (by omega)]
      rw [this]
      exact ⟨rfl, h.ms hs⟩
    case true =>
      have hvv : 0 ≤ v ∧ v ≤ 255 := by simpa [byteOk] using hv
      obtain ⟨A, rfl⟩ : ∃ A : Nat, a = A := ⟨a.toNat, by omega⟩
      have hA : A < 64 := by omega
      have h3 : ¬ ((A : Int) < 0 ∨ 63 < (A : Int) ∨ v < 0 ∨ 255 < v) := by omega
      have e4 : ((A : Int) / 4).toNat = A / 4 := by omega
      rcases acc_any h hs hk hf hF (keptO_get hO) (pg := A / 4) (by omega) true with ⟨ha, hc⟩ | ⟨s1, f, ps1, k1, e1, ha, hc, hs1, hk1, he1, hO1, hin, hfo, hby, hch⟩
      · refine (pwrite_full h hw hA v hx hv hc).mono ?_
        rintro e w' ⟨rfl, hb⟩
        have : writeR s j A v = (12, s) := by
          unfold writeR
          rw [hr, hO, e4]
          simp only [ne_eq, not_true_eq_false, if_false, if_neg h3, Int.toNat_natCast, ha]
        rw [this]
        exact ⟨rfl, h.mb hs hb⟩
      · obtain ⟨g, f', hq16, hg, hgf, hff, hfl, hfb, hgc⟩ := hs1.frameAt hk1 he1 hO1 hin
        have hff' : f' = f := by rw [hfo] at hff; omega
        subst hff'
        have hK1 := hk1.kok.k1 j k1 hO1
        refine (pwrite_of h hw hA v hx hv hc hfb (page4 hK1.len hq16).1).mono ?_
        rintro e w' ⟨rfl, hn⟩
        have : writeR s j A v = (0, putK s1 j { k1 with bytes := k1.bytes.set A v }) := by
          unfold writeR
          rw [hr, hO, e4]
          simp only [ne_eq, not_true_eq_false, if_false, if_neg h3, Int.toNat_natCast, ha, keptO_at hO1]
        rw [this]
        have hpk := hs1.poke hk1 he1 hO1 (pg := A / 4) (r := A % 4) (by omega) hin (hch rfl) hfo hvv.1 hvv.2
        rw [show 4 * (A / 4) + A % 4 = A by omega] at hpk
        exact ⟨rfl, hn.m hpk⟩

theorem m_counts (h : MRep own id w p s) (hk : SOk s) (hf : Few s) (hF : FewU s) (env : Int) (_ : I64 env) :
    Calls Try.prog 52 #[.pointer (some ⟨p, 0, none⟩), .int .i64 env] w fun e w' => e = .returned (.tuple #[.agg #[.int .i64 (countsR s env).1.1, .int .i64 (countsR s env).1.2.1, .int .i64 (countsR s env).1.2.2.1, .int .i64 (countsR s env).1.2.2.2], .int .i64 (countsR s env).2]) ∧ MNext MRep own id w p w' s := by
  obtain ⟨ps, a0, b0, c0, d0, e0, h, hs⟩ := h
  have hw := hs.pwf hk hf
  have hh := hs.held env
  rcases heldE_cases s env with ⟨y, hr, hy⟩ | ⟨j, k, hr, rfl, hj, hO⟩
  · rw [hr] at hh
    refine (pcounts_no h hw env (by rw [← hh]; omega)).mono ?_
    rintro e w' ⟨rfl, hb⟩
    have : countsR s env = ((0, 0, 0, 0), y) := by unfold countsR; rw [hr, if_pos (by omega)]
    rw [this, ← hh]
    exact ⟨rfl, h.mb hs hb⟩
  · rw [hr] at hh
    obtain ⟨e, he⟩ := kept_env hs hk (keptO_get hO)
    obtain ⟨l1, l2, l3⟩ := hs.inl hk he (keptO_get hO)
    have hS := hs.km j e k he (keptO_get hO)
    refine (pcounts_yes h hw he (hs.mwf hk hF he (keptO_get hO)).1 hh.symm).mono ?_
    rintro e' w' ⟨rfl, hb⟩
    have : countsR s j = ((k.refills, k.ins, k.outs, (k.inp.length : Int)), 0) := by unfold countsR; rw [hr, hO]; simp
    rw [this, hS.cr, hS.ci, hS.co, l1]
    exact ⟨rfl, h.mb hs hb⟩
theorem fmap_congr {α β : Type} {f g : α → Option β} : ∀ {l : List α}, (∀ i, i ∈ l → f i = g i) → l.filterMap f = l.filterMap g
  | [], _ => rfl
  | x :: l, h => by
    rw [List.filterMap_cons, List.filterMap_cons, h x (by simp), fmap_congr (fun i hi => h i (by simp [hi]))]
theorem dirty_eq {k : KSt} {pk : PK} {fb : List (List Int)} {l : List Int} (hS : KSim s k pk fb l) : dirtyP pk 16 = dirtyTo k 16 := by
  unfold dirtyP dirtyTo
  refine fmap_congr (fun x hx => ?_)
  have hx16 : x < 16 := by simpa using hx
  obtain ⟨g, hg⟩ := hS.page hx16
  obtain ⟨a1, _⟩ := hS.pg x g hg
  have e : ((pk.pages[x]?).map PG.dty).getD false = (k.dty[x]?).getD false := by rw [hg]; exact a1
  simp only [e]
theorem m_dirty (h : MRep own id w p s) (hk : SOk s) (hf : Few s) (hF : FewU s) (env : Int) (_ : I64 env) :
    Calls Try.prog 57 #[.pointer (some ⟨p, 0, none⟩), .int .i64 env] w fun e w' => ∃ v, e = .returned (.tuple #[v, .int .i64 (dirtyR s env).2]) ∧ Below w.heap.size w w' ∧ (∀ x, v.ownBlock = some x → w.heap.size ≤ x) ∧ Row w' v 3 1 (dirtyR s env).1.length ((dirtyR s env).1.map (.int .i64)) := by
  obtain ⟨ps, a0, b0, c0, d0, e0, h, hs⟩ := h
  have hw := hs.pwf hk hf
  have hh := hs.held env
  rcases heldE_cases s env with ⟨y, hr, hy⟩ | ⟨j, k, hr, rfl, hj, hO⟩
  · rw [hr] at hh
    refine (pdirty_no h hw env (by rw [← hh]; omega)).mono ?_
    rintro e w' ⟨rfl, hw'⟩
    subst hw'
    have : dirtyR s env = ([], y) := by unfold dirtyR; rw [hr, if_pos (by omega)]
    rw [this, ← hh]
    exact ⟨_, rfl, Below.refl _ _, by simp [Value.ownBlock], Row.nil _ _ _⟩
  · rw [hr] at hh
    obtain ⟨e, he⟩ := kept_env hs hk (keptO_get hO)
    have hS := hs.km j e k he (keptO_get hO)
    refine (pdirty_yes h hw he (hs.mwf hk hF he (keptO_get hO)).1 hh.symm).mono ?_
    rintro e' w' ⟨v, rfl, hb, hn, hr2⟩
    have : dirtyR s j = (dirtyTo k 16, 0) := by unfold dirtyR; rw [hr, hO]; simp
    rw [this]
    rw [dirty_eq hS] at hr2
    exact ⟨v, rfl, hb, hn, hr2⟩
theorem m_clean (h : MRep own id w p s) (hk : SOk s) (hf : Few s) (hF : FewU s) (env : Int) (_ : I64 env) :
    Calls Try.prog 55 #[.pointer (some ⟨p, 0, none⟩), .int .i64 env] w fun e w' => e = .returned (.int .i64 (cleanR s env).1) ∧ MNext MRep own id w p w' (cleanR s env).2 := by
  obtain ⟨ps, a0, b0, c0, d0, e0, h, hs⟩ := h
  have hw := hs.pwf hk hf
  have hh := hs.held env
  rcases heldE_cases s env with ⟨y, hr, hy⟩ | ⟨j, k, hr, rfl, hj, hO⟩
  · rw [hr] at hh
    refine (pclean_no h hw env (by rw [← hh]; omega)).mono ?_
    rintro e w' ⟨rfl, hw'⟩
    subst hw'
    have : cleanR s env = (y, s) := by unfold cleanR; rw [hr, if_pos (by omega)]
    rw [this, ← hh]
    exact ⟨rfl, h.ms hs⟩
  · rw [hr] at hh
    obtain ⟨e, he⟩ := kept_env hs hk (keptO_get hO)
    refine (pclean_yes h hw he (hs.mwf hk hF he (keptO_get hO)).1 hh.symm).mono ?_
    rintro e' w' ⟨rfl, hn⟩
    have : cleanR s j = (0, putK s j { k with dty := List.replicate 16 false }) := by unfold cleanR; rw [hr, hO]; simp
    rw [this]
    exact ⟨rfl, hn.m (hs.clean he (keptO_get hO))⟩
theorem m_squeeze (h : MRep own id w p s) (hk : SOk s) (hf : Few s) (hF : FewU s) (env q : Int) (_ : I64 env) (_ : I64 q) :
    Calls Try.prog 62 #[.pointer (some ⟨p, 0, none⟩), .int .i64 env, .int .i64 q] w fun e w' => e = .returned (.int .i64 (squeezeR s env q).1) ∧ MNext MRep own id w p w' (squeezeR s env q).2 := by
  obtain ⟨ps, a0, b0, c0, d0, e0, h, hs⟩ := h
  have hw := hs.pwf hk hf
  have hh := hs.held env
  rcases heldE_cases s env with ⟨y, hr, hy⟩ | ⟨j, k, hr, rfl, hj, hO⟩
  · rw [hr] at hh
    refine (psqueeze_no h hw env q (by rw [← hh]; omega)).mono ?_
    rintro e w' ⟨rfl, hw'⟩
    subst hw'
    have : squeezeR s env q = (y, s) := by unfold squeezeR; rw [hr, if_pos (by omega)]
    rw [this, ← hh]
    exact ⟨rfl, h.ms hs⟩
  · rw [hr] at hh
    cases hq : quotaOk q
    case false =>
      refine (psqueeze_arg h hw j q hh.symm hq).mono ?_
      rintro e w' ⟨rfl, hw'⟩
      subst hw'
      have : squeezeR s j q = (6, s) := by
        unfold squeezeR
        rw [hr]
        simp only [ne_eq, not_true_eq_false, if_false]
        rw [if_pos (by simp [quotaOk] at hq; omega)]
      rw [this]
      exact ⟨rfl, h.ms hs⟩
    case true =>
      have hqq : 1 ≤ q ∧ q ≤ 16 := by simpa [quotaOk] using hq
      have hO' := keptO_get hO
      obtain ⟨e, he⟩ := kept_env hs hk hO'
      obtain ⟨l1, l2, l3⟩ := hs.inl hk he hO'
      have hL := (hk.kok.k1 j k hO').len
      have h1 : SOk (putK s j { k with quota := q }) := hk.putK hO' rfl ⟨hL.by_, hL.hnd, hL.chg, hL.dty, hL.out, hL.r0, hL.r1, hL.i0, hL.i1, hL.o0, hL.o1, hqq.1, hqq.2, hL.p0, hL.p1, hL.nod, hL.pg, hL.met, hL.chi, hL.val⟩ rfl rfl
      have hO1 : (putK s j { k with quota := q }).kept[j]? = some (some { k with quota := q }) := by show (s.kept.set j _)[j]? = _; rw [List.getElem?_set_self (kept_lt hO')]
      have hs1 := hs.quota he hO' q
      have hF1 : FewU (putK s j { k with quota := q }) := fun i k2 hi => by
        rcases kept_set (t := putK s j { k with quota := q }) rfl hi with ⟨rfl, rfl⟩ | ⟨_, hi⟩
        · exact hF i k hO'
        · exact hF i k2 hi
      obtain ⟨u1, u2, u3⟩ := Sim.upN (j := j) (k.inp.length - q.toNat) _ _ _ hs1 h1 hf hF1 hO1 (by show _ ≤ k.inp.length; omega)
      refine (psqueeze_yes h hw he (hs.mwf hk hF he hO').1 q hh.symm hq (n := k.inp.length - q.toNat) (by rw [l1]; omega) u1).mono ?_
      rintro e' w' ⟨rfl, hn⟩
      have : squeezeR s j q = (0, sqN (k.inp.length - q.toNat) (putK s j { k with quota := q }) j) := by
        unfold squeezeR
        rw [hr, hO]
        simp only [ne_eq, not_true_eq_false, if_false, Int.toNat_natCast]
        rw [if_neg (by omega), sweep_id u2.toSOk0]
      rw [this]
      exact ⟨rfl, hn.m u3⟩
theorem m_keep (h : MRep own id w p s) (hk : SOk s) (hf : Few s) (hF : FewU s) (env q pol : Int) (_ : I64 env) (_ : I64 q) (_ : I64 pol) :
    Calls Try.prog 36 #[.pointer (some ⟨p, 0, none⟩), .int .i64 env, .int .i64 q, .int .i64 pol] w fun e w' => e = .returned (.int .i64 (keepR s env q pol).1) ∧ MNext MRep own id w p w' (keepR s env q pol).2 := by
  obtain ⟨ps, a0, b0, c0, d0, e0, h, hs⟩ := h
  have hw := hs.pwf hk hf
  have hh := hs.raw env
  have hlist := hs.list env
  by_cases hr : rawE s env = 0
  case neg =>
    refine (pkeep_no h hw env q pol (by rw [← hh]; exact hr)).mono ?_
    rintro e w' ⟨rfl, hw'⟩
    subst hw'
    have : keepR s env q pol = (rawE s env, s) := by unfold keepR; rw [if_pos hr]
    rw [this, ← hh]
    exact ⟨rfl, h.ms hs⟩
  case pos =>
    have hr' : rawP ps env = 0 := by rw [← hh]; exact hr
    obtain ⟨hal, hkb⟩ := raw_no hr
    have hrg := aliveB_range hal
    obtain ⟨j, rfl⟩ : ∃ j : Nat, env = j := ⟨env.toNat, by omega⟩
    cases hqp : (quotaOk q && policyOk pol)
    case false =>
      refine (pkeep_arg h hw j q pol hr' hqp).mono ?_
      rintro e w' ⟨rfl, hw'⟩
      subst hw'
      have : keepR s j q pol = (6, s) := by
        unfold keepR
        rw [if_neg (by rw [hr]; simp), if_pos]
        simp [quotaOk, policyOk] at hqp
        omega
      rw [this]
      exact ⟨rfl, h.ms hs⟩
    case true =>
      simp only [Bool.and_eq_true] at hqp
      obtain ⟨hq, hp⟩ := hqp
      have hqq : 1 ≤ q ∧ q ≤ 16 := by simpa [quotaOk] using hq
      have hpp : pol = 0 ∨ pol = 1 ∨ pol = 2 := by simpa [policyOk] using hp
      have hn1 : ¬ (q < 1 ∨ 16 < q ∨ pol < 0 ∨ 2 < pol) := by omega
      have hlen : (ofP ps.hs j).length = (listR s j).length := by rw [hlist, List.length_map]
      by_cases h0 : 0 < (listR s j).length
      · refine (pkeep_held h hw j q pol hr' hq hp (by rw [hlen]; exact h0)).mono ?_
        rintro e w' ⟨rfl, hb⟩
        have : keepR s j q pol = (15, s) := by unfold keepR; rw [if_neg (by rw [hr]; simp), if_neg hn1, if_pos h0]
        rw [this]
        exact ⟨rfl, h.mb hs hb⟩
      · obtain ⟨e, he⟩ := hs.env (i := j) (by omega)
        refine (pkeep_yes h hw he q pol hr' hq hp (by rw [hlen]; omega)).mono ?_
        rintro e' w' ⟨rfl, hn⟩
        have : keepR s j q pol = (0, putK s j (KSt.new q pol)) := by unfold keepR; rw [if_neg (by rw [hr]; simp), if_neg hn1, if_neg h0]; rfl
        rw [this]
        exact ⟨rfl, hn.m (hs.keep hk he (fun k hO => by rw [keptB_at hO] at hkb; simp at hkb) (listR_no h0) q pol)⟩
end

theorem row_at {w : World} {g e k n : Nat} {xs : List Value} (hb : Blk w g xs e) (hl : xs.length = n * k) (hn : n ≤ maxLen) : Row w (.slice (some ⟨g, 0, none⟩) n n) e k n xs :=
  ⟨hl, .inr ⟨g, n, xs.toArray, rfl, Nat.zero_le _, hb, Nat.le_refl _, hn, by simpa using hl, by simp [← hl]⟩⟩
theorem frame_flat (a : Nat) : frameCells a = (List.replicate a [0, 0, 0, 0]).flatMap fcells := by
  apply List.ext_getElem?
  intro i
  rw [flat_at fcells 4 (by omega) (fun _ => rfl), frameCells, List.getElem?_replicate, List.getElem?_replicate]
  by_cases hi : i < a * 4
  · rw [if_pos hi, if_pos (by omega)]
    have : i % 4 = 0 ∨ i % 4 = 1 ∨ i % 4 = 2 ∨ i % 4 = 3 := by omega
    rcases this with h | h | h | h <;> simp [h, fcells]
  · rw [if_neg hi, if_neg (by omega)]
    rfl
theorem fresh_sim (a b c : Nat) : Sim (RSt.fresh a b c) ⟨(newEnvs c c).map Prod.fst, List.replicate a [0, 0, 0, 0], [], 0, List.replicate b Ent.empty, 0⟩ := by
  have hen : ∀ (i : Nat) (e : PEnv), ((newEnvs c c).map Prod.fst)[i]? = some e → i < c ∧ e = ⟨true, false, PK.none⟩ := fun i e he => by
    have hi : i < c := by have := (List.getElem?_eq_some_iff.1 he).1; simpa [newEnvs] using this
    rw [List.getElem?_map, newEnvs_get hi] at he
    simp only [Option.map_some, Option.some.injEq] at he
    refine ⟨hi, ?_⟩
    rw [← he]
    simp [hi]
  have hno : ∀ (i : Nat) (k : KSt), (RSt.fresh a b c).kept[i]? ≠ some (some k) := fun i k hO => by
    simp [RSt.fresh, List.getElem?_replicate] at hO
  refine ⟨by simp [newEnvs, RSt.fresh], fun i e he => ?_, fun i e he => ?_, fun i e k he hO => absurd hO (hno i k), by simp [RSt.fresh], fun f l hl => ?_, fun i r hr => by simp [RSt.fresh] at hr, rfl, rfl, rfl, rfl, fun i k q x hO => absurd hO (hno i k)⟩
  · obtain ⟨hi, rfl⟩ := hen i e he
    simp [RSt.fresh, hi]
  · obtain ⟨hi, rfl⟩ := hen i e he
    simp [RSt.fresh, keptB, keptO, hi]
  · rw [List.getElem?_replicate] at hl
    split at hl
    · simp only [Option.some.injEq] at hl
      subst hl
      exact zero4
    · simp at hl
theorem fresh_m {own : Nat → Nat × Nat} {id : Nat} {w' : World} {m e f g a b c : Nat} (ha : a ≤ 16) (hb : b ≤ 8) (hc : c ≤ 4) (h0 : Blk w' m (machCells e f g c a b) 75) (h1 : Blk w' e (envCells c c) 108) (h2 : Blk w' f (frameCells a) 84)
    (h3 : Blk w' g (emptyCells b) 80) (t0 : own m = (id, 0)) (t1 : own e = (id, 1)) (t2 : own f = (id, 2)) (t4 : own g = (id, 4)) : MRep own id w' m (RSt.fresh a b c) := by
  rw [frame_flat] at h2
  have hmx : ∀ n : Nat, n ≤ 16 → n ≤ maxLen := fun n hn => by unfold maxLen; omega
  refine ⟨⟨(newEnvs c c).map Prod.fst, List.replicate a [0, 0, 0, 0], [], 0, List.replicate b Ent.empty, 0⟩, e, .slice (some ⟨f, 0, none⟩) a a, .slice none 0 0, .slice (some ⟨g, 0, none⟩) b b, newEnvs c c, ?_, fresh_sim a b c⟩
  have hlen : ((newEnvs c c).map Prod.fst).length = c := by simp [newEnvs]
  have h0' : Blk w' m [.slice (some ⟨e, 0, none⟩) ((newEnvs c c).map Prod.fst).length ((newEnvs c c).map Prod.fst).length, .slice (some ⟨f, 0, none⟩) a a, .slice none 0 0, .int .i64 0, .slice (some ⟨g, 0, none⟩) b b, .int .i64 0] 75 := by rw [hlen]; exact h0
  refine ⟨⟨h0', rfl, rfl, Row.nil _ _ _, Tg.nil _ _, by rw [t0]; simp⟩, ⟨h0', rfl, rfl, ?_, Tg.mk t4, by rw [t0]; simp⟩, rfl, h1, ?_, t0, t1, Tg.mk t2, fun i x v hi => ?_⟩
  · have := row_at (k := 5) (n := b) h3 (by rw [emptyCells, flat_length Ent.cells 5 (fun _ => rfl), List.length_replicate]) (hmx b (by omega))
    simpa [emptyCells] using this
  · have := row_at (k := 4) (n := a) h2 (by rw [flat_length fcells 4 (fun _ => rfl), List.length_replicate]) (hmx a (by omega))
    simpa using this
  · have hic : i < c := by have := (List.getElem?_eq_some_iff.1 hi).1; rw [newEnvs_len] at this; exact this
    rw [newEnvs_get hic] at hi
    simp only [Option.some.injEq, Prod.mk.injEq] at hi
    obtain ⟨rfl, rfl⟩ := hi
    exact ⟨Row.nil _ _ _, Tg.nil _ _⟩

theorem m_new (a b c : Nat) (w : World) (h : mayB a b c = true) :
    Calls Try.prog 28 #[.agg #[.int .i64 a, .int .i64 b, .int .i64 c]] w fun e w' => ∃ (p : Nat) (f : Nat → Option Nat), e = .returned (.tuple #[.pointer (some ⟨p, 0, none⟩), .int .i64 0]) ∧ Below w.heap.size w w' ∧
      (∀ b j, f b = some j → w.heap.size ≤ b ∧ b < w'.heap.size) ∧ ∀ (own : Nat → Nat × Nat) (id : Nat), (∀ b j, f b = some j → own b = (id, j)) → MRep own id w' p (RSt.fresh a b c) := by
  have hm := h
  simp [mayB] at hm
  refine (new_yes a b c w h (by omega) (by omega) (by omega) (by omega)).mono ?_
  rintro e w' ⟨m, rfl, hb, ee, f, g, h0, h1, h2, h3, n1, n2, n3, n4, n5, n6, g1, g2, g3, g4⟩
  refine ⟨m, fun x => if x = m then some 0 else if x = ee then some 1 else if x = f then some 2 else if x = g then some 4 else none, rfl, hb, ?_, ?_⟩
  · intro x j hx
    simp only at hx
    split at hx
    · rename_i e; subst e; exact ⟨g1, h0.lt⟩
    · split at hx
      · rename_i e; subst e; exact ⟨g2, h1.lt⟩
      · split at hx
        · rename_i e; subst e; exact ⟨g3, h2.lt⟩
        · split at hx
          · rename_i e; subst e; exact ⟨g4, h3.lt⟩
          · simp at hx
  · intro own id ho
    refine fresh_m (by omega) (by omega) (by omega) h0 h1 h2 h3 (ho m 0 (if_pos rfl)) (ho ee 1 ?_) (ho f 2 ?_) (ho g 4 ?_)
    · simp only; rw [if_neg (Ne.symm n1), if_pos trivial]
    · simp only; rw [if_neg (Ne.symm n2), if_neg (Ne.symm n4), if_pos trivial]
    · simp only; rw [if_neg (Ne.symm n3), if_neg (Ne.symm n5), if_neg (Ne.symm n6), if_pos trivial]

theorem api : Api MRep where
  of := m_of
  retag := m_retag
  new_no := new_no
  new_yes := m_new
  alloc := m_alloc
  derive := m_derive
  revoke := m_revoke
  drop := m_drop
  kill := m_kill
  spawn := m_spawn
  rights := m_rights
  map := m_map
  unmap := m_unmap
  load := m_load
  store := m_store
  table := m_table
  keep := m_keep
  read := m_read
  write := m_write
  counts := m_counts
  dirty := m_dirty
  clean := m_clean
  squeeze := m_squeeze
end Go.Proofs.Ytinlkcmdbjcofab
