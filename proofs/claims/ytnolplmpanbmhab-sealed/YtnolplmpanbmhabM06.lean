import Derived.Deep.RegionWith
import Derived.Test.YtnolplmpanbmhabM05
namespace Go.Proofs.Ytnolplmpanbmhab
open Go.RowKit
set_option linter.unusedVariables false

theorem Try.infoEnv : (Try.prog.info? 84).map (fun i => (i.zero, i.size, i.bytes)) = some (some (.agg #[.bool false, .bool false]), 2, 2) := by kernel_rfl
theorem Try.infoFrame : (Try.prog.info? 64).map (fun i => (i.zero, i.size, i.bytes)) = some (some (.agg #[.int .u8 0, .int .u8 0, .int .u8 0, .int .u8 0]), 4, 4) := by kernel_rfl

/-- 'make([]T, n)': the block, written out. -/
theorem run_make_n {P : Program} {t e : TypeId} {z : Value} {size bytes : Nat} (ht : P.underlying t = some (.slice e))
    (hinfo : (P.info? e).map (fun i => (i.zero, i.size, i.bytes)) = some (some z, size, bytes)) (n : Nat) (hn : n ≤ 1000) (hb : bytes ≤ 1000) (C : List Value) (hC : madeCells z.cells (n * size) = C.toArray) (w : World) :
    (Instr.makeSlice t (.int .i64 (n : Int)) (.int .i64 (n : Int))).run P w = .ok (.slice (some ⟨w.heap.size, 0, none⟩) n n) (w.alloc (.cells C.toArray e)) := by
  obtain ⟨i, hi, hz, hs, hby⟩ := info_parts hinfo
  subst hs; subst hby
  have hb' : (i.bytes : Int) * (n : Int) ≤ 281474976710656 := by
    have h : i.bytes * n ≤ 1000 * 1000 := Nat.mul_le_mul hb hn
    have : ((i.bytes * n : Nat) : Int) ≤ 281474976710656 := by omega
    rwa [Int.natCast_mul] at this
  have hr := run_make (P := P) w t e i z ht hi hz .i64 .i64 n n (by omega) (Int.le_refl _) hb' (by omega)
  simp only [Int.toNat_natCast] at hr
  rw [hC] at hr
  exact hr

/-- The environments' cells: k of n are alive. -/
def envCells (k n : Nat) : List Value := (List.range (n * 2)).map fun j => .bool (decide (j % 2 = 0 ∧ j < 2 * k))
def frameCells (n : Nat) : List Value := List.replicate (n * 4) (.int .u8 0)

theorem made_env (n : Nat) : madeCells (Value.agg #[.bool false, .bool false]).cells (n * 2) = (envCells 0 n).toArray := by
  apply Array.ext'
  simp [madeCells, envCells, Value.cells]
  intro a _
  rcases Nat.mod_two_eq_zero_or_one a with h | h <;> simp [h]
theorem made_frame (n : Nat) : madeCells (Value.agg #[.int .u8 0, .int .u8 0, .int .u8 0, .int .u8 0]).cells (n * 4) = (frameCells n).toArray := by
  apply Array.ext'
  simp [madeCells, frameCells, Value.cells]
  apply List.ext_getElem
  · simp
  · intro i h1 h2
    simp
    have : i % 4 = 0 ∨ i % 4 = 1 ∨ i % 4 = 2 ∨ i % 4 = 3 := by omega
    rcases this with h | h | h | h <;> simp [h]

theorem made_ent (n : Nat) : madeCells (Value.agg #[.bool false, .int .i64 0, .int .i64 0, .int .i64 0, .bool false]).cells (n * 5) = ((List.replicate n Ent.empty).flatMap Ent.cells).toArray := by
  apply Array.ext'
  simp only [madeCells, Value.cells]
  apply List.ext_getElem?
  intro i
  rw [flat_at Ent.cells 5 (by omega) (fun _ => rfl)]
  by_cases hi : i < n * 5
  · rw [List.getElem?_replicate, if_pos (by omega)]
    have : i % 5 = 0 ∨ i % 5 = 1 ∨ i % 5 = 2 ∨ i % 5 = 3 ∨ i % 5 = 4 := by omega
    rcases this with h | h | h | h | h <;> simp [h, hi, Ent.cells, Ent.empty]
  · rw [List.getElem?_replicate, if_neg (by omega)]
    simp [hi]

def emptyCells (n : Nat) : List Value := (List.replicate n Ent.empty).flatMap Ent.cells
set_option maxHeartbeats 1000000 in
set_option maxRecDepth 100000 in
theorem tempty_any (n : Nat) (hn : n ≤ 8) (w : World) :
    Calls Try.prog 41 #[.int .i64 n] w fun e w' => ∃ g : Nat, e = .returned (.agg #[.slice (some ⟨g, 0, none⟩) n n]) ∧ w.heap.size ≤ g ∧ Below w.heap.size w w' ∧ Blk w' g (emptyCells n) 74 := by
  have hmk := run_make_n (P := Try.prog) Try.underlying57 Try.infoEnt n (by omega) (by omega) (emptyCells n) (made_ent n)
  go_enter Try.func41, Try.ntmps41
  go_wp2_with fail
  exact bodyPost_ret (v := .agg #[.slice (some ⟨w.heap.size + 1, 0, none⟩) n n]) (by simp [results, Try.results41, go_sem]) rfl
    ⟨w.heap.size + 1, rfl, by omega, ((Below.refl _ _).alloc (Nat.le_refl _) _).alloc (by simp) _, Blk.at _ _ _ _ (by simp)⟩

theorem envCells_set (k n : Nat) (h : k < n) : (envCells k n).set (k * 2) (.bool true) = envCells (k + 1) n := by
  apply List.ext_getElem
  · simp [envCells]
  · intro i h1 h2
    simp [envCells, List.getElem_set]
    rw [Bool.eq_iff_iff]; simp; omega

set_option maxHeartbeats 400000 in
theorem new_no (a b c : Int) (w : World) (h : mayB a b c = false) :
    Calls Try.prog 18 #[.agg #[.int .i64 a, .int .i64 b, .int .i64 c]] w fun e w' => e = .returned (.tuple #[.pointer none, .int .i64 1]) ∧ Below w.heap.size w w' := by
  go_enter Try.func18, Try.ntmps18
  go_wp2_with (go_at_call 40; refine (mayBe_any _ _ _ _).mono ?_; rintro e w' ⟨rfl, hb⟩; rw [h])
  go_ret2
  refine ⟨rfl, ((Below.refl _ _).alloc (Nat.le_refl _) _).trans (hb.mono (by simp))⟩


def machCells (e f g c a b : Nat) : List Value := [.slice (some ⟨e, 0, none⟩) c c, .slice (some ⟨f, 0, none⟩) a a, .slice none 0 0, .int .i64 0, .slice (some ⟨g, 0, none⟩) b b]

def NewMach (w w' : World) (m a b c : Nat) : Prop :=
  ∃ e f g, Blk w' m (machCells e f g c a b) 61 ∧ Blk w' e (envCells c c) 84 ∧ Blk w' f (frameCells a) 64 ∧ Blk w' g (emptyCells b) 74 ∧ m ≠ e ∧ m ≠ f ∧ m ≠ g ∧ e ≠ f ∧ e ≠ g ∧ f ≠ g ∧ w.heap.size ≤ m ∧ w.heap.size ≤ e ∧ w.heap.size ≤ f ∧ w.heap.size ≤ g

set_option maxHeartbeats 8000000 in
set_option maxRecDepth 100000 in
theorem new_yes (a b c : Nat) (w : World) (h : mayB a b c = true) (ha : a ≤ 16) (hb8 : b ≤ 8) (hc : c ≤ 4) (hc1 : 1 ≤ c) :
    Calls Try.prog 18 #[.agg #[.int .i64 a, .int .i64 b, .int .i64 c]] w fun e w' => ∃ m, e = .returned (.tuple #[.pointer (some ⟨m, 0, none⟩), .int .i64 0]) ∧ Below w.heap.size w w' ∧ NewMach w w' m a b c := by
  have hmk := run_make_n (P := Try.prog) Try.underlying52 Try.infoEnv c (by omega) (by omega) _ (made_env c)
  have hmk2 := run_make_n (P := Try.prog) Try.underlying53 Try.infoFrame a (by omega) (by omega) _ (made_frame a)
  go_enter Try.func18, Try.ntmps18
  go_wp2_with (go_at_call 40; refine (mayBe_any _ _ _ _).mono ?_; rintro e w' ⟨rfl, hb⟩; rw [h])
  have hbk := (Blk.new w [.int .i64 a, .int .i64 b, .int .i64 c] 27).below hb (by simp)
  have k0 := hbk.cell 0
  have k1 := hbk.cell 1
  have k2 := hbk.cell 2
  simp at k0 k1 k2
  have hsz : w.heap.size < w'.heap.size := by have := hb.size; simp at this; omega
  have hbw : Below w.heap.size w w' := ((Below.refl _ _).alloc (Nat.le_refl _) _).trans (hb.mono (by simp))
  go_cut [4] (fun p wc => ∃ m e f g, p = .pointer (some ⟨m, 0, none⟩) ∧ Below w.heap.size w wc ∧ Blk wc m (machCells e f g c a b) 61 ∧ Blk wc e (envCells 0 c) 84 ∧ Blk wc f (frameCells a) 64 ∧ Blk wc g (emptyCells b) 74 ∧ m ≠ e ∧ m ≠ f ∧ m ≠ g ∧ e ≠ f ∧ e ≠ g ∧ f ≠ g ∧ w.heap.size ≤ m ∧ w.heap.size ≤ e ∧ w.heap.size ≤ f ∧ w.heap.size ≤ g)
  case first =>
    have n0 : w.heap.size ≠ w'.heap.size := by omega
    have n1 : w'.heap.size ≠ w.heap.size := by omega
    clear hbk hb h
    go_region_held3 (fun x => x.cell? ⟨w.heap.size, 0, none⟩ = some (.int .i64 a) ∧ x.cell? ⟨w.heap.size, 1, none⟩ = some (.int .i64 b) ∧ x.cell? ⟨w.heap.size, 2, none⟩ = some (.int .i64 c)) (go_keep)
      ((first
        | (go_at_call 41; refine (tempty_any b hb8 _).mono ?_; rintro e w1 ⟨g, rfl, hg, hb1, hblk⟩
           have hl1 : w.heap.size < w1.heap.size := by have := hb1.size; simp at this; omega
           have n2 : w.heap.size ≠ w1.heap.size := by omega
           have n3 : w1.heap.size ≠ w.heap.size := by omega
           have q0 : w1.cell? ⟨w.heap.size, 0, none⟩ = some (.int .i64 a) := (hb1.cell (p := ⟨w.heap.size, 0, none⟩) (by simp; omega)).trans (by first | exact k0 | (simp [go_sem, *]; done))
           have q1 : w1.cell? ⟨w.heap.size, 1, none⟩ = some (.int .i64 b) := (hb1.cell (p := ⟨w.heap.size, 1, none⟩) (by simp; omega)).trans (by first | exact k1 | (simp [go_sem, *]; done))
           have q2 : w1.cell? ⟨w.heap.size, 2, none⟩ = some (.int .i64 c) := (hb1.cell (p := ⟨w.heap.size, 2, none⟩) (by simp; omega)).trans (by first | exact k2 | (simp [go_sem, *]; done)))))
    · go_wp2
      go_meet
      case rel =>
        have hX := hb1.size
        have hgl := hblk.lt
        simp at hX hg
        refine ⟨_, w'.heap.size, w'.heap.size + 1, g, rfl, (((((hbw.alloc (by omega) _).alloc (by simp; omega) _).drew).trans (hb1.mono (by simp; omega))).alloc (by omega) _), Blk.at _ (machCells _ _ _ c a b) _ _ (by simp), (((((Blk.at _ _ _ _ rfl).alloc _).drew).below hb1 (by simp <;> omega)).alloc _), ((((Blk.at _ _ _ _ (by simp)).drew).below hb1 (by simp <;> omega)).alloc _), (hblk.alloc _), ?_, ?_, ?_, ?_, ?_, ?_, ?_, ?_, ?_, ?_⟩
        all_goals omega
    · go_wp2
      go_meet
      case rel =>
        have hX := hb1.size
        have hgl := hblk.lt
        simp at hX hg
        refine ⟨_, w'.heap.size, w1.heap.size, g, rfl, (((((hbw.alloc (by omega) _).drew).trans (hb1.mono (by simp; omega))).alloc (by omega) _).alloc (by simp; omega) _), Blk.at _ (machCells _ _ _ c a b) _ _ (by simp), (((((Blk.at _ _ _ _ rfl).drew).below hb1 (by simp <;> omega)).alloc _).alloc _), ((Blk.at _ _ _ _ rfl).alloc _), ((hblk.alloc _).alloc _), ?_, ?_, ?_, ?_, ?_, ?_, ?_, ?_, ?_, ?_⟩
        all_goals omega
    · go_wp2
      go_meet
      case rel =>
        have hX := hb1.size
        have hgl := hblk.lt
        simp at hX hg
        refine ⟨_, w'.heap.size + 1, w'.heap.size, g, rfl, (((((hbw.alloc (by omega) _).alloc (by simp; omega) _).drew).trans (hb1.mono (by simp; omega))).alloc (by omega) _), Blk.at _ (machCells _ _ _ c a b) _ _ (by simp), ((((Blk.at _ _ _ _ (by simp)).drew).below hb1 (by simp <;> omega)).alloc _), (((((Blk.at _ _ _ _ rfl).alloc _).drew).below hb1 (by simp <;> omega)).alloc _), (hblk.alloc _), ?_, ?_, ?_, ?_, ?_, ?_, ?_, ?_, ?_, ?_⟩
        all_goals omega
    · go_wp2
      go_meet
      case rel =>
        have hX := hb1.size
        have hgl := hblk.lt
        simp at hX hg
        refine ⟨_, w1.heap.size, w'.heap.size, g, rfl, (((((hbw.alloc (by omega) _).drew).trans (hb1.mono (by simp; omega))).alloc (by omega) _).alloc (by simp; omega) _), Blk.at _ (machCells _ _ _ c a b) _ _ (by simp), ((Blk.at _ _ _ _ rfl).alloc _), (((((Blk.at _ _ _ _ rfl).drew).below hb1 (by simp <;> omega)).alloc _).alloc _), ((hblk.alloc _).alloc _), ?_, ?_, ?_, ?_, ?_, ?_, ?_, ?_, ?_, ?_⟩
        all_goals omega
    · go_wp2
      go_meet
      case rel =>
        have hX := hb1.size
        have hgl := hblk.lt
        simp at hX hg
        refine ⟨_, w1.heap.size, w1.heap.size + 1, g, rfl, ((((hbw.drew.trans (hb1.mono (by simp; omega))).alloc (by omega) _).alloc (by simp; omega) _).alloc (by simp; omega) _), Blk.at _ (machCells _ _ _ c a b) _ _ (by simp), (((Blk.at _ _ _ _ rfl).alloc _).alloc _), ((Blk.at _ _ _ _ (by simp)).alloc _), (((hblk.alloc _).alloc _).alloc _), ?_, ?_, ?_, ?_, ?_, ?_, ?_, ?_, ?_, ?_⟩
        all_goals omega
    · go_wp2
      go_meet
      case rel =>
        have hX := hb1.size
        have hgl := hblk.lt
        simp at hX hg
        refine ⟨_, w1.heap.size + 1, w1.heap.size, g, rfl, ((((hbw.drew.trans (hb1.mono (by simp; omega))).alloc (by omega) _).alloc (by simp; omega) _).alloc (by simp; omega) _), Blk.at _ (machCells _ _ _ c a b) _ _ (by simp), ((Blk.at _ _ _ _ (by simp)).alloc _), (((Blk.at _ _ _ _ rfl).alloc _).alloc _), (((hblk.alloc _).alloc _).alloc _), ?_, ?_, ?_, ?_, ?_, ?_, ?_, ?_, ?_, ?_⟩
        all_goals omega
  case rest =>
    obtain ⟨m, e, f, g, hp, hbl, hm, he, hf, hgk, n1, n2, n3, n4, n5, n6, g1, g2, g3, g4⟩ := hcut
    rw [hp]
    have j0 := hm.cell 0
    simp [machCells] at j0
    go_wp2
    go_loopg [25, 5] c (fun k i _ wr => ∃ r : Nat, r + k = c ∧ i = .int .i64 r ∧ Below w.heap.size w wr ∧ Blk wr m (machCells e f g c a b) 61 ∧ Blk wr e (envCells r c) 84 ∧ Blk wr f (frameCells a) 64 ∧ Blk wr g (emptyCells b) 74)
    case atStart => exact ⟨0, by omega, rfl, hbl, hm, he, hf, hgk⟩
    case round =>
      obtain ⟨r, hr, rfl, hbl', hm', he', hf', hg'⟩ := hrel
      have i0 := hm'.cell 0
      simp [machCells] at i0
      have fe := he'.frozen (r * 2)
      by_cases hlt : r < c
      · obtain ⟨v, hv⟩ : ∃ v, (envCells r c)[r * 2]? = some (.bool v) := ⟨decide ((r * 2) % 2 = 0 ∧ r * 2 < 2 * r), by rw [envCells, List.getElem?_map, List.getElem?_range (by omega)]; rfl⟩
        have ie := (he'.cell (r * 2)).trans hv
        clear hv
        go_wp2
        go_roundg (gk - 1)
        case measure => omega
        case rel => exact ⟨r + 1, by omega, by go_num, hbl'.setCell (by simpa using g2) _, hm'.other _ (by simpa using n1), by rw [← envCells_set r c hlt]; exact he'.set _ _, hf'.other _ (by simpa using Ne.symm n4), hg'.other _ (by simpa using Ne.symm n5)⟩
      · go_wp2
        go_ret2
        obtain rfl : r = c := by omega
        exact ⟨m, rfl, hbl', e, f, g, hm', he', hf', hg', n1, n2, n3, n4, n5, n6, g1, g2, g3, g4⟩
end Go.Proofs.Ytnolplmpanbmhab

/-
  The program's machine keeps the contracts of Api.
-/
namespace Go.Proofs.Ytnolplmpanbmhab
open Go.RowKit
set_option linter.unusedVariables false

def MRep : MT := fun own id w p s => ∃ vE vF vL vT, PRep own id w p (toP s) vE vF vL vT

theorem live_le (rs : List RR) : (live rs).length ≤ rs.length := by
  rw [live_len]
  unfold cnt cntTo
  have := List.length_filter_le (fun i : Nat => lv rs i) (List.range rs.length)
  simpa using this

section
variable {own own' : Nat → Nat × Nat} {id : Nat} {w w' : World} {p : Nat} {s s' : RSt} {ps : PSt} {vE vF vL vT : Value}

theorem SOk.pwf (h : SOk s) (hf : Few s) : PWf (toP s) := by
  have h1 := live_le s.rights
  unfold Few at hf
  have hb := h.fix.by_
  have hn := h.fix.nf
  have hal := h.fix.al
  have hne := h.fix.ne
  refine ⟨?_, ?_, h.fix.sl, h.uni, ?_, h.bys, ?_, ?_, ?_⟩
  · show s.alive.length ≤ 4; omega
  · show s.bytes.length ≤ 16; omega
  · intro i e he hu
    have := h.sfr i e he hu
    show 0 ≤ e.fr ∧ e.fr < s.bytes.length
    rw [hb]; exact this
  · show (0 : Int) ≤ s.rights.length; omega
  · show (s.rights.length : Int) ≤ _; omega
  · show ((live s.rights).length + 1) * 48 ≤ _; omega

theorem PRep.retag (h : PRep own id w p ps vE vF vL vT) (ho : ∀ b, b < w.heap.size → (own b).1 = id → own' b = own b) : PRep own' id w p ps vE vF vL vT := by
  have ht : ∀ {v : Value} {e k n : Nat} {xs : List Value} {j : Nat}, Row w v e k n xs → Tg own v (id, j) → Tg own' v (id, j) := fun hr ht b hb => (ho b (hr.lt b hb) (by rw [ht b hb])).trans (ht b hb)
  have hp := ho p h.st.blk.lt (by rw [h.tm])
  exact ⟨⟨h.st.blk, h.st.c0, h.st.c1, h.st.row, ht h.st.row h.st.tag, by rw [hp]; exact h.st.ne⟩, ⟨h.tb.blk, h.tb.c0, h.tb.row, ht h.tb.row h.tb.tag, by rw [hp]; exact h.tb.ne⟩, h.rE, h.rF, hp.trans h.tm, ht h.rE h.tE, ht h.rF h.tF⟩

theorem PNext.m (h : PNext own id w p w' ps) (hs : Sim s' ps) : MNext MRep own id w p w' s' := by
  obtain ⟨own', a, b, c, d, h1, h2, h3⟩ := h
  rw [hs.eq] at h1
  exact ⟨own', ⟨a, b, c, d, h1⟩, h2, h3⟩

theorem m_of (h : MRep own id w p s) (ho : ∀ b, b < w.heap.size → own' b = own b) (hb : ∀ b, b < w.heap.size → (own b).1 = id → w'.heap[b]? = w.heap[b]?) : MRep own' id w' p s := by
  obtain ⟨a, b, c, d, h⟩ := h
  exact ⟨a, b, c, d, h.of ho hb⟩
theorem m_retag (h : MRep own id w p s) (ho : ∀ b, b < w.heap.size → (own b).1 = id → own' b = own b) : MRep own' id w p s := by
  obtain ⟨a, b, c, d, h⟩ := h
  exact ⟨a, b, c, d, h.retag ho⟩

theorem m_alloc (h : MRep own id w p s) (hk : SOk s) (hf : Few s) (env : Int) (_ : I64 env) :
    Calls Try.prog 10 #[.pointer (some ⟨p, 0, none⟩), .int .i64 env] w fun e w' => e = .returned (.tuple #[.int .i64 (allocR s env).1.1, .int .i64 (allocR s env).1.2]) ∧ MNext MRep own id w p w' (allocR s env).2 := by
  obtain ⟨a, b, c, d, h⟩ := h
  obtain ⟨h1, h2⟩ := hk.sim.alloc env
  refine (palloc_any h (hk.pwf hf) env).mono ?_
  rintro e w' ⟨rfl, hn⟩
  exact ⟨by rw [h1], hn.m h2⟩
theorem m_derive (h : MRep own id w p s) (hk : SOk s) (hf : Few s) (env hd te : Int) (wt : Bool) (_ : I64 env) (_ : I64 hd) (_ : I64 te) :
    Calls Try.prog 16 #[.pointer (some ⟨p, 0, none⟩), .int .i64 env, .int .i64 hd, .int .i64 te, .bool wt] w fun e w' => e = .returned (.tuple #[.int .i64 (deriveR s env hd te wt).1.1, .int .i64 (deriveR s env hd te wt).1.2]) ∧ MNext MRep own id w p w' (deriveR s env hd te wt).2 := by
  obtain ⟨a, b, c, d, h⟩ := h
  obtain ⟨h1, h2⟩ := hk.sim.derive env hd te wt
  refine (pderive_any h (hk.pwf hf) env hd te wt).mono ?_
  rintro e w' ⟨rfl, hn⟩
  exact ⟨by rw [h1], hn.m h2⟩
theorem m_revoke (h : MRep own id w p s) (hk : SOk s) (hf : Few s) (env hd : Int) (_ : I64 env) (_ : I64 hd) :
    Calls Try.prog 17 #[.pointer (some ⟨p, 0, none⟩), .int .i64 env, .int .i64 hd] w fun e w' => e = .returned (.int .i64 (revokeR s env hd).1) ∧ MNext MRep own id w p w' (revokeR s env hd).2 := by
  obtain ⟨a, b, c, d, h⟩ := h
  obtain ⟨h1, h2⟩ := hk.sim.revoke env hd
  refine (prevoke_any h (hk.pwf hf) env hd).mono ?_
  rintro e w' ⟨rfl, hn⟩
  exact ⟨by rw [h1], hn.m h2⟩
theorem m_drop (h : MRep own id w p s) (hk : SOk s) (hf : Few s) (env hd : Int) (_ : I64 env) (_ : I64 hd) :
    Calls Try.prog 43 #[.pointer (some ⟨p, 0, none⟩), .int .i64 env, .int .i64 hd] w fun e w' => e = .returned (.int .i64 (dropR s env hd).1) ∧ MNext MRep own id w p w' (dropR s env hd).2 := by
  obtain ⟨a, b, c, d, h⟩ := h
  obtain ⟨h1, h2⟩ := hk.sim.drop env hd
  refine (pdrop_any h (hk.pwf hf) env hd).mono ?_
  rintro e w' ⟨rfl, hn⟩
  exact ⟨by rw [h1], hn.m h2⟩
theorem m_kill (h : MRep own id w p s) (hk : SOk s) (hf : Few s) (env : Int) (_ : I64 env) :
    Calls Try.prog 45 #[.pointer (some ⟨p, 0, none⟩), .int .i64 env] w fun e w' => e = .returned (.int .i64 (killR s env).1) ∧ MNext MRep own id w p w' (killR s env).2 := by
  obtain ⟨a, b, c, d, h⟩ := h
  obtain ⟨h1, h2⟩ := hk.sim.kill env
  refine (pkill_any h (hk.pwf hf) env).mono ?_
  rintro e w' ⟨rfl, hn⟩
  exact ⟨by rw [h1], hn.m h2⟩
theorem m_spawn (h : MRep own id w p s) (hk : SOk s) (hf : Few s) (env : Int) (_ : I64 env) :
    Calls Try.prog 46 #[.pointer (some ⟨p, 0, none⟩), .int .i64 env] w fun e w' => e = .returned (.int .i64 (spawnR s env).1) ∧ MNext MRep own id w p w' (spawnR s env).2 := by
  obtain ⟨a, b, c, d, h⟩ := h
  obtain ⟨h1, h2⟩ := hk.sim.spawn env
  refine (pspawn_any h (hk.pwf hf) env).mono ?_
  rintro e w' ⟨rfl, hn⟩
  exact ⟨by rw [h1], hn.m h2⟩
theorem rc_map (l : List RR) : (l.map toPH).flatMap PH.rc = l.flatMap rcells := by
  induction l with
  | nil => rfl
  | cons x l ih => simp only [List.map_cons, List.flatMap_cons, ih]; rfl
theorem m_map (h : MRep own id w p s) (hk : SOk s) (hf : Few s) (env page hd : Int) (wt : Bool) (slot : Int) (_ : I64 env) (_ : I64 page) (_ : I64 hd) (_ : I64 slot) :
    Calls Try.prog 13 #[.pointer (some ⟨p, 0, none⟩), .int .i64 env, .int .i64 page, .int .i64 hd, .bool wt, .int .i64 slot] w fun e w' => e = .returned (.int .i64 (mapR s env page hd wt slot).1) ∧ MNext MRep own id w p w' (mapR s env page hd wt slot).2 := by
  obtain ⟨a, b, c, d, h⟩ := h
  obtain ⟨h1, h2⟩ := hk.sim.map hk env page hd wt slot
  refine (pmap_any h (hk.pwf hf) env page hd wt slot).mono ?_
  rintro e w' ⟨rfl, hn⟩
  exact ⟨by rw [h1], hn.m h2⟩
theorem m_unmap (h : MRep own id w p s) (hk : SOk s) (hf : Few s) (env page : Int) (_ : I64 env) (_ : I64 page) :
    Calls Try.prog 21 #[.pointer (some ⟨p, 0, none⟩), .int .i64 env, .int .i64 page] w fun e w' => e = .returned (.int .i64 (unmapR s env page).1) ∧ MNext MRep own id w p w' (unmapR s env page).2 := by
  obtain ⟨a, b, c, d, h⟩ := h
  obtain ⟨h1, h2⟩ := hk.sim.unmap hk env page
  refine (punmap_any h (hk.pwf hf) env page).mono ?_
  rintro e w' ⟨rfl, hn⟩
  exact ⟨by rw [h1], hn.m h2⟩
theorem m_load (h : MRep own id w p s) (hk : SOk s) (hf : Few s) (env page at_ : Int) (_ : I64 env) (_ : I64 page) (_ : I64 at_) :
    Calls Try.prog 14 #[.pointer (some ⟨p, 0, none⟩), .int .i64 env, .int .i64 page, .int .i64 at_] w fun e w' => e = .returned (.tuple #[.int .i64 (loadR s env page at_).1, .int .i64 (loadR s env page at_).2]) ∧ MNext MRep own id w p w' s := by
  obtain ⟨a, b, c, d, h⟩ := h
  have h1 := hk.sim.load env page at_
  refine (pload_any h (hk.pwf hf) env page at_).mono ?_
  rintro e w' ⟨rfl, hb⟩
  exact ⟨by rw [h1], (PNext.of_below h hb).m hk.sim⟩
theorem m_store (h : MRep own id w p s) (hk : SOk s) (hf : Few s) (env page at_ v : Int) (_ : I64 env) (_ : I64 page) (_ : I64 at_) (_ : I64 v) :
    Calls Try.prog 15 #[.pointer (some ⟨p, 0, none⟩), .int .i64 env, .int .i64 page, .int .i64 at_, .int .i64 v] w fun e w' => e = .returned (.int .i64 (storeR s env page at_ v).1) ∧ MNext MRep own id w p w' (storeR s env page at_ v).2 := by
  obtain ⟨a, b, c, d, h⟩ := h
  obtain ⟨h1, h2⟩ := hk.sim.store env page at_ v
  refine (pstore_any h (hk.pwf hf) env page at_ v).mono ?_
  rintro e w' ⟨rfl, hn⟩
  exact ⟨by rw [h1], hn.m h2⟩
end

theorem row_at {w : World} {g e k n : Nat} {xs : List Value} (hb : Blk w g xs e) (hl : xs.length = n * k) (hn : n ≤ maxLen) : Row w (.slice (some ⟨g, 0, none⟩) n n) e k n xs :=
  ⟨hl, .inr ⟨g, n, xs.toArray, rfl, Nat.zero_le _, hb, Nat.le_refl _, hn, by simpa using hl, by simp [← hl]⟩⟩
theorem env_flat (c : Nat) : envCells c c = (List.replicate c true).flatMap ecells := by
  apply List.ext_getElem?
  intro i
  rw [flat_at ecells 2 (by omega) (fun _ => rfl), envCells, List.getElem?_map]
  by_cases hi : i < c * 2
  · rw [List.getElem?_range hi, List.getElem?_replicate, if_pos (by omega)]
    have : i % 2 = 0 ∨ i % 2 = 1 := by omega
    rcases this with h | h
    · simp [h, ecells]; omega
    · simp [h, ecells]
  · rw [List.getElem?_replicate, if_neg (by omega), List.getElem?_eq_none (by simp; omega)]
    rfl
theorem frame_flat (a : Nat) : frameCells a = (List.replicate a [0, 0, 0, 0]).flatMap fcells := by
  apply List.ext_getElem?
  intro i
  rw [flat_at fcells 4 (by omega) (fun _ => rfl), frameCells, List.getElem?_replicate, List.getElem?_replicate]
  by_cases hi : i < a * 4
  · rw [if_pos hi, if_pos (by omega)]
    have : i % 4 = 0 ∨ i % 4 = 1 ∨ i % 4 = 2 ∨ i % 4 = 3 := by omega
    rcases this with h | h | h | h <;> simp [h, fcells]
  · rw [if_neg hi, if_neg (by omega)]
    rfl
theorem fresh_m {own : Nat → Nat × Nat} {id : Nat} {w' : World} {m e f g a b c : Nat} (ha : a ≤ 16) (hb : b ≤ 8) (hc : c ≤ 4) (h0 : Blk w' m (machCells e f g c a b) 61) (h1 : Blk w' e (envCells c c) 84) (h2 : Blk w' f (frameCells a) 64)
    (h3 : Blk w' g (emptyCells b) 74) (t0 : own m = (id, 0)) (t1 : own e = (id, 1)) (t2 : own f = (id, 2)) (t4 : own g = (id, 4)) : MRep own id w' m (RSt.fresh a b c) := by
  rw [env_flat] at h1
  rw [frame_flat] at h2
  have hmx : ∀ n : Nat, n ≤ 16 → n ≤ maxLen := fun n hn => by unfold maxLen; omega
  refine ⟨.slice (some ⟨e, 0, none⟩) c c, .slice (some ⟨f, 0, none⟩) a a, .slice none 0 0, .slice (some ⟨g, 0, none⟩) b b, ?_⟩
  refine ⟨⟨h0, rfl, rfl, Row.nil _ _ _, Tg.nil _ _, by rw [t0]; simp⟩, ⟨h0, rfl, ?_, Tg.mk t4, by rw [t0]; simp⟩, ?_, ?_, t0, Tg.mk t1, Tg.mk t2⟩
  · have := row_at (k := 5) (n := b) h3 (by rw [emptyCells, flat_length Ent.cells 5 (fun _ => rfl), List.length_replicate]) (hmx b (by omega))
    simpa [toP, RSt.fresh, emptyCells] using this
  · have := row_at (k := 2) (n := c) h1 (by rw [flat_length ecells 2 (fun _ => rfl), List.length_replicate]) (hmx c (by omega))
    simpa [toP, RSt.fresh] using this
  · have := row_at (k := 4) (n := a) h2 (by rw [flat_length fcells 4 (fun _ => rfl), List.length_replicate]) (hmx a (by omega))
    simpa [toP, RSt.fresh] using this

theorem m_new (a b c : Nat) (w : World) (h : mayB a b c = true) :
    Calls Try.prog 18 #[.agg #[.int .i64 a, .int .i64 b, .int .i64 c]] w fun e w' => ∃ (p : Nat) (f : Nat → Option Nat), e = .returned (.tuple #[.pointer (some ⟨p, 0, none⟩), .int .i64 0]) ∧ Below w.heap.size w w' ∧
      (∀ b j, f b = some j → w.heap.size ≤ b ∧ b < w'.heap.size) ∧ ∀ (own : Nat → Nat × Nat) (id : Nat), (∀ b j, f b = some j → own b = (id, j)) → MRep own id w' p (RSt.fresh a b c) := by
  have hm := h
  simp [mayB] at hm
  refine (new_yes a b c w h (by omega) (by omega) (by omega) (by omega)).mono ?_
  rintro e w' ⟨m, rfl, hb, ee, f, g, h0, h1, h2, h3, n1, n2, n3, n4, n5, n6, g1, g2, g3, g4⟩
  refine ⟨m, fun x => if x = m then some 0 else if x = ee then some 1 else if x = f then some 2 else if x = g then some 4 else none, rfl, hb, ?_, ?_⟩
  · intro x j hx
    simp only at hx
    split at hx
    · rename_i e; subst e; exact ⟨g1, h0.lt⟩
    · split at hx
      · rename_i e; subst e; exact ⟨g2, h1.lt⟩
      · split at hx
        · rename_i e; subst e; exact ⟨g3, h2.lt⟩
        · split at hx
          · rename_i e; subst e; exact ⟨g4, h3.lt⟩
          · simp at hx
  · intro own id ho
    refine fresh_m (by omega) (by omega) (by omega) h0 h1 h2 h3 (ho m 0 (if_pos rfl)) (ho ee 1 ?_) (ho f 2 ?_) (ho g 4 ?_)
    · simp only; rw [if_neg (Ne.symm n1), if_pos trivial]
    · simp only; rw [if_neg (Ne.symm n2), if_neg (Ne.symm n4), if_pos trivial]
    · simp only; rw [if_neg (Ne.symm n3), if_neg (Ne.symm n5), if_neg (Ne.symm n6), if_pos trivial]

theorem api : Api MRep where
  of := m_of
  retag := m_retag
  new_no := new_no
  new_yes := m_new
  alloc := m_alloc
  derive := m_derive
  revoke := m_revoke
  drop := m_drop
  kill := m_kill
  spawn := m_spawn
  map := m_map
  unmap := m_unmap
  load := m_load
  store := m_store
end Go.Proofs.Ytnolplmpanbmhab
