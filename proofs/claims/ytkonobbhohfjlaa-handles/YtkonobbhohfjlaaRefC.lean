import Derived.Test.YtkonobbhohfjlaaRefB
import Derived.Test.YtkonobbhohfjlaaBegin
namespace Go.Proofs.Ytkonobbhohfjlaa
open Go.RowKit
set_option linter.unusedVariables false

section
variable {own : Nat → Nat × Nat} {id : Nat} {w : World} {m : Nat} {s : RSt} {nk : Nat} {vR vB vS vA vK : Value} {bs : List Nat}

def usedTo (s : RSt) (f e : Nat) : Bool := (List.range e).any fun e => owned s.rights e f false
theorem usedTo_succ (s : RSt) (f e : Nat) : usedTo s f (e + 1) = (usedTo s f e || owned s.rights e f false) := by simp [usedTo, List.range_succ]

/-- The least free frame as 'free' answers it. -/
def freeE (s : RSt) : Int := match leastFree s with
  | some f => f
  | none => -1

theorem leastFree_some {s : RSt} {f : Nat} (hlt : f < s.nf) (hno : ∀ g, g < f → freeB s g = false) (hy : freeB s f = true) : leastFree s = some f := by
  unfold leastFree
  rw [List.find?_range_eq_some]
  exact ⟨hy, List.mem_range.2 hlt, fun j hj => by simpa using hno j hj⟩
theorem leastFree_none {s : RSt} (hno : ∀ g, g < s.nf → freeB s g = false) : leastFree s = none := by
  unfold leastFree
  rw [List.find?_eq_none]
  intro x hx
  simp [hno x (List.mem_range.1 hx)]

set_option maxHeartbeats 2000000 in
set_option maxRecDepth 100000 in
theorem free_any (h : RefRep own id w m s nk vR vB vS vA vK bs) (hn : s.ne ≤ 4) (hf : s.nf ≤ 16) (ho : Ordered s.rights) (hm : s.rights.length ≤ 4611686018427387904) :
    Calls Try.prog 108 #[.pointer (some ⟨m, 0, none⟩)] w fun e w' => e = .returned (.int .i64 (freeE s)) ∧ Below w.heap.size w w' := by
  go_enter Try.func108, Try.ntmps108
  go_wp2_with fail
  go_loopg [3] s.nf (fun k x wr => ∃ f : Nat, x = .int .i64 f ∧ f + k = s.nf ∧ (∀ g, g < f → freeB s g = false) ∧ Below w.heap.size w wr)
  case atStart => exact ⟨0, rfl, by omega, fun g hg => by omega, Below.refl _ _⟩
  case round =>
    obtain ⟨f, rfl, hk, hno, hbl⟩ := hrel
    have k0 := (h.below hbl).blk.cell 0
    simp at k0
    have HK : Hid (f + gk = s.nf) := hk
    have hfl : f ≤ s.nf := by omega
    have HN : Hid (∀ g, g < f → freeB s g = false) := hno
    clear hk hno
    by_cases hlt : f < s.nf
    · go_wp2_with fail
      obtain ⟨wo, rfl⟩ : ∃ wo : World, wo = wr := ⟨_, rfl⟩
      obtain ⟨go, rfl⟩ : ∃ go : Nat, go = gk := ⟨_, rfl⟩
      go_loopg [4, 5] s.ne (fun k u x wr => ∃ e : Nat, x = .int .i64 e ∧ e + k = s.ne ∧ u = .bool (usedTo s f e) ∧ Below w.heap.size w wr)
      case atStart => exact ⟨0, rfl, by omega, rfl, hbl⟩
      case round =>
        clear hbl k0
        obtain ⟨e, rfl, hk, rfl, hbl⟩ := hrel
        have h' := h.below hbl
        have k2 := h'.blk.cell 2
        simp at k2
        have HE : Hid (e + gk = s.ne) := hk
        have hel : e ≤ s.ne := by omega
        have hsu := usedTo_succ s f e
        have HU : Hid (usedTo s f (e + 1) = (usedTo s f e || owned s.rights e f false)) := hsu
        clear hk hsu
        by_cases hlt2 : e < s.ne
        · go_wp2_with fail
          refine (owned_any h' ho hm _ _ _).mono ?_
          rintro en w2 ⟨rfl, hb2⟩
          have hbl2 : Below w.heap.size w w2 := hbl.trans (hb2.mono (by have := hbl.size; omega))
          cases hu : usedTo s f e
          · rw [hu] at HU
            clear hu
            go_wp2_with fail
            go_roundg (gk - 1)
            case measure => have := HE.out; omega
            case rel => exact ⟨e + 1, by go_num, by have := HE.out; omega, by rw [HU.out]; simp, hbl2⟩
          · rw [hu] at HU
            clear hu
            go_wp2_with fail
            go_roundg (gk - 1)
            case measure => have := HE.out; omega
            case rel => exact ⟨e + 1, by go_num, by have := HE.out; omega, by rw [HU.out]; simp, hbl2⟩
        · obtain rfl : e = s.ne := by omega
          have hfb : freeB s f = !usedTo s f s.ne := rfl
          cases hu : usedTo s f s.ne
          · rw [hu] at hfb
            have HF : Hid (leastFree s = some f) := leastFree_some hlt HN.out hfb
            clear hu hfb
            go_wp2_with fail
            go_ret
            exact ⟨ret_int (by rw [freeE, HF.out]), hbl⟩
          · rw [hu] at hfb
            have HF : Hid (freeB s f = false) := hfb
            clear hu hfb
            go_wp2_with fail
            go_roundg (go - 1)
            case measure => have := HK.out; omega
            case rel => exact ⟨f + 1, by go_num, by have := HK.out; omega, fun g hg => by
              rcases Nat.lt_or_ge g f with hgf | hgf
              · exact HN.out g hgf
              · obtain rfl : g = f := by omega
                exact HF.out, hbl⟩
    · obtain rfl : f = s.nf := by omega
      go_wp2_with fail
      go_ret
      exact ⟨ret_int (by rw [freeE, leastFree_none HN.out]), hbl⟩

theorem Try.infoRight : (Try.prog.info? 136).map (fun i => (i.zero, i.size, i.bytes)) = some (some (.agg #[.int .i64 0, .int .i64 0, .int .i64 0, .bool false, .int .i64 0, .bool false]), 6, 48) := by kernel_rfl

theorem oneCell_right (r : RR) : ∀ u ∈ r.cells, u.oneCell' = true := by
  intro u hu; simp [RR.cells] at hu; rcases hu with rfl | rfl | rfl | rfl | rfl | rfl <;> rfl

theorem RefRep.appR {w1 : World} {g cap : Nat} (h : RefRep own id w m s nk vR vB vS vA vK bs) (x : RR)
    (hown : w1.ownsRow 0 136 6 (.slice (some ⟨g, 0, none⟩) (s.rights.length + 1) cap) (s.rights.length + 1) (s.rights.flatMap RR.cells ++ x.cells))
    (hg : (w.alloc (.cells x.cells.toArray 136)).grownBy w1 vR.ownBlock) (hat : vR.ownBlock = some g ∨ g = w.heap.size + 1) :
    RefRep (set1 own (w.heap.size + 1) (id, 1)) id (w1.setCell ⟨m, 3, none⟩ (.slice (some ⟨g, 0, none⟩) (s.rights.length + 1) cap)) m { s with rights := s.rights ++ [x] } nk (.slice (some ⟨g, 0, none⟩) (s.rights.length + 1) cap) vB vS vA vK bs := by
  have hbe : Below w.heap.size w (w.alloc (.cells x.cells.toArray 136)) := (Below.refl _ _).alloc (Nat.le_refl _) _
  have hmlt := h.blk.lt
  have hm1 := (h.blk.alloc (.cells x.cells.toArray 136)).grown hg (fun e => by have := h.tR _ e; rw [h.tm] at this; simp at this)
  refine h.putR (set1_old (by omega)) (app_keep (a := ⟨m, 3, none⟩) h.tm h.tR hbe hg rfl) (hm1.set 3 _) ?_ (h.tR.app (fun b hb => by have := h.rR.lt b hb; omega) hat)
  have := Row.field (j := 3) (u := .slice (some ⟨g, 0, none⟩) (s.rights.length + 1) cap) hown h.tm h.tR (by simp) hat (by omega)
  simpa using this

/-- What a call on a machine may leave: the machine with a new state, its own blocks alone turned. -/
def RefNext (own : Nat → Nat × Nat) (id : Nat) (w : World) (m : Nat) (nk : Nat) (w' : World) (s' : RSt) : Prop :=
  ∃ (own' : Nat → Nat × Nat) (vR vB vS vA vK : Value) (bs : List Nat), RefRep own' id w' m s' nk vR vB vS vA vK bs ∧ (∀ b, b < w.heap.size → own' b = own b) ∧ Touch w.heap.size (fun b => (own b).1 = id) w w'

theorem RefNext.refl (h : RefRep own id w m s nk vR vB vS vA vK bs) : RefNext own id w m nk w s := ⟨own, vR, vB, vS, vA, vK, bs, h, fun _ _ => rfl, Touch.refl _ _ _⟩
theorem RefNext.of_below {w' : World} (h : RefRep own id w m s nk vR vB vS vA vK bs) (hb : Below w.heap.size w w') : RefNext own id w m nk w' s := ⟨own, vR, vB, vS, vA, vK, bs, h.below hb, fun _ _ => rfl, Touch.of_below hb _⟩
theorem Touch.next {own own' : Nat → Nat × Nat} {id : Nat} {w w1 w2 : World} (h1 : Touch w.heap.size (fun b => (own b).1 = id) w w1) (ho : ∀ b, b < w.heap.size → own' b = own b) (h2 : Touch w1.heap.size (fun b => (own' b).1 = id) w1 w2) :
    Touch w.heap.size (fun b => (own b).1 = id) w w2 :=
  h1.trans (h2.mono h1.size (fun k hk hs => by rw [ho k hk] at hs; exact hs))

set_option maxHeartbeats 2000000 in
set_option maxRecDepth 100000 in
theorem made_any (h : RefRep own id w m s nk vR vB vS vA vK bs) (hm : (s.rights.length + 1) * 48 ≤ 140737488355328) (env fr : Int) (wt : Bool) (frm : Int) :
    Calls Try.prog 93 #[.pointer (some ⟨m, 0, none⟩), .int .i64 env, .int .i64 fr, .bool wt, .int .i64 frm] w fun e w' => e = .returned (.int .i64 (s.rights.length + 1)) ∧ RefNext own id w m nk w' (addR s env fr wt frm) := by
  obtain ⟨i0, hi, hz0, hz1, hz2⟩ := info_parts Try.infoRight
  have k3 := h.blk.cell 3
  have f3 := h.blk.frozen 3
  simp at k3
  obtain ⟨ao, cap, g0, hv, _⟩ := h.rR.view
  have hR' := h.rR.alloc (.cells (RR.cells ⟨s.rights.length + 1, env, fr, wt, frm, false⟩).toArray 136)
  rw [hv] at k3 hR'
  have hmlt := h.blk.lt
  have Hv : Hid (vR = .slice ao s.rights.length cap) := hv
  clear hv
  go_enter Try.func93, Try.ntmps93
  go_wp2_with (at_builtin; refine wpList_append_lies _ rfl (.tmp 22) (.tmp 30) 91 rfl 0 136 i0 _ 6 48 Try.underlying91 hi hz0 hz1 hz2 rfl (by decide) (.slice ao s.rights.length cap) s.rights.length _ rfl hR' ⟨w.heap.size, 0, none⟩ 1 1 (RR.cells ⟨s.rights.length + 1, env, fr, wt, frm, false⟩) rfl rfl ?c1 ?c2 (by omega) ?b1 ?b2 (by omega) (w.heap.size + 1) (by simp) ?nx)
  case c1 => exact World.news_of_block (B := w.heap.size) (cs := (RR.cells ⟨s.rights.length + 1, env, fr, wt, frm, false⟩).toArray) (t := 136) (fr := (0, 0)) (Blk.new _ _ _)
  case c2 => exact oneCell_right _
  case b1 => unfold maxLen; omega
  case b2 => omega
  case nx =>
    intro g1 cap1 w1 hown hgrow hat hlt1
    rw [← Hv.out] at hgrow hat
    have hbe : Below w.heap.size w (w.alloc (.cells (RR.cells ⟨s.rights.length + 1, env, fr, wt, frm, false⟩).toArray 136)) := (Below.refl _ _).alloc (Nat.le_refl _) _
    have hm1 := (h.blk.alloc (.cells (RR.cells ⟨s.rights.length + 1, env, fr, wt, frm, false⟩).toArray 136)).grown hgrow (fun e => by have := h.tR _ e; rw [h.tm] at this; simp at this)
    have d3 := hm1.cell 3
    have e3 := hm1.frozen 3
    simp at d3
    rw [Hv.out] at d3
    go_wp2
    go_ret
    refine ⟨rfl, set1 own (w.heap.size + 1) (id, 1), _, vB, vS, vA, vK, bs, h.appR ⟨s.rights.length + 1, env, fr, wt, frm, false⟩ hown hgrow hat, set1_old (by omega), ?_⟩
    exact ((Touch.of_below hbe _).grown hgrow (by simp) (fun k hk => .inl (by rw [h.tR k hk]))).setCell (.inl (by rw [h.tm])) _
end
end Go.Proofs.Ytkonobbhohfjlaa
