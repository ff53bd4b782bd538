import Derived.Test.YtinlkcmdbjcofabM10
/-
  The program's kept memory: package kept, Dirty, Clean, Counts, Empty.
-/
namespace Go.Proofs.Ytinlkcmdbjcofab
open Go.RowKit
set_option linter.unusedVariables false
attribute [local go_sem ↓] Go.wp_at_zero Go.wp_at_succ
section
variable {own : Nat → Nat × Nat} {t : Nat × Nat} {w : World} {b o : Nat} {T : TypeId} {c : List Value} {vI : Value} {k : PK}

set_option maxHeartbeats 1000000 in
set_option maxRecDepth 100000 in
theorem mcounts_any (h : MemAt own t w b o T c vI k) (hn : k.inl.length ≤ 16) :
    Calls Try.prog 80 #[.pointer (some ⟨b, o, none⟩)] w fun e w' => e = .returned (.agg #[.int .i64 k.refills, .int .i64 k.ins, .int .i64 k.outs, .int .i64 k.inl.length]) ∧ Below w.heap.size w w' := by
  have hb1 : Below w.heap.size w (w.alloc (.cells #[.int .i64 0, .int .i64 0, .int .i64 0, .int .i64 0] 91)) := (Below.refl _ _).alloc (Nat.le_refl _) _
  have h2 := h.below hb1
  have hblt := h.blk.lt
  have hZ := Blk.new w [.int .i64 0, .int .i64 0, .int .i64 0, .int .i64 0] 91
  obtain ⟨ao, cap, hv, _⟩ := h.row.shape
  obtain ⟨W, hW⟩ : ∃ W, w.alloc (.cells #[.int .i64 0, .int .i64 0, .int .i64 0, .int .i64 0] 91) = W := ⟨_, rfl⟩
  have HW : Hid (w.alloc (.cells #[.int .i64 0, .int .i64 0, .int .i64 0, .int .i64 0] 91) = W) := hW
  have hZ' : Blk (w.alloc (.cells #[.int .i64 0, .int .i64 0, .int .i64 0, .int .i64 0] 91)) w.heap.size [.int .i64 0, .int .i64 0, .int .i64 0, .int .i64 0] 91 := hZ
  rw [hW] at hb1 h2 hZ'
  have k0 := h2.inl
  have k1 := h2.refills
  have k2 := h2.ins
  have k3 := h2.outs
  have z0 := hZ'.cell 0
  have z1 := hZ'.cell 1
  have z2 := hZ'.cell 2
  have z3 := hZ'.cell 3
  simp at z0 z1 z2 z3
  have y0 := hZ'.frozen 0
  have y1 := hZ'.frozen 1
  have y2 := hZ'.frozen 2
  have y3 := hZ'.frozen 3
  have n1 : b ≠ w.heap.size := by omega
  have n2 : w.heap.size ≠ b := by omega
  have hzl := hZ'.lt
  rw [hv] at k0
  clear hv hW hZ
  go_enter Try.func80, Try.ntmps80
  go_wp2_with fail
  rw [HW.out]
  go_region_held3 (fun w' => w'.cell? ⟨b, o + 130, none⟩ = some (.slice ao k.inl.length cap) ∧ w'.cell? ⟨b, o + 131, none⟩ = some (.int .i64 k.refills) ∧ w'.cell? ⟨b, o + 132, none⟩ = some (.int .i64 k.ins) ∧ w'.cell? ⟨b, o + 133, none⟩ = some (.int .i64 k.outs)) (go_keep) (fail)
  go_wp2_with fail
  refine bodyPost_ret (v := .agg #[.int .i64 k.refills, .int .i64 k.ins, .int .i64 k.outs, .int .i64 k.inl.length]) (by simp [results, Try.results80, go_sem, z0, z1, z2, z3]) rfl ⟨rfl, ?_⟩
  exact ((((hb1.setCell (Nat.le_refl _) _).setCell (Nat.le_refl _) _).setCell (Nat.le_refl _) _).setCell (Nat.le_refl _) _).drew

def zpages : List Value := (List.range 16).flatMap fun _ => PG.zero.cells
theorem Try.infoPagesZ : (Try.prog.info? 104).map (fun i => (i.zero, i.size)) = some (some (.agg zpages.toArray), 128) := by kernel_rfl

def cleanTo (k : PK) (q : Nat) : PK := { k with pages := k.pages.mapIdx fun i g => if i < q then { g with dty := false } else g }
theorem cleanTo_zero (k : PK) : cleanTo k 0 = k := by
  unfold cleanTo
  have : (k.pages.mapIdx fun i g => if i < 0 then { g with dty := false } else g) = k.pages := by
    apply List.ext_getElem?
    intro i
    simp
  rw [this]
theorem cleanTo_get {k : PK} {q p : Nat} {g : PG} (hg : k.pages[p]? = some g) : (cleanTo k q).pages[p]? = some (if p < q then { g with dty := false } else g) := by
  unfold cleanTo
  simp [hg]
theorem cleanTo_succ {k : PK} {q : Nat} {g : PG} (hg : k.pages[q]? = some g) : { cleanTo k q with pages := (cleanTo k q).pages.set q { g with dty := false } } = cleanTo k (q + 1) := by
  have hq := (List.getElem?_eq_some_iff.1 hg).1
  unfold cleanTo
  simp only
  congr 1
  apply List.ext_getElem?
  intro i
  rw [List.getElem?_set]
  by_cases e : q = i
  · subst e
    have hgq : k.pages[q] = g := (List.getElem?_eq_some_iff.1 hg).2
    simp [hq, hgq]
  · rw [if_neg e]
    simp only [List.getElem?_mapIdx]
    cases hi : k.pages[i]? with
    | none => rfl
    | some x =>
      simp only [Option.map_some]
      by_cases h1 : i < q
      · rw [if_pos h1, if_pos (by omega)]
      · rw [if_neg h1, if_neg (by omega)]
def PK.clean (k : PK) : PK := { k with pages := k.pages.map fun g => { g with dty := false } }
theorem cleanTo_all {k : PK} {q : Nat} (hq : k.pages.length ≤ q) : cleanTo k q = k.clean := by
  unfold cleanTo PK.clean
  congr 1
  apply List.ext_getElem?
  intro i
  rw [List.getElem?_map, List.getElem?_mapIdx]
  cases hi : k.pages[i]? with
  | none => rfl
  | some x =>
    have := (List.getElem?_eq_some_iff.1 hi).1
    simp only [Option.map_some]
    rw [if_pos (by omega)]

set_option maxHeartbeats 1000000 in
set_option maxRecDepth 100000 in
theorem mclean_any (h : MemAt own t w b o T c vI k) (hnp : k.pages.length = 16) :
    Calls Try.prog 82 #[.pointer (some ⟨b, o, none⟩)] w fun e w' => e = .returned (.tuple #[]) ∧ MemNext own t w b o T c vI w' k.clean := by
  obtain ⟨hz, hzs⟩ := zero_of_info Try.infoPagesZ
  go_enter Try.func82, Try.ntmps82
  go_wp2_with fail
  go_loopg [3] 16 (fun m x wr => ∃ q : Nat, x = .int .i64 q ∧ q + m = 16 ∧ MemAt own t wr b o T c vI (cleanTo k q) ∧ Touch w.heap.size (fun x => x = b ∨ vI.ownBlock = some x) w wr)
  case atStart => exact ⟨0, rfl, by omega, by rw [cleanTo_zero]; exact h, Touch.refl _ _ _⟩
  case round =>
    obtain ⟨q, rfl, hk, hM, hT⟩ := hrel
    have HK : Hid (q + gk = 16) := hk
    have hq : q ≤ 16 := by omega
    clear hk
    by_cases hlt : q < 16
    · obtain ⟨g, hg⟩ : ∃ g, k.pages[q]? = some g := ⟨k.pages[q]'(by omega), by simp⟩
      have hg2 : (cleanTo k q).pages[q]? = some g := by rw [cleanTo_get hg]; simp
      have c2 := hM.page hlt hg2 (j := 2) (by omega)
      simp [PG.cells] at c2
      have f2 := hM.blk.frozen (o + 2 + q * 8 + 2)
      have hS := hM.setPage (j := 2) hlt (by unfold cleanTo; simp [hnp]) hg2 (by omega) (u := .bool false) (g' := { g with dty := false }) rfl
      rw [cleanTo_succ hg] at hS
      have HS : Hid (MemAt own t (wr.setCell ⟨b, o + 2 + q * 8 + 2, none⟩ (.bool false)) b o T c vI (cleanTo k (q + 1))) := hS
      have hq1 : (q : Int) < 16 := by omega
      clear hS hg hg2
      go_wp2_with fail
      go_roundg (gk - 1)
      case measure => have := HK.out; omega
      case rel => exact ⟨q + 1, by go_num, by have := HK.out; omega, HS.out, hT.setCell (.inl (.inl rfl)) _⟩
    · have hqe : k.pages.length ≤ q := by omega
      rw [cleanTo_all hqe] at hM
      go_wp2_with fail
      go_end0
      exact ⟨rfl, MemNext.of h hM hT⟩

theorem Try.zeroMem : Try.zeroCells106.toList = (PK.new 0 0).cells (.slice none 0 0) := by kernel_rfl
theorem Try.sizeMem : (Try.prog.info? 106).map (·.size) = some 134 := by kernel_rfl
theorem memNew_set (q p : Int) : (((PK.new 0 0).cells (.slice none 0 0)).set 0 (.int .i64 q)).set 1 (.int .i64 p) = (PK.new q p).cells (.slice none 0 0) := by
  unfold PK.cells
  rw [List.set_cons_zero, List.set_cons_succ, List.set_cons_zero]
  rfl

set_option maxHeartbeats 1000000 in
set_option maxRecDepth 100000 in
theorem mempty_any (q p : Int) :
    Calls Try.prog 71 #[.int .i64 q, .int .i64 p] w fun e w' => e = .returned (.agg ((PK.new q p).cells (.slice none 0 0)).toArray) ∧ Below w.heap.size w w' := by
  obtain ⟨cs, hcs⟩ : ∃ cs, (PK.new q p).cells (.slice none 0 0) = cs := ⟨_, rfl⟩
  have hl : cs.length = 134 := by rw [← hcs]; exact PK.cells_len _ _
  have h1 : ∀ u ∈ cs, u.oneCell' = true := by rw [← hcs]; exact oneCell_mem _ _ rfl
  have hst : Sem.run Try.prog (storeCells ⟨w.heap.size, 0, none⟩ ((Try.zeroCells106.toList.set 0 (.int .i64 q)).set 1 (.int .i64 p))) (w.alloc (.cells Try.zeroCells106 106)) = .ok () (w.alloc (.cells cs.toArray 106)) := by
    rw [Try.zeroMem, memNew_set, hcs]
    have hz : Try.zeroCells106.size = 134 := by rw [← Array.length_toList, Try.zeroMem]; exact PK.cells_len _ _
    have := run_storeCells_new (P := Try.prog) w 106 Try.zeroCells106 cs.toArray (by rw [Try.sizeMem]; simp [hl]) (by rw [hz]; simp [hl]) (all_oneCell_toArray h1)
    simpa using this
  have hld : Sem.run Try.prog (loadVar 106 ⟨w.heap.size, 0, none⟩) (w.alloc (.cells cs.toArray 106)) = .ok (.agg cs.toArray) (w.alloc (.cells cs.toArray 106)) :=
    run_loadVar_mid _ _ 0 _ cs _ (fun j v hv => by rw [Nat.zero_add, (Blk.new w cs 106).cell]; exact hv) Try.underlying106 rfl (by rw [Try.sizeMem, hl])
  rw [hcs]
  clear hcs h1
  go_enter Try.func71, Try.ntmps71
  go_wp2_with fail
  refine bodyPost_ret (v := .agg cs.toArray) ?_ rfl ⟨rfl, (Below.refl _ _).alloc (Nat.le_refl _) _⟩
  exact results_cell_row rfl _ _ w.heap.size 106 cs.toArray (0, 0) _ rfl (Blk.new w cs 106) Try.underlying106 rfl (by rw [Try.sizeMem]; simp [hl])
end
end Go.Proofs.Ytinlkcmdbjcofab

/-
  The program's kept memory: package kept, Dirty.
-/
namespace Go.Proofs.Ytinlkcmdbjcofab
open Go.RowKit
set_option linter.unusedVariables false
attribute [local go_sem ↓] Go.wp_at_zero Go.wp_at_succ
section
variable {own : Nat → Nat × Nat} {t : Nat × Nat} {w : World} {b o : Nat} {T : TypeId} {c : List Value} {vI : Value} {k : PK}

def dirtyP (k : PK) (q : Nat) : List Int := (List.range q).filterMap fun p : Nat => if ((k.pages[p]?).map PG.dty).getD false then some (p : Int) else none
theorem dirtyP_succ {k : PK} {q : Nat} {g : PG} (hg : k.pages[q]? = some g) : dirtyP k (q + 1) = dirtyP k q ++ if g.dty then [(q : Int)] else [] := by
  unfold dirtyP
  rw [List.range_succ, List.filterMap_append]
  congr 1
  simp only [List.filterMap_cons, List.filterMap_nil, hg, Option.map_some, Option.getD_some]
  cases g.dty <;> rfl
theorem dirtyP_len (k : PK) (q : Nat) : (dirtyP k q).length ≤ q := by
  unfold dirtyP
  have := List.length_filterMap_le (fun p : Nat => if ((k.pages[p]?).map PG.dty).getD false then some (p : Int) else none) (List.range q)
  simpa using this

set_option maxHeartbeats 4000000 in
set_option maxRecDepth 100000 in
theorem mdirty_any (h : MemAt own t w b o T c vI k) (hnp : k.pages.length = 16) :
    Calls Try.prog 83 #[.pointer (some ⟨b, o, none⟩)] w fun e w' => ∃ v, e = .returned v ∧ Below w.heap.size w w' ∧ (∀ x, v.ownBlock = some x → w.heap.size ≤ x) ∧ Row w' v 3 1 (dirtyP k 16).length ((dirtyP k 16).map (.int .i64)) := by
  obtain ⟨i1, gi, gz0, gz1, gz2⟩ := info_parts Try.infoInt
  obtain ⟨hz, hzs⟩ := zero_of_info Try.infoPagesZ
  go_enter Try.func83, Try.ntmps83
  go_wp2_with fail
  go_loopg [3, 5] 16 (fun m v x wr => ∃ q : Nat, x = .int .i64 q ∧ q + m = 16 ∧ Below w.heap.size w wr ∧ Row wr v 3 1 (dirtyP k q).length ((dirtyP k q).map (.int .i64)) ∧ ∀ x, v.ownBlock = some x → w.heap.size ≤ x)
  case atStart => exact ⟨0, rfl, by omega, Below.refl _ _, Row.nil _ _ _, by simp [Value.ownBlock]⟩
  case round =>
    obtain ⟨q, rfl, hk, hbl, hrow, hnew⟩ := hrel
    have HK : Hid (q + gk = 16) := hk
    have hq : q ≤ 16 := by omega
    have hle := dirtyP_len k q
    have hsz := hbl.size
    obtain ⟨ao5, cap5, hv5, _⟩ := hrow.shape
    subst hv5
    clear hk
    by_cases hlt : q < 16
    · obtain ⟨g, hg⟩ : ∃ g, k.pages[q]? = some g := ⟨k.pages[q]'(by omega), by simp⟩
      have c2 := (h.below hbl).page hlt hg (j := 2) (by omega)
      simp [PG.cells] at c2
      have hq1 : (q : Int) < 16 := by omega
      have HS : Hid (dirtyP k (q + 1) = dirtyP k q ++ if g.dty then [(q : Int)] else []) := dirtyP_succ hg
      clear hg
      rcases Bool.eq_false_or_eq_true g.dty with hd | hd
      · have HW : Hid (dirtyP k (q + 1) = dirtyP k q ++ [(q : Int)]) := by have := HS.out; rw [hd] at this; simpa [Hid] using this
        have hR' := hrow.alloc (.cells [.int .i64 (q : Int)].toArray 3)
        have hN := Blk.at wr [Value.int .i64 (q : Int)] 3 wr.heap.size rfl
        rw [hd] at c2
        clear HS hrow hd
        go_wp2_with (at_builtin; refine wpList_append_lies _ rfl (.tmp 15) (.tmp 17) 37 rfl 0 3 i1 _ 1 8 Try.underlying37 gi gz0 gz1 gz2 rfl (by decide) (.slice ao5 (dirtyP k q).length cap5) (dirtyP k q).length _ rfl hR' ⟨wr.heap.size, 0, none⟩ 1 1 [.int .i64 (q : Int)] rfl rfl ?c1 ?c2 (by omega) ?b1 ?b2 (by omega) (wr.heap.size + 1) (by simp) ?nx)
        all_goals try first | rfl | exact oneCell_int _ | exact World.news_of_block hN | (unfold maxLen; omega; done) | (omega; done)
        intro g1 cap1 w4 hown hgrow hat hlt1
        go_wp2
        go_roundg (gk - 1)
        case measure => have := HK.out; omega
        case rel =>
          refine ⟨q + 1, by go_num, by have := HK.out; omega, (hbl.alloc hsz (.cells [.int .i64 (q : Int)].toArray 3)).grown hgrow (by simp; omega) hnew, ?_, ?_⟩
          · rw [HW.out]
            simp only [List.length_append, List.map_append, List.length_cons, List.length_nil, List.map_cons, List.map_nil]
            exact hown
          · intro y hb
            simp [Value.ownBlock] at hb
            subst hb
            rcases hat with h | h
            · exact hnew _ h
            · omega
      · have HW : Hid (dirtyP k (q + 1) = dirtyP k q) := by have := HS.out; rw [hd] at this; simpa [Hid] using this
        rw [hd] at c2
        clear HS hd
        go_wp2_with fail
        go_roundg (gk - 1)
        case measure => have := HK.out; omega
        case rel => exact ⟨q + 1, by go_num, by have := HK.out; omega, hbl, by rw [HW.out]; exact hrow, hnew⟩
    · have hqe : q = 16 := by omega
      have HW : Hid (dirtyP k q = dirtyP k 16) := by rw [hqe]; exact rfl
      clear hqe
      go_wp2_with fail
      go_ret
      exact ⟨_, rfl, hbl, hnew, by rw [← HW.out]; exact hrow⟩
end
end Go.Proofs.Ytinlkcmdbjcofab

/-
  The program's machine: a page of a kept environment goes out.
-/
namespace Go.Proofs.Ytinlkcmdbjcofab
open Go.RowKit
set_option linter.unusedVariables false
attribute [local go_sem ↓] Go.wp_at_zero Go.wp_at_succ

/-- What the walks ask of a kept memory; n: how many frames there are. -/
structure MWf (n : Nat) (k : PK) : Prop where
  np : k.pages.length = 16
  nl : k.inl.length ≤ 16
  pg : ∀ x, x ∈ k.inl → 0 ≤ x ∧ x < 16
  fr : ∀ (q : Nat) (g : PG), (q : Int) ∈ k.inl → k.pages[q]? = some g → ∃ f : Nat, g.frame = f ∧ f < n
  r0 : 0 ≤ k.refills
  r1 : k.refills ≤ 4611686018427387904
  i0 : 0 ≤ k.ins
  i1 : k.ins ≤ 4611686018427387904
  o0 : 0 ≤ k.outs
  o1 : k.outs ≤ 4611686018427387904

section
variable {own : Nat → Nat × Nat} {id : Nat} {w : World} {p : Nat} {s : PSt} {gE : Nat} {vF vL vT : Value} {L : List (PEnv × Value)}

def setM (s : PSt) (j : Nat) (e : PEnv) (k : PK) : PSt := { s with envs := s.envs.set j { e with mem := k } }
def outP (s : PSt) (j : Nat) (e : PEnv) (q : Nat) (l : List Int) : PSt := { s with envs := s.envs.set j { e with mem := e.mem.goOut q l }, slots := s.slots.map (remE j q) }

theorem len4 {l : List Int} (h : l.length = 4) : ∃ a b c d, l = [a, b, c, d] := by
  match l, h with
  | [a, b, c, d], _ => exact ⟨a, b, c, d, rfl⟩

set_option maxHeartbeats 4000000 in
set_option maxRecDepth 100000 in
theorem putOut_any (h : PRep own id w p s gE vF vL vT L) (hw : PWf s) {j : Nat} {e : PEnv} (he : s.envs[j]? = some e) (hm : MWf s.bytes.length e.mem) (h0 : 0 < e.mem.inl.length) {q f : Nat} {g : PG} {l : List Int} (hq : chosen e.mem.policy e.mem.inl = q) (hq16 : q < 16) (hg : e.mem.pages[q]? = some g) (hf : g.frame = f) (hl : s.bytes[f]? = some l) :
    Calls Try.prog 94 #[.pointer (some ⟨p, 0, none⟩), .int .i64 j] w fun e' w' => e' = .returned (.tuple #[.int .i64 f, .bool true]) ∧ PNext own id w p w' (outP s j e q l) := by
  have hj := (List.getElem?_eq_some_iff.1 he).1
  obtain ⟨v, hv⟩ := h.pair he
  have hlj : (j : Int) < (s.envs.length : Int) := by omega
  have hfl := (List.getElem?_eq_some_iff.1 hl).1
  obtain ⟨x0, x1, x2, x3, rfl⟩ := len4 (hw.bys f l hl).1
  have k0 := h.c0
  have hM := h.mem hv
  go_enter Try.func94, Try.ntmps94
  go_wp2_with fail
  refine (chosen_any hM hm.nl h0 hq hq16 hg).mono ?_
  rintro e1 w1 ⟨rfl, hb1⟩
  rw [hf]
  have h1 := h.below hb1
  obtain ⟨gF, cap, hvF, hgt, c0, c1, c2, c3, hfz⟩ := h1.frame hl
  have k1 := h1.c1
  rw [hvF] at k1
  have hff : (f : Int) < (s.bytes.length : Int) := by omega
  simp at c0 c1 c2 c3
  clear hvF hfz
  have h2 := h1.below ((Below.refl _ _).alloc (Nat.le_refl _) (.cells #[.int .u8 x0, .int .u8 x1, .int .u8 x2, .int .u8 x3] 84))
  have hbx := Blk.new w1 [.int .u8 x0, .int .u8 x1, .int .u8 x2, .int .u8 x3] 84
  have hbb : Below w.heap.size w (w1.alloc (.cells #[.int .u8 x0, .int .u8 x1, .int .u8 x2, .int .u8 x3] 84)) := hb1.alloc hb1.size _
  have hvlt : ∀ x, v.ownBlock = some x → x < w1.heap.size := (h1.rI j e v hv).1.lt
  have hgl := h1.bE.lt
  have hpl := h1.st.blk.lt
  have hpg : p ≠ gE := fun e2 => by have := h.tm; rw [e2, h.tE] at this; simp at this
  have hpv : ∀ x, v.ownBlock = some x → p ≠ x := fun x hx e2 => by have := (h.rI j e v hv).2 x hx; rw [← e2, h.tm] at this; simp at this; omega
  go_wp2_with fail
  obtain ⟨W1, hW1⟩ : ∃ W1, w1.alloc (.cells #[.int .u8 x0, .int .u8 x1, .int .u8 x2, .int .u8 x3] 84) = W1 := ⟨_, rfl⟩
  have hbx2 : Blk (w1.alloc (.cells #[.int .u8 x0, .int .u8 x1, .int .u8 x2, .int .u8 x3] 84)) w1.heap.size [.int .u8 x0, .int .u8 x1, .int .u8 x2, .int .u8 x3] 84 := hbx
  rw [hW1] at h2 hbx2 hbb ⊢
  clear hW1 hbx
  have m0 := h2.c0
  have z0 := hbx2.cell 0
  have z1 := hbx2.cell 1
  have z2 := hbx2.cell 2
  have z3 := hbx2.cell 3
  simp at z0 z1 z2 z3
  have hMd := (h2.below (Below.refl _ _).drew).mem hv
  have hbxl := hbx2.lt
  have h2d := h2.below (Below.refl _ _).drew
  clear k0 k1 c0 c1 c2 c3
  go_region_held3 (fun w' => w'.cell? ⟨p, 0, none⟩ = some (.slice (some ⟨gE, 0, none⟩) s.envs.length s.envs.length) ∧ w'.cell? ⟨w1.heap.size, 0, none⟩ = some (.int .u8 x0) ∧ w'.cell? ⟨w1.heap.size, 1, none⟩ = some (.int .u8 x1) ∧ w'.cell? ⟨w1.heap.size, 2, none⟩ = some (.int .u8 x2) ∧ w'.cell? ⟨w1.heap.size, 3, none⟩ = some (.int .u8 x3)) (go_keep)
    ((first
      | (go_at_call 103; refine (goOut_any hMd hm.nl hm.np hq16 hg hm.o0 hm.o1 x0 x1 x2 x3).mono ?_; rintro e3 w3 ⟨rfl, hn⟩
         have hb3 : Blk w3 w1.heap.size [.int .u8 x0, .int .u8 x1, .int .u8 x2, .int .u8 x3] 84 := by
           obtain ⟨_, _, _, _, ht3⟩ := hn
           exact hbx2.of (ht3.block _ hbxl (fun e2 => by
             rcases e2 with e2 | e2
             · omega
             · have := hvlt _ e2; omega))
         have q0 : w3.cell? ⟨p, 0, none⟩ = some (.slice (some ⟨gE, 0, none⟩) s.envs.length s.envs.length) := by
           obtain ⟨_, _, _, _, ht3⟩ := hn
           rw [← m0]
           exact World.cell?_of_block (a := ⟨p, 0, none⟩) (ht3.block p h2.st.blk.lt (fun e2 => by
             rcases e2 with e2 | e2
             · exact hpg e2
             · exact hpv _ e2 rfl))
         have a0 := hb3.cell 0
         have a1 := hb3.cell 1
         have a2 := hb3.cell 2
         have a3 := hb3.cell 3
         simp at a0 a1 a2 a3)))
  obtain ⟨own3, gE3, vF3, vL3, vT3, L3, h3, ho3, ht3⟩ := h2d.memNext hv hn
  go_wp2_with fail
  refine (tremove_any h3.tb hw.sl j q).mono ?_
  rintro e4 w4 ⟨rfl, h4, ht4⟩
  go_wp2_with fail
  go_ret2
  refine ⟨rfl, ?_⟩
  have h5 := h3.turned h4 (ht4.tab p)
  have e5 : remP s.slots j q = s.slots.map (remE j q) := remP_map hw.uni j q
  have h6 : PRep own3 id w4 p (outP s j e q [x0, x1, x2, x3]) gE3 vF3 vL3 vT3 L3 := by
    unfold outP
    rw [← e5]
    exact h5
  exact PNext.after (Touch.of_below hbb.drew _) (PNext.then ho3 ht3 ⟨own3, _, _, _, _, _, h6, fun _ _ => rfl, h3.touch (ht4.tab p)⟩)

set_option maxHeartbeats 4000000 in
set_option maxRecDepth 100000 in
theorem putOut_none (h : PRep own id w p s gE vF vL vT L) {j : Nat} {e : PEnv} (he : s.envs[j]? = some e) (h0 : e.mem.inl.length = 0) :
    Calls Try.prog 94 #[.pointer (some ⟨p, 0, none⟩), .int .i64 j] w fun e' w' => e' = .returned (.tuple #[.int .i64 0, .bool false]) ∧ Below w.heap.size w w' := by
  have hj := (List.getElem?_eq_some_iff.1 he).1
  obtain ⟨v, hv⟩ := h.pair he
  have hlj : (j : Int) < (s.envs.length : Int) := by omega
  have k0 := h.c0
  have hM := h.mem hv
  go_enter Try.func94, Try.ntmps94
  go_wp2_with fail
  refine (chosen_none hM h0).mono ?_
  rintro e1 w1 ⟨rfl, hw1⟩
  subst hw1
  go_wp2_with fail
  go_ret2
  exact ⟨rfl, Below.refl _ _⟩
end
end Go.Proofs.Ytinlkcmdbjcofab

/-
  The program's machine: a frame for a page of a kept environment; a page comes in.
-/
namespace Go.Proofs.Ytinlkcmdbjcofab
open Go.RowKit
set_option linter.unusedVariables false
attribute [local go_sem ↓] Go.wp_at_zero Go.wp_at_succ
section
variable {own : Nat → Nat × Nat} {id : Nat} {w : World} {p : Nat} {s : PSt} {gE : Nat} {vF vL vT : Value} {L : List (PEnv × Value)}

def roomB (e : PEnv) : Bool := decide ((e.mem.inl.length : Int) < e.mem.quota)
def freeFor (s : PSt) (e : PEnv) : Option Nat := if roomB e then leastFreeP s else none

set_option maxHeartbeats 4000000 in
set_option maxRecDepth 100000 in
theorem frameFor_first (h : PRep own id w p s gE vF vL vT L) (hw : PWf s) {j : Nat} {e : PEnv} (he : s.envs[j]? = some e) (hm : MWf s.bytes.length e.mem) {f : Nat} (hf : freeFor s e = some f) :
    Calls Try.prog 96 #[.pointer (some ⟨p, 0, none⟩), .int .i64 j] w fun e' w' => e' = .returned (.tuple #[.int .i64 f, .bool true]) ∧ PNext own id w p w' (giveP s j f) := by
  have hj := (List.getElem?_eq_some_iff.1 he).1
  obtain ⟨v, hv⟩ := h.pair he
  have hlj : (j : Int) < (s.envs.length : Int) := by omega
  have hr : roomB e = true := by
    unfold freeFor at hf
    cases hr : roomB e with
    | true => rfl
    | false => rw [hr] at hf; simp at hf
  have HR : Hid (decide ((e.mem.inl.length : Int) < e.mem.quota) = true) := hr
  have hf2 : leastFreeP s = some f := by unfold freeFor at hf; rw [hr] at hf; simpa using hf
  have HF : Hid (leastFreeP s = some f) := hf2
  have hfl := (leastFreeP_lt hf2).1
  clear hr hf hf2
  go_enter Try.func96, Try.ntmps96
  go_wp2_with fail
  refine (leastFree_any h hw).mono ?_
  rintro e1 w1 ⟨rfl, hb1⟩
  rw [HF.out]
  simp only [lfV]
  have h1 := h.below hb1
  have k1 := h1.c0
  have hM := h1.mem hv
  go_wp2_with fail
  refine (hasRoom_any hM hm.nl).mono ?_
  rintro e2 w2 ⟨rfl, hb2⟩
  rw [HR.out]
  have h2 := h1.below hb2
  go_wp2_with fail
  refine (give_any h2 hw j hfl).mono ?_
  rintro e3 w3 ⟨rfl, hn⟩
  go_wp2_with fail
  go_ret2
  exact ⟨rfl, PNext.after (Touch.of_below (hb1.trans (hb2.mono hb1.size)) _) hn⟩

set_option maxHeartbeats 4000000 in
set_option maxRecDepth 100000 in
theorem frameFor_out (h : PRep own id w p s gE vF vL vT L) (hw : PWf s) {j : Nat} {e : PEnv} (he : s.envs[j]? = some e) (hm : MWf s.bytes.length e.mem) (hno : freeFor s e = none) (h0 : 0 < e.mem.inl.length) {q f : Nat} {g : PG} {l : List Int} (hq : chosen e.mem.policy e.mem.inl = q) (hq16 : q < 16) (hg : e.mem.pages[q]? = some g) (hf : g.frame = f) (hl : s.bytes[f]? = some l) :
    Calls Try.prog 96 #[.pointer (some ⟨p, 0, none⟩), .int .i64 j] w fun e' w' => e' = .returned (.tuple #[.int .i64 f, .bool true]) ∧ PNext own id w p w' (outP s j e q l) := by
  have hj := (List.getElem?_eq_some_iff.1 he).1
  obtain ⟨v, hv⟩ := h.pair he
  have hlj : (j : Int) < (s.envs.length : Int) := by omega
  cases hff : leastFreeP s with
  | none =>
    have HF : Hid (leastFreeP s = none) := hff
    clear hff
    go_enter Try.func96, Try.ntmps96
    go_wp2_with fail
    refine (leastFree_any h hw).mono ?_
    rintro e1 w1 ⟨rfl, hb1⟩
    rw [HF.out]
    simp only [lfV]
    have h1 := h.below hb1
    go_wp2_with fail
    refine (putOut_any h1 hw he hm h0 hq hq16 hg hf hl).mono ?_
    rintro e2 w2 ⟨rfl, hn⟩
    go_wp2_with fail
    go_ret2
    exact ⟨rfl, PNext.after (Touch.of_below hb1 _) hn⟩
  | some f2 =>
    have HF : Hid (leastFreeP s = some f2) := hff
    have HR : Hid (decide ((e.mem.inl.length : Int) < e.mem.quota) = false) := by
      unfold freeFor at hno
      cases hr : roomB e with
      | false => exact hr
      | true => rw [hr, hff] at hno; simp at hno
    clear hff
    go_enter Try.func96, Try.ntmps96
    go_wp2_with fail
    refine (leastFree_any h hw).mono ?_
    rintro e1 w1 ⟨rfl, hb1⟩
    rw [HF.out]
    simp only [lfV]
    have h1 := h.below hb1
    have k1 := h1.c0
    have hM := h1.mem hv
    go_wp2_with fail
    refine (hasRoom_any hM hm.nl).mono ?_
    rintro e2 w2 ⟨rfl, hb2⟩
    rw [HR.out]
    have h2 := h1.below hb2
    go_wp2_with fail
    refine (putOut_any h2 hw he hm h0 hq hq16 hg hf hl).mono ?_
    rintro e3 w3 ⟨rfl, hn⟩
    go_wp2_with fail
    go_ret2
    exact ⟨rfl, PNext.after (Touch.of_below (hb1.trans (hb2.mono hb1.size)) _) hn⟩

set_option maxHeartbeats 4000000 in
set_option maxRecDepth 100000 in
theorem frameFor_none (h : PRep own id w p s gE vF vL vT L) (hw : PWf s) {j : Nat} {e : PEnv} (he : s.envs[j]? = some e) (hm : MWf s.bytes.length e.mem) (hno : freeFor s e = none) (h0 : e.mem.inl.length = 0) :
    Calls Try.prog 96 #[.pointer (some ⟨p, 0, none⟩), .int .i64 j] w fun e' w' => e' = .returned (.tuple #[.int .i64 0, .bool false]) ∧ Below w.heap.size w w' := by
  have hj := (List.getElem?_eq_some_iff.1 he).1
  obtain ⟨v, hv⟩ := h.pair he
  have hlj : (j : Int) < (s.envs.length : Int) := by omega
  cases hff : leastFreeP s with
  | none =>
    have HF : Hid (leastFreeP s = none) := hff
    clear hff
    go_enter Try.func96, Try.ntmps96
    go_wp2_with fail
    refine (leastFree_any h hw).mono ?_
    rintro e1 w1 ⟨rfl, hb1⟩
    rw [HF.out]
    simp only [lfV]
    have h1 := h.below hb1
    go_wp2_with fail
    refine (putOut_none h1 he h0).mono ?_
    rintro e2 w2 ⟨rfl, hb2⟩
    go_wp2_with fail
    go_ret2
    exact ⟨rfl, hb1.trans (hb2.mono hb1.size)⟩
  | some f2 =>
    have HF : Hid (leastFreeP s = some f2) := hff
    have HR : Hid (decide ((e.mem.inl.length : Int) < e.mem.quota) = false) := by
      unfold freeFor at hno
      cases hr : roomB e with
      | false => exact hr
      | true => rw [hr, hff] at hno; simp at hno
    clear hff
    go_enter Try.func96, Try.ntmps96
    go_wp2_with fail
    refine (leastFree_any h hw).mono ?_
    rintro e1 w1 ⟨rfl, hb1⟩
    rw [HF.out]
    simp only [lfV]
    have h1 := h.below hb1
    have k1 := h1.c0
    have hM := h1.mem hv
    go_wp2_with fail
    refine (hasRoom_any hM hm.nl).mono ?_
    rintro e2 w2 ⟨rfl, hb2⟩
    rw [HR.out]
    have h2 := h1.below hb2
    go_wp2_with fail
    refine (putOut_none h2 he h0).mono ?_
    rintro e3 w3 ⟨rfl, hb3⟩
    go_wp2_with fail
    go_ret2
    exact ⟨rfl, (hb1.trans (hb2.mono hb1.size)).trans (hb3.mono (hb1.trans (hb2.mono hb1.size)).size)⟩
end
end Go.Proofs.Ytinlkcmdbjcofab

/-
  The program's machine: a page of a kept environment comes in.
-/
namespace Go.Proofs.Ytinlkcmdbjcofab
open Go.RowKit
set_option linter.unusedVariables false
attribute [local go_sem ↓] Go.wp_at_zero Go.wp_at_succ
section
variable {own : Nat → Nat × Nat} {id : Nat} {w : World} {p : Nat} {s : PSt} {gE : Nat} {vF vL vT : Value} {L : List (PEnv × Value)}

def outB (k : PK) (p : Nat) : List Int := ((k.pages[p]?).map PG.out).getD []
def comeP (s : PSt) (j : Nat) (e : PEnv) (p f : Nat) : PSt := { s with envs := s.envs.set j { e with mem := e.mem.comeIn p f }, bytes := s.bytes.set f (outB e.mem p) }

set_option maxHeartbeats 4000000 in
set_option maxRecDepth 100000 in
theorem bringIn_of {s1 : PSt} {j f : Nat} (h : PRep own id w p s gE vF vL vT L)
    (hcall : Calls Try.prog 96 #[.pointer (some ⟨p, 0, none⟩), .int .i64 j] w fun e' w' => e' = .returned (.tuple #[.int .i64 f, .bool true]) ∧ PNext own id w p w' s1)
    {e : PEnv} (he : s1.envs[j]? = some e) (hm : MWf s1.bytes.length e.mem) (hf : f < s1.bytes.length) {pg : Nat} (hp : pg < 16) :
    Calls Try.prog 90 #[.pointer (some ⟨p, 0, none⟩), .int .i64 j, .int .i64 pg] w fun e' w' => e' = .returned (.tuple #[.int .i64 f, .bool true]) ∧ PNext own id w p w' (comeP s1 j e pg f) := by
  have hj := (List.getElem?_eq_some_iff.1 he).1
  have hlj : (j : Int) < (s1.envs.length : Int) := by omega
  have hff : (f : Int) < (s1.bytes.length : Int) := by omega
  obtain ⟨g, hg⟩ : ∃ g, e.mem.pages[pg]? = some g := ⟨e.mem.pages[pg]'(by rw [hm.np]; exact hp), by simp⟩
  have HO : Hid (outB e.mem pg = g.out) := by simp [Hid, outB, hg]
  go_enter Try.func90, Try.ntmps90
  go_wp2_with fail
  refine hcall.mono ?_
  rintro e1 w1 ⟨rfl, own1, gE1, vF1, vL1, vT1, L1, h1, ho1, ht1⟩
  obtain ⟨v, hv⟩ := h1.pair he
  have k1 := h1.c0
  have hM := h1.mem hv
  go_wp2_with fail
  refine (comeIn_any hM hm.nl hm.np hp hg hm.i0 hm.i1 f).mono ?_
  rintro e2 w2 ⟨he2, hn⟩
  have he3 : e2 = .returned (.agg #[.int .u8 (g.out[0]?.getD 0), .int .u8 (g.out[1]?.getD 0), .int .u8 (g.out[2]?.getD 0), .int .u8 (g.out[3]?.getD 0)]) := he2
  subst he3
  clear he2 k1
  obtain ⟨own2, gE2, vF2, vL2, vT2, L2, h2, ho2, ht2⟩ := h1.memNext hv hn
  obtain ⟨y0, hy0⟩ : ∃ y, g.out[0]?.getD 0 = y := ⟨_, rfl⟩
  obtain ⟨y1, hy1⟩ : ∃ y, g.out[1]?.getD 0 = y := ⟨_, rfl⟩
  obtain ⟨y2, hy2⟩ : ∃ y, g.out[2]?.getD 0 = y := ⟨_, rfl⟩
  obtain ⟨y3, hy3⟩ : ∃ y, g.out[3]?.getD 0 = y := ⟨_, rfl⟩
  rw [hy0, hy1, hy2, hy3]
  have hba : Below w2.heap.size w2 (w2.alloc (.cells #[.int .u8 y0, .int .u8 y1, .int .u8 y2, .int .u8 y3] 83)) := (Below.refl _ _).alloc (Nat.le_refl _) _
  have h3 := h2.below hba
  have hbx := Blk.new w2 [.int .u8 y0, .int .u8 y1, .int .u8 y2, .int .u8 y3] 83
  have hFlt := h2.rF.lt
  have hplt := h2.st.blk.lt
  go_wp2_with fail
  obtain ⟨W, hW⟩ : ∃ W, w2.alloc (.cells #[.int .u8 y0, .int .u8 y1, .int .u8 y2, .int .u8 y3] 83) = W := ⟨_, rfl⟩
  have hbx2 : Blk (w2.alloc (.cells #[.int .u8 y0, .int .u8 y1, .int .u8 y2, .int .u8 y3] 83)) w2.heap.size [.int .u8 y0, .int .u8 y1, .int .u8 y2, .int .u8 y3] 83 := hbx
  rw [hW] at h3 hbx2 hba ⊢
  clear hW hbx
  obtain ⟨l, hl⟩ : ∃ l, s1.bytes[f]? = some l := ⟨s1.bytes[f], by simp⟩
  obtain ⟨gF, cap, hvF, hgt, c0, c1, c2, c3, hfz⟩ := h3.frame hl
  have hst := h3.setF hvF f hf g.out
  rw [hy0, hy1, hy2, hy3] at hst
  have k1 := h3.c1
  have hgFl := hFlt gF (by rw [hvF]; rfl)
  rw [hvF] at k1
  have z0 := hfz (f * 4)
  have z1 := hfz (f * 4 + 1)
  have z2 := hfz (f * 4 + 2)
  have z3 := hfz (f * 4 + 3)
  have d0 := hbx2.cell 0
  have d1 := hbx2.cell 1
  have d2 := hbx2.cell 2
  have d3 := hbx2.cell 3
  simp at d0 d1 d2 d3
  have n1 : p ≠ gF := fun e2 => by have := h3.tm; rw [e2, hgt] at this; simp at this
  have n2 : gF ≠ p := fun e2 => n1 e2.symm
  have n3 : w2.heap.size ≠ gF := by omega
  have n4 : gF ≠ w2.heap.size := by omega
  have hin : (own2 gF).1 = id := by rw [hgt]
  have HST : Hid (PRep own2 id ((((W.setCell ⟨gF, f * 4, none⟩ (.int .u8 y0)).setCell ⟨gF, f * 4 + 1, none⟩ (.int .u8 y1)).setCell ⟨gF, f * 4 + 2, none⟩ (.int .u8 y2)).setCell ⟨gF, f * 4 + 3, none⟩ (.int .u8 y3)) p { { s1 with envs := s1.envs.set j { e with mem := e.mem.comeIn pg f } } with bytes := s1.bytes.set f g.out } gE2 vF2 vL2 vT2 L2) := hst
  have HTT : Hid (Touch w.heap.size (fun b => (own b).1 = id) w ((((W.setCell ⟨gF, f * 4, none⟩ (.int .u8 y0)).setCell ⟨gF, f * 4 + 1, none⟩ (.int .u8 y1)).setCell ⟨gF, f * 4 + 2, none⟩ (.int .u8 y2)).setCell ⟨gF, f * 4 + 3, none⟩ (.int .u8 y3))) := by
    have t3 := ht1.next ho1 ht2
    have t4 := t3.next (own' := own2) (fun b hb => (ho2 b (Nat.lt_of_lt_of_le hb ht1.size)).trans (ho1 b hb)) (Touch.of_below hba (fun b => (own2 b).1 = id))
    refine t4.next (own' := own2) (fun b hb => (ho2 b (Nat.lt_of_lt_of_le hb ht1.size)).trans (ho1 b hb)) ?_
    exact ((((Touch.refl _ (fun b => (own2 b).1 = id) _).setCell (p := ⟨gF, f * 4, none⟩) (.inl hin) _).setCell (p := ⟨gF, f * 4 + 1, none⟩) (.inl hin) _).setCell (p := ⟨gF, f * 4 + 2, none⟩) (.inl hin) _).setCell (p := ⟨gF, f * 4 + 3, none⟩) (.inl hin) _
  have HOO : Hid (∀ b, b < w.heap.size → own2 b = own b) := fun b hb => (ho2 b (Nat.lt_of_lt_of_le hb ht1.size)).trans (ho1 b hb)
  clear hst hvF hfz hl
  go_region_held3 (fun w' => w'.cell? ⟨p, 1, none⟩ = some (.slice (some ⟨gF, 0, none⟩) s1.bytes.length cap) ∧ w'.cell? ⟨w2.heap.size, 0, none⟩ = some (.int .u8 y0) ∧ w'.cell? ⟨w2.heap.size, 1, none⟩ = some (.int .u8 y1) ∧ w'.cell? ⟨w2.heap.size, 2, none⟩ = some (.int .u8 y2) ∧ w'.cell? ⟨w2.heap.size, 3, none⟩ = some (.int .u8 y3)) (go_keep) (fail)
  go_wp2_with fail
  go_ret2
  refine ⟨rfl, ?_⟩
  unfold comeP
  rw [HO.out]
  exact ⟨own2, _, _, _, _, _, HST.out.below (Below.refl _ _).drew, HOO.out, HTT.out.drew⟩

set_option maxHeartbeats 4000000 in
set_option maxRecDepth 100000 in
theorem bringIn_none {j : Nat} (h : PRep own id w p s gE vF vL vT L)
    (hcall : Calls Try.prog 96 #[.pointer (some ⟨p, 0, none⟩), .int .i64 j] w fun e' w' => e' = .returned (.tuple #[.int .i64 0, .bool false]) ∧ Below w.heap.size w w') (pg : Nat) :
    Calls Try.prog 90 #[.pointer (some ⟨p, 0, none⟩), .int .i64 j, .int .i64 pg] w fun e' w' => e' = .returned (.tuple #[.int .i64 0, .bool false]) ∧ Below w.heap.size w w' := by
  go_enter Try.func90, Try.ntmps90
  go_wp2_with fail
  refine hcall.mono ?_
  rintro e1 w1 ⟨rfl, hb⟩
  go_wp2_with fail
  go_ret2
  exact ⟨rfl, hb⟩
end
end Go.Proofs.Ytinlkcmdbjcofab

/-
  The program's machine: an entry of a kept page is refilled.
-/
namespace Go.Proofs.Ytinlkcmdbjcofab
open Go.RowKit
set_option linter.unusedVariables false
attribute [local go_sem ↓] Go.wp_at_zero Go.wp_at_succ
section
variable {own : Nat → Nat × Nat} {id : Nat} {w : World} {p : Nat} {s : PSt} {gE : Nat} {vF vL vT : Value} {L : List (PEnv × Value)}

def needP (s : PSt) (j pg : Nat) (wt : Bool) : Bool := match findT s.slots j pg with
  | some x => !(x.wr || !wt)
  | none => true
def newE (j pg : Nat) (home : Int) (m : Bool) : Ent := ⟨true, j, pg, home, m⟩
def refillY (s : PSt) (j : Nat) (e : PEnv) (x : Ent) : PSt := { s with envs := s.envs.set j { e with mem := { e.mem with refills := e.mem.refills + 1 } }, slots := refP s.slots s.turn x, turn := (refQ s.slots s.turn x).2 }
def chgP (k : PK) (pg : Nat) : Bool := ((k.pages[pg]?).map PG.chg).getD false
def refillP (s : PSt) (j : Nat) (e : PEnv) (pg : Nat) (home : Int) (wt : Bool) : PSt := if needP s j pg wt then refillY s j e (newE j pg home (wt || chgP e.mem pg)) else s

set_option maxHeartbeats 4000000 in
set_option maxRecDepth 100000 in
theorem prefill_any (h : PRep own id w p s gE vF vL vT L) (hsl : s.slots.length ≤ 8) (ht0 : 0 ≤ s.turn) (ht1 : s.turn < s.slots.length) {j : Nat} {e : PEnv} (he : s.envs[j]? = some e) (hm : MWf s.bytes.length e.mem) {pg : Nat} (hp : pg < 16) (home : Int) (wt : Bool) :
    Calls Try.prog 91 #[.pointer (some ⟨p, 0, none⟩), .int .i64 j, .int .i64 pg, .int .i64 home, .bool wt] w fun e' w' => e' = .returned (.tuple #[]) ∧ PNext own id w p w' (refillP s j e pg home wt) := by
  have hj := (List.getElem?_eq_some_iff.1 he).1
  have hlj : (j : Int) < (s.envs.length : Int) := by omega
  obtain ⟨g, hg⟩ : ∃ g, e.mem.pages[pg]? = some g := ⟨e.mem.pages[pg]'(by rw [hm.np]; exact hp), by simp⟩
  obtain ⟨v, hv⟩ := h.pair he
  cases hf : findT s.slots j pg with
  | none =>
    have HF : Hid (findT s.slots j pg = none) := hf
    rcases Bool.eq_false_or_eq_true wt with hwt | hwt
    · subst hwt
      have HP : Hid (refillP s j e pg home true = refillY s j e (newE j pg home true)) := by simp [Hid, refillP, needP, hf]
      clear hf
      go_enter Try.func91, Try.ntmps91
      go_wp2_with fail
      refine (tfind_any h.tb hsl j pg).mono ?_
      rintro e1 w1 ⟨rfl, hb1⟩
      rw [HF.out]
      simp only [findTV]
      have hbz : Below w.heap.size w (w1.alloc (.cells #[.bool false, .int .i64 0, .int .i64 0, .int .i64 0, .bool false] 80)) := hb1.alloc hb1.size _
      have h1 := h.below hbz
      have k1 := h1.c0
      have hM := h1.mem hv
      go_wp2_with fail
      refine (countRefill_any hM hm.r0 hm.r1).mono ?_
      rintro e2 w2 ⟨rfl, hn2⟩
      obtain ⟨own2, gE2, vF2, vL2, vT2, L2, h2, ho2, ht2⟩ := h1.memNext hv hn2
      have k2 := h2.c0
      go_wp2_with fail
      refine (refill_any h2.tb hsl ht0 ht1 true j pg home true).mono ?_
      rintro e4 w4 ⟨rfl, h4, ht4⟩
      go_wp2_with fail
      go_end0
      refine ⟨rfl, ?_⟩
      rw [HP.out]
      have h5 := h2.turned (tn' := (refQ s.slots s.turn (newE j pg home true)).2) h4 ht4
      exact PNext.after (Touch.of_below hbz _) (PNext.then ho2 ht2 ⟨own2, _, _, _, _, _, h5, fun _ _ => rfl, h2.touch ht4⟩)
    · subst hwt
      have HP : Hid (refillP s j e pg home false = refillY s j e (newE j pg home g.chg)) := by simp [Hid, refillP, needP, hf, chgP, hg]
      clear hf
      go_enter Try.func91, Try.ntmps91
      go_wp2_with fail
      refine (tfind_any h.tb hsl j pg).mono ?_
      rintro e1 w1 ⟨rfl, hb1⟩
      rw [HF.out]
      simp only [findTV]
      have hbz : Below w.heap.size w (w1.alloc (.cells #[.bool false, .int .i64 0, .int .i64 0, .int .i64 0, .bool false] 80)) := hb1.alloc hb1.size _
      have h1 := h.below hbz
      have k1 := h1.c0
      have hM := h1.mem hv
      go_wp2_with fail
      refine (countRefill_any hM hm.r0 hm.r1).mono ?_
      rintro e2 w2 ⟨rfl, hn2⟩
      obtain ⟨own2, gE2, vF2, vL2, vT2, L2, h2, ho2, ht2⟩ := h1.memNext hv hn2
      have k2 := h2.c0
      have hlj2 : (j : Int) < ((s.envs.set j { e with mem := { e.mem with refills := e.mem.refills + 1 } }).length : Int) := by rw [List.length_set]; omega
      obtain ⟨v2, hv2⟩ := h2.pair (j := j) (e := { e with mem := { e.mem with refills := e.mem.refills + 1 } }) (List.getElem?_set_self hj)
      have hM2 := h2.mem hv2
      go_wp2_with fail
      refine (changed_any hM2 hp hg).mono ?_
      rintro e3 w3 ⟨rfl, hw3⟩
      subst hw3
      go_wp2_with fail
      refine (refill_any h2.tb hsl ht0 ht1 true j pg home g.chg).mono ?_
      rintro e4 w4 ⟨rfl, h4, ht4⟩
      go_wp2_with fail
      go_end0
      refine ⟨rfl, ?_⟩
      rw [HP.out]
      have h5 := h2.turned (tn' := (refQ s.slots s.turn (newE j pg home g.chg)).2) h4 ht4
      exact PNext.after (Touch.of_below hbz _) (PNext.then ho2 ht2 ⟨own2, _, _, _, _, _, h5, fun _ _ => rfl, h2.touch ht4⟩)
  | some x =>
    have HF : Hid (findT s.slots j pg = some x) := hf
    have hbx : ∀ w1 : World, Blk (w1.alloc (.cells #[.bool x.used, .int .i64 x.env, .int .i64 x.page, .int .i64 x.fr, .bool x.wr] 80)) w1.heap.size [.bool x.used, .int .i64 x.env, .int .i64 x.page, .int .i64 x.fr, .bool x.wr] 80 := fun w1 => Blk.new w1 _ _
    rcases Bool.eq_false_or_eq_true x.wr with hx | hx
    · have HP : Hid (refillP s j e pg home wt = s) := by simp [Hid, refillP, needP, hf, hx]
      clear hf
      go_enter Try.func91, Try.ntmps91
      go_wp2_with fail
      refine (tfind_any h.tb hsl j pg).mono ?_
      rintro e1 w1 ⟨rfl, hb1⟩
      rw [HF.out]
      simp only [findTV]
      rw [hx]
      go_wp2_with fail
      refine bodyPost_ret (v := .tuple #[]) (by simp [results, Try.results91, go_sem]) rfl ⟨rfl, ?_⟩
      rw [HP.out]
      exact PNext.of_below h (hb1.alloc hb1.size _)
    · rcases Bool.eq_false_or_eq_true wt with hwt | hwt
      · subst hwt
        have HP : Hid (refillP s j e pg home true = refillY s j e (newE j pg home true)) := by simp [Hid, refillP, needP, hf, hx]
        clear hf
        go_enter Try.func91, Try.ntmps91
        go_wp2_with fail
        refine (tfind_any h.tb hsl j pg).mono ?_
        rintro e1 w1 ⟨rfl, hb1⟩
        rw [HF.out]
        simp only [findTV]
        rw [hx]
        have hbz : Below w.heap.size w (w1.alloc (.cells #[.bool x.used, .int .i64 x.env, .int .i64 x.page, .int .i64 x.fr, .bool false] 80)) := hb1.alloc hb1.size _
        have h1 := h.below hbz
        have k1 := h1.c0
        have hM := h1.mem hv
        go_wp2_with fail
        refine (countRefill_any hM hm.r0 hm.r1).mono ?_
        rintro e2 w2 ⟨rfl, hn2⟩
        obtain ⟨own2, gE2, vF2, vL2, vT2, L2, h2, ho2, ht2⟩ := h1.memNext hv hn2
        have k2 := h2.c0
        go_wp2_with fail
        refine (refill_any h2.tb hsl ht0 ht1 true j pg home true).mono ?_
        rintro e4 w4 ⟨rfl, h4, ht4⟩
        go_wp2_with fail
        go_end0
        refine ⟨rfl, ?_⟩
        rw [HP.out]
        have h5 := h2.turned (tn' := (refQ s.slots s.turn (newE j pg home true)).2) h4 ht4
        exact PNext.after (Touch.of_below hbz _) (PNext.then ho2 ht2 ⟨own2, _, _, _, _, _, h5, fun _ _ => rfl, h2.touch ht4⟩)
      · subst hwt
        have HP : Hid (refillP s j e pg home false = s) := by simp [Hid, refillP, needP, hf, hx]
        clear hf
        go_enter Try.func91, Try.ntmps91
        go_wp2_with fail
        refine (tfind_any h.tb hsl j pg).mono ?_
        rintro e1 w1 ⟨rfl, hb1⟩
        rw [HF.out]
        simp only [findTV]
        rw [hx]
        go_wp2_with fail
        refine bodyPost_ret (v := .tuple #[]) (by simp [results, Try.results91, go_sem]) rfl ⟨rfl, ?_⟩
        rw [HP.out]
        exact PNext.of_below h (hb1.alloc hb1.size _)
end
end Go.Proofs.Ytinlkcmdbjcofab

/-
  The program's machine: an access to a page of a kept environment.
-/
namespace Go.Proofs.Ytinlkcmdbjcofab
open Go.RowKit
set_option linter.unusedVariables false
attribute [local go_sem ↓] Go.wp_at_zero Go.wp_at_succ

def refM (s : PSt) (j pg : Nat) (wt : Bool) (k : PK) : PK := if needP s j pg wt then { k with refills := k.refills + 1 } else k
/-- Behind the page has come in (or was in). -/
def tchP (s : PSt) (j : Nat) (e : PEnv) (pg : Nat) (home : Int) (wt : Bool) : PSt := { refillP s j e pg home wt with envs := s.envs.set j { e with mem := (refM s j pg wt e.mem).touch pg wt } }
theorem refillP_env {s : PSt} {j : Nat} {e : PEnv} {pg : Nat} {home : Int} {wt : Bool} (he : s.envs[j]? = some e) : (refillP s j e pg home wt).envs[j]? = some { e with mem := refM s j pg wt e.mem } := by
  have hj := (List.getElem?_eq_some_iff.1 he).1
  unfold refillP refM
  split
  · exact List.getElem?_set_self hj
  · exact he
theorem tchP_eq (s : PSt) (j : Nat) (e : PEnv) (pg : Nat) (home : Int) (wt : Bool) : { refillP s j e pg home wt with envs := (refillP s j e pg home wt).envs.set j { e with mem := (refM s j pg wt e.mem).touch pg wt } } = tchP s j e pg home wt := by
  unfold tchP refillP
  split
  · unfold refillY
    simp only [List.set_set]
  · rfl

section
variable {own : Nat → Nat × Nat} {id : Nat} {w : World} {p : Nat} {s s1 : PSt} {gE : Nat} {vF vL vT : Value} {L : List (PEnv × Value)}

set_option maxHeartbeats 4000000 in
set_option maxRecDepth 100000 in
theorem access_in (h : PRep own id w p s gE vF vL vT L) (hsl : s.slots.length ≤ 8) (ht0 : 0 ≤ s.turn) (ht1 : s.turn < s.slots.length) {j : Nat} {e : PEnv} (he : s.envs[j]? = some e) (hm : MWf s.bytes.length e.mem) {pg f : Nat} {g : PG} (hp : pg < 16) (hg : e.mem.pages[pg]? = some g) (hf : g.frame = f) (hin : hasI e.mem.inl pg = true) (wt : Bool) :
    Calls Try.prog 73 #[.pointer (some ⟨p, 0, none⟩), .int .i64 j, .int .i64 pg, .bool wt] w fun e' w' => e' = .returned (.tuple #[.int .i64 f, .int .i64 0]) ∧ PNext own id w p w' (tchP s j e pg f wt) := by
  have hj := (List.getElem?_eq_some_iff.1 he).1
  have hlj : (j : Int) < (s.envs.length : Int) := by omega
  obtain ⟨v, hv⟩ := h.pair he
  have k0 := h.c0
  have hM := h.mem hv
  have hnl2 : (refM s j pg wt e.mem).inl.length ≤ 16 := by unfold refM; split <;> exact hm.nl
  have hnp2 : (refM s j pg wt e.mem).pages.length = 16 := by unfold refM; split <;> exact hm.np
  have hg2 : (refM s j pg wt e.mem).pages[pg]? = some g := by unfold refM; split <;> exact hg
  have HV : Hid (frameV e.mem pg = .tuple #[.int .i64 f, .bool true]) := by simp [Hid, frameV, hin, hg, hf]
  go_enter Try.func73, Try.ntmps73
  go_wp2_with fail
  refine (mframe_any hM hm.nl hp hg).mono ?_
  rintro e1 w1 ⟨rfl, hw1⟩
  subst hw1
  rw [HV.out]
  go_wp2_with fail
  refine (prefill_any h hsl ht0 ht1 he hm hp f wt).mono ?_
  rintro e2 w2 ⟨rfl, own2, gE2, vF2, vL2, vT2, L2, h2, ho2, ht2⟩
  have he2 := refillP_env (pg := pg) (home := (f : Int)) (wt := wt) he
  obtain ⟨v2, hv2⟩ := h2.pair he2
  have hlj2 : (j : Int) < ((refillP s j e pg f wt).envs.length : Int) := by have := (List.getElem?_eq_some_iff.1 he2).1; omega
  have k2 := h2.c0
  have hM2 := h2.mem hv2
  have HE : Hid (tchP s j e pg f wt = { refillP s j e pg f wt with envs := (refillP s j e pg f wt).envs.set j { e with mem := (refM s j pg wt e.mem).touch pg wt } }) := (tchP_eq s j e pg f wt).symm
  obtain ⟨S2, HS2⟩ : ∃ S2, Hid (refillP s j e pg f wt = S2) := ⟨_, rfl⟩
  rw [HS2.out] at h2 hlj2 k2 he2 HE
  go_wp2_with fail
  refine (mtouch_any hM2 hnl2 hnp2 hp hg2 wt).mono ?_
  rintro e3 w3 ⟨rfl, hn3⟩
  have hn := h2.memNext hv2 hn3
  go_wp2_with fail
  go_ret2
  refine ⟨rfl, ?_⟩
  rw [HE.out]
  exact PNext.then ho2 ht2 hn

set_option maxHeartbeats 4000000 in
set_option maxRecDepth 100000 in
theorem access_of (h : PRep own id w p s gE vF vL vT L) {j pg f : Nat} {e0 : PEnv} (he0 : s.envs[j]? = some e0) (hm0 : MWf s.bytes.length e0.mem) (hp : pg < 16) (hno : hasI e0.mem.inl pg = false)
    (hcall : Calls Try.prog 90 #[.pointer (some ⟨p, 0, none⟩), .int .i64 j, .int .i64 pg] w fun e' w' => e' = .returned (.tuple #[.int .i64 f, .bool true]) ∧ PNext own id w p w' s1)
    (hsl : s1.slots.length ≤ 8) (ht0 : 0 ≤ s1.turn) (ht1 : s1.turn < s1.slots.length) {e : PEnv} (he : s1.envs[j]? = some e) (hm : MWf s1.bytes.length e.mem) (wt : Bool) :
    Calls Try.prog 73 #[.pointer (some ⟨p, 0, none⟩), .int .i64 j, .int .i64 pg, .bool wt] w fun e' w' => e' = .returned (.tuple #[.int .i64 f, .int .i64 0]) ∧ PNext own id w p w' (tchP s1 j e pg f wt) := by
  have hj := (List.getElem?_eq_some_iff.1 he0).1
  have hlj : (j : Int) < (s.envs.length : Int) := by omega
  obtain ⟨v, hv⟩ := h.pair he0
  have k0 := h.c0
  have hM := h.mem hv
  obtain ⟨g0, hg0⟩ : ∃ g, e0.mem.pages[pg]? = some g := ⟨e0.mem.pages[pg]'(by rw [hm0.np]; exact hp), by simp⟩
  obtain ⟨g, hg⟩ : ∃ g, e.mem.pages[pg]? = some g := ⟨e.mem.pages[pg]'(by rw [hm.np]; exact hp), by simp⟩
  have hnl2 : (refM s1 j pg wt e.mem).inl.length ≤ 16 := by unfold refM; split <;> exact hm.nl
  have hnp2 : (refM s1 j pg wt e.mem).pages.length = 16 := by unfold refM; split <;> exact hm.np
  have hg2 : (refM s1 j pg wt e.mem).pages[pg]? = some g := by unfold refM; split <;> exact hg
  have HV : Hid (frameV e0.mem pg = .tuple #[.int .i64 0, .bool false]) := by simp [Hid, frameV, hno]
  go_enter Try.func73, Try.ntmps73
  go_wp2_with fail
  refine (mframe_any hM hm0.nl hp hg0).mono ?_
  rintro e1 w1 ⟨rfl, hw1⟩
  subst hw1
  rw [HV.out]
  go_wp2_with fail
  refine hcall.mono ?_
  rintro e4 w4 ⟨rfl, own4, gE4, vF4, vL4, vT4, L4, h4, ho4, ht4⟩
  go_wp2_with fail
  refine (prefill_any h4 hsl ht0 ht1 he hm hp f wt).mono ?_
  rintro e2 w2 ⟨rfl, own2, gE2, vF2, vL2, vT2, L2, h2, ho2, ht2⟩
  have he2 := refillP_env (pg := pg) (home := (f : Int)) (wt := wt) he
  obtain ⟨v2, hv2⟩ := h2.pair he2
  have hlj2 : (j : Int) < ((refillP s1 j e pg f wt).envs.length : Int) := by have := (List.getElem?_eq_some_iff.1 he2).1; omega
  have k2 := h2.c0
  have hM2 := h2.mem hv2
  have HE : Hid (tchP s1 j e pg f wt = { refillP s1 j e pg f wt with envs := (refillP s1 j e pg f wt).envs.set j { e with mem := (refM s1 j pg wt e.mem).touch pg wt } }) := (tchP_eq s1 j e pg f wt).symm
  obtain ⟨S2, HS2⟩ : ∃ S2, Hid (refillP s1 j e pg f wt = S2) := ⟨_, rfl⟩
  rw [HS2.out] at h2 hlj2 k2 he2 HE
  go_wp2_with fail
  refine (mtouch_any hM2 hnl2 hnp2 hp hg2 wt).mono ?_
  rintro e3 w3 ⟨rfl, hn3⟩
  have hn := h2.memNext hv2 hn3
  go_wp2_with fail
  go_ret2
  refine ⟨rfl, ?_⟩
  rw [HE.out]
  exact PNext.then ho4 ht4 (PNext.then ho2 ht2 hn)

set_option maxHeartbeats 4000000 in
set_option maxRecDepth 100000 in
theorem access_none (h : PRep own id w p s gE vF vL vT L) {j pg : Nat} {e0 : PEnv} (he0 : s.envs[j]? = some e0) (hm0 : MWf s.bytes.length e0.mem) (hp : pg < 16) (hno : hasI e0.mem.inl pg = false)
    (hcall : Calls Try.prog 90 #[.pointer (some ⟨p, 0, none⟩), .int .i64 j, .int .i64 pg] w fun e' w' => e' = .returned (.tuple #[.int .i64 0, .bool false]) ∧ Below w.heap.size w w') (wt : Bool) :
    Calls Try.prog 73 #[.pointer (some ⟨p, 0, none⟩), .int .i64 j, .int .i64 pg, .bool wt] w fun e' w' => e' = .returned (.tuple #[.int .i64 0, .int .i64 12]) ∧ Below w.heap.size w w' := by
  have hj := (List.getElem?_eq_some_iff.1 he0).1
  have hlj : (j : Int) < (s.envs.length : Int) := by omega
  obtain ⟨v, hv⟩ := h.pair he0
  have k0 := h.c0
  have hM := h.mem hv
  obtain ⟨g0, hg0⟩ : ∃ g, e0.mem.pages[pg]? = some g := ⟨e0.mem.pages[pg]'(by rw [hm0.np]; exact hp), by simp⟩
  have HV : Hid (frameV e0.mem pg = .tuple #[.int .i64 0, .bool false]) := by simp [Hid, frameV, hno]
  go_enter Try.func73, Try.ntmps73
  go_wp2_with fail
  refine (mframe_any hM hm0.nl hp hg0).mono ?_
  rintro e1 w1 ⟨rfl, hw1⟩
  subst hw1
  rw [HV.out]
  go_wp2_with fail
  refine hcall.mono ?_
  rintro e4 w4 ⟨rfl, hb4⟩
  go_wp2_with fail
  go_ret2
  exact ⟨rfl, hb4⟩
end
end Go.Proofs.Ytinlkcmdbjcofab
