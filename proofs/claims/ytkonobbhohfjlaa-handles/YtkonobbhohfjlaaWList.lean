import Derived.Test.YtkonobbhohfjlaaWRights
namespace Go.Proofs.Ytkonobbhohfjlaa
open Go.RowKit
set_option linter.unusedVariables false
attribute [local go_sem ↓] Go.wp_at_zero Go.wp_at_succ

/-- What Rights tells, and its error. -/
def toldR (rs : RSt) (env : Int) : List RR := if aliveB rs env then listR rs env else []

theorem toldR_le (rs : RSt) (env : Int) : (toldR rs env).length ≤ rs.rights.length := by
  unfold toldR
  split
  · exact listTo_le rs env _
  · simp

theorem rc_toPH (l : List RR) : (l.map toPH).flatMap PH.rc = l.flatMap rcells := by
  induction l with
  | nil => rfl
  | cons x xs ih => simp only [List.map_cons, List.flatMap_cons, ih]; rfl

section
variable {own : Nat → Nat × Nat} {ip ir bw p r : Nat} {w w1 w2 : World} {rs rs' : RSt} {ps ps' : PSt} {nk : Nat} {vE vF vL vR vB vS vA vK : Value} {bs : List Nat} {o : LOp}

theorem prights_uni (h : PRep own ip w p ps vE vF vL) (hw : PWf ps) (hs : Sim rs ps) (env : Int) :
    Calls Try.prog 22 #[.pointer (some ⟨p, 0, none⟩), .int .i64 env] w fun e w' => ∃ v, e = .returned (.tuple #[v, .int .i64 (rawE rs env)]) ∧ Below w.heap.size w w' ∧ (∀ x, v.ownBlock = some x → w.heap.size ≤ x) ∧
      Row w' v 64 4 (toldR rs env).length ((toldR rs env).flatMap rcells) := by
  refine (prights_any h hw env).mono ?_
  rintro e w' ⟨v, hb, hn, hc⟩
  refine ⟨v, ?_, hb, hn, ?_⟩
  · rcases hc with ⟨ha, _, rfl⟩ | ⟨ha, _, rfl⟩ <;> simp [rawE, hs.alive, ha]
  · rcases hc with ⟨ha, rfl, _⟩ | ⟨ha, hrow, _⟩
    · simp only [toldR, hs.alive, ha]
      exact Row.nil _ _ _
    · simp only [toldR, hs.alive, ha, if_true]
      rw [hs.list env, rc_toPH, List.length_map] at hrow
      exact hrow
theorem rlist_uni (h : RefRep own ir w r rs nk vR vB vS vA vK bs) (hw : RWf rs nk) (env : Int) :
    Calls Try.prog 48 #[.pointer (some ⟨r, 0, none⟩), .int .i64 env] w fun e w' => ∃ v, e = .returned (.tuple #[v, .int .i64 (rawE rs env)]) ∧ Below w.heap.size w w' ∧ (∀ x, v.ownBlock = some x → w.heap.size ≤ x) ∧
      Row w' v 64 4 (toldR rs env).length ((toldR rs env).flatMap rcells) := by
  refine (rlist_any h hw env).mono ?_
  rintro e w' ⟨v, hb, hn, hc⟩
  refine ⟨v, ?_, hb, hn, ?_⟩
  · rcases hc with ⟨ha, _, rfl⟩ | ⟨ha, _, rfl⟩ <;> simp [rawE, ha]
  · rcases hc with ⟨ha, rfl, _⟩ | ⟨ha, hrow, _⟩
    · simp only [toldR, ha]
      exact Row.nil _ _ _
    · simp only [toldR, ha, if_true]
      exact hrow

theorem HoldOK.retag {own own' : Nat → Nat × Nat} {id : Nat} {w : World} {hb : Nat} {n : Int} {a : Nat} (h : HoldOK own id w hb n a) (ho : ∀ b, b < w.heap.size → (own b).1 = id → own' b = own b) : HoldOK own' id w hb n a := by
  have ht : ∀ {v : Value} {e k n : Nat} {xs : List Value} {j : Nat}, Row w v e k n xs → Tg own v (id, j) → Tg own' v (id, j) := fun hr ht b hb => (ho b (hr.lt b hb) (by rw [ht b hb])).trans (ht b hb)
  have hsa : ∀ {c : List Value} {k j : Nat} {x : Value}, SA own (id, j) w c k a x → SA own' (id, j) w c k a x := by
    rintro c k j x ⟨ao, n, cap, g, rfl, hn, h⟩
    exact ⟨ao, n, cap, g, rfl, hn, h.imp (fun h => h) fun ⟨h1, h2, h3, h4⟩ => ⟨h1, (ho g h3 (by rw [h2])).trans h2, h3, h4⟩⟩
  have hlt := h.lt
  obtain ⟨vI, vMI, vR, vMR, vE, vME, xI, xR, xE, h1, h2, h3, h4, ⟨i1, i2, i3⟩, ⟨r1, r2, r3⟩, ⟨e1, e2, e3⟩⟩ := h.ex
  exact ⟨⟨vI, vMI, vR, vMR, vE, vME, xI, xR, xE, h1, hsa h2, hsa h3, hsa h4, ⟨i1, ht i1 i2, fun x hx => hsa (i3 x hx)⟩, ⟨r1, ht r1 r2, fun x hx => hsa (r3 x hx)⟩, ⟨e1, ht e1 e2, fun x hx => hsa (e3 x hx)⟩⟩, (ho hb hlt (by rw [h.tm])).trans h.tm, h.am⟩

/-- What a list more leaves. -/
def ListRes (own : Nat → Nat × Nat) (ih bw : Nat) (w w' : World) (vP vH : Value) (hbs : List Nat) : Prop :=
  ∃ (own' : Nat → Nat × Nat) (g cap hb a : Nat) (m : Int), (∀ b, b < w.heap.size → own' b = own b) ∧ (∀ b, w.heap.size ≤ b → (own' b).1 = 0 ∨ (own' b).1 = 1 ∨ (own' b).1 = ih) ∧ Touch w.heap.size (fun b => b = bw ∨ vH.ownBlock = some b) w w' ∧
    Blk w' bw [vP, .slice (some ⟨g, 0, none⟩) (hbs.length + 1) cap] 47 ∧ Row w' (.slice (some ⟨g, 0, none⟩) (hbs.length + 1) cap) 73 1 (hbs.length + 1) ((hbs ++ [hb]).map hptr) ∧
    own' g = (1, 2) ∧ HoldOK own' ih w' hb m a

theorem hold_start (own : Nat → Nat × Nat) (ih : Nat) {w w3 : World} {v : Value} {n : Nat} {xs : List Value} (hb : w.heap.size ≤ w3.heap.size) (hrow : Row w3 v 64 4 n xs) (hn : ∀ x, v.ownBlock = some x → w.heap.size ≤ x) :
    ∃ own3 : Nat → Nat × Nat, (∀ b, b < w.heap.size → own3 b = own b) ∧ (∀ b, w.heap.size ≤ b → (own3 b).1 = 0 ∨ (own3 b).1 = ih) ∧
      HoldNew own3 ih (w3.alloc (.cells #[.slice none 0 0, .slice none 0 0, v, .slice none 0 0, .slice none 0 0, .slice none 0 0, .int .i64 0] 105)) w3.heap.size 0 (.slice none 0 0) v (.slice none 0 0) 0 n 0 [] xs [] := by
  have hlt := hrow.lt
  refine ⟨fun b => if b < w.heap.size then own b else if b = w3.heap.size then (ih, 0) else if v.ownBlock = some b then (ih, 3) else (0, 0), fun b hb => if_pos hb, fun b hb => ?_,
    Blk.new w3 [_, _, _, _, _, _, _] _, Row.nil _ _ _, hrow.alloc _, Row.nil _ _ _, ?_, Tg.nil _ _, ?_, Tg.nil _ _⟩
  · simp only [if_neg (show ¬ b < w.heap.size by omega)]
    split
    · exact .inr rfl
    · split
      · exact .inr rfl
      · exact .inl rfl
  · simp only [if_neg (show ¬ w3.heap.size < w.heap.size by omega), if_true]
  · intro b hb'
    have h1 := hn b hb'
    have h2 := hlt b hb'
    simp only [if_neg (show ¬ b < w.heap.size by omega), if_neg (show ¬ b = w3.heap.size by omega), hb', if_true]

theorem list_fin {own own3 own' : Nat → Nat × Nat} {ih bw : Nat} {w W w' : World} {vP vH : Value} {hbs : List Nat} {g cap hb a : Nat} {m : Int} (hbW : Below w.heap.size w W) (ho3 : ∀ b, b < w.heap.size → own3 b = own b) (ho' : ∀ b, b < W.heap.size → own' b = own3 b)
    (hih : ∀ b, (own b).1 ≠ ih) (hih1 : ih ≠ 1) (hih0 : ih ≠ 0) (hwl : bw < w.heap.size) (hHl : ∀ b, vH.ownBlock = some b → b < w.heap.size) (tH : Tg own vH (1, 2))
    (ht : Touch W.heap.size (fun b => (own3 b).1 = ih ∨ b = bw ∨ vH.ownBlock = some b) W w') (hw' : Blk w' bw [vP, .slice (some ⟨g, 0, none⟩) (hbs.length + 1) cap] 47)
    (hH' : Row w' (.slice (some ⟨g, 0, none⟩) (hbs.length + 1) cap) 73 1 (hbs.length + 1) ((hbs ++ [hb]).map hptr)) (hg : vH.ownBlock = some g ∨ W.heap.size ≤ g ∧ (own' g).1 = 0) (hok : HoldOK own' ih w' hb m a) :
    ListRes own ih bw w w' vP vH hbs := by
  have hs := hbW.size
  have hag : ∀ b, b < w.heap.size → own' b = own b := fun b hb => (ho' b (by omega)).trans (ho3 b hb)
  refine ⟨fun b => if b < w.heap.size then own b else if b = g then (1, 2) else if (own' b).1 = ih then own' b else (0, 0), g, cap, hb, a, m, fun b hb => if_pos hb, fun b hb => ?_, ?_, hw', hH', ?_, hok.retag (fun b hbl h => ?_)⟩
  · simp only [if_neg (show ¬ b < w.heap.size by omega)]
    split
    · exact .inr (.inl rfl)
    · split
      · rename_i h; exact .inr (.inr h)
      · exact .inl rfl
  · refine (Touch.of_below hbW _).trans (ht.mono hs (fun k hk h => ?_))
    rcases h with h | h
    · rw [ho3 k hk] at h; exact absurd h (hih k)
    · exact h
  · rcases hg with h | ⟨h, _⟩
    · simp only [if_pos (hHl g h)]; exact tH g h
    · simp only [if_neg (show ¬ g < w.heap.size by omega), if_true]
  · by_cases hl : b < w.heap.size
    · rw [hag b hl] at h; exact absurd h (hih b)
    · have hbg : b ≠ g := fun e => by
        subst e
        rcases hg with h1 | ⟨_, h1⟩
        · exact hl (hHl b h1)
        · rw [h1] at h; exact hih0 h.symm
      simp only [if_neg hl, if_neg hbg, if_pos h]

set_option maxHeartbeats 2000000 in
set_option maxRecDepth 100000 in
theorem rights_list (o : LOp) (hK : o.K = 6) {ih : Nat} {vP vH : Value} {hbs : List Nat}
    (hp : PRep own ip w p ps vE vF vL) (hr : RefRep own ir w r rs nk vR vB vS vA vK bs) (hs : Sim rs ps) (hwp : PWf ps) (hwr : RWf rs nk) (h0 : ∀ b, w.heap.size ≤ b → (own b).1 = 0) (hN : rs.rights.length ≤ 2932031007402)
    (hw : Blk w bw [vP, vH] 47) (hH : Row w vH 73 1 hbs.length (hbs.map hptr)) (hlen : (hbs.length + 1) * 8 ≤ 140737488355328)
    (tw : own bw = (1, 0)) (tH : Tg own vH (1, 2)) (hih : ∀ b, (own b).1 ≠ ih) (hih1 : ih ≠ 1) (hih0 : ih ≠ 0) :
    Calls Try.prog 27 #[.pointer (some ⟨bw, 0, none⟩), .agg #[.pointer (some ⟨p, 0, none⟩), .pointer (some ⟨r, 0, none⟩)], .agg #[.int .i64 o.K, .int .i64 o.M, .int .i64 o.A, .int .i64 o.B, .int .i64 o.C, .int .i64 o.D, .bool o.F]] w
      fun e w' => e = .returned (.bool true) ∧ ListRes own ih bw w w' vP vH hbs := by
  have e2 : (o.K == 2) = false := by simp [hK]
  have e3 : (o.K == 3) = false := by simp [hK]
  have e4 : (o.K == 4) = false := by simp [hK]
  have e5 : (o.K == 5) = false := by simp [hK]
  have e7 : (o.K == 7) = false := by simp [hK]
  have e8 : (o.K == 8) = false := by simp [hK]
  have e6 : (o.K == 6) = true := by simp [hK]
  clear hK
  have hz := boxed_size w p r o
  go_enter Try.func27, Try.ntmps27
  go_wp2_with fail
  refine (prights_uni (w := boxed w p r o) (hp.below (boxed_below w p r o)) hwp hs o.A).mono ?_
  rintro e w1 ⟨v, rfl, hb1, hn1, hrow1⟩
  have hx := (boxed_x w p r o).below hb1 (by omega)
  have hy := (boxed_o w p r o).below hb1 (by omega)
  have x1 := hx.cell 1
  have y2 := hy.cell 2
  simp only [pairCells, ptr, LOp.cells, List.getElem?_cons_succ, List.getElem?_cons_zero] at x1 y2
  go_wp2_with fail
  refine (rlist_uni (hr.below ((boxed_below w p r o).trans (hb1.mono (by omega)))) hwr o.A).mono ?_
  rintro e w2 ⟨v2, rfl, hb2, hn2, hrow2⟩
  go_wp2_with fail
  have hlt := toldR_le rs o.A
  refine (sameRights_any (hrow1.below hb2) hrow2 (by omega)).mono ?_
  rintro e w3 ⟨rfl, hb3⟩
  have hrow3 := (hrow1.below hb2).below hb3
  have hb23 : Below w1.heap.size w1 w3 := hb2.trans (hb3.mono hb2.size)
  have hbw3 : Below w.heap.size w w3 := (boxed_below w p r o).trans ((hb1.mono (by omega)).trans (hb23.mono (by have := hb1.size; omega)))
  have hs3 : w.heap.size + 2 ≤ w3.heap.size := by have h1 := hb1.size; have h2 := hb23.size; omega
  obtain ⟨ao, cap, hv, _⟩ := hrow3.shape'
  obtain ⟨n, hnn⟩ : ∃ n, (toldR rs o.A).length = n := ⟨_, rfl⟩
  rw [hnn] at hv hrow3 hlt
  subst hv
  clear x1 y2 hx hy hrow1 hrow2 hn2 hb2 hb3 hb1 hb23 hnn
  go_wp2_with fail
  obtain ⟨own3, ho3, hz3, hnew⟩ := hold_start own ih (w := w) (by omega) hrow3 (fun x hx => by have := hn1 x hx; omega)
  have hbW := hbw3.alloc (by omega) (.cells #[.slice none 0 0, .slice none 0 0, .slice ao n cap, .slice none 0 0, .slice none 0 0, .slice none 0 0, .int .i64 0] 105)
  have hwl := hw.lt
  refine (keep_any hnew (by omega) (by omega) (by omega) (hw.below hbW hwl) (hH.of fun b hb => hbW.block b (hH.lt b hb)) hlen (by rw [ho3 bw hwl, tw]; exact fun e => hih1 e.symm) (fun b hb => ?_)).mono ?_
  · have hbl := hH.lt b hb
    rw [ho3 b hbl, tH b hb]
    exact ⟨fun e => hih1 e.symm, fun e => by have := tH b hb; rw [e, tw] at this; simp at this⟩
  rintro e w4 ⟨rfl, own4, g, capg, m, ho4, ht4, hw4, hH4, hg4, hok4⟩
  have q1 : (rawE rs o.A == rawE rs o.A) = true := by simp
  go_wp2_with fail
  go_ret
  exact ⟨rfl, list_fin hbW ho3 ho4 hih hih1 hih0 hwl hH.lt tH ht4 hw4 hH4 hg4 hok4⟩
end
end Go.Proofs.Ytkonobbhohfjlaa
