import Derived.Test.YtinlkcmdbjcofaaM16
/-
  append: the elements that were there are as they were, in the old row too.
-/
namespace Go.Proofs.Ytinlkcmdbjcofaa
open Go.RowKit
set_option linter.unusedVariables false

section
variable {P : Program} (w : World)

theorem run_append_kept (t ty : TypeId) (e : TypeId) (i : TypeInfo) (z : Value) (size bytes : Nat) (ht : P.underlying t = some (.slice e)) (hi : P.info? e = some i) (hz : i.zero = some z)
    (hsize : i.size = size) (hby : i.bytes = bytes) (hzs : z.cells.size = size) (hsz : 0 < size)
    (v : Value) (n : Nat) (xs : List Value) (hown : w.ownsRow 0 e size v n xs)
    (ad : Addr) (m c : Nat) (news : List Value) (hl : news.length = m * size) (hnews : ∀ j u, news[j]? = some u → w.cell? (ad.add j) = some u) (h1 : ∀ u ∈ news, u.oneCell' = true)
    (hm : 0 < m) (h63 : n + m ≤ maxLen) (hbytes : (n + m) * bytes ≤ 140737488355328) (H : Nat) (hH : w.heap.size = H) :
    ∃ g cap w', (Builtin.append_ #[t, t] ty #[v, .slice (some ad) m c]).run P w = .ok (.slice (some ⟨g, 0, none⟩) (n + m) cap) w' ∧
      w'.ownsRow 0 e size (.slice (some ⟨g, 0, none⟩) (n + m) cap) (n + m) (xs ++ news) ∧ w.grownBy w' v.ownBlock ∧ (v.ownBlock = some g ∨ g = H) ∧ g < w'.heap.size ∧
      (∀ b, v.ownBlock = some b → ∀ j, j < n * size → w'.cell? ⟨b, j, none⟩ = w.cell? ⟨b, j, none⟩) := by
  obtain ⟨g, cap, w', hr, h2, h3, h4, h5⟩ := run_append_lies (P := P) w t ty 0 e i z size bytes ht hi hz hsize hby hzs hsz v n xs hown ad m c news hl hnews h1 hm h63 hbytes (Nat.zero_le _) H hH
  refine ⟨g, cap, w', hr, h2, h3, h4, h5, ?_⟩
  intro b hb j hj
  rcases hown.2 with ⟨rfl, _⟩ | ⟨g0, cap0, cur, rfl, _, hg, hnc, hcm, hcs, htake⟩
  · simp [Value.ownBlock] at hb
  · have hgb : g0 = b := by simpa [Value.ownBlock] using hb
    subst hgb
    subst hsize
    by_cases hroom : n + m ≤ cap0
    · have hfit : n * i.size + news.length ≤ cur.size := by rw [hl, hcs, ← Nat.add_mul]; exact Nat.mul_le_mul_right _ hroom
      have hr2 := run_append_room (P := P) w t ty e i ht hi g0 n cap0 cur hg ad m c news hl hnews h1 hroom hfit
      rw [hr] at hr2
      have hw : w' = _ := (Result.ok.inj hr2).2
      rw [hw, cell_of_row _ g0 j _ e (0, 0) (setRow_heap w g0 cur _ e _ hg), cell_of_row w g0 j cur e (0, 0) hg]
      have : n * i.size ≤ cur.toList.length := by simp; omega
      simp only [List.getElem?_toArray]
      rw [List.append_assoc, List.getElem?_append_left (by rw [List.length_take]; omega), List.getElem?_take, if_pos hj]
      simp
    · have holds : ∀ j u, xs[j]? = some u → w.cell? ((⟨g0, 0, none⟩ : Addr).add j) = some u := hown.cells (g := g0) rfl
      have hsm : n + m ≤ 9223372036854775807 := by simp only [maxLen] at h63; omega
      have hr2 := run_append_grow (P := P) w t ty e i z ht hi hz ⟨g0, 0, none⟩ n cap0 xs hown.1 holds ad m c news hl hnews (by omega) (by omega) (growslice_fits (by omega) (by rw [hby]; exact hbytes))
      rw [hr] at hr2
      have hw : w' = _ := (Result.ok.inj hr2).2
      have hlt : g0 < w.heap.size := (Array.getElem?_eq_some_iff.1 hg).1
      have hb : w'.heap[g0]? = w.heap[g0]? := by
        rw [hw]
        exact Below.heap_alloc w.drew _ g0 hlt
      exact World.cell?_of_block (a := ⟨g0, j, none⟩) hb

theorem wpList_append_kept {ops : Array Oper} {rest : List Oper} {o : Oper} {a : Act} {Q : Exit → Act → World → Prop} (hgd : o.guard = none) (s x : Operand) (t : TypeId)
    (ho : o.op = .call { callee := .builtin .append, args := #[s, x], argTypes := #[t, t] })
    (e : TypeId) (i : TypeInfo) (z : Value) (size bytes : Nat) (ht : P.underlying t = some (.slice e)) (hi : P.info? e = some i) (hz : i.zero = some z)
    (hsize : i.size = size) (hby : i.bytes = bytes) (hzs : z.cells.size = size) (hsz : 0 < size)
    (v : Value) (n : Nat) (xs : List Value) (hs : a.eval s = v) (hown : w.ownsRow 0 e size v n xs)
    (ad : Addr) (m c : Nat) (news : List Value) (hx : a.eval x = .slice (some ad) m c) (hl : news.length = m * size) (hnews : ∀ j u, news[j]? = some u → w.cell? (ad.add j) = some u) (h1 : ∀ u ∈ news, u.oneCell' = true)
    (hm : 0 < m) (h63 : n + m ≤ maxLen) (hbytes : (n + m) * bytes ≤ 140737488355328) (H : Nat) (hH : w.heap.size = H)
    (h : ∀ g cap w', w'.ownsRow 0 e size (.slice (some ⟨g, 0, none⟩) (n + m) cap) (n + m) (xs ++ news) → w.grownBy w' v.ownBlock → (v.ownBlock = some g ∨ g = H) → g < w'.heap.size →
      (∀ b, v.ownBlock = some b → ∀ j, j < n * size → w'.cell? ⟨b, j, none⟩ = w.cell? ⟨b, j, none⟩) → wpList P ops Q rest (a.put o.dst (.slice (some ⟨g, 0, none⟩) (n + m) cap)) w') : wpList P ops Q (o :: rest) a w := by
  refine wpList_plain hgd fun K hK => ?_
  obtain ⟨g, cap, w', hr, h2, h3, h4, h5, h6⟩ := run_append_kept (P := P) w t o.type e i z size bytes ht hi hz hsize hby hzs hsz v n xs hown ad m c news hl hnews h1 hm h63 hbytes H hH
  unfold Oper.wp execOp
  simp only [ho, resolve, invoke, builtin, Sem.run_bind, Sem.run_pure, Result.andThen_ok, List.map_toArray, List.map_cons, List.map_nil, hs, hx, hr]
  exact hK _ _ (h g cap w' h2 h3 h4 h5 h6)
end
end Go.Proofs.Ytinlkcmdbjcofaa

/-
  The lists that came out, and how their owner has marked them.
-/
namespace Go.Proofs.Ytinlkcmdbjcofaa
open Go.RowKit
set_option linter.unusedVariables false

theorem Row.cellAt' {w : World} {e k n g cap : Nat} {xs : List Value} (h : Row w (.slice (some ⟨g, 0, none⟩) n cap) e k n xs) (j : Nat) (hj : j < n * k) : w.cell? ⟨g, j, none⟩ = xs[j]? := World.ownsRow.cellAt h j hj
theorem Row.shape' {w : World} {v : Value} {e k n : Nat} {xs : List Value} (h : Row w v e k n xs) : ∃ ao cap, v = .slice ao n cap ∧ (n = 0 ∨ ∃ g, ao = some ⟨g, 0, none⟩) := by
  obtain ⟨ao, cap, g, hv, hao, _⟩ := h.view
  refine ⟨ao, cap, hv, ?_⟩
  rcases Nat.eq_zero_or_pos n with h0 | h0
  · exact .inl h0
  · exact .inr ⟨g, hao h0⟩

/-- A slice all of whose elements hold the k cells c; at most a of them; its row bears the mark t. -/
def SA (own : Nat → Nat × Nat) (t : Nat × Nat) (w : World) (c : List Value) (k a : Nat) (x : Value) : Prop :=
  ∃ ao n cap g, x = .slice ao n cap ∧ n ≤ a ∧ (n = 0 ∨ (ao = some ⟨g, 0, none⟩ ∧ own g = t ∧ g < w.heap.size ∧ ∀ i j, i < n → j < k → w.cell? ⟨g, i * k + j, none⟩ = c[j]?))

theorem SA.of {own own' : Nat → Nat × Nat} {t : Nat × Nat} {w w' : World} {c : List Value} {k a : Nat} {x : Value} (h : SA own t w c k a x) (ho : ∀ b, b < w.heap.size → own' b = own b) (hs : w.heap.size ≤ w'.heap.size)
    (hb : ∀ b, b < w.heap.size → own b = t → ∀ j, j < a * k → w'.cell? ⟨b, j, none⟩ = w.cell? ⟨b, j, none⟩) : SA own' t w' c k a x := by
  obtain ⟨ao, n, cap, g, rfl, hn, h⟩ := h
  refine ⟨ao, n, cap, g, rfl, hn, ?_⟩
  rcases h with h | ⟨h1, h2, h3, h4⟩
  · exact Or.inl h
  refine Or.inr ⟨h1, (ho g h3).trans h2, by omega, fun i j hi hj => ?_⟩
  rw [hb g h3 h2 _ ?_]
  · exact h4 i j hi hj
  · have : i * k + j < (i + 1) * k := by rw [Nat.add_mul]; omega
    have : (i + 1) * k ≤ a * k := Nat.mul_le_mul_right k (by omega)
    omega
theorem SA.mono {own : Nat → Nat × Nat} {t : Nat × Nat} {w : World} {c : List Value} {k a a' : Nat} {x : Value} (h : SA own t w c k a x) (ha : a ≤ a') : SA own t w c k a' x := by
  obtain ⟨ao, n, cap, g, rfl, hn, h⟩ := h
  exact ⟨ao, n, cap, g, rfl, by omega, h⟩

def mI (n : Int) : List Value := [.int .i64 n]
def mR (n : Int) : List Value := [.int .i64 n, .int .i64 0, .int .i64 0, .bool false]
def mE (n : Int) : List Value := [.bool false, .int .i64 n, .int .i64 0, .int .i64 0, .bool false]

section
variable {own : Nat → Nat × Nat} {t : Nat × Nat} {w : World}

theorem SA.shape {x : Value} {c : List Value} {k a : Nat} (h : SA own t w c k a x) : ∃ ao n cap, x = .slice ao n cap := by
  obtain ⟨ao, n, cap, _, h, _⟩ := h
  exact ⟨ao, n, cap, h⟩

end
end Go.Proofs.Ytinlkcmdbjcofaa

/-
  'backed' and 'sound'.
-/
namespace Go.Proofs.Ytinlkcmdbjcofaa
open Go.RowKit
set_option linter.unusedVariables false
attribute [local go_sem ↓] Go.wp_at_zero Go.wp_at_succ

section
variable {M : MT} {w0 w w' : World} {m i : Nat} {own : Nat → Nat × Nat} {s s' : RSt}

set_option maxHeartbeats 4000000 in
set_option maxRecDepth 100000 in
theorem backed_any (P : Api M) (h : St M w0 m i own s w) (hi : (i + 2) * 48 ≤ 140737488355328) (x : Ent) (hx : owned s.rights x.env x.fr x.wr = true) :
    Calls Try.prog 32 #[.pointer (some ⟨m, 0, none⟩), .agg #[.bool x.used, .int .i64 x.env, .int .i64 x.page, .int .i64 x.fr, .bool x.wr]] w fun e w' => e = .returned (.bool true) ∧ Below w.heap.size w w' := by
  obtain ⟨j, r, hr, hl, he, hf, hwr⟩ := owned_ex.1 hx
  have hen := h.hok.inv.env j r hr
  have hne4 := h.hok.fix.ne
  have hraw := liveE_alive (h.hinv.alv _ _ hr hl)
  rw [he] at hraw hen
  have hal : aliveB s x.env = true := by rw [← he]; exact h.hinv.alv j r hr hl
  have htold : toldR s x.env = listR s x.env := by unfold toldR; rw [hal]; rfl
  have hat := listR_at hr hl he
  obtain ⟨k0, hk0⟩ : ∃ k0, (listTo s x.env j).length = k0 := ⟨_, rfl⟩
  rw [hk0] at hat
  have hkl : k0 < (listR s x.env).length := (List.getElem?_eq_some_iff.1 hat).1
  have hle := toldR_le s x.env
  rw [htold] at hle
  have hlen := h.len
  have HAT : Hid ((listR s x.env)[k0]? = some r) := hat
  have HR : Hid (r.env = x.env ∧ r.fr = x.fr ∧ (x.wr = true → r.wr = true)) := ⟨he, hf, hwr⟩
  clear hat hr hl he hf hwr hx hk0 hal
  have hW0 : Below w.heap.size w (w.alloc (.cells #[.bool x.used, .int .i64 x.env, .int .i64 x.page, .int .i64 x.fr, .bool x.wr] 47)) := (Below.refl _ _).alloc (Nat.le_refl _) _
  have hs0 := h.below P hW0
  go_enter Try.func32, Try.ntmps32
  go_wp2_with fail
  refine (hs0.rights P hi x.env ⟨by omega, by omega⟩).mono ?_
  rintro e w1 ⟨v, rfl, hb1, -, hrow⟩
  rw [hraw]
  rw [htold] at hrow
  clear htold hraw
  obtain ⟨ao, cap, hv, hcase⟩ := hrow.shape'
  obtain ⟨n, hn⟩ : ∃ n, (listR s x.env).length = n := ⟨_, rfl⟩
  have HN : Hid ((listR s x.env).length = n) := hn
  rw [hn] at hv hcase hrow hkl hle
  clear hn
  subst hv
  have hbx := (Blk.new w [.bool x.used, .int .i64 x.env, .int .i64 x.page, .int .i64 x.fr, .bool x.wr] 47).below hb1 (by simp)
  have hsz := hbx.lt
  have hbw1 : Below w.heap.size w w1 := hW0.trans (hb1.mono (by simp))
  rcases hcase with h0 | ⟨g, rfl⟩
  · omega
  go_wp2_with fail
  go_loopg [7] n (fun k y wr => ∃ q : Nat, y = .int .i64 q ∧ q + k = n ∧ q ≤ k0 ∧ Below w1.heap.size w1 wr)
  case atStart => exact ⟨0, rfl, by omega, by omega, Below.refl _ _⟩
  case round =>
    obtain ⟨q, rfl, hk, hqk, hbl⟩ := hrel
    have HK : Hid (q + gk = n) := hk
    clear hk
    have hqn : q < n := by omega
    obtain ⟨y, hy⟩ : ∃ y, (listR s x.env)[q]? = some y := ⟨(listR s x.env)[q]'(by rw [HN.out]; exact hqn), by simp⟩
    have hrow2 := hrow.below hbl
    have hbx2 := hbx.below hbl hbx.lt
    have d1 := hbx2.cell 1
    have d3 := hbx2.cell 3
    have d4 := hbx2.cell 4
    simp at d1 d3 d4
    have cc : ∀ j, j < 4 → wr.cell? ⟨g, q * 4 + j, none⟩ = (rcells y)[j]? := fun j hj => by rw [hrow2.cellAt' _ (by omega), flat_get rcells 4 (fun _ => rfl) (listR s x.env) q j y hy hj]
    have u1 := (cc 1 (by omega)).trans (show _ = some (.int .i64 y.env) from rfl)
    have u2 := (cc 2 (by omega)).trans (show _ = some (.int .i64 y.fr) from rfl)
    have u3 := (cc 3 (by omega)).trans (show _ = some (.bool y.wr) from rfl)
    have hq0 : (0 : Int) ≤ (q : Int) := by omega
    have hq1 : (q : Int) < (n : Int) := by omega
    have HY : Hid (q = k0 → y = r) := fun e => by
      have := HAT.out
      rw [← e, hy] at this
      simpa using this
    have fin : Below w.heap.size w wr := hbw1.trans (hbl.mono (by omega))
    clear cc hy hrow2 hbx2
    cases z1 : (y.env == x.env)
    · have hlt : q < k0 := by
        rcases Nat.lt_or_ge q k0 with h | h
        · exact h
        · have := HY.out (by omega); rw [this, HR.out.1] at z1; simp at z1
      go_wp2_with fail
      go_quiet (fail)
      go_wp2_with fail
      go_roundg (gk - 1)
      case measure => have := HK.out; omega
      case rel => exact ⟨q + 1, by go_num, by have := HK.out; omega, by omega, below_drewN hbl _⟩
    · cases z2 : (y.fr == x.fr)
      · have hlt : q < k0 := by
          rcases Nat.lt_or_ge q k0 with h | h
          · exact h
          · have := HY.out (by omega); rw [this, HR.out.2.1] at z2; simp at z2
        go_wp2_with fail
        go_quiet (fail)
        go_wp2_with fail
        go_roundg (gk - 1)
        case measure => have := HK.out; omega
        case rel => exact ⟨q + 1, by go_num, by have := HK.out; omega, by omega, below_drewN hbl _⟩
      · cases z3 : y.wr
        · rw [z3] at u3
          rcases (show x.wr = false ∨ x.wr = true by cases x.wr <;> simp) with z4 | z4
          · rw [z4] at d4
            clear z3 z4
            go_wp2_with fail
            go_quiet (fail)
            go_wp2_with fail
            go_ret
            exact ⟨rfl, below_drewN fin _⟩
          · rw [z4] at d4
            have hlt : q < k0 := by
              rcases Nat.lt_or_ge q k0 with h | h
              · exact h
              · have e := HY.out (by omega); have := HR.out.2.2 z4; rw [← e, z3] at this; simp at this
            clear z3 z4
            go_wp2_with fail
            go_quiet (fail)
            go_wp2_with fail
            go_roundg (gk - 1)
            case measure => have := HK.out; omega
            case rel => exact ⟨q + 1, by go_num, by have := HK.out; omega, by omega, below_drewN hbl _⟩
        · rw [z3] at u3
          clear z3
          go_wp2_with fail
          go_quiet (fail)
          go_wp2_with fail
          go_ret
          exact ⟨rfl, below_drewN fin _⟩
end
end Go.Proofs.Ytinlkcmdbjcofaa

/-
  'sound': each entry is backed, and the only one of its environment and page.
-/
namespace Go.Proofs.Ytinlkcmdbjcofaa
open Go.RowKit
set_option linter.unusedVariables false
attribute [local go_sem ↓] Go.wp_at_zero Go.wp_at_succ

section
variable {M : MT} {w0 w w' : World} {m i : Nat} {own : Nat → Nat × Nat} {s s' : RSt}

set_option maxHeartbeats 4000000 in
set_option maxRecDepth 100000 in
theorem sound_any (P : Api M) (h : St M w0 m i own s w) (hi : (i + 2) * 48 ≤ 140737488355328) (a c : Nat) :
    Calls Try.prog 13 #[.pointer (some ⟨m, 0, none⟩), .agg #[.int .i64 a, .int .i64 s.ns, .int .i64 c]] w fun e w' => e = .returned (.bool true) ∧ Below w.heap.size w w' := by
  have hW0 : Below w.heap.size w (w.alloc (.cells #[.int .i64 a, .int .i64 s.ns, .int .i64 c] 28)) := (Below.refl _ _).alloc (Nat.le_refl _) _
  have hs0 := h.below P hW0
  have hsl := h.hok.fix.sl
  have hns := h.hok.ns
  go_enter Try.func13, Try.ntmps13
  go_wp2_with fail
  refine (hs0.table P hi).mono ?_
  rintro e w1 ⟨v, rfl, hb1, -, hrow⟩
  have hbx := (Blk.new w [.int .i64 a, .int .i64 s.ns, .int .i64 c] 28).below hb1 (by simp)
  have d1 := hbx.cell 1
  simp at d1
  have hsz := hbx.lt
  have hbw1 : Below w.heap.size w w1 := hW0.trans (hb1.mono (by simp))
  obtain ⟨ao, cap, hv, hcase⟩ := hrow.shape'
  obtain ⟨n, hn⟩ : ∃ n, s.slots.length = n := ⟨_, rfl⟩
  have HN : Hid (s.slots.length = n) := hn
  rw [hn] at hv hcase hrow hsl hns
  subst hv
  rw [← hns] at d1
  have hnn : ((n : Int) != (n : Int)) = false := by simp
  clear hn hns
  go_wp2_with fail
  go_loopg [6] n (fun k y wr => ∃ q : Nat, y = .int .i64 q ∧ q + k = n ∧ Below w1.heap.size w1 wr)
  case atStart => exact ⟨0, rfl, by omega, Below.refl _ _⟩
  case round =>
    obtain ⟨q, rfl, hk, hbl⟩ := hrel
    have HK : Hid (q + gk = n) := hk
    have hqn : q ≤ n := by omega
    clear hk
    have fin : Below w.heap.size w wr := hbw1.trans (hbl.mono (by omega))
    by_cases hlt : q < n
    · obtain ⟨x, hx⟩ : ∃ x, s.slots[q]? = some x := ⟨s.slots[q]'(by rw [HN.out]; exact hlt), by simp⟩
      rcases hcase with h0 | ⟨g, rfl⟩
      · omega
      have hrow2 := hrow.below hbl
      have cc : ∀ j, j < 5 → wr.cell? ⟨g, q * 5 + j, none⟩ = (Ent.cells x)[j]? := fun j hj => by rw [hrow2.cellAt' _ (by omega), flat_get Ent.cells 5 (fun _ => rfl) s.slots q j x hx hj]
      have u0 := (cc 0 (by omega)).trans (show _ = some (.bool x.used) from rfl)
      have u1 := (cc 1 (by omega)).trans (show _ = some (.int .i64 x.env) from rfl)
      have u2 := (cc 2 (by omega)).trans (show _ = some (.int .i64 x.page) from rfl)
      have u3 := (cc 3 (by omega)).trans (show _ = some (.int .i64 x.fr) from rfl)
      have u4 := (cc 4 (by omega)).trans (show _ = some (.bool x.wr) from rfl)
      simp only [Nat.add_zero] at u0
      have hq0 : (0 : Int) ≤ (q : Int) := by omega
      have hq1 : (q : Int) < (n : Int) := by omega
      have HX : Hid (s.slots[q]? = some x) := hx
      clear cc
      cases hu : x.used
      · have hem := h.hok.emp q x hx hu
        subst hem
        simp only [Ent.empty] at u0 u1 u2 u3 u4
        clear hx hu HX
        go_wp2_with fail
        go_roundg (gk - 1)
        case measure => have := HK.out; omega
        case rel => exact ⟨q + 1, by go_num, by have := HK.out; omega, hbl⟩
      · obtain ⟨p0, p1, hown⟩ := h.hok.ent q x hx hu
        have hbk := backed_any P (h.below P fin) hi x hown
        rw [hu] at hbk u0
        have HU : Hid (x.used = true) := hu
        have y1 : decide (x.page < 0) = false := decide_eq_false (by omega)
        have y2 : decide (16 ≤ x.page) = false := decide_eq_false (by omega)
        clear hx hu hown
        go_wp2_with fail
        refine hbk.mono ?_
        rintro e w2 ⟨rfl, hb2⟩
        have hbl2 : Below w1.heap.size w1 w2 := hbl.trans (hb2.mono hbl.size)
        have hrow3 := hrow.below hbl2
        have cc : ∀ j, j < 5 → w2.cell? ⟨g, q * 5 + j, none⟩ = (Ent.cells x)[j]? := fun j hj => by rw [hrow3.cellAt' _ (by omega), flat_get Ent.cells 5 (fun _ => rfl) s.slots q j x HX.out hj]
        have t2 := (cc 2 (by omega)).trans (show _ = some (.int .i64 x.page) from rfl)
        clear cc u0 u1 u2 u3 u4 hbk fin
        go_wp2_with fail
        obtain ⟨wo, rfl⟩ : ∃ wo : World, wo = wr := ⟨_, rfl⟩
        obtain ⟨go, rfl⟩ : ∃ go : Nat, go = gk := ⟨_, rfl⟩
        go_loopg [8] q (fun k y wr => ∃ z : Nat, y = .int .i64 z ∧ z + k = q ∧ Below w1.heap.size w1 wr)
        case atStart => exact ⟨0, rfl, by omega, hbl2⟩
        case round =>
          clear hbl2 hrow3 t2 hbl
          obtain ⟨z, rfl, hk, hbl⟩ := hrel
          have HC : Hid (z + gk = q) := hk
          have hzq : z ≤ q := by omega
          clear hk
          by_cases hzt : z < q
          · obtain ⟨f, hf⟩ : ∃ f, s.slots[z]? = some f := ⟨s.slots[z]'(by rw [HN.out]; omega), by simp⟩
            have hrow4 := hrow.below hbl
            have cc : ∀ j, j < 5 → wr.cell? ⟨g, q * 5 + j, none⟩ = (Ent.cells x)[j]? := fun j hj => by rw [hrow4.cellAt' _ (by omega), flat_get Ent.cells 5 (fun _ => rfl) s.slots q j x HX.out hj]
            have dd : ∀ j, j < 5 → wr.cell? ⟨g, z * 5 + j, none⟩ = (Ent.cells f)[j]? := fun j hj => by rw [hrow4.cellAt' _ (by omega), flat_get Ent.cells 5 (fun _ => rfl) s.slots z j f hf hj]
            have u1 := (cc 1 (by omega)).trans (show _ = some (.int .i64 x.env) from rfl)
            have u2 := (cc 2 (by omega)).trans (show _ = some (.int .i64 x.page) from rfl)
            have v0 := (dd 0 (by omega)).trans (show _ = some (.bool f.used) from rfl)
            have v1 := (dd 1 (by omega)).trans (show _ = some (.int .i64 f.env) from rfl)
            have v2 := (dd 2 (by omega)).trans (show _ = some (.int .i64 f.page) from rfl)
            simp only [Nat.add_zero] at v0
            have hz0 : (0 : Int) ≤ (z : Int) := by omega
            have hz1 : (z : Int) < (n : Int) := by omega
            have hz2 : (z : Int) < (q : Int) := by omega
            have HF : Hid (f.used = true → f.env = x.env → f.page = x.page → False) := fun e1 e2 e3 => by
              have := h.hok.uni z q f x hf HX.out e1 HU.out e2 e3
              omega
            clear cc dd hf hrow4
            cases hfu : f.used
            · rw [hfu] at v0
              clear hfu HF
              go_wp2_with fail
              go_quiet (fail)
              go_wp2_with fail
              go_roundg (gk - 1)
              case measure => have := HC.out; omega
              case rel => exact ⟨z + 1, by go_num, by have := HC.out; omega, below_drewN hbl _⟩
            · rw [hfu] at v0
              cases e1 : (f.env == x.env)
              · clear HF hfu
                go_wp2_with fail
                go_quiet (fail)
                go_wp2_with fail
                go_roundg (gk - 1)
                case measure => have := HC.out; omega
                case rel => exact ⟨z + 1, by go_num, by have := HC.out; omega, below_drewN hbl _⟩
              · have e2 : (f.page == x.page) = false := by
                  rw [beq_eq_false_iff_ne]
                  exact fun e => HF.out hfu (by simpa using e1) e
                clear HF hfu
                go_wp2_with fail
                go_quiet (fail)
                go_wp2_with fail
                go_roundg (gk - 1)
                case measure => have := HC.out; omega
                case rel => exact ⟨z + 1, by go_num, by have := HC.out; omega, below_drewN hbl _⟩
          · obtain rfl : z = q := by omega
            go_wp2_with fail
            go_roundg (go - 1)
            case measure => have := HK.out; omega
            case rel => exact ⟨z + 1, by go_num, by have := HK.out; omega, hbl⟩
    · obtain rfl : q = n := by omega
      go_wp2_with fail
      go_ret
      exact ⟨rfl, fin⟩
end
end Go.Proofs.Ytinlkcmdbjcofaa

/-
  A new machine, and its first right.
-/
namespace Go.Proofs.Ytinlkcmdbjcofaa
open Go.RowKit
set_option linter.unusedVariables false

theorem St.fresh {M : MT} {w0 w : World} {m a b c : Nat} {f : Nat → Option Nat} (hm : NewF M w0 w m f (RSt.fresh a b c)) (hb : Below w0.heap.size w0 w) (ha : a ≤ 16) (hb1 : 1 ≤ b) (hb8 : b ≤ 8) (hc : c ≤ 4) : ∃ own, St M w0 m 0 own (RSt.fresh a b c) w := by
  refine ⟨fun x => match f x with | some j => (2, j) | none => (0, 0), hm.2 _ 2 (fun b j hj => by simp only [hj]), sok_fresh ha hb1 hb8 hc, hinv_fresh a b c, by simp [RSt.fresh], fun x hx => ?_, fun x hx => ?_, hb⟩
  · cases hf : f x with
    | none => rfl
    | some j => have := (hm.1 x j hf).1; omega
  · cases hf : f x with
    | none => rfl
    | some j => have := (hm.1 x j hf).2; omega

theorem fresh_raw {a b c : Nat} {env : Int} (h0 : 0 ≤ env) (h1 : env < c) : rawE (RSt.fresh a b c) env = 0 := by
  refine (rawE_nok (nok_fresh a b c env)).trans (liveE_alive ?_)
  unfold aliveB
  have : (RSt.fresh a b c).alive[env.toNat]? = some true := by simp only [RSt.fresh, List.getElem?_replicate]; rw [if_pos (by omega)]
  rw [this]
  simp only [RSt.fresh, h0, h1, decide_true, Option.getD_some, Bool.and_self]

theorem fresh_alloc {a b c : Nat} (ha : 1 ≤ a) {env : Int} (h0 : 0 ≤ env) (h1 : env < c) : ∃ s1, allocR (RSt.fresh a b c) env = ((1, 0), s1) ∧ s1.rights = [⟨1, env, 0, true, -1, false⟩] ∧ s1.slots = (RSt.fresh a b c).slots ∧ s1.alive = (RSt.fresh a b c).alive ∧ s1.ne = c ∧ s1.nf = a ∧ s1.ns = b ∧ s1.bytes = (RSt.fresh a b c).bytes ∧ s1.kept = (RSt.fresh a b c).kept := by
  have hl : leastFree (RSt.fresh a b c) = some 0 := by
    unfold leastFree
    have : (RSt.fresh a b c).nf = (a - 1) + 1 := by show a = _; omega
    rw [this, List.range_succ_eq_map, List.find?_cons]
    have : freeB (RSt.fresh a b c) 0 = true := by
      unfold freeB owned RSt.fresh
      simp
    rw [this]
  have hb : (RSt.fresh a b c).bytes.set 0 [0, 0, 0, 0] = (RSt.fresh a b c).bytes := by
    apply List.ext_getElem?
    intro i
    rw [List.getElem?_set]
    split
    · rename_i h
      subst h
      split
      · simp only [RSt.fresh, List.getElem?_replicate]; rw [if_pos (by omega)]
      · rename_i h2; simp [RSt.fresh] at h2; omega
    · rfl
  unfold allocR firstS
  rw [fresh_raw h0 h1, hl]
  have hcn : cnt (RSt.fresh a b c).rights < 32 := by simp [RSt.fresh, cnt, cntTo]
  simp only [ne_eq, not_true_eq_false, if_false, if_pos hcn, Int.natCast_zero]
  refine ⟨_, rfl, ?_, rfl, rfl, rfl, rfl, rfl, ?_, rfl⟩
  · simp [addR, RSt.fresh]
  · exact hb
theorem first_right {s : RSt} {fr : Int} (hr : s.rights = [⟨1, 0, fr, true, -1, false⟩]) (hI : RInv s) (hH : HInv s) : s.rights[0]? = some ⟨1, 0, fr, true, -1, false⟩ ∧ lv s.rights 0 = true ∧ rightE s 0 1 = (((0 : Nat) : Int), (0 : Int)) ∧ rawE s 0 = 0 := by
  have h0 : s.rights[0]? = some ⟨1, 0, fr, true, -1, false⟩ := by rw [hr]; rfl
  have hl : lv s.rights ((0 : Nat) : Int) = true := by
    rw [lv_step hI.ord h0]
    simp only [Bool.not_false, Bool.true_and]
    exact lv_neg (by omega)
  have h1 := rightE_ok hI hH h0 hl
  have h2 := hH.raw h0 hl
  refine ⟨h0, hl, ?_, h2⟩
  have e : (((0 : Nat) : Int) + 1) = 1 := by omega
  rw [e] at h1
  exact h1
end Go.Proofs.Ytinlkcmdbjcofaa

/-
  'Backed' itself.
-/
namespace Go.Proofs.Ytinlkcmdbjcofaa
open Go.RowKit
set_option linter.unusedVariables false
attribute [local go_sem ↓] Go.wp_at_zero Go.wp_at_succ

set_option maxHeartbeats 4000000 in
set_option maxRecDepth 100000 in
theorem backedlaw_any {M : MT} (P : Api M) (x y z : Int) (hx0 : -9223372036854775808 ≤ x) (hx1 : x ≤ 9223372036854775807) (hy0 : -9223372036854775808 ≤ y) (hy1 : y ≤ 9223372036854775807) (hz0 : -9223372036854775808 ≤ z) (hz1 : z ≤ 9223372036854775807)
    (ao : Option Addr) (len cap : Nat) (w : World) (ops : List LStep) (hl : ops.length = len) (hok : ∀ (i : Nat) (o : LStep), ops[i]? = some o → o.i64) (hsz : (len + 4) * 48 ≤ 140737488355328)
    (ho : (len = 0) ∨ ∃ b off, ao = some ⟨b, off, none⟩ ∧ b < w.heap.size ∧ ∀ (i : Nat) (o : LStep), ops[i]? = some o → ∀ (j : Nat) (v : Value), o.cells[j]? = some v → w.cell? ⟨b, off + i * 6 + j, none⟩ = some v) :
    Calls Try.prog 4 #[.agg #[.int .i64 x, .int .i64 y, .int .i64 z], .slice ao len cap] w fun e w' => e = .returned (.bool true) ∧ Below w.heap.size w w' := by
  have HX : Hid ((len = 0) ∨ ∃ b off, ao = some ⟨b, off, none⟩ ∧ b < w.heap.size ∧ ∀ (i : Nat) (o : LStep), ops[i]? = some o → ∀ (j : Nat) (v : Value), o.cells[j]? = some v → w.cell? ⟨b, off + i * 6 + j, none⟩ = some v) := ho
  have HL : Hid (ops.length = len) := hl
  have HO : Hid (∀ (i : Nat) (o : LStep), ops[i]? = some o → o.i64) := hok
  clear ho hl hok
  go_enter Try.func4, Try.ntmps4
  go_wp2_with fail
  refine (built_any P x y z hx0 hx1 hy0 hy1 hz0 hz1 _).mono ?_
  rintro e w1 ⟨m, f, rfl, hb1, hm1⟩
  have hbx := (Blk.new w [.int .i64 x, .int .i64 y, .int .i64 z] 23).below hb1 (by simp)
  have e0 := hbx.cell 0
  have e1 := hbx.cell 1
  have e2 := hbx.cell 2
  simp at e0 e1 e2
  have hs1 : w.heap.size < w1.heap.size := hbx.lt
  have hbw1 : Below w.heap.size w w1 := ((Below.refl _ _).alloc (Nat.le_refl _) _).trans (hb1.mono (by simp))
  have hmm : NewF M w w1 m f (RSt.fresh (cfA x) (cfB y) (cfC z)) := hm1.low (by simp)
  clear hb1 hm1
  go_wp2_with fail
  refine (config_any x y z hx0 hx1 hy0 hy1 hz0 hz1 _).mono ?_
  rintro e w2 ⟨rfl, hb2⟩
  have la := cfA_le x
  have lb := cfB_le y
  have lc := cfC_le z
  have la1 : 1 ≤ cfA x := by unfold cfA; omega
  have lb1 : 1 ≤ cfB y := by unfold cfB; omega
  have lc1 : 2 ≤ cfC z := by unfold cfC; omega
  obtain ⟨fa, hfa⟩ : ∃ v, cfA x = v := ⟨_, rfl⟩
  obtain ⟨fb, hfb⟩ : ∃ v, cfB y = v := ⟨_, rfl⟩
  obtain ⟨fc, hfc⟩ : ∃ v, cfC z = v := ⟨_, rfl⟩
  rw [hfa, hfb, hfc]
  rw [hfa] at la la1 hmm
  rw [hfb] at lb lb1 hmm
  rw [hfc] at lc lc1 hmm
  clear hfa hfb hfc hbx e0 e1 e2
  have hs2 := hb2.size
  have hbw2 : Below w.heap.size w w2 := hbw1.trans (hb2.mono (by omega))
  obtain ⟨own0, hst0⟩ := St.fresh (NewF.of P hmm (fun k _ h2 => hb2.block k h2) hs2) hbw2 la lb1 lb lc
  clear hmm hb2 hbw1
  obtain ⟨s1, ha1, hr1, hsl1, hal1, hne1, hnf1, hns1, hby1, hkp1⟩ := fresh_alloc (b := fb) la1 (env := 0) (by omega) (show (0 : Int) < (fc : Int) by omega)
  obtain ⟨s0, hs0⟩ : ∃ s0, RSt.fresh fa fb fc = s0 := ⟨_, rfl⟩
  rw [hs0] at ha1 hst0
  clear hs0 hsl1 hal1 hby1 hkp1
  have hba : Below w2.heap.size w2 (w2.alloc (.cells #[.int .i64 fa, .int .i64 fb, .int .i64 fc] 28)) := (Below.refl _ _).alloc (Nat.le_refl _) _
  have hcx := Blk.new w2 [.int .i64 fa, .int .i64 fb, .int .i64 fc] 28
  have ht0 := hst0.top w2.heap.size (Nat.le_refl _)
  obtain ⟨cB, hcB⟩ : ∃ cB, w2.heap.size = cB := ⟨_, rfl⟩
  have hst := hst0.below P hba
  go_wp2_with fail
  have ie0 : I64 0 := by unfold I64; omega
  have ie1 : I64 1 := by unfold I64; omega
  have hfew : ∀ j : Nat, j ≤ len + 2 → (j + 2) * 48 ≤ 140737488355328 := fun j hj => by omega
  have HF : Hid (∀ j : Nat, j ≤ len + 2 → (j + 2) * 48 ≤ 140737488355328) := hfew
  clear hfew
  refine (hst.alloc P (HF.out 0 (Nat.zero_le _)) 0 ie0).mono ?_
  rintro e w3 ⟨rfl, own3, hst3, ho3, hk3, hs3⟩
  rw [ha1] at hst3 ⊢
  have hc3 : Blk w3 cB [.int .i64 fa, .int .i64 fb, .int .i64 fc] 28 := by rw [← hcB]; exact hcx.of (hk3 _ hcx.lt (by rw [ht0]; omega))
  have ht3 : (own3 cB).1 = 0 := by rw [← hcB, ho3 _ hcx.lt]; exact ht0
  obtain ⟨hr0, -, hx3, hraw3⟩ := first_right hr1 hst3.hok.inv hst3.hinv
  obtain ⟨s2, hm2, hsl2, hr2, hby2, hal2, hne2, hnf2, hns2, hkp2⟩ := map_done (env := 0) (page := 1) (hd := 1) (slot := 0) (wt := true) hraw3 hx3 hr0 (fun _ => rfl) (by omega) (by omega) (by omega) (by rw [hns1]; omega) hst3.hok
  have HM : Hid (mapR s1 0 1 1 true 0 = (0, s2)) := hm2
  have HS : Hid (s2.slots[0]? = some ⟨true, 0, 1, 0, true⟩) := hsl2
  have hnsf : s2.ns = fb := by rw [hns2, hns1]
  clear ha1 hr1 hne1 hnf1 hns1 hst hst0 ho3 hk3 hcx ht0 hba hx3 hr0 hraw3 hm2 hsl2 hr2 hby2 hal2 hne2 hnf2 hns2 hkp2 hs3
  go_wp2_with fail
  refine (hst3.map P (HF.out 1 (by omega)) 0 1 1 true 0 ie0 ie1 ie1 ie0).mono ?_
  rintro e w4 ⟨rfl, own4, hst4, ho4, hk4, hs4⟩
  rw [HM.out] at hst4 ⊢
  have hc4 : Blk w4 cB [.int .i64 fa, .int .i64 fb, .int .i64 fc] 28 := hc3.of (hk4 _ hc3.lt (by rw [ht3]; omega))
  have ht4 : (own4 cB).1 = 0 := by rw [ho4 _ hc3.lt]; exact ht3
  clear ho4 hk4 hs4 hc3 ht3 hst3 HM
  simp only at hst4
  go_wp2_with fail
  refine (hst4.table P (HF.out 2 (by omega))).mono ?_
  rintro e w5 ⟨v, rfl, hb5, -, hrow⟩
  have hst5 := hst4.below P hb5
  have hc5 := hc4.below hb5 hc4.lt
  obtain ⟨ao5, cap5, hv5, hcase5⟩ := hrow.shape'
  have hn5 : s2.slots.length = fb := by rw [hst4.hok.ns, hnsf]
  rcases hcase5 with h0 | ⟨g5, rfl⟩
  · omega
  have cc : ∀ j, j < 5 → w5.cell? ⟨g5, j, none⟩ = (Ent.cells ⟨true, 0, 1, 0, true⟩)[j]? := fun j hj => by
    rw [hv5] at hrow
    have hg := flat_get Ent.cells 5 (fun _ => rfl) s2.slots 0 j _ HS.out hj
    rw [show 0 * 5 + j = j by omega] at hg
    rw [hrow.cellAt' _ (by omega), hg]
  have t0 := (cc 0 (by omega)).trans (show _ = some (.bool true) from rfl)
  have t1 := (cc 1 (by omega)).trans (show _ = some (.int .i64 0) from rfl)
  have t2 := (cc 2 (by omega)).trans (show _ = some (.int .i64 1) from rfl)
  have t3 := (cc 3 (by omega)).trans (show _ = some (.int .i64 0) from rfl)
  have t4 := (cc 4 (by omega)).trans (show _ = some (.bool true) from rfl)
  rw [hn5] at hv5
  subst hv5
  have hfb0 : decide ((fb : Int) < 1) = false := decide_eq_false (by omega)
  have hfb1 : (0 : Int) < (fb : Int) := by omega
  clear cc hrow hn5 HS hst4 hc4
  go_wp2_with fail
  go_loopg [11] len (fun k y wr => ∃ (r : Nat) (own : Nat → Nat × Nat) (s : RSt), y = .int .i64 r ∧ r + k = len ∧ St M w m (r + 2) own s wr ∧ Blk wr cB [.int .i64 fa, .int .i64 fb, .int .i64 fc] 28 ∧ (own cB).1 = 0 ∧ s.ns = fb)
  case atStart => exact ⟨0, own4, s2, rfl, by omega, hst5, hc5, ht4, hnsf⟩
  case round =>
    clear hst5 hc5 ht4 hnsf t0 t1 t2 t3 t4 hb5
    obtain ⟨r, own, s, rfl, hk, hst, hc, ht, hns⟩ := hrel
    have HK : Hid (r + gk = len) := hk
    have hr : r ≤ len := by omega
    clear hk
    have hfew := HF.out (r + 2) (by omega)
    have hsd := sound_any P hst hfew fa fc
    rw [hns] at hsd
    have k0 := hc.cell 0
    have k1 := hc.cell 1
    have k2 := hc.cell 2
    simp at k0 k1 k2
    have HNS : Hid (s.ns = fb) := hns
    clear hns
    by_cases hlt : r < len
    · obtain ⟨o, ho⟩ : ∃ o, ops[r]? = some o := ⟨ops[r]'(by rw [HL.out]; exact hlt), by simp⟩
      have hoi := HO.out r o ho
      rcases HX.out with h0 | ⟨bS, off, rfl, hbS, hcS⟩
      · omega
      have hbl := hst.bel
      have hy : ∀ (j : Nat) (v : Value), o.cells[j]? = some v → wr.cell? ⟨bS, off + r * 6 + j, none⟩ = some v := fun j v hv => (hbl.cell (p := ⟨bS, off + r * 6 + j, none⟩) hbS).trans (hcS r o ho j v hv)
      have c0 := hy 0 _ rfl
      have c1 := hy 1 _ rfl
      have c2 := hy 2 _ rfl
      have c3 := hy 3 _ rfl
      have c4 := hy 4 _ rfl
      have c5 := hy 5 _ rfl
      simp only [Nat.add_zero] at c0
      have HY : Hid (∀ (j : Nat) (v : Value), o.cells[j]? = some v → wr.cell? ⟨bS, off + r * 6 + j, none⟩ = some v) := hy
      have HW : Hid (∀ (j : Nat) (v : Value), o.cells[j]? = some v → w.cell? ⟨bS, off + r * 6 + j, none⟩ = some v) := hcS r o ho
      clear hy hcS ho
      have hr0 : (0 : Int) ≤ (r : Int) := by omega
      have hr1 : (r : Int) < (len : Int) := by omega
      by_cases hK : 13 ≤ o.K
      · go_wp2_with fail
        refine hsd.mono ?_
        rintro e w6 ⟨rfl, hb6⟩
        have hst6 := hst.below P hb6
        have hc6 := hc.below hb6 hc.lt
        have q0 := hc6.cell 0
        have q1 := hc6.cell 1
        have q2 := hc6.cell 2
        simp at q0 q1 q2
        have hbl6 : Below w.heap.size w w6 := hst6.bel
        have hz : ∀ (j : Nat) (v : Value), o.cells[j]? = some v → w6.cell? ⟨bS, off + r * 6 + j, none⟩ = some v := fun j v hv => (hb6.cell (p := ⟨bS, off + r * 6 + j, none⟩) (by have := hst.bel.size; simp; omega)).trans (HY.out j v hv)
        have z0 := hz 0 _ rfl
        have z1 := hz 1 _ rfl
        have z2 := hz 2 _ rfl
        have z3 := hz 3 _ rfl
        have z4 := hz 4 _ rfl
        have z5 := hz 5 _ rfl
        simp only [Nat.add_zero] at z0
        clear hz c0 c1 c2 c3 c4 c5 k0 k1 k2 hsd hbl
        go_wp2_with fail
        have hstd := hst6.below P (Below.refl _ _).drew
        have hcd := hc6.drew
        go_region_held3 (fun w' => w'.cell? ⟨bS, off + r * 6, none⟩ = some (.int .i64 o.K) ∧ w'.cell? ⟨bS, off + r * 6 + 1, none⟩ = some (.int .i64 o.V) ∧ w'.cell? ⟨bS, off + r * 6 + 2, none⟩ = some (.int .i64 o.A) ∧ w'.cell? ⟨bS, off + r * 6 + 3, none⟩ = some (.int .i64 o.B) ∧ w'.cell? ⟨bS, off + r * 6 + 4, none⟩ = some (.int .i64 o.C) ∧ w'.cell? ⟨bS, off + r * 6 + 5, none⟩ = some (.bool o.F) ∧ w'.cell? ⟨cB, 0, none⟩ = some (.int .i64 fa) ∧ w'.cell? ⟨cB, 1, none⟩ = some (.int .i64 fb) ∧ w'.cell? ⟨cB, 2, none⟩ = some (.int .i64 fc)) (go_keep)
          ((first
            | (go_at_call 14; refine (any2_any P hstd hfew o hoi fa fb fc lb lc lc1).mono ?_; rintro e w7 ⟨rfl, s3, hns3, own7, hst7, ho7, hk7, hs7⟩
               have hc7 : Blk w7 cB [.int .i64 fa, .int .i64 fb, .int .i64 fc] 28 := hcd.of (hk7 _ hcd.lt (by rw [ht]; omega))
               have g0 := hc7.cell 0
               have g1 := hc7.cell 1
               have g2 := hc7.cell 2
               simp at g0 g1 g2
               have hv : ∀ (j : Nat) (v : Value), o.cells[j]? = some v → w7.cell? ⟨bS, off + r * 6 + j, none⟩ = some v := fun j v hv => (hst7.bel.cell (p := ⟨bS, off + r * 6 + j, none⟩) hbS).trans (HW.out j v hv)
               have v0 := hv 0 _ rfl
               have v1 := hv 1 _ rfl
               have v2 := hv 2 _ rfl
               have v3 := hv 3 _ rfl
               have v4 := hv 4 _ rfl
               have v5 := hv 5 _ rfl
               simp only [Nat.add_zero] at v0
               clear hv)))
        have ht7 : (own7 cB).1 = 0 := by rw [ho7 _ hcd.lt]; exact ht
        have hn7 : s3.ns = fb := by
          have g1 := hns3.grows.2.2.2.2.1
          have g2 := hst7.hok.ns
          have g3 := hst.hok.ns
          have g4 := HNS.out
          omega
        go_wp2_with fail
        go_roundg (gk - 1)
        case measure => have := HK.out; omega
        case rel => exact ⟨r + 1, own7, s3, by go_num, by have := HK.out; omega, hst7, hc7, ht7, hn7⟩
      · clear hsd
        go_wp2_with fail
        have hstd := hst.below P (Below.refl _ _).drew
        have hcd := hc.drew
        go_region_held3 (fun w' => w'.cell? ⟨bS, off + r * 6, none⟩ = some (.int .i64 o.K) ∧ w'.cell? ⟨bS, off + r * 6 + 1, none⟩ = some (.int .i64 o.V) ∧ w'.cell? ⟨bS, off + r * 6 + 2, none⟩ = some (.int .i64 o.A) ∧ w'.cell? ⟨bS, off + r * 6 + 3, none⟩ = some (.int .i64 o.B) ∧ w'.cell? ⟨bS, off + r * 6 + 4, none⟩ = some (.int .i64 o.C) ∧ w'.cell? ⟨bS, off + r * 6 + 5, none⟩ = some (.bool o.F) ∧ w'.cell? ⟨cB, 0, none⟩ = some (.int .i64 fa) ∧ w'.cell? ⟨cB, 1, none⟩ = some (.int .i64 fb) ∧ w'.cell? ⟨cB, 2, none⟩ = some (.int .i64 fc)) (go_keep)
          ((first
            | (go_at_call 14; refine (any2_any P hstd hfew o hoi fa fb fc lb lc lc1).mono ?_; rintro e w7 ⟨rfl, s3, hns3, own7, hst7, ho7, hk7, hs7⟩
               have hc7 : Blk w7 cB [.int .i64 fa, .int .i64 fb, .int .i64 fc] 28 := hcd.of (hk7 _ hcd.lt (by rw [ht]; omega))
               have g0 := hc7.cell 0
               have g1 := hc7.cell 1
               have g2 := hc7.cell 2
               simp at g0 g1 g2
               have hv : ∀ (j : Nat) (v : Value), o.cells[j]? = some v → w7.cell? ⟨bS, off + r * 6 + j, none⟩ = some v := fun j v hv => (hst7.bel.cell (p := ⟨bS, off + r * 6 + j, none⟩) hbS).trans (HW.out j v hv)
               have v0 := hv 0 _ rfl
               have v1 := hv 1 _ rfl
               have v2 := hv 2 _ rfl
               have v3 := hv 3 _ rfl
               have v4 := hv 4 _ rfl
               have v5 := hv 5 _ rfl
               simp only [Nat.add_zero] at v0
               clear hv)))
        have ht7 : (own7 cB).1 = 0 := by rw [ho7 _ hcd.lt]; exact ht
        have hn7 : s3.ns = fb := by
          have g1 := hns3.grows.2.2.2.2.1
          have g2 := hst7.hok.ns
          have g3 := hst.hok.ns
          have g4 := HNS.out
          omega
        go_wp2_with fail
        go_roundg (gk - 1)
        case measure => have := HK.out; omega
        case rel => exact ⟨r + 1, own7, s3, by go_num, by have := HK.out; omega, hst7, hc7, ht7, hn7⟩
    · obtain rfl : r = len := by omega
      go_wp2_with fail
      refine hsd.mono ?_
      rintro e w6 ⟨rfl, hb6⟩
      go_wp2_with fail
      go_ret
      exact ⟨rfl, hst.bel.trans (hb6.mono hst.bel.size)⟩
end Go.Proofs.Ytinlkcmdbjcofaa

namespace Go.Proofs.Ytinlkcmdbjcofaa.backed
open Go.ChangeShapes Go.WideShapes Go.ChangeAt Go.RowKit
set_option linter.unusedVariables false

set_option maxRecDepth 100000 in
theorem lifted (os : Os) (started : os.Started) (H : Type) (enc : TypeId × Value → H) :
    ReturnsInHanded {} Try.checked os 4 .any (Rows.backedSpec.pre6 enc Try.prog Try.f4 Rows.backedRow.domain false) (Rows.backedSpec.post enc Try.prog Try.f4 false true false false) := by
  refine returnsInHanded_of_change_sized (C := Try.checked) Try.own started (by kernel_rfl) Try.func4
    (ChangeSpec.witness6 (enc := enc) (C := Try.checked) false ⟨#[], #[.agg #[.int .i64 0, .int .i64 0, .int .i64 0], .slice none 0 0], []⟩ 8 (by kernel_rfl) (by kernel_rfl) (by kernel_rfl) (by kernel_rfl)) ?_
  intro W base args ds gs before hval0 hW hcnd hsz _
  have hval : ∀ (j : Nat) t v, Try.f4.params[j]? = some t → args[j]? = some v → Value.okWide Try.prog W .any base t v := hval0
  have hW' := hW
  obtain ⟨p, q, hA0, hV, rfl, hfz, hnd⟩ := hW
  have hA : DataW.TrodAll enc Try.prog W 0 (fun _ => true) true Try.f4.params.toList args.toList ds p := hA0
  rw [Try.params4] at hA hval
  obtain ⟨v0, vs0, d0, ds0, p0, q0, hargs, rfl, rfl, h0, r0⟩ := trodAll_cons hA
  obtain ⟨v1, vs1, d1, ds1, p1, q1, hargs1, rfl, rfl, h1, r1⟩ := trodAll_cons r0
  obtain ⟨rfl, rfl, rfl⟩ := trodAll_nil r1
  obtain rfl : args = #[v0, v1] := by cases args; simp_all
  obtain ⟨rfl, rfl⟩ := trodVars_none hV
  obtain ⟨cs0, rfl, hcs⟩ := okWide_struct Try.underlying23 (hval 0 23 v0 rfl rfl)
  obtain ⟨a0, len0, cap0, rfl⟩ := okWide_slice Try.underlying24 (hval 1 24 v1 rfl rfl)
  have k0 := h0
  have k1 := h1
  have lt1 : ∀ x ∈ p1, x.block < W.heap.size := by obtain ⟨m, hm⟩ := k1; exact DataW.trod_lt m _ _ _ hm
  have lt0 : ∀ x ∈ p0, x.block < W.heap.size := by obtain ⟨m, hm⟩ := k0; exact DataW.trod_lt m _ _ _ hm
  obtain ⟨fuel0, hf0⟩ := h0
  obtain ⟨x, y, z, hxyz, ix, iy, iz⟩ := open_size hf0
  obtain rfl : cs0 = #[.int .i64 x, .int .i64 y, .int .i64 z] := by
    have : cs0.toList = [.int .i64 x, .int .i64 y, .int .i64 z] := hxyz
    rw [← Array.toArray_toList (xs := cs0), this]
  obtain ⟨fuel, hf⟩ := h1
  obtain ⟨ops, hl, hops, hdat, hok⟩ := open_steps (by simpa [Value.cells] using hf)
  have hb16 : (len0 + 4) * 48 ≤ 140737488355328 := by
    rcases hdat with h | ⟨elems, spare, hd, he⟩
    · subst h; omega
    · simp only at hd
      subst hd
      have : (elems.length + spare.length) * Try.prog.bytesOf 36 ≤ reachBytes := sized_slice hsz (j := 1) (t := 24) (e := 36) rfl rfl Try.underlying24
      rw [Try.bytesStep] at this
      simp only [reachBytes] at this
      omega
  clear hA0 hval0
  refine (backedlaw_any api x y z ix.1 ix.2 iy.1 iy.2 iz.1 iz.2 a0 len0 cap0 W ops hl hok hb16 hops).mono fun e W' ⟨he, bel⟩ => ?_
  subst he
  exact ⟨_, rfl, _, _, _, [], _, [], hW', trodAll_mk1 (shut_bool Try.underlying4 _), (trodAll_cons_mk (Below.trod Try.laidOut (by kernel_rfl) (of_decide_eq_true (by kernel_rfl)) k0 bel lt0) (trodAll_cons_mk (Below.trod Try.laidOut (by kernel_rfl) (of_decide_eq_true (by kernel_rfl)) k1 bel lt1) trodAll_mk0)), rfl, bel.frame _, fun h => by cases h⟩

theorem over : Rows.backedRow.holds Try.pinned (OpenSpec.ofChange Rows.backedSpec) :=
  OpenClaim.holds_of_wide 4 Try.f4 rfl rfl rfl rfl rfl rfl rfl ⟨rfl, rfl, rfl, rfl, rfl⟩ rfl rfl rfl rfl rfl (by kernel_rfl) Try.func4 (by kernel_rfl)
    (of_decide_eq_true (by kernel_rfl)) (by unfold Func.isWrapper; first | (rw [if_pos (by decide +kernel)]; kernel_rfl) | (rw [if_neg (by decide +kernel)]; exact ⟨rfl, rfl⟩))
    (fun os started H enc _ => lifted os started H enc)

end Go.Proofs.Ytinlkcmdbjcofaa.backed

namespace Go.Proofs.Ytinlkcmdbjcofaa
theorem backed_holds : Rows.BackedSaid := backed.over
end Go.Proofs.Ytinlkcmdbjcofaa
