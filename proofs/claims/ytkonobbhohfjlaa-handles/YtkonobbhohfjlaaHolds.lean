/-
  The lists that came out, and how their owner has marked them.
-/
import Derived.Test.YtkonobbhohfjlaaKept
import Derived.Test.YtkonobbhohfjlaaRefG
namespace Go.Proofs.Ytkonobbhohfjlaa
open Go.RowKit
set_option linter.unusedVariables false

theorem Row.cellAt' {w : World} {e k n g cap : Nat} {xs : List Value} (h : Row w (.slice (some ⟨g, 0, none⟩) n cap) e k n xs) (j : Nat) (hj : j < n * k) : w.cell? ⟨g, j, none⟩ = xs[j]? := World.ownsRow.cellAt h j hj
theorem Row.shape' {w : World} {v : Value} {e k n : Nat} {xs : List Value} (h : Row w v e k n xs) : ∃ ao cap, v = .slice ao n cap ∧ (n = 0 ∨ ∃ g, ao = some ⟨g, 0, none⟩) := by
  obtain ⟨ao, cap, g, hv, hao, _⟩ := h.view
  refine ⟨ao, cap, hv, ?_⟩
  rcases Nat.eq_zero_or_pos n with h0 | h0
  · exact .inl h0
  · exact .inr ⟨g, hao h0⟩

/-- A slice all of whose elements hold the k cells c; at most a of them; its row bears the mark t. -/
def SA (own : Nat → Nat × Nat) (t : Nat × Nat) (w : World) (c : List Value) (k a : Nat) (x : Value) : Prop :=
  ∃ ao n cap g, x = .slice ao n cap ∧ n ≤ a ∧ (n = 0 ∨ (ao = some ⟨g, 0, none⟩ ∧ own g = t ∧ g < w.heap.size ∧ ∀ i j, i < n → j < k → w.cell? ⟨g, i * k + j, none⟩ = c[j]?))

theorem SA.of {own own' : Nat → Nat × Nat} {t : Nat × Nat} {w w' : World} {c : List Value} {k a : Nat} {x : Value} (h : SA own t w c k a x) (ho : ∀ b, b < w.heap.size → own' b = own b) (hs : w.heap.size ≤ w'.heap.size)
    (hb : ∀ b, b < w.heap.size → own b = t → ∀ j, j < a * k → w'.cell? ⟨b, j, none⟩ = w.cell? ⟨b, j, none⟩) : SA own' t w' c k a x := by
  obtain ⟨ao, n, cap, g, rfl, hn, h⟩ := h
  refine ⟨ao, n, cap, g, rfl, hn, h.imp id fun ⟨h1, h2, h3, h4⟩ => ⟨h1, (ho g h3).trans h2, by omega, fun i j hi hj => ?_⟩⟩
  rw [hb g h3 h2 _ ?_]
  · exact h4 i j hi hj
  · have : i * k + j < (i + 1) * k := by rw [Nat.add_mul]; omega
    have : (i + 1) * k ≤ a * k := Nat.mul_le_mul_right k (by omega)
    omega
theorem SA.mono {own : Nat → Nat × Nat} {t : Nat × Nat} {w : World} {c : List Value} {k a a' : Nat} {x : Value} (h : SA own t w c k a x) (ha : a ≤ a') : SA own t w c k a' x := by
  obtain ⟨ao, n, cap, g, rfl, hn, h⟩ := h
  exact ⟨ao, n, cap, g, rfl, by omega, h⟩

def mI (n : Int) : List Value := [.int .i64 n]
def mR (n : Int) : List Value := [.int .i64 n, .int .i64 0, .int .i64 0, .bool false]
def mE (n : Int) : List Value := [.bool false, .int .i64 n, .int .i64 0, .int .i64 0, .bool false]

/-- A list that its owner has marked: 'own': (id, 0): the struct; 1: ints; 2: the list of more of them; 3, 4: rights; 5, 6: entries. -/
structure HoldOK (own : Nat → Nat × Nat) (id : Nat) (w : World) (hb : Nat) (n : Int) (a : Nat) : Prop where
  ex : ∃ (vI vMI vR vMR vE vME : Value) (xI xR xE : List Value), Blk w hb [vI, vMI, vR, vMR, vE, vME, .int .i64 n] 105 ∧
    SA own (id, 1) w (mI n) 1 a vI ∧ SA own (id, 3) w (mR n) 4 a vR ∧ SA own (id, 5) w (mE n) 5 a vE ∧
    (Row w vMI 65 1 16 xI ∧ Tg own vMI (id, 2) ∧ ∀ x, x ∈ xI → SA own (id, 1) w (mI n) 1 a x) ∧
    (Row w vMR 58 1 16 xR ∧ Tg own vMR (id, 4) ∧ ∀ x, x ∈ xR → SA own (id, 3) w (mR n) 4 a x) ∧
    (Row w vME 93 1 16 xE ∧ Tg own vME (id, 6) ∧ ∀ x, x ∈ xE → SA own (id, 5) w (mE n) 5 a x)
  tm : own hb = (id, 0)
  am : a ≤ 4611686018427387904

theorem HoldOK.lt {own : Nat → Nat × Nat} {id : Nat} {w : World} {hb : Nat} {n : Int} {a : Nat} (h : HoldOK own id w hb n a) : hb < w.heap.size := by
  obtain ⟨_, _, _, _, _, _, _, _, _, h1, _⟩ := h.ex
  exact h1.lt

theorem HoldOK.of {own own' : Nat → Nat × Nat} {id : Nat} {w w' : World} {hb : Nat} {n : Int} {a : Nat} (h : HoldOK own id w hb n a) (ho : ∀ b, b < w.heap.size → own' b = own b) (hs : w.heap.size ≤ w'.heap.size)
    (hk : ∀ b, b < w.heap.size → (own b).1 = id → w'.heap[b]? = w.heap[b]?) : HoldOK own' id w' hb n a := by
  have hc : ∀ t : Nat × Nat, t.1 = id → ∀ b, b < w.heap.size → own b = t → ∀ j k, j < k → w'.cell? ⟨b, j, none⟩ = w.cell? ⟨b, j, none⟩ := fun t ht b hb hot j k _ =>
    World.cell?_of_block (a := ⟨b, j, none⟩) (hk b hb (by rw [hot]; exact ht))
  have hlt := h.lt
  obtain ⟨vI, vMI, vR, vMR, vE, vME, xI, xR, xE, h1, h2, h3, h4, ⟨i1, i2, i3⟩, ⟨r1, r2, r3⟩, ⟨e1, e2, e3⟩⟩ := h.ex
  refine ⟨⟨vI, vMI, vR, vMR, vE, vME, xI, xR, xE, h1.of (hk hb hlt (by rw [h.tm])), h2.of ho hs (fun b hb ht j hj => hc _ rfl b hb ht j _ hj), h3.of ho hs (fun b hb ht j hj => hc _ rfl b hb ht j _ hj), h4.of ho hs (fun b hb ht j hj => hc _ rfl b hb ht j _ hj),
    ⟨i1.kept i2 (fun b hb ht => hk b hb (by rw [ht])), i2.congr i1 ho, fun x hx => (i3 x hx).of ho hs (fun b hb ht j hj => hc _ rfl b hb ht j _ hj)⟩,
    ⟨r1.kept r2 (fun b hb ht => hk b hb (by rw [ht])), r2.congr r1 ho, fun x hx => (r3 x hx).of ho hs (fun b hb ht j hj => hc _ rfl b hb ht j _ hj)⟩,
    ⟨e1.kept e2 (fun b hb ht => hk b hb (by rw [ht])), e2.congr e1 ho, fun x hx => (e3 x hx).of ho hs (fun b hb ht j hj => hc _ rfl b hb ht j _ hj)⟩⟩, (ho hb hlt).trans h.tm, h.am⟩

section
variable {own : Nat → Nat × Nat} {t : Nat × Nat} {w : World}

set_option maxHeartbeats 1000000 in
set_option maxRecDepth 100000 in
theorem allInts_any {x : Value} {a : Nat} {n : Int} (h : SA own t w (mI n) 1 a x) (ha : a ≤ 4611686018427387904) :
    Calls Try.prog 76 #[x, .int .i64 n] w fun e w' => e = .returned (.bool true) ∧ w' = w := by
  obtain ⟨ao, len, cap, g, rfl, hn, h⟩ := h
  rcases h with h0 | ⟨rfl, _, _, hc⟩
  all_goals
    go_enter Try.func76, Try.ntmps76
    go_wp2_with fail
    go_loopg [5] len (fun k x wr => ∃ q : Nat, x = .int .i64 q ∧ q + k = len ∧ wr = w)
    case atStart => exact ⟨0, rfl, by omega, rfl⟩
    case round =>
      obtain ⟨q, rfl, hk, rfl⟩ := hrel
      have HK : Hid (q + gk = len) := hk
      have hq : q ≤ len := by omega
      clear hk
      by_cases hlt : q < len
      · first
        | (exfalso; omega; done)
        | (have c0 : wr.cell? ⟨g, q, none⟩ = some (.int .i64 n) := by have := hc q 0 hlt (by omega); simpa [mI] using this
           have hne : (n != n) = false := by simp
           clear hc
           go_wp2_with fail
           go_roundg (gk - 1)
           case measure => have := HK.out; omega
           case rel => exact ⟨q + 1, by go_num, by have := HK.out; omega, rfl⟩)
      · go_wp2_with fail
        go_ret
        exact ⟨rfl, rfl⟩

set_option maxHeartbeats 1000000 in
set_option maxRecDepth 100000 in
theorem allRights_any {x : Value} {a : Nat} {n : Int} (h : SA own t w (mR n) 4 a x) (ha : a ≤ 4611686018427387904) :
    Calls Try.prog 77 #[x, .int .i64 n] w fun e w' => e = .returned (.bool true) ∧ w' = w := by
  obtain ⟨ao, len, cap, g, rfl, hn, h⟩ := h
  rcases h with h0 | ⟨rfl, _, _, hc⟩
  all_goals
    go_enter Try.func77, Try.ntmps77
    go_wp2_with fail
    go_loopg [5] len (fun k x wr => ∃ q : Nat, x = .int .i64 q ∧ q + k = len ∧ wr = w)
    case atStart => exact ⟨0, rfl, by omega, rfl⟩
    case round =>
      obtain ⟨q, rfl, hk, rfl⟩ := hrel
      have HK : Hid (q + gk = len) := hk
      have hq : q ≤ len := by omega
      clear hk
      by_cases hlt : q < len
      · first
        | (exfalso; omega; done)
        | (have c0 : wr.cell? ⟨g, q * 4, none⟩ = some (.int .i64 n) := by have := hc q 0 hlt (by omega); simpa [mR] using this
           have c1 : wr.cell? ⟨g, q * 4 + 1, none⟩ = some (.int .i64 0) := by have := hc q 1 hlt (by omega); simpa [mR] using this
           have c2 : wr.cell? ⟨g, q * 4 + 2, none⟩ = some (.int .i64 0) := by have := hc q 2 hlt (by omega); simpa [mR] using this
           have c3 : wr.cell? ⟨g, q * 4 + 3, none⟩ = some (.bool false) := by have := hc q 3 hlt (by omega); simpa [mR] using this
           clear hc
           go_wp2_with fail
           go_roundg (gk - 1)
           case measure => have := HK.out; omega
           case rel => exact ⟨q + 1, by go_num, by have := HK.out; omega, rfl⟩)
      · go_wp2_with fail
        go_ret
        exact ⟨rfl, rfl⟩
set_option maxHeartbeats 1000000 in
set_option maxRecDepth 100000 in
theorem allEntries_any {x : Value} {a : Nat} {n : Int} (h : SA own t w (mE n) 5 a x) (ha : a ≤ 4611686018427387904) :
    Calls Try.prog 78 #[x, .int .i64 n] w fun e w' => e = .returned (.bool true) ∧ w' = w := by
  obtain ⟨ao, len, cap, g, rfl, hn, h⟩ := h
  rcases h with h0 | ⟨rfl, _, _, hc⟩
  all_goals
    go_enter Try.func78, Try.ntmps78
    go_wp2_with fail
    go_loopg [5] len (fun k x wr => ∃ q : Nat, x = .int .i64 q ∧ q + k = len ∧ wr = w)
    case atStart => exact ⟨0, rfl, by omega, rfl⟩
    case round =>
      obtain ⟨q, rfl, hk, rfl⟩ := hrel
      have HK : Hid (q + gk = len) := hk
      have hq : q ≤ len := by omega
      clear hk
      by_cases hlt : q < len
      · first
        | (exfalso; omega; done)
        | (have c0 : wr.cell? ⟨g, q * 5, none⟩ = some (.bool false) := by have := hc q 0 hlt (by omega); simpa [mE] using this
           have c1 : wr.cell? ⟨g, q * 5 + 1, none⟩ = some (.int .i64 n) := by have := hc q 1 hlt (by omega); simpa [mE] using this
           have c2 : wr.cell? ⟨g, q * 5 + 2, none⟩ = some (.int .i64 0) := by have := hc q 2 hlt (by omega); simpa [mE] using this
           have c3 : wr.cell? ⟨g, q * 5 + 3, none⟩ = some (.int .i64 0) := by have := hc q 3 hlt (by omega); simpa [mE] using this
           have c4 : wr.cell? ⟨g, q * 5 + 4, none⟩ = some (.bool false) := by have := hc q 4 hlt (by omega); simpa [mE] using this
           clear hc
           go_wp2_with fail
           go_roundg (gk - 1)
           case measure => have := HK.out; omega
           case rel => exact ⟨q + 1, by go_num, by have := HK.out; omega, rfl⟩)
      · go_wp2_with fail
        go_ret
        exact ⟨rfl, rfl⟩

theorem SA.shape {x : Value} {c : List Value} {k a : Nat} (h : SA own t w c k a x) : ∃ ao n cap, x = .slice ao n cap := by
  obtain ⟨ao, n, cap, _, h, _⟩ := h
  exact ⟨ao, n, cap, h⟩

set_option maxHeartbeats 2000000 in
set_option maxRecDepth 100000 in
theorem marked_any {id hb : Nat} {n : Int} {a : Nat} (h : HoldOK own id w hb n a) :
    Calls Try.prog 30 #[.pointer (some ⟨hb, 0, none⟩)] w fun e w' => e = .returned (.bool true) ∧ w' = w := by
  have am := h.am
  obtain ⟨vI, vMI, vR, vMR, vE, vME, xI, xR, xE, h1, h2, h3, h4, ⟨i1, i2, i3⟩, ⟨r1, r2, r3⟩, ⟨e1, e2, e3⟩⟩ := h.ex
  have k0 := h1.cell 0
  have k1 := h1.cell 1
  have k2 := h1.cell 2
  have k3 := h1.cell 3
  have k4 := h1.cell 4
  have k5 := h1.cell 5
  have k6 := h1.cell 6
  simp at k0 k1 k2 k3 k4 k5 k6
  obtain ⟨_, _, _, hvI⟩ := h2.shape
  obtain ⟨_, _, _, hvR⟩ := h3.shape
  obtain ⟨_, _, _, hvE⟩ := h4.shape
  subst hvI hvR hvE
  obtain ⟨gI, cI, hI, cellI, _⟩ := i1.form (by omega)
  obtain ⟨gR, cR, hR, cellR, _⟩ := r1.form (by omega)
  obtain ⟨gE, cE, hE, cellE, _⟩ := e1.form (by omega)
  rw [hI] at k1
  rw [hR] at k3
  rw [hE] at k5
  have lI := i1.len
  have lR := r1.len
  have lE := e1.len
  clear hI hR hE
  go_enter Try.func30, Try.ntmps30
  go_wp2_with fail
  refine (allInts_any h2 am).mono ?_
  rintro e w2 ⟨rfl, hw2⟩
  subst hw2
  go_wp2_with fail
  refine (allRights_any h3 am).mono ?_
  rintro e w3 ⟨rfl, hw3⟩
  subst hw3
  go_wp2_with fail
  refine (allEntries_any h4 am).mono ?_
  rintro e w4 ⟨rfl, hw4⟩
  subst hw4
  go_wp2_with fail
  go_loopg [4, 5] 16 (fun k ok x wr => ∃ q : Nat, x = .int .i64 q ∧ q + k = 16 ∧ ok = .bool true ∧ wr = w4)
  case atStart => exact ⟨0, rfl, by omega, rfl, rfl⟩
  case round =>
    obtain ⟨q, rfl, hk, rfl, rfl⟩ := hrel
    have HK : Hid (q + gk = 16) := hk
    have hq : q ≤ 16 := by omega
    clear hk
    by_cases hlt : q < 16
    · obtain ⟨yI, hyI⟩ : ∃ y, xI[q]? = some y := ⟨xI[q]'(by omega), by simp⟩
      obtain ⟨yR, hyR⟩ : ∃ y, xR[q]? = some y := ⟨xR[q]'(by omega), by simp⟩
      obtain ⟨yE, hyE⟩ : ∃ y, xE[q]? = some y := ⟨xE[q]'(by omega), by simp⟩
      have sI := i3 yI (List.mem_of_getElem? hyI)
      have sR := r3 yR (List.mem_of_getElem? hyR)
      have sE := e3 yE (List.mem_of_getElem? hyE)
      have dI := (cellI q (by omega)).trans hyI
      have dR := (cellR q (by omega)).trans hyR
      have dE := (cellE q (by omega)).trans hyE
      obtain ⟨_, _, _, hvI⟩ := sI.shape
      obtain ⟨_, _, _, hvR⟩ := sR.shape
      obtain ⟨_, _, _, hvE⟩ := sE.shape
      subst hvI hvR hvE
      clear hyI hyR hyE cellI cellR cellE
      go_wp2_with fail
      refine (allInts_any sI am).mono ?_
      rintro e w5 ⟨rfl, hw5⟩
      subst hw5
      go_wp2_with fail
      refine (allRights_any sR am).mono ?_
      rintro e w6 ⟨rfl, hw6⟩
      subst hw6
      go_wp2_with fail
      refine (allEntries_any sE am).mono ?_
      rintro e w7 ⟨rfl, hw7⟩
      subst hw7
      go_wp2_with fail
      go_roundg (gk - 1)
      case measure => have := HK.out; omega
      case rel => exact ⟨q + 1, by go_num, by have := HK.out; omega, rfl, rfl⟩
    · go_wp2_with fail
      go_ret
      exact ⟨rfl, rfl⟩

set_option maxHeartbeats 2000000 in
set_option maxRecDepth 100000 in
theorem looks_any {bw : Nat} {vP vH : Value} {hbs : List Nat} (hw : Blk w bw [vP, vH] 47) (hH : Row w vH 73 1 hbs.length (hbs.map fun b => .pointer (some ⟨b, 0, none⟩))) (hm : hbs.length ≤ 4611686018427387904)
    (hk : ∀ (i b : Nat), hbs[i]? = some b → ∃ id n a, HoldOK own id w b n a) :
    Calls Try.prog 15 #[.pointer (some ⟨bw, 0, none⟩)] w fun e w' => e = .returned (.bool true) ∧ w' = w := by
  have k1 := hw.cell 1
  simp at k1
  obtain ⟨ao, cap, hv, hcase⟩ := hH.shape'
  subst hv
  rcases hcase with h0 | ⟨g, rfl⟩
  all_goals
    go_enter Try.func15, Try.ntmps15
    go_wp2_with fail
    go_loopg [3] hbs.length (fun k x wr => ∃ q : Nat, x = .int .i64 q ∧ q + k = hbs.length ∧ wr = w)
    case atStart => exact ⟨0, rfl, by omega, rfl⟩
    case round =>
      obtain ⟨q, rfl, hkk, rfl⟩ := hrel
      have HK : Hid (q + gk = hbs.length) := hkk
      have hq : q ≤ hbs.length := by omega
      clear hkk
      by_cases hlt : q < hbs.length
      · first
        | (exfalso; omega; done)
        | (obtain ⟨b, hb⟩ : ∃ b, hbs[q]? = some b := ⟨hbs[q], by simp⟩
           obtain ⟨id, n, a, hok⟩ := hk q b hb
           have c0 : wr.cell? ⟨g, q, none⟩ = some (.pointer (some ⟨b, 0, none⟩)) := by rw [hH.cellAt' q (by omega), List.getElem?_map, hb]; rfl
           clear hb
           go_wp2_with fail
           refine (marked_any hok).mono ?_
           rintro e w2 ⟨rfl, hw2⟩
           subst hw2
           go_wp2_with fail
           go_roundg (gk - 1)
           case measure => have := HK.out; omega
           case rel => exact ⟨q + 1, by go_num, by have := HK.out; omega, rfl⟩)
      · go_wp2_with fail
        go_ret
        exact ⟨rfl, rfl⟩
end
end Go.Proofs.Ytkonobbhohfjlaa
