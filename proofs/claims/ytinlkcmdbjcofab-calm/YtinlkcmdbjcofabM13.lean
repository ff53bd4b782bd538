import Derived.Test.YtinlkcmdbjcofabM12
/-
  The program's state and the document's: a page goes out for another one; an access to a page that is in.
-/
namespace Go.Proofs.Ytinlkcmdbjcofab
set_option linter.unusedVariables false

section
variable {rs t : RSt} {ps qs : PSt}

/-- A page of the program's kept memory, where it lies. -/
theorem Sim.frameAt (hs : Sim rs ps) (h : SOk rs) {j : Nat} {e : PEnv} {k : KSt} (he : ps.envs[j]? = some e) (hO : rs.kept[j]? = some (some k)) {q : Nat} (hq : (q : Int) ∈ k.inp) :
    ∃ (g : PG) (f : Nat), q < 16 ∧ e.mem.pages[q]? = some g ∧ g.frame = f ∧ frameOf rs k q = f ∧ f < rs.nf ∧ ps.bytes[f]? = some (pageB k q) ∧ g.chg = chgB k q := by
  have hK := h.kok.k1 j k hO
  have hS := hs.km j e k he hO
  have hq16 : q < 16 := by have := hK.len.pg q hq; omega
  obtain ⟨g, hg⟩ := hS.page hq16
  obtain ⟨_, _, _, a4, _⟩ := hS.pg q g hg
  obtain ⟨b1, b2, b3⟩ := a4 hq
  have hfl := kframe_lt h hO hq
  refine ⟨g, g.frame.toNat, hq16, hg, by rw [b1]; omega, by rw [b1]; omega, by rw [b1]; omega, b3, b2⟩

theorem Sim.comeLeave (hs : Sim rs ps) (h : SOk rs) {j : Nat} {e : PEnv} {k : KSt} (he : ps.envs[j]? = some e) (hO : rs.kept[j]? = some (some k)) {pg q f : Nat} (hp : pg < 16) (hno : (pg : Int) ∉ k.inp) (hq : (q : Int) ∈ k.inp) (hf : frameOf rs k q = f) :
    SimX j (putK (leavesS rs k j q) j (inK (leaveK k q) pg ((k.hnd[q]?).getD 0))) (comeP (outP ps j e q (pageB k q)) j { e with mem := e.mem.goOut q (pageB k q) } pg f) ∧
    KSim (putK (leavesS rs k j q) j (inK (leaveK k q) pg ((k.hnd[q]?).getD 0))) (inK (leaveK k q) pg ((k.hnd[q]?).getD 0)) ((e.mem.goOut q (pageB k q)).comeIn pg f) (comeP (outP ps j e q (pageB k q)) j { e with mem := e.mem.goOut q (pageB k q) } pg f).bytes (inOrd (leaveK k q) ++ [(pg : Int)]) ∧
    frameOf (putK (leavesS rs k j q) j (inK (leaveK k q) pg ((k.hnd[q]?).getD 0))) (inK (leaveK k q) pg ((k.hnd[q]?).getD 0)) pg = f := by
  have hK := h.kok.k1 j k hO
  have hS := hs.km j e k he hO
  have hj := (List.getElem?_eq_some_iff.1 he).1
  have hne : pg ≠ q := fun e2 => hno (by rw [e2]; exact hq)
  have hq16 : q < 16 := by have := hK.len.pg q hq; omega
  have hfl := kframe_lt h hO hq
  have hL1 : KLen0 (leaveK k q) (-1) (leaveK k q).uses.length := leave_len0 hK.len hq16
  have hS1 : KSim rs (leaveK k q) (e.mem.goOut q (pageB k q)) ps.bytes ((inOrd k).filter (fun x => !(x == (q : Int)))) := hS.leave hK.len hq rfl (fun _ _ _ => rfl)
  have hno1 : (pg : Int) ∉ (leaveK k q).inp := fun hh => hno (leave_inp.1 hh).1
  have hpgB : pageB (leaveK k q) pg = pageB k pg := rfl
  obtain ⟨g, hg⟩ := hS1.page hp
  obtain ⟨a1, a2, a3, a4, a5⟩ := hS1.pg pg g hg
  have hout : outB (e.mem.goOut q (pageB k q)) pg = pageB k pg := by simp [outB, hg, a5 (.inl hno1), hpgB]
  have hF : FrKeep rs (putK (leavesS rs k j q) j (inK (leaveK k q) pg ((k.hnd[q]?).getD 0))) := FrKeep.same rfl
  have hby : (comeP (outP ps j e q (pageB k q)) j { e with mem := e.mem.goOut q (pageB k q) } pg f).bytes = ps.bytes.set f (pageB k pg) := by
    show ps.bytes.set f (outB (e.mem.goOut q (pageB k q)) pg) = _
    rw [hout]
  have hen : (comeP (outP ps j e q (pageB k q)) j { e with mem := e.mem.goOut q (pageB k q) } pg f).envs = ps.envs.set j { e with mem := (e.mem.goOut q (pageB k q)).comeIn pg f } := by
    show (ps.envs.set j _).set j _ = _
    rw [List.set_set]
  have hkt : (putK (leavesS rs k j q) j (inK (leaveK k q) pg ((k.hnd[q]?).getD 0))).kept = rs.kept.set j (some (inK (leaveK k q) pg ((k.hnd[q]?).getD 0))) := by
    show (rs.kept.set j _).set j _ = _
    rw [List.set_set]
  obtain ⟨nq, rq, bq, cq, dq, eq_, fq, hLq⟩ := kframe h hO hq
  have hhq := hLq.1
  simp only [Int.toNat_natCast] at hhq
  have hfr : ∀ q' : Nat, (q' : Int) ∈ (leaveK k q).inp → frameOf (putK (leavesS rs k j q) j (inK (leaveK k q) pg ((k.hnd[q]?).getD 0))) (inK (leaveK k q) pg ((k.hnd[q]?).getD 0)) q' = frameOf rs (leaveK k q) q' := fun q' hq' => by
    obtain ⟨n, r, b, c, d, ee, ff, hL⟩ := kframe h hO (leave_inp.1 hq').1
    have h1 := hL.1
    simp only [Int.toNat_natCast] at h1
    exact frameOf_in (k := leaveK k q) (fun e2 => hno1 (by rw [← e2]; exact hq')) _ hF h1 b
  have hfk : ∀ q', frameOf rs (leaveK k q) q' = frameOf rs k q' := fun q' => rfl
  have hfp : frameOf (putK (leavesS rs k j q) j (inK (leaveK k q) pg ((k.hnd[q]?).getD 0))) (inK (leaveK k q) pg ((k.hnd[q]?).getD 0)) pg = f := by
    rw [← hf]
    unfold frameOf
    have e1 : (inK (leaveK k q) pg ((k.hnd[q]?).getD 0)).hnd[pg]? = some ((k.hnd[q]?).getD 0) := List.getElem?_set_self (by rw [leave_hnd, hK.len.hnd]; exact hp)
    rw [e1]
    rfl
  have hapart : ∀ q' : Nat, (q' : Int) ∈ k.inp → q' ≠ q → (frameOf rs k q').toNat ≠ f := fun q' hq' hn => by
    have := frames_apart h hO hq hq' hn
    rw [hf] at this
    simpa using this
  obtain ⟨es1, es2⟩ := env_set (e' := { e with mem := (e.mem.goOut q (pageB k q)).comeIn pg f }) (t := putK (leavesS rs k j q) j (inK (leaveK k q) pg ((k.hnd[q]?).getD 0))) hs he rfl rfl hO hkt rfl
  refine ⟨⟨?_, by rw [hen]; exact es1, by rw [hen]; exact es2, ?_, ?_, ?_, ?_, hs.hs, hs.last, ?_, hs.tn, ?_⟩, ?_, hfp⟩
  · rw [hen, List.length_set]; exact hs.ne
  · intro i e' k' hi he' hO'
    rw [hen, List.getElem?_set_ne (fun e => hi e.symm)] at he'
    rw [hkt, List.getElem?_set_ne (fun e => hi e.symm)] at hO'
    rw [hby]
    exact hs.kms h hF he' hO' (fun p hp => List.getElem?_set_ne (fun e2 => by
      have := kframe_kept h hO' hO hi hp hq
      rw [hf] at this
      exact this (by simpa using e2.symm)))
  · rw [hby, List.length_set]; exact hs.bl
  · rw [hby]; exact set_b4 hs.b4 (page4 hK.len hp)
  · intro i r hri hli hraw
    rw [hby]
    have hkb := keptB_set hO hkt r.env
    rw [hkb] at hraw
    have hn := kframe_raw h hO hq (n := i) (q := r) hri hli hraw
    rw [hf] at hn
    rw [List.getElem?_set_ne (by simpa using hn)]
    exact hs.by_ i r hri hli hraw
  · show ps.slots.map (remE j q) = rs.slots.map (goneE j q)
    rw [hs.sl, gone_eq h]
  · intro i k' n x hO' hx hu hi
    rw [hkt] at hO'
    obtain ⟨hx1, hx2⟩ := gone_get (rs := rs) hx hu
    by_cases hij : j = i
    · subst hij
      rw [List.getElem?_set_self (kept_lt hO)] at hO'
      simp only [Option.some.injEq] at hO'
      subst hO'
      obtain ⟨p, b1, b2, b3⟩ := hs.en j k n x hO hx1 hu hi
      have hpq : (p : Int) ≠ q := fun e2 => hx2 ⟨hi, by rw [b1]; exact e2⟩
      have hin : (p : Int) ∈ (leaveK k q).inp := leave_inp.2 ⟨b2, hpq⟩
      exact ⟨p, b1, in_inp.2 (.inl hin), by rw [hfr p hin]; exact b3⟩
    · rw [List.getElem?_set_ne hij] at hO'
      exact hs.ens h hF hO' hx1 hu hi
  · rw [hby, inOrd_leave]
    refine hS1.come hL1 hp hno1 hfr hfp (fun q' hq' => ?_) ?_
    · rw [hfk]
      exact List.getElem?_set_ne (fun e2 => hapart q' (leave_inp.1 hq').1 (fun e3 => (leave_inp.1 hq').2 (by rw [e3])) e2.symm)
    · rw [Int.toNat_natCast, hpgB]
      exact List.getElem?_set_self (by rw [hs.bl]; omega)

/-- Where an entry goes: the program's and the document's. -/
theorem refill_eq (h : SOk0 rs) (ht0 : 0 ≤ rs.turn) (ht1 : rs.turn < rs.ns) {j pg : Nat} {x : Ent} (hx1 : x.env = j) (hx2 : x.page = pg) :
    refP rs.slots rs.turn x = rs.slots.set (slotFor rs (entI rs j pg)).1.toNat x ∧ (refQ rs.slots rs.turn x).2 = (slotFor rs (entI rs j pg)).2.turn := by
  have hns := h.ns
  unfold refP refQ putP remP slotP entI slotFor
  rw [hx1, hx2]
  cases hs : rs.slots.findIdx? (entP j pg) with
  | some i =>
    simp only
    rw [if_pos (by omega : (0 : Int) ≤ (i : Int))]
    simp
  | none =>
    simp only
    rw [if_neg (by omega : ¬ (0 : Int) ≤ -1)]
    unfold leastEmpty
    cases hf : rs.slots.findIdx? (fun e => !e.used) with
    | some i =>
      simp only
      rw [if_pos (by omega : (0 : Int) ≤ (i : Int))]
      simp
    | none =>
      simp only
      rw [if_neg (by omega : ¬ (0 : Int) ≤ -1)]
      refine ⟨rfl, ?_⟩
      unfold nextT
      simp only
      by_cases e : rs.turn + 1 = rs.ns
      · rw [if_pos e, if_pos (by omega)]
      · rw [if_neg e, if_neg (by omega)]
theorem need_eq (rs : RSt) (ps : PSt) (h : ps.slots = rs.slots) (j pg : Nat) (wt : Bool) : needP ps j pg wt = needB rs j pg wt := by
  unfold needP needB
  rw [h]
  rcases find_ent rs j pg with ⟨g1, g2⟩ | ⟨q, e, g1, g2, g3⟩
  · rw [g1, g2]; simp
  · rw [g1, g3]
    have : ¬ ((q : Int) < 0) := by omega
    simp only [this, decide_false, Bool.false_or, Int.toNat_natCast, g2, Option.map_some, Option.getD_some]
    cases wt <;> cases e.wr <;> rfl

/-- Behind an access to a page that is in. -/
theorem SimX.touch {j : Nat} {e : PEnv} {k : KSt} (hX : SimX j rs ps) (h : SOk0 rs) (ht0 : 0 ≤ rs.turn) (ht1 : rs.turn < rs.ns) (he : ps.envs[j]? = some e) (hO : rs.kept[j]? = some (some k)) {l : List Int} (hS : KSim rs k e.mem ps.bytes l) (hc : k.chg.length = 16) (hd : k.dty.length = 16) {pg : Nat} (hp : pg < 16) (hin : (pg : Int) ∈ k.inp) (wt : Bool) {f : Int} (hf : frameOf rs k pg = f)
    (hl : (if k.policy == 0 then l else l.filter (fun x => !(x == (pg : Int))) ++ [(pg : Int)]) = inOrd (touchK rs k j pg wt)) : Sim (touchS rs k j pg wt) (tchP ps j e pg f wt) := by
  obtain ⟨h1, h2, h3, h4, h5, h6, h7, h8, h9⟩ := touchS_parts rs k j pg wt
  have hj := (List.getElem?_eq_some_iff.1 he).1
  have hneed := need_eq rs ps hX.sl j pg wt
  obtain ⟨g, hg⟩ := hS.page hp
  obtain ⟨_, _, _, a4, _⟩ := hS.pg pg g hg
  obtain ⟨_, b2, _⟩ := a4 hin
  have hchg : chgP e.mem pg = chgB k pg := by simp [chgP, hg, b2]
  have hmem : refM ps j pg wt e.mem = { e.mem with refills := if needB rs j pg wt then e.mem.refills + 1 else e.mem.refills } := by
    unfold refM
    rw [hneed]
    split <;> rfl
  have hsl : (tchP ps j e pg f wt).slots = (touchS rs k j pg wt).slots ∧ (tchP ps j e pg f wt).turn = (touchS rs k j pg wt).turn ∧ (tchP ps j e pg f wt).bytes = ps.bytes ∧ (tchP ps j e pg f wt).hs = ps.hs ∧ (tchP ps j e pg f wt).last = ps.last := by
    unfold tchP refillP touchS
    rw [hneed]
    cases hn : needB rs j pg wt with
    | false => exact ⟨hX.sl, hX.tn, rfl, rfl, rfl⟩
    | true =>
      simp only [if_true]
      obtain ⟨e1, e2⟩ := refill_eq h ht0 ht1 (x := newE j pg f (wt || chgP e.mem pg)) rfl rfl
      refine ⟨?_, ?_, rfl, rfl, rfl⟩
      · show refP ps.slots ps.turn _ = _
        rw [hX.sl, hX.tn, e1, hchg, ← hf]
        unfold refillS
        have e0 : entI (putK rs j (useK k pg wt)) j pg = entI rs j pg := rfl
        rw [e0]
        have e3 : (slotFor (putK rs j (useK k pg wt)) (entI rs j pg)).1 = (slotFor rs (entI rs j pg)).1 := by
          unfold slotFor
          split
          · rfl
          · show (if 0 ≤ leastEmpty rs.slots then _ else _ : Int × RSt).1 = (if 0 ≤ leastEmpty rs.slots then _ else _ : Int × RSt).1
            split <;> rfl
        rw [e3]
        rfl
      · show (refQ ps.slots ps.turn _).2 = _
        rw [hX.sl, hX.tn, e2]
        unfold refillS
        have e0 : entI (putK rs j (useK k pg wt)) j pg = entI rs j pg := rfl
        rw [e0]
        show (slotFor rs (entI rs j pg)).2.turn = (slotFor (putK rs j (useK k pg wt)) (entI rs j pg)).2.turn
        unfold slotFor
        split
        · rfl
        · show (if 0 ≤ leastEmpty rs.slots then _ else _ : Int × RSt).2.turn = (if 0 ≤ leastEmpty rs.slots then _ else _ : Int × RSt).2.turn
          split <;> rfl
  obtain ⟨s1, s2, s3, s4, s5⟩ := hsl
  have hen : (tchP ps j e pg f wt).envs = ps.envs.set j { e with mem := (refM ps j pg wt e.mem).touch pg wt } := rfl
  have hKs : KSim (touchS rs k j pg wt) (touchK rs k j pg wt) ((refM ps j pg wt e.mem).touch pg wt) (tchP ps j e pg f wt).bytes (inOrd (touchK rs k j pg wt)) := by
    rw [← hl, hmem, s3]
    exact hS.touch hc hd hp hin wt h2
  have hkb : ∀ x, keptB (touchS rs k j pg wt) x = keptB rs x := keptB_set hO h1
  have hX2 : SimX j (touchS rs k j pg wt) (tchP ps j e pg f wt) := by
    refine ⟨by rw [hen, List.length_set, h4]; exact hX.ne, ?_, ?_, ?_, by rw [s3, h5]; exact hX.bl, by rw [s3]; exact hX.b4, ?_, by rw [s4, h2]; exact hX.hs, by rw [s5, h2]; exact hX.last, s1, s2, ?_⟩
    · intro i x hx
      rw [hen] at hx
      rw [h3]
      by_cases hi : j = i
      · subst hi
        rw [List.getElem?_set_self hj] at hx
        simp only [Option.some.injEq] at hx
        rw [← hx]; exact hX.al j e he
      · rw [List.getElem?_set_ne hi] at hx; exact hX.al i x hx
    · intro i x hx
      rw [hen] at hx
      rw [hkb]
      by_cases hi : j = i
      · subst hi
        rw [List.getElem?_set_self hj] at hx
        simp only [Option.some.injEq] at hx
        rw [← hx]; exact hX.kp j e he
      · rw [List.getElem?_set_ne hi] at hx; exact hX.kp i x hx
    · intro i e' k' hi he' hO'
      rw [hen, List.getElem?_set_ne (fun e => hi e.symm)] at he'
      rw [h1, List.getElem?_set_ne (fun e => hi e.symm)] at hO'
      rw [s3]
      exact (hX.km i e' k' hi he' hO').congr (fun q hq => ⟨by unfold frameOf; rw [h2], rfl⟩)
    · intro i r hri hli hraw
      rw [h2] at hri hli
      rw [hkb] at hraw
      rw [s3, h7]
      exact hX.by_ i r hri hli hraw
    · intro i k' q x hO' hx hu hi
      rw [h1] at hO'
      have hfo : ∀ kk p, frameOf (touchS rs k j pg wt) kk p = frameOf rs kk p := fun kk p => by unfold frameOf; rw [h2]
      have hcase : rs.slots[q]? = some x ∨ x = ⟨true, j, pg, frameOf rs k pg, wt || chgB k pg⟩ := by
        rcases h9 with ⟨-, h9⟩ | ⟨-, h9⟩
        · rw [h9] at hx; exact .inl hx
        · rw [h9, List.getElem?_set] at hx
          split at hx
          · split at hx
            · simp only [Option.some.injEq] at hx; exact .inr hx.symm
            · simp at hx
          · exact .inl hx
      by_cases hij : j = i
      · subst hij
        rw [List.getElem?_set_self (kept_lt hO)] at hO'
        simp only [Option.some.injEq] at hO'
        subst hO'
        rcases hcase with hx' | rfl
        · obtain ⟨p, c1, c2, c3⟩ := hX.en j k q x hO hx' hu hi
          exact ⟨p, c1, c2, by rw [hfo]; exact c3⟩
        · exact ⟨pg, rfl, hin, by rw [hfo]; rfl⟩
      · rw [List.getElem?_set_ne hij] at hO'
        rcases hcase with hx' | rfl
        · obtain ⟨p, c1, c2, c3⟩ := hX.en i k' q x hO' hx' hu hi
          exact ⟨p, c1, c2, by rw [hfo]; exact c3⟩
        · exfalso
          have : (j : Int) = i := hi
          omega
  refine hX2.sim (e := { e with mem := (refM ps j pg wt e.mem).touch pg wt }) (k := touchK rs k j pg wt) ?_ ?_ hKs
  · rw [hen]; exact List.getElem?_set_self hj
  · rw [h1]; exact List.getElem?_set_self (kept_lt hO)
end
end Go.Proofs.Ytinlkcmdbjcofab

/-
  The program's machine beside the document's: an access; Read, Write.
-/
namespace Go.Proofs.Ytinlkcmdbjcofab
open Go.RowKit
set_option linter.unusedVariables false

section
variable {s t : RSt} {ps qs : PSt}

theorem Sim.x (h : Sim s ps) (j : Nat) : SimX j s ps := ⟨h.ne, h.al, h.kp, fun i e k _ => h.km i e k, h.bl, h.b4, h.by_, h.hs, h.last, h.sl, h.tn, h.en⟩
theorem hasI_mem {l : List Int} {n : Int} : hasI l n = true ↔ n ∈ l := by
  unfold hasI
  rw [List.any_eq_true]
  constructor
  · rintro ⟨x, hx, he⟩
    have : x = n := by simpa using he
    rw [← this]; exact hx
  · intro h; exact ⟨n, h, by simp⟩
theorem hasI_no {l : List Int} {n : Int} (h : n ∉ l) : hasI l n = false := by
  cases hx : hasI l n with
  | false => rfl
  | true => exact absurd (hasI_mem.1 hx) h

/-- A byte of a page that is in and changed is written. -/
theorem Sim.poke (hs : Sim s ps) (h : SOk s) {j : Nat} {e : PEnv} {k : KSt} (he : ps.envs[j]? = some e) (hO : s.kept[j]? = some (some k)) {pg r f : Nat} (hr : r < 4) (hin : (pg : Int) ∈ k.inp) (hc : chgB k pg = true) (hf : frameOf s k pg = f) {v : Int} (h0 : 0 ≤ v) (h1 : v ≤ 255) :
    Sim (putK s j { k with bytes := k.bytes.set (4 * pg + r) v }) { ps with bytes := ps.bytes.set f ((pageB k pg).set r v) } := by
  have hK := h.kok.k1 j k hO
  have hS := hs.km j e k he hO
  have hp : pg < 16 := by have := hK.len.pg pg hin; omega
  have hfl := kframe_lt h hO hin
  have hF : FrKeep s (putK s j { k with bytes := k.bytes.set (4 * pg + r) v }) := FrKeep.same rfl
  have hkt : (putK s j { k with bytes := k.bytes.set (4 * pg + r) v }).kept = s.kept.set j (some { k with bytes := k.bytes.set (4 * pg + r) v }) := rfl
  have hkb : ∀ x, keptB (putK s j { k with bytes := k.bytes.set (4 * pg + r) v }) x = keptB s x := keptB_set hO hkt
  have hX : SimX j (putK s j { k with bytes := k.bytes.set (4 * pg + r) v }) { ps with bytes := ps.bytes.set f ((pageB k pg).set r v) } := by
    refine ⟨hs.ne, hs.al, fun i x hx => by rw [hkb]; exact hs.kp i x hx, ?_, by show (ps.bytes.set _ _).length = _; rw [List.length_set]; exact hs.bl, set_b4 hs.b4 (poke4 (page4 hK.len hp) h0 h1), ?_, hs.hs, hs.last, hs.sl, hs.tn, ?_⟩
    · intro i e' k' hi he' hO'
      rw [hkt, List.getElem?_set_ne (fun e => hi e.symm)] at hO'
      exact hs.kms h hF he' hO' (fun p hp => List.getElem?_set_ne (fun e2 => by
        have := kframe_kept h hO' hO hi hp hin
        rw [hf] at this
        exact this (by simpa using e2.symm)))
    · intro i r' hri hli hraw
      rw [hkb] at hraw
      have hn := kframe_raw h hO hin (n := i) (q := r') hri hli hraw
      rw [hf] at hn
      show (ps.bytes.set f _)[_]? = s.bytes[_]?
      rw [List.getElem?_set_ne (by simpa using hn)]
      exact hs.by_ i r' hri hli hraw
    · intro i k' n x hO' hx hu hi
      rw [hkt] at hO'
      by_cases hij : j = i
      · subst hij
        rw [List.getElem?_set_self (kept_lt hO)] at hO'
        simp only [Option.some.injEq] at hO'
        subst hO'
        exact hs.en j k n x hO hx hu hi
      · rw [List.getElem?_set_ne hij] at hO'
        exact hs.en i k' n x hO' hx hu hi
  refine hX.sim he (by rw [hkt]; exact List.getElem?_set_self (kept_lt hO)) ?_
  have hpk := hS.poke hr hp hin hc (v := v) (fun q hq hn => frames_apart h hO hin hq hn) (by rw [hs.bl]; omega)
  rw [hf, Int.toNat_natCast] at hpk
  exact hpk.congr (fun q hq => ⟨rfl, rfl⟩)
end

section
variable {own : Nat → Nat × Nat} {id : Nat} {w : World} {p : Nat} {s : RSt} {ps : PSt} {gE : Nat} {vF vL vT : Value} {L : List (PEnv × Value)}

theorem free_split (hs : Sim s ps) (h : SOk s) {j : Nat} {e : PEnv} {k : KSt} (he : ps.envs[j]? = some e) (hO : s.kept[j]? = some (some k)) :
    (∃ f, freeFor ps e = some f ∧ leastFree s = some f ∧ (k.inp.length : Int) < k.quota ∧ (if (k.inp.length : Int) < k.quota then firstS s j else none) = some (addR { s with bytes := s.bytes.set f [0, 0, 0, 0] } j f true (-1))) ∨
    (freeFor ps e = none ∧ (if (k.inp.length : Int) < k.quota then firstS s j else none) = none) := by
  have hS := hs.km j e k he hO
  obtain ⟨l1, l2, l3⟩ := hs.inl h he hO
  unfold freeFor roomB
  rw [l1, hS.qt, hs.least h]
  unfold firstS
  by_cases hq : (k.inp.length : Int) < k.quota
  · simp only [hq, decide_true, if_true]
    cases hl : leastFree s with
    | none => exact .inr ⟨by simp, rfl⟩
    | some f =>
      by_cases hc : cnt s.rights < 32
      · exact .inl ⟨f, by simp; omega, rfl, trivial, by simp [hc]⟩
      · exact .inr ⟨by simp; omega, by simp [hc]⟩
  · simp only [hq, decide_false, Bool.false_eq_true, if_false]
    exact .inr ⟨by first | rfl | trivial, by first | rfl | trivial⟩

theorem acc_any (h : PRep own id w p ps gE vF vL vT L) (hs : Sim s ps) (hk : SOk s) (hf : Few s) (hF : FewU s) {j : Nat} {k : KSt} (hO : s.kept[j]? = some (some k)) {pg : Nat} (hp : pg < 16) (wt : Bool) :
    (accessS s k j pg wt = none ∧ Calls Try.prog 73 #[.pointer (some ⟨p, 0, none⟩), .int .i64 j, .int .i64 pg, .bool wt] w fun e' w' => e' = .returned (.tuple #[.int .i64 0, .int .i64 12]) ∧ Below w.heap.size w w') ∨
    ∃ (s1 : RSt) (f : Nat) (ps1 : PSt) (k1 : KSt) (e1 : PEnv), accessS s k j pg wt = some s1 ∧ (Calls Try.prog 73 #[.pointer (some ⟨p, 0, none⟩), .int .i64 j, .int .i64 pg, .bool wt] w fun e' w' => e' = .returned (.tuple #[.int .i64 f, .int .i64 0]) ∧ PNext own id w p w' ps1) ∧
      Sim s1 ps1 ∧ SOk s1 ∧ ps1.envs[j]? = some e1 ∧ s1.kept[j]? = some (some k1) ∧ (pg : Int) ∈ k1.inp ∧ frameOf s1 k1 pg = f ∧ k1.bytes = k.bytes ∧ (wt = true → chgB k1 pg = true) := by
  have hK := hk.kok.k1 j k hO
  have hjl : j < s.ne := by have := kept_lt hO; rw [hk.kok.klen] at this; exact this
  obtain ⟨e, he⟩ := hs.env hjl
  have hS := hs.km j e k he hO
  have hw := hs.pwf hk hf
  obtain ⟨hm, m1, m2, m3⟩ := hs.mwf hk hF he hO
  obtain ⟨l1, l2, l3⟩ := hs.inl hk he hO
  have hmet := met_of hk hO
  have hj := (List.getElem?_eq_some_iff.1 he).1
  have hchgt : ∀ (s0 : RSt) (kk : KSt), kk.chg.length = 16 → (wt = true → chgB (touchK s0 kk j pg wt) pg = true) := fun s0 kk hcl hwt => by
    show ((kk.chg.set pg (chgB kk pg || wt))[pg]?).getD false = true
    rw [List.getElem?_set_self (by omega), hwt]; simp
  by_cases hin : (pg : Int) ∈ k.inp
  · right
    obtain ⟨g, f, _, hg, hgf, hff, hfl, hfb, hgc⟩ := hs.frameAt hk he hO hin
    have ha : accessS s k j pg wt = some (touchS s k j pg wt) := by unfold accessS; rw [if_pos (hasK_iff.2 hin)]
    obtain ⟨t1, t2, t3, t4, t5, t6, t7, t8, t9⟩ := touchS_parts s k j pg wt
    have hsim := (hs.x j).touch hk.toSOk0 hk.kok.t0 hk.kok.t1 he hO hS hK.len.chg hK.len.dty hp hin wt hff (by rw [inOrd_touch hin])
    refine ⟨touchS s k j pg wt, f, tchP ps j e pg f wt, touchK s k j pg wt, { e with mem := (refM ps j pg wt e.mem).touch pg wt }, ha, access_in h hw.sl hw.t0 hw.t1 he hm hp hg hgf (hasI_mem.2 ((l3 pg).2 hin)) wt, hsim, (access_ok hk hO hp ha).1, List.getElem?_set_self hj, by rw [t1]; exact List.getElem?_set_self (kept_lt hO), hin, ?_, rfl, hchgt s k hK.len.chg⟩
    unfold frameOf
    rw [t2]
    exact hff
  · have hnoI : hasI e.mem.inl pg = false := hasI_no (fun hh => hin ((l3 pg).1 hh))
    have hha : accessS s k j pg wt = match comesS s k j pg with
        | none => none
        | some s1 => match keptO s1 j with
          | none => none
          | some k1 => some (touchS s1 k1 j pg wt) := by unfold accessS; rw [if_neg (fun e => hin (hasK_iff.1 e))]; first | done | rfl
    rcases free_split hs hk he hO with ⟨f, hff, hl, hqt, hfs⟩ | ⟨hff, hfs⟩
    · right
      have hc : comesS s k j pg = some (putK (addR { s with bytes := s.bytes.set f [0, 0, 0, 0] } j f true (-1)) j (inK k pg ((s.rights.length : Int) + 1))) := by unfold comesS; rw [hfs]
      obtain ⟨k1, c1, c2, c3, c4, c5, c6, cb, c7, c8, c9, c10, c11, c12⟩ := comes_ok hk hO hp hin hc
      have hk1 : k1 = inK k pg ((s.rights.length : Int) + 1) := by
        rw [keptO_putK (by show j < s.kept.length; exact kept_lt hO)] at c1
        simpa using c1.symm
      subst hk1
      obtain ⟨hX, hKS, hfo⟩ := hs.comeFirst hk he hO hp hin hl
      have hfl := leastFree_lt hl
      have hjs : (comeP (giveP ps j f) j e pg f).envs[j]? = some { e with mem := e.mem.comeIn pg f } := List.getElem?_set_self hj
      have hm1 : MWf (giveP ps j f).bytes.length e.mem := by show MWf (ps.bytes.set f _).length e.mem; rw [List.length_set]; exact hm
      have hcl := frameFor_first h hw he hm hff
      have hbr := bringIn_of h hcl (e := e) he hm1 (by show f < (ps.bytes.set f _).length; rw [List.length_set, hs.bl]; exact hfl) hp
      have hq1 := hK.len.q1
      have hm2 : MWf (comeP (giveP ps j f) j e pg f).bytes.length (e.mem.comeIn pg f) := by
        have e1 : (comeP (giveP ps j f) j e pg f).bytes.length = ps.bytes.length := by show ((ps.bytes.set f _).set f _).length = _; simp
        rw [e1]
        exact hm.comeIn m2 hp (by rw [hs.bl]; exact hfl) (by rw [l1]; omega)
      have hac := access_of h he hm hp hnoI hbr hw.sl hw.t0 hw.t1 hjs hm2 wt
      have ha : accessS s k j pg wt = some (touchS (putK (addR { s with bytes := s.bytes.set f [0, 0, 0, 0] } j f true (-1)) j (inK k pg ((s.rights.length : Int) + 1))) (inK k pg ((s.rights.length : Int) + 1)) j pg wt) := by
        rw [hha, hc]
        simp only [c1]
      have hO1 := keptO_get c1
      obtain ⟨t1, t2, t3, t4, t5, t6, t7, t8, t9⟩ := touchS_parts (putK (addR { s with bytes := s.bytes.set f [0, 0, 0, 0] } j f true (-1)) j (inK k pg ((s.rights.length : Int) + 1))) (inK k pg ((s.rights.length : Int) + 1)) j pg wt
      have hsim := hX.touch c2 (by rw [c8]; exact hk.kok.t0) (by rw [c8, c9]; exact hk.kok.t1) hjs hO1 hKS c4.len.chg c4.len.dty hp c5 wt hfo (by
        rw [inOrd_come hin]
        exact come_list hmet hin)
      refine ⟨_, f, _, touchK (putK (addR { s with bytes := s.bytes.set f [0, 0, 0, 0] } j f true (-1)) j (inK k pg ((s.rights.length : Int) + 1))) (inK k pg ((s.rights.length : Int) + 1)) j pg wt, _, ha, hac, hsim, (access_ok hk hO hp ha).1, List.getElem?_set_self (by show j < (ps.envs.set j _).length; rw [List.length_set]; exact hj), by rw [t1]; exact List.getElem?_set_self (kept_lt hO1), c5, ?_, cb, hchgt _ _ c4.len.chg⟩
      have : ∀ kk, frameOf (touchS (putK (addR { s with bytes := s.bytes.set f [0, 0, 0, 0] } j f true (-1)) j (inK k pg ((s.rights.length : Int) + 1))) (inK k pg ((s.rights.length : Int) + 1)) j pg wt) kk pg = frameOf (putK (addR { s with bytes := s.bytes.set f [0, 0, 0, 0] } j f true (-1)) j (inK k pg ((s.rights.length : Int) + 1))) kk pg := fun kk => by unfold frameOf; rw [t2]
      rw [this]
      exact hfo
    · by_cases h0 : 0 < k.inp.length
      · right
        have hpm := (pick_mem h0 hmet).1
        obtain ⟨q, hq⟩ : ∃ q : Nat, pickK k = q := ⟨(pickK k).toNat, by have := hK.len.pg _ hpm; omega⟩
        rw [hq] at hpm
        have hc : comesS s k j pg = some (putK (leavesS s k j q) j (inK (leaveK k q) pg ((k.hnd[q]?).getD 0))) := by
          unfold comesS
          rw [hfs, hq]
          simp only [h0, if_true, Int.toNat_natCast]
        obtain ⟨g, f, hq16, hg, hgf, hffo, hfl, hfb, hgc⟩ := hs.frameAt hk he hO hpm
        obtain ⟨k1, c1, c2, c3, c4, c5, c6, cb, c7, c8, c9, c10, c11, c12⟩ := comes_ok hk hO hp hin hc
        have hk1 : k1 = inK (leaveK k q) pg ((k.hnd[q]?).getD 0) := by
          rw [keptO_putK (by show j < (s.kept.set j _).length; rw [List.length_set]; exact kept_lt hO)] at c1
          simpa using c1.symm
        subst hk1
        obtain ⟨hX, hKS, hfo⟩ := hs.comeLeave hk he hO hp hin hpm hffo
        have hch : chosen e.mem.policy e.mem.inl = q := by rw [hS.po, hS.inl, chosen_pick, hq]
        have hcl := frameFor_out h hw he hm hff (by rw [l1]; exact h0) hch hq16 hg hgf hfb
        have hmo := hm.goOut m3 q (pageB k q)
        have hje : (outP ps j e q (pageB k q)).envs[j]? = some { e with mem := e.mem.goOut q (pageB k q) } := List.getElem?_set_self hj
        have hbr := bringIn_of h hcl (e := { e with mem := e.mem.goOut q (pageB k q) }) hje hmo (by rw [show (outP ps j e q (pageB k q)).bytes = ps.bytes from rfl, hs.bl]; exact hfl) hp
        have hjs : (comeP (outP ps j e q (pageB k q)) j { e with mem := e.mem.goOut q (pageB k q) } pg f).envs[j]? = some { e with mem := (e.mem.goOut q (pageB k q)).comeIn pg f } := List.getElem?_set_self (by show j < (ps.envs.set j _).length; rw [List.length_set]; exact hj)
        have hlo : (e.mem.goOut q (pageB k q)).inl.length < 16 := by
          have hS1 : KSim s (leaveK k q) (e.mem.goOut q (pageB k q)) ps.bytes ((inOrd k).filter (fun x => !(x == (q : Int)))) := hS.leave hK.len hpm rfl (fun _ _ _ => rfl)
          rw [hS1.inl, ← inOrd_leave]
          have hL1 : KLen0 (leaveK k q) (-1) (leaveK k q).uses.length := leave_len0 hK.len hq16
          rw [inOrd_len hL1.nod (fun p hp => hL1.met p hp (by have := hL1.pg p hp; omega))]
          have := leave_length hK.len hpm
          have := hK.len.inpL
          omega
        have hio : (e.mem.goOut q (pageB k q)).ins = e.mem.ins := by unfold PK.goOut; rw [hg]
        have hm2 : MWf (comeP (outP ps j e q (pageB k q)) j { e with mem := e.mem.goOut q (pageB k q) } pg f).bytes.length ((e.mem.goOut q (pageB k q)).comeIn pg f) := by
          have e1 : (comeP (outP ps j e q (pageB k q)) j { e with mem := e.mem.goOut q (pageB k q) } pg f).bytes.length = ps.bytes.length := by show (ps.bytes.set f _).length = _; simp
          rw [e1]
          exact hmo.comeIn (by rw [hio]; exact m2) hp (by rw [hs.bl]; exact hfl) hlo
        have hsl2 : (comeP (outP ps j e q (pageB k q)) j { e with mem := e.mem.goOut q (pageB k q) } pg f).slots.length = ps.slots.length := by show (ps.slots.map _).length = _; simp
        have hac := access_of h he hm hp hnoI hbr (by rw [hsl2]; exact hw.sl) hw.t0 (by rw [hsl2]; exact hw.t1) hjs hm2 wt
        have ha : accessS s k j pg wt = some (touchS (putK (leavesS s k j q) j (inK (leaveK k q) pg ((k.hnd[q]?).getD 0))) (inK (leaveK k q) pg ((k.hnd[q]?).getD 0)) j pg wt) := by
          rw [hha, hc]
          simp only [c1]
        have hO1 := keptO_get c1
        obtain ⟨t1, t2, t3, t4, t5, t6, t7, t8, t9⟩ := touchS_parts (putK (leavesS s k j q) j (inK (leaveK k q) pg ((k.hnd[q]?).getD 0))) (inK (leaveK k q) pg ((k.hnd[q]?).getD 0)) j pg wt
        have hno1 : (pg : Int) ∉ (leaveK k q).inp := fun hh => hin (leave_inp.1 hh).1
        have hsim := hX.touch c2 (by rw [c8]; exact hk.kok.t0) (by rw [c8, c9]; exact hk.kok.t1) hjs hO1 hKS c4.len.chg c4.len.dty hp c5 wt hfo (by
          rw [inOrd_come hno1]
          exact come_list (k := leaveK k q) (fun p hp => hmet p (leave_inp.1 hp).1) hno1)
        refine ⟨_, f, _, touchK (putK (leavesS s k j q) j (inK (leaveK k q) pg ((k.hnd[q]?).getD 0))) (inK (leaveK k q) pg ((k.hnd[q]?).getD 0)) j pg wt, _, ha, hac, hsim, (access_ok hk hO hp ha).1, List.getElem?_set_self (by have := (List.getElem?_eq_some_iff.1 hjs).1; exact this), by rw [t1]; exact List.getElem?_set_self (kept_lt hO1), c5, ?_, cb, hchgt _ _ c4.len.chg⟩
        have : ∀ kk, frameOf (touchS (putK (leavesS s k j q) j (inK (leaveK k q) pg ((k.hnd[q]?).getD 0))) (inK (leaveK k q) pg ((k.hnd[q]?).getD 0)) j pg wt) kk pg = frameOf (putK (leavesS s k j q) j (inK (leaveK k q) pg ((k.hnd[q]?).getD 0))) kk pg := fun kk => by unfold frameOf; rw [t2]
        rw [this]
        exact hfo
      · left
        have hc : comesS s k j pg = none := by unfold comesS; rw [hfs]; simp [h0]
        refine ⟨by rw [hha, hc], ?_⟩
        have hcl := frameFor_none h hw he hm hff (by rw [l1]; omega)
        exact access_none h he hm hp hnoI (bringIn_none h hcl pg) wt
end
end Go.Proofs.Ytinlkcmdbjcofab

/-
  The program's machine beside the document's: Squeeze, Clean, Keep.
-/
namespace Go.Proofs.Ytinlkcmdbjcofab
open Go.RowKit
set_option linter.unusedVariables false

/-- A right ends of which nothing comes: it alone is not alive any more. -/
theorem lv_alone {rs : List RR} (ho : Ordered rs) (hsame : ∀ (i : Nat) (r : RR), rs[i]? = some r → 0 ≤ r.frm → ∃ r', rs[r.frm.toNat]? = some r' ∧ r'.fr = r.fr) {j0 : Nat} {r0 : RR} (hj : rs[j0]? = some r0) (honly : ∀ (i : Nat) (r : RR), rs[i]? = some r → lv rs i = true → r.fr = r0.fr → i = j0) :
    ∀ (n i : Nat) (r : RR), i < n → rs[i]? = some r → lv (markAt (fun i => i == j0) rs) i = (lv rs i && decide (i ≠ j0)) := by
  intro n
  induction n with
  | zero => intro i r hi; omega
  | succ n ih =>
    intro i r hi hr
    have hm : (markAt (fun i => i == j0) rs)[i]? = some (if i == j0 then r.end else r) := by rw [markAt_get, hr]; rfl
    have hom := ho.mark (fun i => i == j0)
    by_cases e : i = j0
    · subst e
      rw [lv_step hom hm]
      simp [RR.end]
    · have e2 : (i == j0) = false := by simpa using e
      rw [e2] at hm
      simp only [Bool.false_eq_true, if_false] at hm
      rw [lv_step hom hm]
      have hd : decide (i ≠ j0) = true := by simpa using e
      rw [hd, Bool.and_true]
      have hst := lv_step ho hr
      have hord := ho i r hr
      by_cases h0 : r.frm < 0
      · rw [lv_neg h0]
        rw [lv_neg h0] at hst
        exact hst.symm
      · obtain ⟨r', hr', hf'⟩ := hsame i r hr (by omega)
        have hi2 := ih r.frm.toNat r' (by omega) hr'
        rw [Int.toNat_of_nonneg (by omega)] at hi2
        rw [hi2, hst]
        by_cases e3 : r.frm.toNat = j0
        · cases hl : lv rs i with
          | false => rw [hst] at hl; rw [e3]; simp at hl ⊢; exact hl
          | true =>
            exfalso
            apply e
            refine honly i r hr hl ?_
            rw [e3, hj] at hr'
            simp only [Option.some.injEq] at hr'
            rw [← hf', ← hr']
        · simp [e3]
theorem live_alone {rs : List RR} (ho : Ordered rs) (hsame : ∀ (i : Nat) (r : RR), rs[i]? = some r → 0 ≤ r.frm → ∃ r', rs[r.frm.toNat]? = some r' ∧ r'.fr = r.fr) {j0 : Nat} {r0 : RR} (hj : rs[j0]? = some r0) (honly : ∀ (i : Nat) (r : RR), rs[i]? = some r → lv rs i = true → r.fr = r0.fr → i = j0) :
    live (markAt (fun i => i == j0) rs) = notP (live rs) r0.fr := by
  have key := lv_alone ho hsame hj honly
  have : ∀ q, q ≤ rs.length → liveTo (markAt (fun i => i == j0) rs) q = (liveTo rs q).filter (fun x => x.fr != r0.fr) := by
    intro q
    induction q with
    | zero => intro _; rfl
    | succ q ih =>
      intro hq
      obtain ⟨r, hr⟩ : ∃ r, rs[q]? = some r := ⟨rs[q], by simp⟩
      have hm : (markAt (fun i => i == j0) rs)[q]? = some (if q == j0 then r.end else r) := by rw [markAt_get, hr]; rfl
      rw [liveTo_succ hm, liveTo_succ hr, List.filter_append, ih (by omega), key (q + 1) q r (by omega) hr]
      congr 1
      by_cases e : q = j0
      · subst e
        rw [hj] at hr
        simp only [Option.some.injEq] at hr
        subst hr
        have : (toPH r0).fr = r0.fr := rfl
        cases lv rs q <;> simp [this]
      · have e2 : (q == j0) = false := by simpa using e
        rw [e2]
        simp only [Bool.false_eq_true, if_false, ne_eq, e, not_false_eq_true, decide_true, Bool.and_true]
        cases hl : lv rs q with
        | false => rfl
        | true =>
          have hne : r.fr ≠ r0.fr := fun e3 => e (honly q r hr hl e3)
          have : (toPH r).fr = r.fr := rfl
          simp [this, hne]
  unfold live notP
  rw [markAt_len]
  exact this _ (Nat.le_refl _)

section
variable {s t : RSt} {ps qs : PSt}

theorem sweep_id (h : SOk0 s) : sweepS s = s := by
  have : (sweepS s).slots = s.slots := by
    apply List.ext_getElem?
    intro i
    simp only [sweepS, List.getElem?_map]
    cases hx : s.slots[i]? with
    | none => rfl
    | some x =>
      simp only [Option.map_some]
      cases hu : x.used with
      | false => simp
      | true =>
        have := (h.ent i x hx hu).2.2
        simp [this]
  unfold sweepS at this ⊢
  simp only at this
  rw [this]

/-- A page goes out, and its right ends. -/
theorem Sim.up (hs : Sim s ps) (h : SOk s) (hf : Few s) (hF : FewU s) {j : Nat} {k : KSt} (hO : s.kept[j]? = some (some k)) (h0 : 0 < k.inp.length) :
    UpOk ps j ∧ SOk (sq1 s j k) ∧ Sim (sq1 s j k) (upP ps j) ∧ Few (sq1 s j k) ∧ FewU (sq1 s j k) := by
  have hK := h.kok.k1 j k hO
  have hjl : j < s.ne := by have := kept_lt hO; rw [h.kok.klen] at this; exact this
  obtain ⟨e, he⟩ := hs.env hjl
  have hj := (List.getElem?_eq_some_iff.1 he).1
  have hS := hs.km j e k he hO
  have hw := hs.pwf h hf
  obtain ⟨hm, m1, m2, m3⟩ := hs.mwf h hF he hO
  obtain ⟨l1, l2, l3⟩ := hs.inl h he hO
  have hmet := met_of h hO
  have hpm := (pick_mem h0 hmet).1
  obtain ⟨q, hq⟩ : ∃ q : Nat, pickK k = q := ⟨(pickK k).toNat, by have := hK.len.pg _ hpm; omega⟩
  rw [hq] at hpm
  obtain ⟨g, f, hq16, hg, hgf, hffo, hfl, hfb, hgc⟩ := hs.frameAt h he hO hpm
  have hch : Go.Proofs.Ytinlkcmdbjcofab.chosen e.mem.policy e.mem.inl = q := by rw [hS.po, hS.inl, chosen_pick, hq]
  obtain ⟨j0, r0, b, c, d, e_, ff, hL⟩ := kframe h hO hpm
  have hh := hL.1
  simp only [Int.toNat_natCast] at hh
  have hr0f : r0.fr = f := by rw [← ff]; exact hffo
  have honly : ∀ (i : Nat) (r : RR), s.rights[i]? = some r → lv s.rights i = true → r.fr = r0.fr → i = j0 := fun i r hr hl hfr => only_right h hO hpm hL b (i + 1) i r (by omega) hr hl hfr
  have hsq : sq1 s j k = endAt (leavesS s k j q) j0 := by
    unfold sq1
    rw [hq]
    simp only [Int.toNat_natCast, hh, Option.getD_some, Int.add_sub_cancel]
  have hup : upP ps j = { outP ps j e q (pageB k q) with hs := notP ps.hs f } := by
    unfold upP
    rw [he]
    simp only [hch, Int.toNat_natCast, hg, hgf, hfb, Option.getD_some]
  obtain ⟨o1, o2, o3, o4, o5, o6, o7⟩ := sq1_ok h.toSOk0.u h.hin h.kok hO h0
  have hkt : (sq1 s j k).kept = s.kept.set j (some (leaveK k q)) := by rw [o4, hq]; rfl
  have hrt : (sq1 s j k).rights = markAt (fun i => i == j0) s.rights := by rw [hsq]; rfl
  have hslt : (sq1 s j k).slots = s.slots.map (goneE j q) := by rw [hsq]; rfl
  have hF2 : FrKeep s (sq1 s j k) := FrKeep.mark hrt
  have hlive := live_alone h.inv.ord h.hin.same b honly
  have hlv := lv_alone h.inv.ord h.hin.same b honly
  have hkb : ∀ x, keptB (sq1 s j k) x = keptB s x := keptB_set hO hkt
  have hown : ∀ (n : Nat) (x : Ent), s.slots[n]? = some x → x.used = true → ¬ (x.env = j ∧ x.page = q) → owned (sq1 s j k).rights x.env x.fr x.wr = true := fun n x hx hu hne => by
    obtain ⟨_, _, ho⟩ := h.ent n x hx hu
    obtain ⟨i, r, a1, a2, a3, a4, a5⟩ := owned_ex.1 ho
    have hij : i ≠ j0 := fun e2 => by
      subst e2
      rw [b] at a1
      simp only [Option.some.injEq] at a1
      subst a1
      obtain ⟨p, p1, p2, p3⟩ := hs.en j k n x hO hx hu (by rw [← a3]; exact d)
      have hpq : p ≠ q := fun e3 => hne ⟨by rw [← a3]; exact d, by rw [p1, e3]⟩
      have := frames_apart h hO hpm p2 hpq
      apply this
      rw [← p3, ← a4, ff]
    rw [hrt]
    refine owned_ex.2 ⟨i, r, ?_, ?_, a3, a4, a5⟩
    · rw [markAt_get, a1]
      have : (i == j0) = false := by simpa using hij
      simp [this]
    · rw [hlv (i + 1) i r (by omega) a1, a2]
      simpa using hij
  have hSO : SOk (sq1 s j k) := by
    refine ⟨⟨o1.inv, o1.fix, o1.ns, o1.bys, ?_, o1.emp, o1.uni⟩, o2, o3⟩
    intro i x hx hu
    obtain ⟨c1, c2⟩ := o1.ent i x hx hu
    rw [hslt] at hx
    obtain ⟨d1, d2⟩ := gone_get hx hu
    exact ⟨c1, c2, hown i x d1 hu d2⟩
  have hen : (upP ps j).envs = ps.envs.set j { e with mem := e.mem.goOut q (pageB k q) } := by rw [hup]; rfl
  have hX : SimX j (sq1 s j k) (upP ps j) := by
    obtain ⟨es1, es2⟩ := env_set (e' := { e with mem := e.mem.goOut q (pageB k q) }) (t := sq1 s j k) hs he rfl rfl hO hkt (by rw [hsq]; rfl)
    refine ⟨?_, by rw [hen]; exact es1, by rw [hen]; exact es2, ?_, ?_, ?_, ?_, ?_, ?_, ?_, ?_, ?_⟩
    · rw [hen, List.length_set, hs.ne, hsq]; rfl
    · intro i e' k' hi he' hO'
      rw [hen, List.getElem?_set_ne (fun e => hi e.symm)] at he'
      rw [hkt, List.getElem?_set_ne (fun e => hi e.symm)] at hO'
      rw [hup]
      exact hs.kms h hF2 he' hO' (fun p hp => rfl)
    · rw [hup, hsq]; exact hs.bl
    · rw [hup]; exact hs.b4
    · intro i r hri hli hraw
      rw [hkb] at hraw
      rw [hrt, markAt_get] at hri
      cases hx : s.rights[i]? with
      | none => rw [hx] at hri; simp at hri
      | some x =>
        have hjl2 := (List.getElem?_eq_some_iff.1 hx).1
        rw [hrt] at hli
        have hlx := lv_mark_le h.inv.ord _ (i + 1) i (by omega) (by omega) hli
        rw [hx] at hri
        simp only [Option.map_some, Option.some.injEq] at hri
        have hxe : x.env = r.env := by rw [← hri]; split <;> rfl
        have hxf : x.fr = r.fr := by rw [← hri]; split <;> rfl
        have := hs.by_ i x hx hlx (by rw [hxe]; exact hraw)
        rw [hxf] at this
        rw [hup, hsq]
        exact this
    · rw [hup, hrt, hlive, ← hs.hs, hr0f]
    · rw [hup, hrt, markAt_len]; exact hs.last
    · rw [hup, hslt]
      show ps.slots.map (remE j q) = _
      rw [hs.sl, gone_eq h]
    · rw [hup, hsq]; exact hs.tn
    · intro i k' n x hO' hx hu hi
      rw [hkt] at hO'
      rw [hslt] at hx
      obtain ⟨hx1, hx2⟩ := gone_get hx hu
      by_cases hij : j = i
      · subst hij
        rw [List.getElem?_set_self (kept_lt hO)] at hO'
        simp only [Option.some.injEq] at hO'
        subst hO'
        obtain ⟨p, b1, b2, b3⟩ := hs.en j k n x hO hx1 hu hi
        have hpq : (p : Int) ≠ q := fun e2 => hx2 ⟨hi, by rw [b1]; exact e2⟩
        obtain ⟨jj, rr, _, _, _, _, _, hLL⟩ := kframe h hO b2
        refine ⟨p, b1, leave_inp.2 ⟨b2, hpq⟩, ?_⟩
        rw [b3, ← hF2.frame hLL]
        rfl
      · rw [List.getElem?_set_ne hij] at hO'
        exact hs.ens h hF2 hO' hx1 hu hi
  have hKS : KSim (sq1 s j k) (leaveK k q) (e.mem.goOut q (pageB k q)) (upP ps j).bytes (inOrd (leaveK k q)) := by
    have h1 : KSim s (leaveK k q) (e.mem.goOut q (pageB k q)) ps.bytes ((inOrd k).filter (fun x => !(x == (q : Int)))) := hS.leave hK.len hpm rfl (fun _ _ _ => rfl)
    rw [inOrd_leave, hup]
    refine h1.congr (fun q' hq' => ⟨?_, rfl⟩)
    obtain ⟨jj, rr, _, _, _, _, _, hLL⟩ := kframe h hO (leave_inp.1 hq').1
    exact hF2.frame hLL
  refine ⟨⟨hw, e, q, f, g, pageB k q, he, hm, by rw [l1]; exact h0, hch, hq16, hg, hgf, hfb⟩, hSO, hX.sim (e := { e with mem := e.mem.goOut q (pageB k q) }) (k := leaveK k q) (by rw [hen]; exact List.getElem?_set_self hj) (by rw [hkt]; exact List.getElem?_set_self (kept_lt hO)) hKS, ?_, ?_⟩
  · unfold Few at hf ⊢
    rw [o7]; exact hf
  · intro i k' hO'
    rw [hkt] at hO'
    by_cases hij : j = i
    · subst hij
      rw [List.getElem?_set_self (kept_lt hO)] at hO'
      simp only [Option.some.injEq] at hO'
      subst hO'
      exact hF j k hO
    · rw [List.getElem?_set_ne hij] at hO'
      exact hF i k' hO'
theorem upN_front (ps : PSt) (j : Nat) : ∀ n, upN (n + 1) ps j = upN n (upP ps j) j := by
  intro n
  induction n with
  | zero => rfl
  | succ n ih =>
    show upP (upN (n + 1) ps j) j = upP (upN n (upP ps j) j) j
    rw [ih]
theorem Sim.upN {j : Nat} : ∀ (n : Nat) (s : RSt) (ps : PSt) (k : KSt), Sim s ps → SOk s → Few s → FewU s → s.kept[j]? = some (some k) → n ≤ k.inp.length →
    (∀ i, i < n → UpOk (Go.Proofs.Ytinlkcmdbjcofab.upN i ps j) j) ∧ SOk (sqN n s j) ∧ Sim (sqN n s j) (Go.Proofs.Ytinlkcmdbjcofab.upN n ps j) := by
  intro n
  induction n with
  | zero => intro s ps k hs h hf hF hO hn; exact ⟨fun i hi => by omega, h, hs⟩
  | succ n ih =>
    intro s ps k hs h hf hF hO hn
    obtain ⟨a, b, c, d, e⟩ := hs.up h hf hF hO (by omega)
    obtain ⟨o1, o2, o3, o4, o5, o6, o7⟩ := sq1_ok h.toSOk0.u h.hin h.kok hO (by omega)
    have hO' : (sq1 s j k).kept[j]? = some (some (leaveK k (pickK k).toNat)) := by rw [o4, List.getElem?_set_self (kept_lt hO)]
    obtain ⟨g1, g2, g3⟩ := ih (sq1 s j k) (upP ps j) _ c b d e hO' (by omega)
    have hx : sqN (n + 1) s j = sqN n (sq1 s j k) j := by
      show (match keptO s j with | none => s | some k => sqN n (sq1 s j k) j) = _
      rw [keptO_at hO]
    rw [hx, upN_front]
    refine ⟨fun i hi => ?_, g2, g3⟩
    cases i with
    | zero => exact a
    | succ i => rw [upN_front]; exact g1 i (by omega)

/-- The memory of environment j has turned, where its pages lie as before. -/
theorem Sim.mem (hs : Sim s ps) {j : Nat} {e : PEnv} {k k' : KSt} {m' : PK} (he : ps.envs[j]? = some e) (hO : s.kept[j]? = some (some k)) (hi : k'.inp = k.inp) (hh : k'.hnd = k.hnd) (hK : KSim (putK s j k') k' m' ps.bytes (inOrd k')) : Sim (putK s j k') (setM ps j e m') := by
  have hj := (List.getElem?_eq_some_iff.1 he).1
  have hkt : (putK s j k').kept = s.kept.set j (some k') := rfl
  have hkb : ∀ x, keptB (putK s j k') x = keptB s x := keptB_set hO hkt
  obtain ⟨es1, es2⟩ := env_set (e' := { e with mem := m' }) (t := putK s j k') hs he rfl rfl hO hkt rfl
  have hX : SimX j (putK s j k') (setM ps j e m') := by
    refine ⟨by show (ps.envs.set j _).length = _; rw [List.length_set]; exact hs.ne, es1, es2, ?_, hs.bl, hs.b4, fun i r a b c => hs.by_ i r a b (by rw [hkb] at c; exact c), hs.hs, hs.last, hs.sl, hs.tn, ?_⟩
    · intro i e' k2 hne he' hO'
      have he2 : (ps.envs.set j { e with mem := m' })[i]? = some e' := he'
      rw [List.getElem?_set_ne (fun e => hne e.symm)] at he2
      rw [hkt, List.getElem?_set_ne (fun e => hne e.symm)] at hO'
      exact (hs.km i e' k2 he2 hO').congr (fun q hq => ⟨rfl, rfl⟩)
    · intro i k2 n x hO' hx hu hi2
      rw [hkt] at hO'
      by_cases hij : j = i
      · subst hij
        rw [List.getElem?_set_self (kept_lt hO)] at hO'
        simp only [Option.some.injEq] at hO'
        subst hO'
        obtain ⟨p, b1, b2, b3⟩ := hs.en j k n x hO hx hu hi2
        refine ⟨p, b1, by rw [hi]; exact b2, ?_⟩
        rw [b3]
        unfold frameOf
        rw [hh]; rfl
      · rw [List.getElem?_set_ne hij] at hO'
        exact hs.en i k2 n x hO' hx hu hi2
  exact hX.sim (e := { e with mem := m' }) (List.getElem?_set_self hj) (by rw [hkt]; exact List.getElem?_set_self (kept_lt hO)) hK
theorem Sim.quota (hs : Sim s ps) {j : Nat} {e : PEnv} {k : KSt} (he : ps.envs[j]? = some e) (hO : s.kept[j]? = some (some k)) (q : Int) : Sim (putK s j { k with quota := q }) (setM ps j e { e.mem with quota := q }) := by
  have hS := hs.km j e k he hO
  exact hs.mem he hO rfl rfl ⟨rfl, hS.po, hS.cr, hS.ci, hS.co, hS.np, hS.inl, hS.pg⟩
theorem Sim.clean (hs : Sim s ps) {j : Nat} {e : PEnv} {k : KSt} (he : ps.envs[j]? = some e) (hO : s.kept[j]? = some (some k)) : Sim (putK s j { k with dty := List.replicate 16 false }) (setM ps j e e.mem.clean) := by
  have hS := hs.km j e k he hO
  refine hs.mem he hO rfl rfl ⟨hS.qt, hS.po, hS.cr, hS.ci, hS.co, by show (e.mem.pages.map _).length = 16; rw [List.length_map]; exact hS.np, hS.inl, fun p g hg => ?_⟩
  have hg2 : (e.mem.pages.map fun g => { g with dty := false })[p]? = some g := hg
  rw [List.getElem?_map] at hg2
  cases hx : e.mem.pages[p]? with
  | none => rw [hx] at hg2; simp at hg2
  | some x =>
    rw [hx] at hg2
    simp only [Option.map_some, Option.some.injEq] at hg2
    obtain ⟨a1, a2, a3, a4, a5⟩ := hS.pg p x hx
    subst hg2
    refine ⟨?_, a2, a3, a4, a5⟩
    show false = ((List.replicate 16 false)[p]?).getD false
    rw [List.getElem?_replicate]
    split <;> rfl
/-- An environment is kept. -/
theorem Sim.keep (hs : Sim s ps) (h : SOk s) {j : Nat} {e : PEnv} (he : ps.envs[j]? = some e) (hno : ∀ k, s.kept[j]? ≠ some (some k)) (hr : ∀ (i : Nat) (r : RR), s.rights[i]? = some r → lv s.rights i = true → r.env ≠ j) (q pol : Int) :
    Sim (putK s j (KSt.new q pol)) { ps with envs := ps.envs.set j ⟨e.alive, true, PK.new q pol⟩ } := by
  have hj := (List.getElem?_eq_some_iff.1 he).1
  have hjk : j < s.kept.length := by rw [h.kok.klen, ← hs.ne]; exact hj
  have hkt : (putK s j (KSt.new q pol)).kept = s.kept.set j (some (KSt.new q pol)) := rfl
  have hkb : ∀ i : Nat, i ≠ j → keptB (putK s j (KSt.new q pol)) i = keptB s i := fun i hi => by
    unfold keptB keptO
    rw [hkt]
    simp only [Int.toNat_natCast]
    rw [List.getElem?_set_ne (fun e => hi e.symm)]
  have hkj : keptB (putK s j (KSt.new q pol)) j = true := by
    unfold keptB keptO
    rw [hkt]
    simp only [Int.toNat_natCast]
    rw [List.getElem?_set_self hjk]; rfl
  have hX : SimX j (putK s j (KSt.new q pol)) { ps with envs := ps.envs.set j ⟨e.alive, true, PK.new q pol⟩ } := by
    refine ⟨by show (ps.envs.set j _).length = _; rw [List.length_set]; exact hs.ne, ?_, ?_, ?_, hs.bl, hs.b4, ?_, hs.hs, hs.last, hs.sl, hs.tn, ?_⟩
    · intro i x hx
      have hx2 : (ps.envs.set j ⟨e.alive, true, PK.new q pol⟩)[i]? = some x := hx
      by_cases hi : j = i
      · subst hi
        rw [List.getElem?_set_self hj] at hx2
        simp only [Option.some.injEq] at hx2
        rw [← hx2]; exact hs.al j e he
      · rw [List.getElem?_set_ne hi] at hx2; exact hs.al i x hx2
    · intro i x hx
      have hx2 : (ps.envs.set j ⟨e.alive, true, PK.new q pol⟩)[i]? = some x := hx
      by_cases hi : j = i
      · subst hi
        rw [List.getElem?_set_self hj] at hx2
        simp only [Option.some.injEq] at hx2
        rw [← hx2, hkj]
      · rw [List.getElem?_set_ne hi] at hx2
        rw [hkb i (fun e => hi e.symm)]
        exact hs.kp i x hx2
    · intro i e' k2 hne he' hO'
      have he2 : (ps.envs.set j ⟨e.alive, true, PK.new q pol⟩)[i]? = some e' := he'
      rw [List.getElem?_set_ne (fun e => hne e.symm)] at he2
      rw [hkt, List.getElem?_set_ne (fun e => hne e.symm)] at hO'
      exact (hs.km i e' k2 he2 hO').congr (fun q hq => ⟨rfl, rfl⟩)
    · intro i r a b c
      have hne := hr i r a b
      have hre := (h.inv.env i r a).1
      have hb2 := hkb r.env.toNat (by omega)
      rw [show ((r.env.toNat : Nat) : Int) = r.env by omega] at hb2
      rw [hb2] at c
      exact hs.by_ i r a b c
    · intro i k2 n x hO' hx hu hi2
      rw [hkt] at hO'
      by_cases hij : j = i
      · subst hij
        exfalso
        obtain ⟨_, _, ho⟩ := h.ent n x hx hu
        obtain ⟨m, r, a1, a2, a3, a4, a5⟩ := owned_ex.1 ho
        exact hr m r a1 a2 (by rw [a3]; exact hi2)
      · rw [List.getElem?_set_ne hij] at hO'
        exact hs.en i k2 n x hO' hx hu hi2
  refine hX.sim (e := ⟨e.alive, true, PK.new q pol⟩) (k := KSt.new q pol) (List.getElem?_set_self hj) (by rw [hkt]; exact List.getElem?_set_self hjk) ?_
  refine ⟨rfl, rfl, rfl, rfl, rfl, by simp [PK.new], ?_, fun p g hg => ?_⟩
  · show ([] : List Int) = inOrd (KSt.new q pol)
    unfold inOrd
    split
    · rfl
    · rfl
  · have hp : p < 16 := by have := (List.getElem?_eq_some_iff.1 hg).1; simpa [PK.new] using this
    have hg2 : (List.replicate 16 (⟨0, false, false, false, [0, 0, 0, 0]⟩ : PG))[p]? = some g := hg
    rw [List.getElem?_replicate, if_pos hp] at hg2
    simp only [Option.some.injEq] at hg2
    subst hg2
    refine ⟨?_, ?_, rfl, fun hm => ?_, fun _ => ?_⟩
    · show false = ((List.replicate 16 false)[p]?).getD false
      rw [List.getElem?_replicate, if_pos hp]; rfl
    · show false = ((List.replicate 16 false)[p]?).getD false
      rw [List.getElem?_replicate, if_pos hp]; rfl
    · simp [KSt.new] at hm
    · show [0, 0, 0, 0] = ((List.replicate 64 (0 : Int)).drop (4 * p)).take 4
      rw [List.drop_replicate, List.take_replicate, Nat.min_eq_left (by omega)]
      rfl
end
end Go.Proofs.Ytinlkcmdbjcofab

namespace Go.Proofs.Ytinlkcmdbjcofab
open Go.RowKit
set_option linter.unusedVariables false

set_option maxHeartbeats 400000 in
theorem mayBe_any (a b c : Int) (w : World) :
    Calls Try.prog 58 #[.agg #[.int .i64 a, .int .i64 b, .int .i64 c]] w fun e w' => e = .returned (.bool (mayB a b c)) ∧ Below w.heap.size w w' := by
  go_enter Try.func58, Try.ntmps58
  go_wp2
  all_goals
    go_ret
    refine ⟨ret_bool ?_, (Below.refl _ _).alloc (Nat.le_refl _) _⟩
    rw [Bool.eq_iff_iff]; simp [mayB]; omega
end Go.Proofs.Ytinlkcmdbjcofab
