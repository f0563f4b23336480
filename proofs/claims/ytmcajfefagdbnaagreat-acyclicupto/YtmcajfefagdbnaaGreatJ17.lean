import Derived.Test.YtmcajfefagdbnaaGreatJ16
import Derived.Test.YtmcajfefagdbnaaGreatJ10
import Derived.Test.YtmcajfefagdbnaaGreatJ02
import Derived.Test.YtmcajfefagdbnaaGreatJ04
import Derived.Test.YtmcajfefagdbnaaGreatJ15
import Derived.Test.YtmcajfefagdbnaaGreatJ14
import Derived.Test.YtmcajfefagdbnaaGreatJ13
namespace Go.Proofs.YtmcajfefagdbnaaGreat
open Go Go.RowKit Go.Sort Go.Lib

theorem PSt.flags {L : Lay} {bs : Nat → Nat} {A : List Nat} {ow : Ow} {m : Nat} {mu lv : Int} {s : St} {w : World} (h : PSt L bs A ow m mu lv s w) {i : Nat} (hin : 1 ≤ i ∧ i ≤ s.n) :
    w.cell? ⟨bs i, 0, none⟩ = some (.int .i64 (i : Int)) ∧ w.cell? ⟨bs i, 6, none⟩ = some (.bool (s.tx i).wounded) ∧ w.cell? ⟨bs i, 7, none⟩ = some (.bool (s.tx i).waits.isSome) := by
  obtain ⟨ov, rv, dv, h1, _⟩ := h.txs i hin.1 hin.2
  refine ⟨?_, ?_, ?_⟩ <;> (rw [cell_at h1]; rfl)

set_option maxRecDepth 20000 in
set_option maxHeartbeats 1600000 in
theorem pstep_again {L : Lay} {bs : Nat → Nat} {A : List Nat} {ow : Ow} {m : Nat} {mu lv : Int} {s : St} {w : World} (h : PSt L bs A ow m mu lv s w) (hI : Inv s) (i : Nat) (hi : i ∈ A) (hst : (s.tx i).state = 0) (hact : s.act.length ≤ 16) (hmm : m + 1000 ≤ 1099511627776) (hag : 0 ≤ (s.tx i).agains ∧ (s.tx i).agains ≤ 1099511627776) (hw : (s.tx i).wounded = true) :
    Calls Tryz.prog 62 #[.pointer (some ⟨L.p, 0, none⟩), .pointer (some ⟨bs i, 0, none⟩)] w fun e w' => e = .returned (.int .i64 3) ∧ PSt L bs A ow (m + 400) mu lv (s.again i) w' ∧ Kept (OwnP ow) w w' := by
  have hin := h.among i hi
  have hcon := pbeginAgain h hI i hi hst hact hmm hag
  obtain ⟨c0, c6, c7⟩ := h.flags hin
  rw [hw] at c6
  clear h hI hin hst hact hmm hag hw
  go_enter Tryz.func62, Tryz.ntmps62
  go_wp2_with fail
  refine hcon.mono ?_
  rintro e w1 ⟨rfl, h1, hk1⟩
  have H1 : Hid (PSt L bs A ow (m + 400) mu lv (s.again i) w1) := h1
  have HK1 : Hid (Kept (OwnP ow) w w1) := hk1
  clear h1 hk1 hcon c0 c6 c7
  go_wp2_with fail
  go_ret
  exact ⟨rfl, H1.out, HK1.out⟩

set_option maxRecDepth 20000 in
set_option maxHeartbeats 1600000 in
theorem pstep_waits {L : Lay} {bs : Nat → Nat} {A : List Nat} {ow : Ow} {m : Nat} {mu lv : Int} {s : St} {w : World} (h : PSt L bs A ow m mu lv s w) (i : Nat) (hi : i ∈ A) (hw : (s.tx i).wounded = false) (hwt : (s.tx i).waits.isSome = true) :
    Calls Tryz.prog 62 #[.pointer (some ⟨L.p, 0, none⟩), .pointer (some ⟨bs i, 0, none⟩)] w fun e w' => e = .returned (.int .i64 2) ∧ w' = w := by
  have hin := h.among i hi
  obtain ⟨c0, c6, c7⟩ := h.flags hin
  rw [hw] at c6
  rw [hwt] at c7
  clear h hin hw hwt
  go_enter Tryz.func62, Tryz.ntmps62
  go_wp2_with fail
  go_ret
  exact ⟨rfl, rfl⟩

set_option maxRecDepth 20000 in
set_option maxHeartbeats 1600000 in
theorem pstep_commit {L : Lay} {bs : Nat → Nat} {A : List Nat} {ow : Ow} {m : Nat} {mu lv : Int} {s : St} {w : World} (h : PSt L bs A ow m mu lv s w) (hI : Inv s) (i : Nat) (hi : i ∈ A) (hst : (s.tx i).state = 0) (hact : s.act.length ≤ 16) (hmm : m + 1000 ≤ 1099511627776) (hlv : 1 ≤ lv ∧ lv ≤ 12) (hws : s.wins.length ≤ 1099511627776) (hw : (s.tx i).wounded = false) (hwt : (s.tx i).waits = none) (hnx : (s.tx i).next = (s.tx i).ops.length) :
    Calls Tryz.prog 62 #[.pointer (some ⟨L.p, 0, none⟩), .pointer (some ⟨bs i, 0, none⟩)] w fun e w' => e = .returned (.int .i64 6) ∧ (∃ ow', PSt L bs A ow' (m + 400) mu (lv - 1) (s.commit i) w' ∧ AgreeP w ow ow') ∧ Kept (OwnP ow) w w' := by
  have hin := h.among i hi
  have hcon : ∀ W : World, W.heap = w.heap → Kept NoBlk w W → Calls Tryz.prog 90 #[.pointer (some ⟨L.p, 0, none⟩), .pointer (some ⟨bs i, 0, none⟩)] W fun e w' => e = .returned (.tuple #[]) ∧ (∃ ow', PSt L bs A ow' (m + 400) mu (lv - 1) (s.commit i) w' ∧ AgreeP w ow ow') ∧ Kept (OwnP ow) w w' := by
    intro W hW hk
    refine (pcommit (h.kept0 hk) hI i hi hwt hact hmm hlv hws).mono ?_
    rintro e w' ⟨rfl, ⟨ow', h1, h2⟩, h3⟩
    exact ⟨rfl, ⟨ow', h1, fun k hk' => h2 k (by rw [hW]; exact hk')⟩, (hk.mono (fun _ x => x.elim)).trans' h3⟩
  obtain ⟨c0, c6, c7⟩ := h.flags hin
  obtain ⟨ov, rv, dv, y1, y2, y3, y4, y5⟩ := h.txs i hin.1 hin.2
  obtain ⟨yr, l1, l2, _⟩ := y5 hst
  obtain ⟨ao, cap, rfl, _, _⟩ := l1.1.form
  have c1 : w.cell? ⟨bs i, 1, none⟩ = some (.slice ao (s.tx i).ops.length cap) := by rw [cell_at y1]; rfl
  have c5 : w.cell? ⟨bs i, 5, none⟩ = some (.int .i64 ((s.tx i).ops.length : Int)) := by rw [cell_at y1, ← hnx]; rfl
  rw [hw] at c6
  have hwt' : (s.tx i).waits.isSome = false := by rw [hwt]; rfl
  rw [hwt'] at c7
  have HC : Hid (∀ W : World, W.heap = w.heap → Kept NoBlk w W → Calls Tryz.prog 90 #[.pointer (some ⟨L.p, 0, none⟩), .pointer (some ⟨bs i, 0, none⟩)] W fun e w' => e = .returned (.tuple #[]) ∧ (∃ ow', PSt L bs A ow' (m + 400) mu (lv - 1) (s.commit i) w' ∧ AgreeP w ow ow') ∧ Kept (OwnP ow) w w') := hcon
  generalize (s.tx i).ops.length = no at *
  clear h hI hin hst hact hmm hlv hws hw hwt hwt' hnx hcon y1 y2 y3 y4 y5 yr l1
  go_enter Tryz.func62, Tryz.ntmps62
  go_wp2_with fail
  go_quiet (fail)
  go_wp2_with fail
  refine (HC.out (w.drewN nq) rfl ((Kept.refl _ _).drewN nq)).mono ?_
  rintro e w1 ⟨rfl, h1, hk1⟩
  have H1 : Hid ((∃ ow', PSt L bs A ow' (m + 400) mu (lv - 1) (s.commit i) w1 ∧ AgreeP w ow ow') ∧ Kept (OwnP ow) w w1) := ⟨h1, hk1⟩
  clear h1 hk1 c0 c1 c5 c6 c7
  go_wp2_with fail
  go_ret
  exact ⟨rfl, H1.out⟩

end Go.Proofs.YtmcajfefagdbnaaGreat

namespace Go.Proofs.YtmcajfefagdbnaaGreat
open Go Go.RowKit Go.Sort Go.Lib

theorem held_getD (lk : Int → Lk) (k : Int) (i : Nat) : (holdF lk (k, (i : Int))).getD 0 = (lk k).h i := by
  unfold holdF
  split
  · simp
  · rename_i h
    simp only [Int.toNat_natCast, ne_eq, not_and, Classical.not_not] at h
    simp [h (by omega)]

theorem go_again {s : St} {i : Nat} (hw : (s.tx i).wounded = true) : s.go i = (s.again i, 3) := by unfold St.go; rw [if_pos hw]
theorem go_waits {s : St} {i : Nat} (hw : (s.tx i).wounded = false) (h : (s.tx i).waits.isSome = true) : s.go i = (s, 2) := by unfold St.go; rw [if_neg (by simp [hw]), if_pos h]
theorem go_commit {s : St} {i : Nat} (hw : (s.tx i).wounded = false) (h : (s.tx i).waits = none) (hn : (s.tx i).next = (s.tx i).ops.length) : s.go i = (s.commit i, 6) := by
  unfold St.go; rw [if_neg (by simp [hw]), if_neg (by simp [h]), if_pos hn]

theorem go_op {s : St} {i : Nat} (hw : (s.tx i).wounded = false) (h : (s.tx i).waits = none) (hn : (s.tx i).next < (s.tx i).ops.length) :
    s.go i = if 0 < modeOf (s.tx i).op ∧ (s.lk (s.tx i).op.a).h i < modeOf (s.tx i).op then
      if s.crowded (s.tx i).op.a then (s.fell i 3, 5)
      else if (s.lk (s.tx i).op.a).q.isEmpty && !hind s.n (s.lk (s.tx i).op.a).h i (modeOf (s.tx i).op) then (s.grant i (s.tx i).op.a (modeOf (s.tx i).op)).actOn i (s.tx i).op
      else (s.enq i (s.tx i).op.a (modeOf (s.tx i).op), 2)
    else s.actOn i (s.tx i).op := by
  unfold St.go
  rw [if_neg (by simp [hw]), if_neg (by simp [h]), if_neg (by omega)]

theorem op_mem {t : Tx} (h : t.next < t.ops.length) : t.op ∈ t.ops := by
  unfold Tx.op
  rw [List.getD_eq_getElem?_getD, List.getElem?_eq_getElem h]
  exact List.getElem_mem h

theorem mode_nonneg (o : Op4) : 0 ≤ modeOf o := by unfold modeOf; split; · omega
                                                   · split <;> omega

end Go.Proofs.YtmcajfefagdbnaaGreat

namespace Go.Proofs.YtmcajfefagdbnaaGreat
open Go Go.RowKit Go.Sort Go.Lib

theorem compactUpTo_rising (d : Array Int) (h : ∀ i j, i < j → j < d.size → d[i]! ≤ d[j]!) : ∀ m, m ≤ d.size → (compactUpTo d m).Pairwise (· < ·) ∧ ∀ x, x ∈ compactUpTo d m ↔ ∃ j, j < m ∧ d[j]! = x
  | 0, _ => by simp [compactUpTo]
  | m + 1, hm => by
    obtain ⟨h1, h2⟩ := compactUpTo_rising d h m (by omega)
    rw [compactUpTo_succ]
    by_cases h0 : m = 0
    · subst h0
      have : keeps d 0 = true := keeps_lt_one d 0 (by omega)
      simp [compactUpTo, this]
      intro x
      exact eq_comm
    · by_cases he : d[m]! = d[m - 1]!
      · rw [keeps_neg (by omega) he]
        simp only [Bool.false_eq_true, if_false, List.append_nil]
        refine ⟨h1, fun x => ?_⟩
        rw [h2 x]
        constructor
        · rintro ⟨j, hj, rfl⟩; exact ⟨j, by omega, rfl⟩
        · rintro ⟨j, hj, rfl⟩
          by_cases e : j = m
          · subst e; exact ⟨j - 1, by omega, he.symm⟩
          · exact ⟨j, by omega, rfl⟩
      · rw [keeps_pos he]
        simp only [if_true]
        refine ⟨?_, fun x => ?_⟩
        · rw [List.pairwise_append]
          refine ⟨h1, by simp, fun a ha b hb => ?_⟩
          simp at hb
          subst hb
          obtain ⟨j, hj, rfl⟩ := (h2 a).1 ha
          have e1 : d[m - 1]! ≤ d[m]! := h (m - 1) m (by omega) (by omega)
          have e2 : d[j]! ≤ d[m - 1]! := by
            by_cases e : j = m - 1
            · rw [e]; exact Int.le_refl _
            · exact h j (m - 1) (by omega) (by omega)
          omega
        · rw [List.mem_append, h2 x]
          constructor
          · rintro (⟨j, hj, rfl⟩ | hx)
            · exact ⟨j, by omega, rfl⟩
            · simp at hx; exact ⟨m, by omega, hx.symm⟩
          · rintro ⟨j, hj, rfl⟩
            by_cases e : j = m
            · subst e; exact .inr (by simp)
            · exact .inl ⟨j, by omega, rfl⟩

theorem compact_rising (l : List Int) (h : l.Pairwise (· ≤ ·)) : (compact l).Pairwise (· < ·) ∧ ∀ x, x ∈ compact l ↔ x ∈ l := by
  have hd : ∀ i j, i < j → j < l.toArray.size → l.toArray[i]! ≤ l.toArray[j]! := by
    intro i j hij hj
    have hj' : j < l.length := by simpa using hj
    have := List.pairwise_iff_getElem.1 h i j (by omega) hj' hij
    simpa [show i < l.length by omega, hj'] using this
  obtain ⟨h1, h2⟩ := compactUpTo_rising l.toArray hd l.length (by simp)
  refine ⟨h1, fun x => ?_⟩
  rw [show compact l = compactUpTo l.toArray l.length from rfl, h2 x, List.mem_iff_getElem]
  constructor
  · rintro ⟨j, hj, rfl⟩; exact ⟨j, hj, by simp [hj]⟩
  · rintro ⟨j, hj, rfl⟩; exact ⟨j, hj, by simp [hj]⟩

/-- The rows that have been met so far. -/
def GotA (H : Int × Int → Option Int) (left : Int × Int → Bool) (l : List Int) : Prop := ∀ k, k ∈ l ↔ ∃ t, (H (k, t)).isSome = true ∧ left (k, t) = false

theorem GotA.start (H : Int × Int → Option Int) : GotA H (fun a => (hvals H a).isSome) [] := by
  intro k
  simp only [List.not_mem_nil, false_iff, hvals, Option.isSome_map]
  rintro ⟨t, h1, h2⟩
  rw [h1] at h2
  cases h2

theorem GotA.more {H : Int × Int → Option Int} {left : Int × Int → Bool} {l : List Int} (h : GotA H left l) {k0 t0 : Int} (hH : (H (k0, t0)).isSome = true) : GotA H (fun c => left c && !decide (c = (k0, t0))) (l ++ [k0]) := by
  intro k
  rw [List.mem_append, h k]
  simp only [List.mem_singleton, Prod.mk.injEq, Bool.and_eq_false_iff, Bool.not_eq_false', decide_eq_true_eq]
  constructor
  · rintro (⟨t, h1, h2⟩ | rfl)
    · exact ⟨t, h1, .inl h2⟩
    · exact ⟨t0, hH, .inr ⟨rfl, rfl⟩⟩
  · rintro ⟨t, h1, h2 | ⟨rfl, rfl⟩⟩
    · exact .inl ⟨t, h1, h2⟩
    · exact .inr rfl

/-- The rows that have a holder, rising. -/
def LiveL (H : Int × Int → Option Int) (l : List Int) : Prop := l.Pairwise (· < ·) ∧ ∀ k, k ∈ l ↔ ∃ t, (H (k, t)).isSome = true

theorem GotA.sorted {H : Int × Int → Option Int} {left : Int × Int → Bool} {l : List Int} (h : GotA H left l) (hlf : ∀ a, keyH.ok a → left a = false) (hok : ∀ a, (H a).isSome = true → keyH.ok a) : LiveL H (compact (sortedI l)) := by
  obtain ⟨h1, h2⟩ := compact_rising (sortedI l) (sortedI_le l)
  refine ⟨h1, fun k => ?_⟩
  rw [h2, (sortedI_perm l).mem_iff, h k]
  exact ⟨fun ⟨t, x, _⟩ => ⟨t, x⟩, fun ⟨t, x⟩ => ⟨t, x, hlf _ (hok _ x)⟩⟩

/-- slices.Compact, on a list of one's own. -/
theorem compactInts (v : Value) (n : Nat) (zs : List Int) (w : World) (h : w.ownsRow 0 3 1 v n (zs.map (Value.int .i64))) (hn : n < 4611686018427387904) :
    Calls Tryz.prog 152 #[v] w fun e w' => ∃ ao c, e = .returned (.slice ao (compact zs).length c) ∧ (∀ b, (Value.slice ao (compact zs).length c).ownBlock = some b → v.ownBlock = some b) ∧ RowAt w' 3 1 (.slice ao (compact zs).length c) (compact zs).length ((compact zs).map (Value.int .i64)) ∧ Kept (fun k => v.ownBlock = some k) w w' := by
  have hl : zs.length = n := by have := h.1; simpa using this
  rcases h.2 with ⟨rfl, rfl⟩ | ⟨g, cap, cur, rfl, _, hg, h1, h2, h3, h4⟩
  · have : zs = [] := List.eq_nil_of_length_eq_zero hl
    subst this
    refine (show Calls Tryz.prog 152 #[.slice none 0 0] w _ from Any.slices_Compact_int_empty Tryz.laysNm220 none 0 w).mono ?_
    rintro e w' ⟨rfl, rfl⟩
    exact ⟨none, 0, rfl, fun b hb => hb, RowAt.nil _ _ _, Kept.refl _ _⟩
  · subst hl
    have hH : Holds (Value.int .i64) w g 0 zs.toArray := by
      intro j hj
      have hj' : j < zs.length := by simpa using hj
      refine ⟨?_, frozen_at hg _⟩
      rw [cell_at hg, Nat.zero_add]
      have e1 : (cur.toList.take (zs.length * 1))[j]? = (zs.map (Value.int .i64))[j]? := by rw [h4]
      rw [List.getElem?_take_of_lt (by omega)] at e1
      rw [← Array.getElem?_toList, e1]
      simp [hj']
    refine (show Calls Tryz.prog 152 #[.slice (some ⟨g, 0, none⟩) zs.length cap] w _ from Any.slices_Compact_int Tryz.laysNm220 g 0 cap zs w hH (by omega) h1).mono ?_
    rintro e w' ⟨rfl, q, rfl⟩
    have hle := compact_length_le zs
    refine ⟨some ⟨g, 0, none⟩, cap, rfl, fun b hb => hb, ⟨by simp, .inr ⟨g, 0, cap, _, rfl, by have := putRow_block (Value.int .i64) q 0 (compact zs ++ List.replicate (zs.length - (compact zs).length) 0).toArray #[] hg; rw [grow_empty] at this; exact this, by omega, h2, by simp [putCells, h3], ?_⟩⟩, ?_⟩
    · intro j u hu
      have hj : j < (compact zs).length := by simpa using (List.getElem?_eq_some_iff.1 hu).1
      have hj3 : j < cur.size := by omega
      rw [List.getElem?_map, List.getElem?_eq_getElem hj] at hu
      simp only [Option.map_some, Option.some.injEq] at hu
      rw [← hu]
      have hj4 : j < (compact zs ++ List.replicate (zs.length - (compact zs).length) 0).length := by simp; omega
      have e2 : (compact zs ++ List.replicate (zs.length - (compact zs).length) 0).toArray[j]! = (compact zs)[j] := by
        rw [getElem!_pos _ j (by simpa using hj4)]
        simp [List.getElem_append_left hj]
      simp only [putCells, Nat.zero_add, Array.getElem?_mapIdx, Array.getElem?_eq_getElem hj3, Option.map_some, Nat.zero_le, true_and, Nat.sub_zero]
      rw [if_pos (by simpa using hj4), e2]
    · have := putRow_kept (Value.int .i64) w q g 0 (compact zs ++ List.replicate (zs.length - (compact zs).length) 0).toArray #[]
      rw [grow_empty] at this
      exact this.mono (fun k hk => by cases hk; rfl)

set_option maxHeartbeats 3200000 in
set_option maxRecDepth 20000 in
theorem rowsWithLocks_any (p hb m : Nat) (H : Int × Int → Option Int) (w : World) (hp : w.cell? ⟨p, 6, none⟩ = some (.map (some hb))) (hm : MapAt keyH w hb m (hvals H))
    (hok : ∀ a, (H a).isSome = true → keyH.ok a) (hmm : m ≤ 1099511627776) :
    Calls Tryz.prog 128 #[.pointer (some ⟨p, 0, none⟩)] w fun e w' => ∃ ao c l, e = .returned (.slice ao l.length c) ∧ RowAt w' 3 1 (.slice ao l.length c) l.length (l.map (Value.int .i64)) ∧ LiveL H l ∧ l.length ≤ m ∧ Kept NoBlk w w' := by
  have hpl := World.block_lt_of_cell? w _ hp
  obtain ⟨w1, cnt, hrun, hR, hk1, hsz1, hcnt⟩ := hm.range Tryz.underlying124
  have HR : Hid (RangeAt keyH w1 hb w.heap.size m (hvals H) (fun a => (hvals H a).isSome) cnt) := hR
  have HK1 : Hid (Kept NoBlk w w1) := hk1
  have HHB : Hid (hb < w.heap.size) := hm.lt
  have HOK : Hid (∀ a, (H a).isSome = true → keyH.ok a) := hok
  have HMM : Hid (m ≤ 1099511627776) := hmm
  have HCNT : Hid (cnt ≤ m) := hcnt
  obtain ⟨i1, hi1, hy0, hy1, hy2⟩ := info_parts infoI
  have HI : Hid (Tryz.prog.info? 3 = some i1 ∧ i1.zero = some (.int .i64 0) ∧ i1.size = 1 ∧ i1.bytes = 8) := ⟨hi1, hy0, hy1, hy2⟩
  clear hR hk1 hm hok hi1 hy0 hy1 hy2 hmm hcnt
  go_enter Tryz.func128, Tryz.ntmps128
  go_wp2_with fail
  go_loopw [3] (fun v wr => ∃ (l : List Int) (ao : Option Addr) (c : Nat) (left : Int × Int → Bool) (cnt : Nat), v = .slice ao l.length c ∧ wr.ownsRow 0 3 1 (.slice ao l.length c) l.length (l.map (Value.int .i64)) ∧ (∀ b, (Value.slice ao l.length c).ownBlock = some b → w.heap.size < b) ∧
    RangeAt keyH wr hb w.heap.size m (hvals H) left cnt ∧ GotA H left l ∧ l.length + cnt ≤ m ∧ Kept NoBlk w wr) (fun _ wr => wr.rangeLeft hb w.heap.size)
  case atStart => exact ⟨[], none, 0, _, cnt, rfl, World.ownsRow_nil _ _ _ _, fun b hb => by simp [Value.ownBlock] at hb, HR.out, GotA.start H, by have := HCNT.out; simpa using this, HK1.out⟩
  case round =>
    obtain ⟨l, ao, c, left, cnt', rfl, hown, hbl, hrg, hgot, hlc, hkw⟩ := hrel
    have hleft := hrg.left_eq
    rcases hrg.next 0 with ⟨h0, hlf, hnx⟩ | ⟨a, v, w2, cnt2, ha, hla, hga, hnx, hrg2, hlt, hk2, hsz2, hen⟩
    · have HF : Hid (LiveL H (compact (sortedI l))) := hgot.sorted hlf HOK.out
      have HO : Hid (wr.ownsRow 0 3 1 (.slice ao l.length c) l.length (l.map (Value.int .i64))) := hown
      have HB : Hid _ := hbl
      have HKW : Hid (Kept NoBlk w wr) := hkw
      have HLC : Hid (l.length < 4611686018427387904) := by have := HMM.out; unfold Hid; omega
      have HLM : Hid (l.length ≤ m) := by unfold Hid; omega
      clear hlf hgot hown hbl hkw hleft hrg HR HK1 hlc
      go_wp2_with fail
      refine (sortInts _ l.length l wr HO.out HLC.out).mono ?_
      rintro e w' ⟨rfl, hown', hk'⟩
      have HO' : Hid (w'.ownsRow 0 3 1 (.slice ao l.length c) l.length ((sortedI l).map (Value.int .i64))) := hown'
      have HK' : Hid (Kept NoBlk w w') := HKW.out.trans hk' (fun k hk => .inr (Nat.le_of_lt (HB.out k hk)))
      clear hown' hk'
      go_wp2_with fail
      refine (compactInts _ l.length (sortedI l) w' HO'.out HLC.out).mono ?_
      rintro e w'' ⟨ao', c', rfl, hbl', hrow', hk'⟩
      have HR' : Hid _ := hrow'
      have HK'' : Hid (Kept NoBlk w w'') := HK'.out.trans hk' (fun k hk => .inr (Nat.le_of_lt (HB.out k hk)))
      have hcl := compact_length_le (sortedI l)
      have hsl : (sortedI l).length = l.length := by simp [sortedI]
      have HLE : Hid ((compact (sortedI l)).length ≤ m) := by have := HLM.out; unfold Hid; omega
      clear hcl hsl
      clear hrow' hk' hbl'
      generalize compact (sortedI l) = zs at *
      go_wp2_with fail
      go_ret
      exact ⟨ao', c', zs, rfl, HR'.out, HF.out, HLE.out, HK''.out⟩
    · obtain ⟨r0, t0⟩ := a
      obtain ⟨md, hmd, rfl⟩ : ∃ md, H (r0, t0) = some md ∧ v = .int .i64 md := by
        simp only [hvals] at hga
        cases hH : H (r0, t0) with
        | none => rw [hH] at hga; cases hga
        | some md => rw [hH] at hga; exact ⟨md, rfl, by cases hga; rfl⟩
      have hnx' : (Instr.next (.pointer (some ⟨w.heap.size, 0, none⟩)) false 0).run Tryz.prog wr = .ok (.tuple #[.bool true, .agg #[.int .i64 r0, .int .i64 t0], .int .i64 md]) w2 := hnx
      have hen' : (Instr.entry (.pointer (some ⟨w.heap.size, 0, none⟩))).run Tryz.prog w2 = .ok (.tuple #[.agg #[.int .i64 r0, .int .i64 t0], .int .i64 md]) w2 := hen
      have hkw2 : Kept NoBlk w w2 := hkw.trans hk2 (fun k hk => .inr (by cases hk; exact Nat.le_refl _))
      have hown2 : w2.ownsRow 0 3 1 (.slice ao l.length c) l.length (l.map (Value.int .i64)) := ownsRow_kept hown hk2 (fun k hk e => by have := hbl k hk; unfold Blk at e; omega)
      have HMD : Hid (H (r0, t0) = some md) := hmd
      have HRG : Hid (RangeAt keyH w2 hb w.heap.size m (hvals H) (fun c => left c && !decide (c = (r0, t0))) cnt2) := hrg2
      have HLT : Hid (cnt2 < wr.rangeLeft hb w.heap.size) := by rw [hleft]; exact hlt
      have HLC : Hid (l.length + 1 + cnt2 ≤ m) := by unfold Hid; omega
      have HG : Hid (GotA H left l) := hgot
      have HO : Hid (w2.ownsRow 0 3 1 (.slice ao l.length c) l.length (l.map (Value.int .i64))) := hown2
      have HB : Hid _ := hbl
      have HKW : Hid (Kept NoBlk w w2) := hkw2
      have HWS : Hid (w.heap.size < w2.heap.size) := hrg2.lt.1
      clear hnx hen hkw2 hown2 hown hbl hrg hgot hkw hleft hla hga hrg2 hlt hk2 hsz2 hmd ha HR HK1 hlc
      have HB0 : Hid (l.length + 1 ≤ maxLen) := by have := HLC.out; have := HMM.out; unfold Hid maxLen; omega
      have HB1 : Hid ((l.length + 1) * 8 ≤ 140737488355328) := by have := HLC.out; have := HMM.out; unfold Hid; omega
      go_wp2_with (at_builtin; refine wpList_append_at (by rfl) _ _ 45 (by rfl) 3 i1 _ 1 8 Tryz.underlying45 HI.out.1 HI.out.2.1 HI.out.2.2.1 HI.out.2.2.2 (by rfl) (.slice ao l.length c) l.length (l.map (Value.int .i64)) (by rfl) (ownsRow_kept HO.out (((Kept.refl NoBlk w2).alloc _).alloc _) (fun _ _ x => x)) (.slice (some ⟨w2.heap.size + 1, 0, none⟩) 1 1) 1 [.int .i64 r0] (by rfl) (from_new1' w2 _ _ _ rfl) HB0.out HB1.out ?_; intro ao' c' w3 hown3 hmv3)
      have hka : Kept NoBlk w2 ((w2.alloc (Obj.cells #[Value.int IntKind.i64 r0, Value.int IntKind.i64 t0] 168)).alloc (Obj.cells #[Value.int IntKind.i64 r0] 3)) := ((Kept.refl _ _).alloc _).alloc _
      have hkb := hmv3.keptOf
      have hnb : ∀ k, k ≤ w.heap.size → ¬ (Value.slice ao l.length c).ownBlock = some k := fun k hk e => by have := HB.out k e; omega
      have hrg3 := (RangeAt.kept HRG.out hka (fun x => x) (fun x => x)).kept hkb (hnb _ (Nat.le_of_lt HHB.out)) (hnb _ (Nat.le_refl _))
      refine ⟨⟨l ++ [r0], ao', c', _, cnt2, ?_, ?_, ?_, hrg3, GotA.more HG.out (by rw [HMD.out]; rfl), by simpa using HLC.out, ?_⟩, ?_⟩
      · simp
      · rw [List.map_append]; simpa using hown3
      · intro b hb
        have : (Value.slice ao' (l.length + 1) c').ownBlock = some b := by simpa [Value.ownBlock] using hb
        rcases hmv3.fresh b this with h | h
        · exact HB.out b h
        · have := HWS.out
          have h5 := hka.size
          omega
      · exact (HKW.out.trans' hka).trans hkb (fun k hk => .inr (Nat.le_of_lt (HB.out k hk)))
      · rw [hrg3.left_eq]; exact HLT.out

end Go.Proofs.YtmcajfefagdbnaaGreat

namespace Go.Proofs.YtmcajfefagdbnaaGreat
open Go Go.RowKit Go.Sort Go.Lib

theorem contains_ok (ao : Option Addr) (c : Nat) (l : List Int) (x : Int) (w : World) (h : RowAt w 3 1 (.slice ao l.length c) l.length (l.map (Value.int .i64))) :
    Calls Tryz.prog 129 #[.slice ao l.length c, .int .i64 x] w fun e w' => e = .returned (.bool (l.contains x)) ∧ w' = w := by
  rcases h.2 with ⟨h0, h1⟩ | ⟨g, off, cap, cur, h0, hg, h1, h2, h3, h4⟩
  · have : l = [] := List.eq_nil_of_length_eq_zero h1
    subst this
    exact (show Calls Tryz.prog 129 #[.slice ao 0 c, .int .i64 x] w _ from Any.slices_Contains_int_empty Tryz.lays107 ao c x w)
  · simp only [Value.slice.injEq] at h0
    obtain ⟨rfl, _, rfl⟩ := h0
    have := Any.slices_Contains_int Tryz.lays107 g off l.length c l x w (Nat.le_refl _) (by unfold maxLen at h2; omega) (fun j hj => h.cell j (by simp [List.getD, hj]))
    rw [List.take_length] at this
    exact this

set_option maxHeartbeats 800000 in
theorem crowded_any (p hb m : Nat) (row : Int) (H : Int × Int → Option Int) (w : World) (hp : w.cell? ⟨p, 6, none⟩ = some (.map (some hb))) (hm : MapAt keyH w hb m (hvals H))
    (hok : ∀ a, (H a).isSome = true → keyH.ok a) (hmm : m ≤ 1099511627776) :
    Calls Tryz.prog 93 #[.pointer (some ⟨p, 0, none⟩), .int .i64 row] w fun e w' => ∃ l, LiveL H l ∧ e = .returned (.bool (decide (16 ≤ l.length) && !l.contains row)) ∧ Kept NoBlk w w' := by
  have hcon := rowsWithLocks_any p hb m H w hp hm hok hmm
  clear hm hok
  go_enter Tryz.func93, Tryz.ntmps93
  go_wp2_with fail
  refine hcon.mono ?_
  rintro e w1 ⟨ao, c, l, rfl, hrow, hl, hlm, hk⟩
  have HR : Hid (RowAt w1 3 1 (.slice ao l.length c) l.length (l.map (Value.int .i64))) := hrow
  have HL : Hid (LiveL H l) := hl
  have HK : Hid (Kept NoBlk w w1) := hk
  clear hrow hl hk hcon
  by_cases h16 : 16 ≤ l.length
  · have hge : (16 : Int) ≤ (l.length : Nat) := by omega
    have hge' : ¬ ((l.length : Nat) : Int) < 16 := by omega
    go_wp2_with fail
    refine (contains_ok ao c l row w1 HR.out).mono ?_
    rintro e w2 ⟨rfl, rfl⟩
    generalize hcc : l.contains row = b at *
    go_wp2_with fail
    go_ret
    refine ⟨l, HL.out, ?_, HK.out⟩
    rw [hcc, show decide (16 ≤ l.length) = true from by simp [h16]]
    rfl
  · have hge : ¬ (16 : Int) ≤ (l.length : Nat) := by omega
    have hge' : ((l.length : Nat) : Int) < 16 := by omega
    go_wp2_with fail
    go_ret
    exact ⟨l, HL.out, by simp [h16], HK.out⟩

/-- A row that somebody waits for is held. -/
theorem Inv.waited {s : St} (hs : Inv s) {k : Int} (h : (s.lk k).q ≠ []) : ∃ j, j ≤ s.n ∧ (s.lk k).h j ≠ 0 := by
  cases hq : (s.lk k).q with
  | nil => exact absurd hq h
  | cons x q =>
    have := hs.still k x.1 x.2 q hq
    rw [hind_true] at this
    obtain ⟨j, h1, _, h2, _⟩ := this
    exact ⟨j, h1, h2⟩

theorem live_holder {s : St} (hs : Inv s) (k : Int) : (s.lk k).live s.n = true ↔ ∃ t, (holdF s.lk (k, t)).isSome = true := by
  rw [live_iff]
  constructor
  · intro h
    obtain ⟨j, _, hj⟩ : ∃ j, j ≤ s.n ∧ (s.lk k).h j ≠ 0 := by
      rcases h with h | h
      · exact hs.waited h
      · exact h
    exact ⟨(j : Int), by simp [holdF, hj]⟩
  · rintro ⟨t, ht⟩
    unfold holdF at ht
    split at ht
    · rename_i h
      exact .inr ⟨_, ((hs.row k).hold _ h.2).2, h.2⟩
    · cases ht

theorem act_len {s : St} (hs : Inv s) {l : List Int} (hl : LiveL (holdF s.lk) l) : l.length = s.act.length ∧ ∀ k, l.contains k = s.act.contains k := by
  have hmem : ∀ k, k ∈ l ↔ k ∈ s.act := fun k => by rw [hl.2 k, hs.act k, live_holder hs k]
  have hn : l.Nodup := hl.1.imp (fun {a b} h => by omega)
  refine ⟨Nat.le_antisymm (nodup_len l s.act hn (fun x hx => (hmem x).1 hx)) (nodup_len s.act l hs.actOnce (fun x hx => (hmem x).2 hx)), fun k => ?_⟩
  rw [Bool.eq_iff_iff]
  simp [hmem k]

theorem pcrowded {L : Lay} {bs : Nat → Nat} {A : List Nat} {ow : Ow} {m : Nat} {mu lv : Int} {s : St} {w : World} (h : PSt L bs A ow m mu lv s w) (hs : Inv s) (k : Int) (hmm : m ≤ 1099511627776) :
    Calls Tryz.prog 93 #[.pointer (some ⟨L.p, 0, none⟩), .int .i64 k] w fun e w' => e = .returned (.bool (s.crowded k)) ∧ Kept NoBlk w w' := by
  obtain ⟨u, tv, wv, b1, c3, c6, c7, c4, b2⟩ := h.cells
  refine (crowded_any L.p L.hb m k (holdF s.lk) w c6 h.hold (holdF_ok h) hmm).mono ?_
  rintro e w' ⟨l, hl, rfl, hk⟩
  obtain ⟨h1, h2⟩ := act_len hs hl
  refine ⟨?_, hk⟩
  rw [h1, h2, St.crowded, Bool.and_comm]

end Go.Proofs.YtmcajfefagdbnaaGreat

namespace Go.Proofs.YtmcajfefagdbnaaGreat
open Go Go.RowKit Go.Sort Go.Lib

/-- What a step leaves. -/
def GoP (L : Lay) (bs : Nat → Nat) (A : List Nat) (ow : Ow) (m : Nat) (mu lv : Int) (w : World) (r : St × Int) (w' : World) : Prop :=
  (∃ ow', PSt L bs A ow' (m + 500) mu (if 4 ≤ r.2 then lv - 1 else lv) r.1 w' ∧ AgreeP w ow ow') ∧ Kept (OwnP ow) w w'

theorem GoP.fell {L : Lay} {bs : Nat → Nat} {A : List Nat} {ow : Ow} {m m1 : Nat} {mu lv : Int} {s : St} {w W : World} (h : PSt L bs A ow m1 mu lv s W) (hk : Kept (OwnP ow) w W) (hm1 : m1 ≤ m + 1) (hI : Inv s) (i : Nat) (hi : i ∈ A) (hst : (s.tx i).state = 0) (hact : s.act.length ≤ 16) (hmm : m + 1001 ≤ 1099511627776) (z a : Int) (hz : z ≠ 0) (ha : 4 ≤ a) (hlv : 1 ≤ lv ∧ lv ≤ 12) :
    Calls Tryz.prog 72 #[.pointer (some ⟨L.p, 0, none⟩), .pointer (some ⟨bs i, 0, none⟩), .int .i64 z] W fun e w' => e = .returned (.tuple #[]) ∧ GoP L bs A ow m mu lv w (s.fell i z, a) w' := by
  refine (pfail h hI i hi hst hact (by omega) z hz hlv).mono ?_
  rintro e w' ⟨rfl, h1, h2⟩
  refine ⟨rfl, ⟨ow, ?_, AgreeP.refl _ _⟩, hk.trans' h2⟩
  rw [if_pos (show 4 ≤ (s.fell i z, a).2 from ha)]
  exact h1.mono (by omega)

theorem GoP.does {L : Lay} {bs : Nat → Nat} {A : List Nat} {ow : Ow} {m m1 : Nat} {mu lv : Int} {s : St} {w W : World} (h : PSt L bs A ow m1 mu lv s W) (hk : Kept (OwnP ow) w W) (hm1 : m1 ≤ m + 1) (i : Nat) (hi : i ∈ A) (hst : (s.tx i).state = 0) (hnx : (s.tx i).next < (s.tx i).ops.length) (hmm : m + 1001 ≤ 1099511627776) (o : Op4) (ho : OpWf o) :
    Calls Tryz.prog 97 #[.pointer (some ⟨L.p, 0, none⟩), .pointer (some ⟨bs i, 0, none⟩), .agg #[.int .i64 o.k, .int .i64 o.a, .int .i64 o.b, .int .i64 o.c]] W fun e w' => e = .returned (.tuple #[]) ∧ GoP L bs A ow m mu lv w (s.doOp i o, 1) w' := by
  refine (pdo h i hi hst hnx o ho (by omega)).mono ?_
  rintro e w' ⟨rfl, ⟨ow', h1, h3⟩, h2⟩
  refine ⟨rfl, ⟨ow', ?_, fun k hk' => h3 k (Nat.lt_of_lt_of_le hk' hk.size)⟩, hk.trans' h2⟩
  rw [if_neg (show ¬ 4 ≤ (s.doOp i o, (1 : Int)).2 from (by show ¬ (4 : Int) ≤ 1; omega))]
  exact h1.mono (by omega)

/-- What stands ready of an operation: to fail, or to do it. -/
def Ready (L : Lay) (bs : Nat → Nat) (A : List Nat) (ow : Ow) (m : Nat) (mu lv : Int) (w : World) (s1 : St) (i : Nat) (o : Op4) (W1 : World) : Prop := ∀ W : World, Kept NoBlk W1 W →
  (Calls Tryz.prog 72 #[.pointer (some ⟨L.p, 0, none⟩), .pointer (some ⟨bs i, 0, none⟩), .int .i64 2] W fun e w' => e = .returned (.tuple #[]) ∧ GoP L bs A ow m mu lv w (s1.fell i 2, 4) w') ∧
  Calls Tryz.prog 97 #[.pointer (some ⟨L.p, 0, none⟩), .pointer (some ⟨bs i, 0, none⟩), .agg #[.int .i64 o.k, .int .i64 o.a, .int .i64 o.b, .int .i64 o.c]] W fun e w' => e = .returned (.tuple #[]) ∧ GoP L bs A ow m mu lv w (s1.doOp i o, 1) w'

theorem Ready.of {L : Lay} {bs : Nat → Nat} {A : List Nat} {ow : Ow} {m m1 : Nat} {mu lv : Int} {s : St} {w W1 : World} (h : PSt L bs A ow m1 mu lv s W1) (hk : Kept (OwnP ow) w W1) (hm1 : m1 ≤ m + 1) (hI : Inv s) (i : Nat) (hi : i ∈ A) (hst : (s.tx i).state = 0) (hnx : (s.tx i).next < (s.tx i).ops.length) (hact : s.act.length ≤ 16) (hmm : m + 1001 ≤ 1099511627776) (hlv : 1 ≤ lv ∧ lv ≤ 12) (o : Op4) (ho : OpWf o) : Ready L bs A ow m mu lv w s i o W1 := fun W hW =>
  ⟨GoP.fell (h.kept0 hW) (hk.trans' (hW.mono (fun _ x => x.elim))) hm1 hI i hi hst hact hmm 2 4 (by omega) (by omega) hlv, GoP.does (h.kept0 hW) (hk.trans' (hW.mono (fun _ x => x.elim))) hm1 i hi hst hnx hmm o ho⟩

/-- All that a step with an operation calls. -/
structure Calleds (L : Lay) (bs : Nat → Nat) (A : List Nat) (ow : Ow) (m : Nat) (mu lv : Int) (w : World) (s : St) (i : Nat) (o : Op4) : Prop where
  good : ∀ W : World, Kept NoBlk w W → Calls Tryz.prog 92 #[.pointer (some ⟨L.p, 0, none⟩), .int .i64 o.a, .agg #[.int .i64 (i : Int), .int .i64 (modeOf o)]] W fun e w' => e = .returned (.bool (decide (modeOf o ≤ (s.lk o.a).h i))) ∧ Kept NoBlk W w'
  crowd : ∀ W : World, Kept NoBlk w W → Calls Tryz.prog 93 #[.pointer (some ⟨L.p, 0, none⟩), .int .i64 o.a] W fun e w' => e = .returned (.bool (s.crowded o.a)) ∧ Kept NoBlk W w'
  free : ∀ W : World, Kept NoBlk w W → Calls Tryz.prog 94 #[.pointer (some ⟨L.p, 0, none⟩), .int .i64 o.a, .agg #[.int .i64 (i : Int), .int .i64 (modeOf o)]] W fun e w' => e = .returned (.bool ((s.lk o.a).q.isEmpty && !hind s.n (s.lk o.a).h i (modeOf o))) ∧ Kept NoBlk W w'
  fell : ∀ W : World, Kept NoBlk w W → Calls Tryz.prog 72 #[.pointer (some ⟨L.p, 0, none⟩), .pointer (some ⟨bs i, 0, none⟩), .int .i64 3] W fun e w' => e = .returned (.tuple #[]) ∧ GoP L bs A ow m mu lv w (s.fell i 3, 5) w'
  wait : ∀ W : World, Kept NoBlk w W → Calls Tryz.prog 95 #[.pointer (some ⟨L.p, 0, none⟩), .int .i64 o.a, .agg #[.int .i64 (i : Int), .int .i64 (modeOf o)]] W fun e w' => e = .returned (.tuple #[]) ∧ GoP L bs A ow m mu lv w (s.enq i o.a (modeOf o), 2) w'
  take : 0 < modeOf o → s.crowded o.a = false → (s.lk o.a).q.isEmpty && !hind s.n (s.lk o.a).h i (modeOf o) → ∀ W : World, Kept NoBlk w W → Calls Tryz.prog 96 #[.pointer (some ⟨L.p, 0, none⟩), .int .i64 o.a, .agg #[.int .i64 (i : Int), .int .i64 (modeOf o)]] W fun e w' => e = .returned (.tuple #[]) ∧ Ready L bs A ow m mu lv w (s.grant i o.a (modeOf o)) i o w' ∧ Kept (Blk L.hb) W w'
  now : Ready L bs A ow m mu lv w s i o w

theorem PSt.calleds {L : Lay} {bs : Nat → Nat} {A : List Nat} {ow : Ow} {m : Nat} {mu lv : Int} {s : St} {w : World} (h : PSt L bs A ow m mu lv s w) (hI : Inv s) (i : Nat) (hi : i ∈ A) (hst : (s.tx i).state = 0) (hact : s.act.length ≤ 16) (hmm : m + 1001 ≤ 1099511627776) (hlv : 1 ≤ lv ∧ lv ≤ 12) (hnx : (s.tx i).next < (s.tx i).ops.length) (o : Op4) (ho : OpWf o) : Calleds L bs A ow m mu lv w s i o := by
  have hin := h.among i hi
  have hnm := h.nmax
  have hii : inI (i : Int) := ⟨by omega, by omega⟩
  have no : ∀ {W : World}, Kept NoBlk w W → Kept (OwnP ow) w W := fun k => k.mono (fun _ x => x.elim)
  refine ⟨fun W hW => ?_, fun W hW => ?_, fun W hW => ?_, fun W hW => ?_, fun W hW => ?_, fun hm hc hf W hW => ?_, ?_⟩
  · obtain ⟨u, tv, wv, b1, c3, c6, c7, c4, b2⟩ := (h.kept0 hW).cells
    have := holdsAsGood_any L.p L.hb m o.a ((i : Int), modeOf o) (holdF s.lk) W c6 (h.kept0 hW).hold ho.1 hii
    rw [held_getD] at this
    exact this
  · exact pcrowded (h.kept0 hW) hI o.a (by omega)
  · exact pfree (h.kept0 hW) o.a ho.1 i (modeOf o) (hI.row o.a).once
  · exact GoP.fell (h.kept0 hW) (no hW) (by omega) hI i hi hst hact hmm 3 5 (by omega) (by omega) hlv
  · refine (pwait (h.kept0 hW) o.a ho.1 i hi (modeOf o) (hI.row o.a).once (by omega)).mono ?_
    rintro e w' ⟨rfl, ⟨ow', h1, h3⟩, h2⟩
    refine ⟨rfl, ⟨ow', ?_, fun k hk' => h3 k (Nat.lt_of_lt_of_le hk' hW.size)⟩, (no hW).trans' h2⟩
    rw [if_neg (show ¬ 4 ≤ (s.enq i o.a (modeOf o), (2 : Int)).2 from (by show ¬ (4 : Int) ≤ 2; omega))]
    exact h1.mono (by omega)
  · refine (ptake (h.kept0 hW) o.a i (modeOf o) ho.1 hi (by omega) (by unfold maxLen; omega)).mono ?_
    rintro e w' ⟨rfl, h1, h2⟩
    simp only [Bool.and_eq_true, List.isEmpty_iff, Bool.not_eq_true'] at hf
    refine ⟨rfl, Ready.of (h1.congr (s' := s.grant i o.a (modeOf o)) rfl rfl rfl rfl rfl rfl) ((no hW).trans' (h2.mono (fun k e => ?_))) (by omega) (hI.grant hin hst (modeOf_pos hm) hf.1 hf.2) i hi hst hnx (addKey_len hc hact) hmm hlv o ho, h2⟩
    unfold Blk at e
    subst e
    unfold OwnP
    rw [h.tags.2.2.1]
    exact tagNe (by omega)
  · exact Ready.of h (Kept.refl _ _) (by omega) hI i hi hst hnx hact hmm hlv o ho

end Go.Proofs.YtmcajfefagdbnaaGreat
