import Derived.Test.YtmcajfefagdbnaaGreatJ15
import Derived.Test.YtmcajfefagdbnaaGreatJ14
import Derived.Test.YtmcajfefagdbnaaGreatJ06
import Derived.Test.YtmcajfefagdbnaaGreatJ16
import Derived.Deep.AppendLies
namespace Go.Proofs.YtmcajfefagdbnaaGreat
open Go Go.RowKit Go.Sort Go.Lib
theorem compactUpTo_rising (d : Array Int) (h : ∀ i j, i < j → j < d.size → d[i]! ≤ d[j]!) : ∀ m, m ≤ d.size → (compactUpTo d m).Pairwise (· < ·) ∧ ∀ x, x ∈ compactUpTo d m ↔ ∃ j, j < m ∧ d[j]! = x
 | 0, _ => by simp [compactUpTo]
 | m + 1, hm => by
  obtain ⟨h1, h2⟩ := compactUpTo_rising d h m (by omega)
  rw [compactUpTo_succ]
  by_cases h0 : m = 0
  ·subst h0
   have : keeps d 0 = true := keeps_lt_one d 0 (by omega)
   simp [compactUpTo, this]
   intro x
   exact eq_comm
  ·by_cases he : d[m]! = d[m - 1]!
   ·rw [keeps_neg (by omega) he]
    simp only [Bool.false_eq_true, if_false, List.append_nil]
    refine ⟨h1, fun x => ?_⟩
    rw [h2 x]
    constructor
    ·rintro ⟨j, hj, rfl⟩; exact ⟨j, by omega, rfl⟩
    ·rintro ⟨j, hj, rfl⟩
     by_cases e : j = m
     ·subst e; exact ⟨j - 1, by omega, he.symm⟩
     ·exact ⟨j, by omega, rfl⟩
   ·rw [keeps_pos he]
    simp only [if_true]
    refine ⟨?_, fun x => ?_⟩
    ·rw [List.pairwise_append]
     refine ⟨h1, by simp, fun a ha b hb => ?_⟩
     simp at hb
     subst hb
     obtain ⟨j, hj, rfl⟩ := (h2 a).1 ha
     have e1 : d[m - 1]! ≤ d[m]! := h (m - 1) m (by omega) (by omega)
     have e2 : d[j]! ≤ d[m - 1]! := by
      by_cases e : j = m - 1
      ·rw [e]; exact Int.le_refl _
      ·exact h j (m - 1) (by omega) (by omega)
     omega
    ·rw [List.mem_append, h2 x]
     constructor
     ·rintro (⟨j, hj, rfl⟩ | hx)
      ·exact ⟨j, by omega, rfl⟩
      ·simp at hx; exact ⟨m, by omega, hx.symm⟩
     ·rintro ⟨j, hj, rfl⟩
      by_cases e : j = m
      ·subst e; exact .inr (by simp)
      ·exact .inl ⟨j, by omega, rfl⟩
theorem compact_rising (l : List Int) (h : l.Pairwise (· ≤ ·)) : (compact l).Pairwise (· < ·) ∧ ∀ x, x ∈ compact l ↔ x ∈ l := by
 have hd : ∀ i j, i < j → j < l.toArray.size → l.toArray[i]! ≤ l.toArray[j]! := by
  intro i j hij hj
  have hj' : j < l.length := by simpa using hj
  have := List.pairwise_iff_getElem.1 h i j (by omega) hj' hij
  simpa [show i < l.length by omega, hj'] using this
 obtain ⟨h1, h2⟩ := compactUpTo_rising l.toArray hd l.length (by simp)
 refine ⟨h1, fun x => ?_⟩
 rw [show compact l = compactUpTo l.toArray l.length from rfl, h2 x, List.mem_iff_getElem]
 constructor
 ·rintro ⟨j, hj, rfl⟩; exact ⟨j, hj, by simp [hj]⟩
 ·rintro ⟨j, hj, rfl⟩; exact ⟨j, hj, by simp [hj]⟩
def GotA (H : Int × Int → Option Int) (left : Int × Int → Bool) (l : List Int) : Prop := ∀ k, k ∈ l ↔ ∃ t, (H (k, t)).isSome = true ∧ left (k, t) = false
theorem GotA.start (H : Int × Int → Option Int) : GotA H (fun a => (hvals H a).isSome) [] := by
 intro k
 simp only [List.not_mem_nil, false_iff, hvals, Option.isSome_map]
 rintro ⟨t, h1, h2⟩
 rw [h1] at h2
 cases h2
theorem GotA.more {H : Int × Int → Option Int} {left : Int × Int → Bool} {l : List Int} (h : GotA H left l) {k0 t0 : Int} (hH : (H (k0, t0)).isSome = true) : GotA H (fun c => left c && !decide (c = (k0, t0))) (l ++ [k0]) := by
 intro k
 rw [List.mem_append, h k]
 simp only [List.mem_singleton, Prod.mk.injEq, Bool.and_eq_false_iff, Bool.not_eq_false', decide_eq_true_eq]
 constructor
 ·rintro (⟨t, h1, h2⟩ | rfl)
  ·exact ⟨t, h1, .inl h2⟩
  ·exact ⟨t0, hH, .inr ⟨rfl, rfl⟩⟩
 ·rintro ⟨t, h1, h2 | ⟨rfl, rfl⟩⟩
  ·exact .inl ⟨t, h1, h2⟩
  ·exact .inr rfl
def LiveL (H : Int × Int → Option Int) (l : List Int) : Prop := l.Pairwise (· < ·) ∧ ∀ k, k ∈ l ↔ ∃ t, (H (k, t)).isSome = true
theorem GotA.sorted {H : Int × Int → Option Int} {left : Int × Int → Bool} {l : List Int} (h : GotA H left l) (hlf : ∀ a, keyH.ok a → left a = false) (hok : ∀ a, (H a).isSome = true → keyH.ok a) : LiveL H (compact (sortedI l)) := by
 obtain ⟨h1, h2⟩ := compact_rising (sortedI l) (sortedI_le l)
 refine ⟨h1, fun k => ?_⟩
 rw [h2, (sortedI_perm l).mem_iff, h k]
 exact ⟨fun ⟨t, x, _⟩ => ⟨t, x⟩, fun ⟨t, x⟩ => ⟨t, x, hlf _ (hok _ x)⟩⟩
theorem compactInts (v : Value) (n : Nat) (zs : List Int) (w : World) (h : w.ownsRow 0 3 1 v n (zs.map (Value.int .i64))) (hn : n < 4611686018427387904) :
  Calls Tryz.prog 152 #[v] w fun e w' => ∃ ao c, e = .returned (.slice ao (compact zs).length c) ∧ (∀ b, (Value.slice ao (compact zs).length c).ownBlock = some b → v.ownBlock = some b) ∧ RowAt w' 3 1 (.slice ao (compact zs).length c) (compact zs).length ((compact zs).map (Value.int .i64)) ∧ Kept (fun k => v.ownBlock = some k) w w' := by
 have hl : zs.length = n := by have := h.1; simpa using this
 rcases h.2 with ⟨rfl, rfl⟩ | ⟨g, cap, cur, rfl, _, hg, h1, h2, h3, h4⟩
 ·have : zs = [] := List.eq_nil_of_length_eq_zero hl
  subst this
  refine (show Calls Tryz.prog 152 #[.slice none 0 0] w _ from Any.slices_Compact_int_empty Tryz.laysNm220 none 0 w).mono ?_
  rintro e w' ⟨rfl, rfl⟩
  exact ⟨none, 0, rfl, fun b hb => hb, RowAt.nil _ _ _, Kept.refl _ _⟩
 ·subst hl
  have hH : Holds (Value.int .i64) w g 0 zs.toArray := by
   intro j hj
   have hj' : j < zs.length := by simpa using hj
   refine ⟨?_, frozen_at hg _⟩
   rw [cell_at hg, Nat.zero_add]
   have e1 : (cur.toList.take (zs.length * 1))[j]? = (zs.map (Value.int .i64))[j]? := by rw [h4]
   rw [List.getElem?_take_of_lt (by omega)] at e1
   rw [← Array.getElem?_toList, e1]
   simp [hj']
  refine (show Calls Tryz.prog 152 #[.slice (some ⟨g, 0, none⟩) zs.length cap] w _ from Any.slices_Compact_int Tryz.laysNm220 g 0 cap zs w hH (by omega) h1).mono ?_
  rintro e w' ⟨rfl, q, rfl⟩
  have hle := compact_length_le zs
  refine ⟨some ⟨g, 0, none⟩, cap, rfl, fun b hb => hb, ⟨by simp, .inr ⟨g, 0, cap, _, rfl, by have := putRow_block (Value.int .i64) q 0 (compact zs ++ List.replicate (zs.length - (compact zs).length) 0).toArray #[] hg; rw [grow_empty] at this; exact this, by omega, h2, by simp [putCells, h3], ?_⟩⟩, ?_⟩
  ·intro j u hu
   have hj : j < (compact zs).length := by simpa using (List.getElem?_eq_some_iff.1 hu).1
   have hj3 : j < cur.size := by omega
   rw [List.getElem?_map, List.getElem?_eq_getElem hj] at hu
   simp only [Option.map_some, Option.some.injEq] at hu
   rw [← hu]
   have hj4 : j < (compact zs ++ List.replicate (zs.length - (compact zs).length) 0).length := by simp; omega
   have e2 : (compact zs ++ List.replicate (zs.length - (compact zs).length) 0).toArray[j]! = (compact zs)[j] := by
    rw [getElem!_pos _ j (by simpa using hj4)]
    simp [List.getElem_append_left hj]
   simp only [putCells, Nat.zero_add, Array.getElem?_mapIdx, Array.getElem?_eq_getElem hj3, Option.map_some, Nat.zero_le, true_and, Nat.sub_zero]
   rw [if_pos (by simpa using hj4), e2]
  ·have := putRow_kept (Value.int .i64) w q g 0 (compact zs ++ List.replicate (zs.length - (compact zs).length) 0).toArray #[]
   rw [grow_empty] at this
   exact this.mono (fun k hk => by cases hk; rfl)
set_option maxHeartbeats 3200000 in
set_option maxRecDepth 20000 in
theorem rowsWithLocks_any (p hb m : Nat) (H : Int × Int → Option Int) (w : World) (hp : w.cell? ⟨p, 6, none⟩ = some (.map (some hb))) (hm : MapAt keyH w hb m (hvals H))
  (hok : ∀ a, (H a).isSome = true → keyH.ok a) (hmm : m ≤ 1099511627776) :
  Calls Tryz.prog 128 #[.pointer (some ⟨p, 0, none⟩)] w fun e w' => ∃ ao c l, e = .returned (.slice ao l.length c) ∧ RowAt w' 3 1 (.slice ao l.length c) l.length (l.map (Value.int .i64)) ∧ LiveL H l ∧ l.length ≤ m ∧ Kept NoBlk w w' := by
 have hpl := World.block_lt_of_cell? w _ hp
 obtain ⟨w1, cnt, hrun, hR, hk1, hsz1, hcnt⟩ := hm.range Tryz.underlying124
 have HR : Hid (RangeAt keyH w1 hb w.heap.size m (hvals H) (fun a => (hvals H a).isSome) cnt) := hR
 have HK1 : Hid (Kept NoBlk w w1) := hk1
 have HHB : Hid (hb < w.heap.size) := hm.lt
 have HOK : Hid (∀ a, (H a).isSome = true → keyH.ok a) := hok
 have HMM : Hid (m ≤ 1099511627776) := hmm
 have HCNT : Hid (cnt ≤ m) := hcnt
 obtain ⟨i1, hi1, hy0, hy1, hy2⟩ := info_parts infoI
 have HI : Hid (Tryz.prog.info? 3 = some i1 ∧ i1.zero = some (.int .i64 0) ∧ i1.size = 1 ∧ i1.bytes = 8) := ⟨hi1, hy0, hy1, hy2⟩
 clear hR hk1 hm hok hi1 hy0 hy1 hy2 hmm hcnt
 go_enter Tryz.func128, Tryz.ntmps128
 go_wp2_with fail
 go_loopw [3] (fun v wr => ∃ (l : List Int) (ao : Option Addr) (c : Nat) (left : Int × Int → Bool) (cnt : Nat), v = .slice ao l.length c ∧ wr.ownsRow 0 3 1 (.slice ao l.length c) l.length (l.map (Value.int .i64)) ∧ (∀ b, (Value.slice ao l.length c).ownBlock = some b → w.heap.size < b) ∧
  RangeAt keyH wr hb w.heap.size m (hvals H) left cnt ∧ GotA H left l ∧ l.length + cnt ≤ m ∧ Kept NoBlk w wr) (fun _ wr => wr.rangeLeft hb w.heap.size)
 case atStart => exact ⟨[], none, 0, _, cnt, rfl, World.ownsRow_nil _ _ _ _, fun b hb => by simp [Value.ownBlock] at hb, HR.out, GotA.start H, by have := HCNT.out; simpa using this, HK1.out⟩
 case round =>
  obtain ⟨l, ao, c, left, cnt', rfl, hown, hbl, hrg, hgot, hlc, hkw⟩ := hrel
  have hleft := hrg.left_eq
  rcases hrg.next 0 with ⟨h0, hlf, hnx⟩ | ⟨a, v, w2, cnt2, ha, hla, hga, hnx, hrg2, hlt, hk2, hsz2, hen⟩
  ·have HF : Hid (LiveL H (compact (sortedI l))) := hgot.sorted hlf HOK.out
   have HO : Hid (wr.ownsRow 0 3 1 (.slice ao l.length c) l.length (l.map (Value.int .i64))) := hown
   have HB : Hid _ := hbl
   have HKW : Hid (Kept NoBlk w wr) := hkw
   have HLC : Hid (l.length < 4611686018427387904) := by have := HMM.out; unfold Hid; omega
   have HLM : Hid (l.length ≤ m) := by unfold Hid; omega
   clear hlf hgot hown hbl hkw hleft hrg HR HK1 hlc
   go_wp2_with fail
   refine (sortInts _ l.length l wr HO.out HLC.out).mono ?_
   rintro e w' ⟨rfl, hown', hk'⟩
   have HO' : Hid (w'.ownsRow 0 3 1 (.slice ao l.length c) l.length ((sortedI l).map (Value.int .i64))) := hown'
   have HK' : Hid (Kept NoBlk w w') := HKW.out.trans hk' (fun k hk => .inr (Nat.le_of_lt (HB.out k hk)))
   clear hown' hk'
   go_wp2_with fail
   refine (compactInts _ l.length (sortedI l) w' HO'.out HLC.out).mono ?_
   rintro e w'' ⟨ao', c', rfl, hbl', hrow', hk'⟩
   have HR' : Hid _ := hrow'
   have HK'' : Hid (Kept NoBlk w w'') := HK'.out.trans hk' (fun k hk => .inr (Nat.le_of_lt (HB.out k hk)))
   have hcl := compact_length_le (sortedI l)
   have hsl : (sortedI l).length = l.length := by simp [sortedI]
   have HLE : Hid ((compact (sortedI l)).length ≤ m) := by have := HLM.out; unfold Hid; omega
   clear hcl hsl
   clear hrow' hk' hbl'
   generalize compact (sortedI l) = zs at *
   go_wp2_with fail
   go_ret
   exact ⟨ao', c', zs, rfl, HR'.out, HF.out, HLE.out, HK''.out⟩
  ·obtain ⟨r0, t0⟩ := a
   obtain ⟨md, hmd, rfl⟩ : ∃ md, H (r0, t0) = some md ∧ v = .int .i64 md := by
    simp only [hvals] at hga
    cases hH : H (r0, t0) with
    | none => rw [hH] at hga; cases hga
    | some md => rw [hH] at hga; exact ⟨md, rfl, by cases hga; rfl⟩
   have hnx' : (Instr.next (.pointer (some ⟨w.heap.size, 0, none⟩)) false 0).run Tryz.prog wr = .ok (.tuple #[.bool true, .agg #[.int .i64 r0, .int .i64 t0], .int .i64 md]) w2 := hnx
   have hen' : (Instr.entry (.pointer (some ⟨w.heap.size, 0, none⟩))).run Tryz.prog w2 = .ok (.tuple #[.agg #[.int .i64 r0, .int .i64 t0], .int .i64 md]) w2 := hen
   have hkw2 : Kept NoBlk w w2 := hkw.trans hk2 (fun k hk => .inr (by cases hk; exact Nat.le_refl _))
   have hown2 : w2.ownsRow 0 3 1 (.slice ao l.length c) l.length (l.map (Value.int .i64)) := ownsRow_kept hown hk2 (fun k hk e => by have := hbl k hk; unfold Blk at e; omega)
   have HMD : Hid (H (r0, t0) = some md) := hmd
   have HRG : Hid (RangeAt keyH w2 hb w.heap.size m (hvals H) (fun c => left c && !decide (c = (r0, t0))) cnt2) := hrg2
   have HLT : Hid (cnt2 < wr.rangeLeft hb w.heap.size) := by rw [hleft]; exact hlt
   have HLC : Hid (l.length + 1 + cnt2 ≤ m) := by unfold Hid; omega
   have HG : Hid (GotA H left l) := hgot
   have HO : Hid (w2.ownsRow 0 3 1 (.slice ao l.length c) l.length (l.map (Value.int .i64))) := hown2
   have HB : Hid _ := hbl
   have HKW : Hid (Kept NoBlk w w2) := hkw2
   have HWS : Hid (w.heap.size < w2.heap.size) := hrg2.lt.1
   clear hnx hen hkw2 hown2 hown hbl hrg hgot hkw hleft hla hga hrg2 hlt hk2 hsz2 hmd ha HR HK1 hlc
   have HB0 : Hid (l.length + 1 ≤ maxLen) := by have := HLC.out; have := HMM.out; unfold Hid maxLen; omega
   have HB1 : Hid ((l.length + 1) * 8 ≤ 140737488355328) := by have := HLC.out; have := HMM.out; unfold Hid; omega
   go_wp2_with (at_builtin; refine wpList_append_at (by rfl) _ _ 45 (by rfl) 3 i1 _ 1 8 Tryz.underlying45 HI.out.1 HI.out.2.1 HI.out.2.2.1 HI.out.2.2.2 (by rfl) (.slice ao l.length c) l.length (l.map (Value.int .i64)) (by rfl) (ownsRow_kept HO.out (((Kept.refl NoBlk w2).alloc _).alloc _) (fun _ _ x => x)) (.slice (some ⟨w2.heap.size + 1, 0, none⟩) 1 1) 1 [.int .i64 r0] (by rfl) (from_new1' w2 _ _ _ rfl) HB0.out HB1.out ?_; intro ao' c' w3 hown3 hmv3)
   have hka : Kept NoBlk w2 ((w2.alloc (Obj.cells #[Value.int IntKind.i64 r0, Value.int IntKind.i64 t0] 168)).alloc (Obj.cells #[Value.int IntKind.i64 r0] 3)) := ((Kept.refl _ _).alloc _).alloc _
   have hkb := hmv3.keptOf
   have hnb : ∀ k, k ≤ w.heap.size → ¬ (Value.slice ao l.length c).ownBlock = some k := fun k hk e => by have := HB.out k e; omega
   have hrg3 := (RangeAt.kept HRG.out hka (fun x => x) (fun x => x)).kept hkb (hnb _ (Nat.le_of_lt HHB.out)) (hnb _ (Nat.le_refl _))
   refine ⟨⟨l ++ [r0], ao', c', _, cnt2, ?_, ?_, ?_, hrg3, GotA.more HG.out (by rw [HMD.out]; rfl), by simpa using HLC.out, ?_⟩, ?_⟩
   ·simp
   ·rw [List.map_append]; simpa using hown3
   ·intro b hb
    have : (Value.slice ao' (l.length + 1) c').ownBlock = some b := by simpa [Value.ownBlock] using hb
    rcases hmv3.fresh b this with h | h
    ·exact HB.out b h
    ·have := HWS.out
     have h5 := hka.size
     omega
   ·exact (HKW.out.trans' hka).trans hkb (fun k hk => .inr (Nat.le_of_lt (HB.out k hk)))
   ·rw [hrg3.left_eq]; exact HLT.out
end Go.Proofs.YtmcajfefagdbnaaGreat
namespace Go.Proofs.YtmcajfefagdbnaaGreat
theorem doOp_agains (s : St) (i : Nat) (o : Op4) : ((s.doOp i o).tx i).agains = (s.tx i).agains := by
 unfold St.doOp
 simp only
 repeat' split
 all_goals simp [St.setTx]
theorem fell_agains (s : St) (i : Nat) (z : Int) : ((s.fell i z).tx i).agains = (s.tx i).agains ∧ (s.fell i z).wins = s.wins := by
 constructor
 ·simp [St.fell, St.setTx, St.undone, St.freed, Tx.look, Tx.anew]
 ·rfl
theorem actOn_ans (s : St) (i : Nat) (o : Op4) (h0 : (s.tx i).state = 0) : (s.actOn i o).2 ≠ 3 ∧ 1 ≤ (s.actOn i o).2 ∧ (s.actOn i o).2 ≤ 6 ∧ (4 ≤ (s.actOn i o).2 → ((s.actOn i o).1.tx i).state ≠ 0) ∧ (¬ 4 ≤ (s.actOn i o).2 → ((s.actOn i o).1.tx i).state = 0) ∧ (s.actOn i o).1.wins = s.wins ∧ ((s.actOn i o).1.tx i).agains = (s.tx i).agains := by
 unfold St.actOn
 split
 ·refine ⟨by simp, by simp, by simp, fun _ => ?_, fun h => absurd (by simp) h, (fell_agains s i 2).2, (fell_agains s i 2).1⟩
  rw [(fell_self s i 2).2.1]; omega
 ·refine ⟨by simp, by simp, by simp, fun h => absurd h (by simp), fun _ => ?_, doOp_wins s i o, doOp_agains s i o⟩
  rw [(doOp_next s i o).2.1]; exact h0
theorem go_ans (s : St) (i : Nat) (h0 : (s.tx i).state = 0) : 1 ≤ (s.go i).2 ∧ (s.go i).2 ≤ 6 ∧ (4 ≤ (s.go i).2 → ((s.go i).1.tx i).state ≠ 0) ∧ (¬ 4 ≤ (s.go i).2 → ((s.go i).1.tx i).state = 0) ∧ (s.go i).1.wins.length ≤ s.wins.length + 1 ∧ ((s.go i).1.tx i).agains = (s.tx i).agains + (if (s.tx i).wounded then 1 else 0) := by
 unfold St.go
 by_cases hw : (s.tx i).wounded = true
 ·rw [if_pos hw, if_pos hw]
  refine ⟨by simp, by simp, fun h => absurd h (by simp), fun _ => ?_, ?_, ?_⟩
  ·rw [(again_self s i).2.1]; exact h0
  ·show (s.again i).wins.length ≤ _
   exact Nat.le_succ _
  ·simp [St.again, St.setTx, St.undone, St.freed, Tx.look, Tx.anew]
 rw [if_neg hw, if_neg hw, Int.add_zero]
 by_cases hq : (s.tx i).waits.isSome = true
 ·rw [if_pos hq]
  exact ⟨by simp, by simp, fun h => absurd h (by simp), fun _ => h0, Nat.le_succ _, rfl⟩
 rw [if_neg hq]
 by_cases hn : (s.tx i).next = (s.tx i).ops.length
 ·rw [if_pos hn]
  refine ⟨by simp, by simp, fun _ => ?_, fun h => absurd (by simp) h, ?_, ?_⟩
  ·rw [(commit_self s i).2.1]; omega
  ·show (s.wins ++ [i]).length ≤ _
   simp
  ·simp [St.commit, St.setTx, St.freed, Tx.look]
 rw [if_neg hn]
 simp only
 split
 ·split
  ·refine ⟨by simp, by simp, fun _ => ?_, fun h => absurd (by simp) h, ?_, (fell_agains s i 3).1⟩
   ·rw [(fell_self s i 3).2.1]; omega
   ·rw [(fell_agains s i 3).2]; exact Nat.le_succ _
  ·split
   ·have h := actOn_ans (s.grant i (s.tx i).op.a (modeOf (s.tx i).op)) i (s.tx i).op h0
    refine ⟨h.2.1, h.2.2.1, h.2.2.2.1, h.2.2.2.2.1, ?_, h.2.2.2.2.2.2⟩
    rw [h.2.2.2.2.2.1]; exact Nat.le_succ _
   ·refine ⟨by simp, by simp, fun h => absurd h (by simp), fun _ => ?_, Nat.le_succ _, ?_⟩
    ·simp [St.enq, h0]
    ·simp [St.enq]
 ·have h := actOn_ans s i (s.tx i).op h0
  refine ⟨h.2.1, h.2.2.1, h.2.2.2.1, h.2.2.2.2.1, ?_, h.2.2.2.2.2.2⟩
  rw [h.2.2.2.2.2.1]; exact Nat.le_succ _
def alive (s : St) : Nat := ((List.range' 1 s.n).filter fun i => (s.tx i).state == 0).length
theorem filter_one {p q : Nat → Bool} {i : Nat} (hp : p i = true) (hq : q i = false) : ∀ (l : List Nat), l.Nodup → (∀ j ∈ l, j ≠ i → p j = q j) → (i ∈ l → (l.filter p).length = (l.filter q).length + 1) ∧ (i ∉ l → (l.filter p).length = (l.filter q).length)
 | [], _, _ => ⟨fun h => (by cases h), fun _ => rfl⟩
 | x :: l, hn, h => by
  obtain ⟨h1, h2⟩ := List.nodup_cons.1 hn
  obtain ⟨i1, i2⟩ := filter_one hp hq l h2 (fun j hj => h j (by simp [hj]))
  by_cases e : x = i
  ·subst e
   constructor
   ·intro _
    rw [List.filter_cons_of_pos hp, List.filter_cons_of_neg (by simp [hq]), List.length_cons, i2 h1]
   ·intro hc; exact absurd (by simp) hc
  ·have hx := h x (by simp) e
   constructor
   ·intro hi
    have hi' : i ∈ l := by
     rcases List.mem_cons.1 hi with h | h
     ·exact absurd h.symm e
     ·exact h
    cases hpx : p x
    ·rw [List.filter_cons_of_neg (by simp [hpx]), List.filter_cons_of_neg (by rw [← hx]; simp [hpx])]; exact i1 hi'
    ·rw [List.filter_cons_of_pos hpx, List.filter_cons_of_pos (by rw [← hx]; exact hpx), List.length_cons, List.length_cons, i1 hi']
   ·intro hi
    have hi' : i ∉ l := fun x => hi (by simp [x])
    cases hpx : p x
    ·rw [List.filter_cons_of_neg (by simp [hpx]), List.filter_cons_of_neg (by rw [← hx]; simp [hpx])]; exact i2 hi'
    ·rw [List.filter_cons_of_pos hpx, List.filter_cons_of_pos (by rw [← hx]; exact hpx), List.length_cons, List.length_cons, i2 hi']
theorem alive_go {s : St} {i : Nat} (hl : Lives s i) : (alive (s.go i).1 : Int) = (if 4 ≤ (s.go i).2 then (alive s : Int) - 1 else (alive s : Int)) := by
 obtain ⟨a1, a2, a3, a4, _⟩ := go_ans s i hl.lives
 have hoth : ∀ j, j ≠ i → ((s.go i).1.tx j).state = (s.tx j).state := fun j hj => (base_eq (go_oth s hj).base).2.1
 have hn := (go_n s i).1
 unfold alive
 rw [hn]
 by_cases h : 4 ≤ (s.go i).2
 ·rw [if_pos h]
  have := (filter_one (p := fun j => (s.tx j).state == 0) (q := fun j => ((s.go i).1.tx j).state == 0) (i := i) (by simp [hl.lives]) (by simpa using a3 h) (List.range' 1 s.n) List.nodup_range' (fun j _ hj => by rw [hoth j hj])).1 (by rw [List.mem_range'_1]; have := hl.low; have := hl.high; omega)
  omega
 ·rw [if_neg h]
  congr 2
  apply List.filter_congr
  intro j _
  by_cases e : j = i
  ·subst e; rw [a4 h, hl.lives]
  ·rw [hoth j e]
theorem alive_pos {s : St} {i : Nat} (hl : Lives s i) : 1 ≤ alive s := by
 unfold alive
 exact List.length_pos_of_mem (a := i) (List.mem_filter.2 ⟨by rw [List.mem_range'_1]; have := hl.low; have := hl.high; omega, by simp [hl.lives]⟩)
end Go.Proofs.YtmcajfefagdbnaaGreat
namespace Go.Proofs.YtmcajfefagdbnaaGreat
open Go Go.RowKit
def RowsIn (l : List Row2) : Prop := ∀ r ∈ l, inI r.k
def rowsF (l : List Row2) : Int → Option Int := l.foldl (fun f r => upd f r.k (some r.v)) (fun _ => none)
theorem rowsF_snoc (l : List Row2) (r : Row2) : rowsF (l ++ [r]) = upd (rowsF l) r.k (some r.v) := by simp [rowsF]
theorem foldRows_mem (l : List Row2) (f : Int → Option Int) (k : Int) : l.foldl (fun f r => upd f r.k (some r.v)) f k ≠ none → f k ≠ none ∨ ∃ r ∈ l, r.k = k := by
 induction l generalizing f with
 | nil => exact fun h => .inl h
 | cons r l ih =>
  intro h
  rcases ih _ h with h1 | ⟨x, h1, h2⟩
  ·by_cases e : k = r.k
   ·exact .inr ⟨r, by simp, e.symm⟩
   ·change upd f r.k (some r.v) k ≠ none at h1
    rw [upd_other _ _ _ _ e] at h1; exact .inl h1
  ·exact .inr ⟨x, by simp [h1], h2⟩
theorem rowsF_mem (l : List Row2) (k : Int) (h : rowsF l k ≠ none) : ∃ r ∈ l, r.k = k := (foldRows_mem l _ k h).elim (fun x => absurd rfl x) (fun x => x)
theorem run_makeMapHint2 (n : Int) (w : World) : (Instr.makeMap 122 (some (.int .i64 n))).run Tryz.prog w = .ok (.map (some w.heap.size)) (w.alloc (.map #[] 0)) := by
 simp [Instr.makeMap, run_underlying Tryz.underlying122, asInt, asIntOf]
theorem take_succ_getD (l : List Row2) (k : Nat) (h : k < l.length) : l.take (k + 1) = l.take k ++ [l.getD k Row2.z] := by
 rw [List.take_add_one, List.getElem?_eq_getElem h]
 simp [List.getD_eq_getElem?_getD, List.getElem?_eq_getElem h]
theorem ivals_put2 (f : Int → Option Int) (k v : Int) : put (ivals f) k (some (.int .i64 v)) = ivals (upd f k (some v)) := by
 funext x
 unfold put ivals upd
 split <;> simp
set_option maxRecDepth 100000 in
set_option maxHeartbeats 1600000 in
theorem valuesByKey_map (ao : Option Addr) (c n : Nat) (l : List Row2) (w : World) (hn : l.length = n) (hl : n ≤ 1048576) (h : 0 < n → ∃ b off, ao = some ⟨b, off, none⟩ ∧ RowsAt w b off l) (hw : RowsIn l) :
  Calls Tryz.prog 76 #[.slice ao n c] w fun e w' => e = .returned (.map (some w.heap.size)) ∧ MapAt keyI w' w.heap.size n (ivals (rowsF l)) ∧ Kept NoBlk w w' := by
 have Hn : Hid (l.length = n) := hn
 have hmm := fun n w => run_makeMapHint2 n w
 clear hn
 go_enter Tryz.func76, Tryz.ntmps76
 go_wp2_with fail
 go_loopw [11] (fun i wr => ∃ k : Nat, k ≤ n ∧ i = .int .i64 k ∧ MapAt keyI wr w.heap.size k (ivals (rowsF (l.take k))) ∧ Kept NoBlk w wr) (fun i _ => n - (intOf i).toNat)
 case atStart => exact ⟨0, Nat.zero_le _, rfl, MapAt.made keyI w, (Kept.refl _ _).alloc _⟩
 case round =>
  obtain ⟨k, hk, rfl, hown, hkw⟩ := hrel
  by_cases hlt : k < n
  ·obtain ⟨b, off, rfl, hat⟩ := h (by omega)
   have hkl : k < l.length := by rw [Hn.out]; exact hlt
   obtain ⟨g0, g1⟩ := (hat.kept hkw (fun x => x)) k hkl
   have hwk : inI (l.getD k Row2.z).k := hw _ (by rw [List.getD_eq_getElem?_getD, List.getElem?_eq_getElem hkl]; exact List.getElem_mem hkl)
   have hsn : rowsF (l.take (k + 1)) = upd (rowsF (l.take k)) (l.getD k Row2.z).k (some (l.getD k Row2.z).v) := by rw [take_succ_getD l k hkl, rowsF_snoc]
   have HSN : Hid (rowsF (l.take (k + 1)) = upd (rowsF (l.take k)) (l.getD k Row2.z).k (some (l.getD k Row2.z).v)) := hsn
   have HKW : Hid (Kept NoBlk w wr) := hkw
   clear hkw hat h hw hkl hsn
   generalize l.getD k Row2.z = r at *
   have hst : ∀ o, ∃ w', (Instr.mapUpdate 122 (.map (some w.heap.size)) (.int .i64 r.k) (.int .i64 r.v)).run Tryz.prog (wr.alloc o) = .ok () w' ∧ MapAt keyI w' w.heap.size (k + 1) (put (ivals (rowsF (l.take k))) r.k (some (.int .i64 r.v))) ∧ Kept (Blk w.heap.size) (wr.alloc o) w' ∧ w'.heap.size = (wr.alloc o).heap.size := fun o => (hown.kept ((Kept.refl NoBlk wr).alloc o) (fun x => x)).store Tryz.underlying122 (by unfold maxLen; omega) (a := r.k) hwk (.int .i64 r.v)
   have HST : Hid (∀ o, ∃ w', (Instr.mapUpdate 122 (.map (some w.heap.size)) (.int .i64 r.k) (.int .i64 r.v)).run Tryz.prog (wr.alloc o) = .ok () w' ∧ MapAt keyI w' w.heap.size (k + 1) (put (ivals (rowsF (l.take k))) r.k (some (.int .i64 r.v))) ∧ Kept (Blk w.heap.size) (wr.alloc o) w' ∧ w'.heap.size = (wr.alloc o).heap.size) := hst
   clear hst hown
   obtain ⟨w1, hrun1, hm1, hk1, hs1⟩ := HST.out (.cells #[.int .i64 r.k, .int .i64 r.v] 95)
   have HM1 : Hid (MapAt keyI w1 w.heap.size (k + 1) (put (ivals (rowsF (l.take k))) r.k (some (.int .i64 r.v))) ∧ Kept (Blk w.heap.size) (wr.alloc (.cells #[.int .i64 r.k, .int .i64 r.v] 95)) w1) := ⟨hm1, hk1⟩
   clear hm1 hk1 hs1
   go_wp2_with fail
   go_roundw
   case rel =>
    refine ⟨k + 1, by omega, by go_num, ?_, (HKW.out.alloc _).trans HM1.out.2 (fun j hj => .inr (by cases hj; exact Nat.le_refl _))⟩
    rw [HSN.out, ← ivals_put2]; exact HM1.out.1
   case measure => simp [intOf]; omega
  ·obtain rfl : k = n := by omega
   go_wp2_with fail
   go_ret
   rw [← Hn.out, List.take_length] at hown
   rw [← Hn.out]
   exact ⟨rfl, hown, hkw⟩
def St.born (f : Int → Option Int) : St := ⟨0, f, 0, fun _ => ⟨0, 0, [], 0, false, none, 0, fun _ => 0, [], []⟩, fun _ => ⟨fun _ => 0, []⟩, [], []⟩
theorem run_makeMapH (w : World) : (Instr.makeMap 124 none).run Tryz.prog w = .ok (.map (some w.heap.size)) (w.alloc (.map #[] 0)) := by
 simp [Instr.makeMap]
theorem run_makeMapQ (w : World) : (Instr.makeMap 125 none).run Tryz.prog w = .ok (.map (some w.heap.size)) (w.alloc (.map #[] 0)) := by
 simp [Instr.makeMap]
def bornOw (L : Lay) : Ow := fun k => if k = L.p then (1, 0) else if k = L.vb then (2, 0) else if k = L.hb then (3, 0) else if k = L.qb then (4, 0) else (0, 0)
theorem PSt.born {w : World} {L : Lay} {n : Nat} {f : Int → Option Int} {u : Value} (hb : w.heap[L.p]? = some (.cells #[.int .i32 0, u, .int .i64 0, .map (some L.vb), .slice none 0 0, .int .i64 0, .map (some L.hb), .map (some L.qb), .slice none 0 0] 127 (0, 0)))
  (hv : MapAt keyI w L.vb n (ivals f)) (hh : MapAt keyH w L.hb 0 (fun _ => none)) (hq : MapAt keyI w L.qb 0 (fun _ => none)) (hf : ∀ k, f k ≠ none → inI k) (n1 : L.vb ≠ L.p) (n2 : L.hb ≠ L.p) (n3 : L.qb ≠ L.p) (n4 : L.hb ≠ L.vb) (n5 : L.qb ≠ L.vb) (n6 : L.qb ≠ L.hb) (bs : Nat → Nat) :
  PSt L bs [] (bornOw L) n 0 0 (St.born f) w := by
 refine ⟨?_, ⟨?_, ?_, ?_, ?_⟩, ⟨u, .slice none 0 0, .slice none 0 0, hb, RowT.nil _ _ _ _ _, RowT.nil _ _ _ _ _⟩, hv, ?_, ⟨fun _ => none, hq.mono (Nat.zero_le _), fun k => rfl⟩, ?_, Nat.zero_le _, ?_, ?_, ?_, hf, Nat.zero_le _⟩
 ·intro k hk
  unfold bornOw at hk
  by_cases e1 : k = L.p
  ·subst e1; exact lt_of_block hb
  rw [if_neg e1] at hk
  by_cases e2 : k = L.vb
  ·subst e2; exact hv.lt
  rw [if_neg e2] at hk
  by_cases e3 : k = L.hb
  ·subst e3; exact hh.lt
  rw [if_neg e3] at hk
  by_cases e4 : k = L.qb
  ·subst e4; exact hq.lt
  rw [if_neg e4] at hk
  exact absurd rfl hk
 ·unfold bornOw; rw [if_pos rfl]
 ·unfold bornOw; rw [if_neg n1, if_pos rfl]
 ·unfold bornOw; rw [if_neg n2, if_neg n4, if_pos rfl]
 ·unfold bornOw; rw [if_neg n3, if_neg n5, if_neg n6, if_pos rfl]
 ·refine (hh.mono (Nat.zero_le _)).congr ?_
  intro a _
  unfold hvals holdF
  simp [St.born]
 ·intro i h1 h2
  have : i ≤ 0 := h2
  omega
 ·intro i hi; cases hi
 ·intro k j hj; exact absurd rfl hj
 ·intro k x hx; cases hx
theorem bornOw_own {L : Lay} {k : Nat} (h : OwnP (bornOw L) k) : k = L.p ∨ k = L.vb ∨ k = L.hb ∨ k = L.qb := by
 unfold OwnP bornOw at h
 by_cases e1 : k = L.p
 ·exact .inl e1
 rw [if_neg e1] at h
 by_cases e2 : k = L.vb
 ·exact .inr (.inl e2)
 rw [if_neg e2] at h
 by_cases e3 : k = L.hb
 ·exact .inr (.inr (.inl e3))
 rw [if_neg e3] at h
 by_cases e4 : k = L.qb
 ·exact .inr (.inr (.inr e4))
 rw [if_neg e4] at h
 exact absurd rfl h
set_option maxRecDepth 20000 in
set_option maxHeartbeats 1600000 in
theorem pNew_any (ao : Option Addr) (c n : Nat) (l : List Row2) (w : World) (hn : l.length = n) (hl : n ≤ 1048576) (h : 0 < n → ∃ b off, ao = some ⟨b, off, none⟩ ∧ RowsAt w b off l) (hw : RowsIn l) :
  Calls Tryz.prog 39 #[.slice ao n c] w fun e w' => Kept NoBlk w w' ∧ ((¬ Rise l ∧ e = .returned (.tuple #[.pointer none, .int .i64 7])) ∨
   (Rise l ∧ ∃ L ow, e = .returned (.tuple #[.pointer (some ⟨L.p, 0, none⟩), .int .i64 0]) ∧ (∀ k, OwnP ow k → w.heap.size ≤ k) ∧ ∀ bs, PSt L bs [] ow n 0 0 (St.born (rowsF l)) w')) := by
 have Hn : Hid (l.length = n) := hn
 have HH : Hid (0 < n → ∃ b off, ao = some ⟨b, off, none⟩ ∧ RowsAt w b off l) := h
 have HW : Hid (RowsIn l) := hw
 have m1 := fun w => run_makeMapH w
 have m2 := fun w => run_makeMapQ w
 clear hn h hw
 go_enter Tryz.func39, Tryz.ntmps39
 go_wp2_with fail
 refine (keysRise_any ao c n l w Hn.out hl HH.out).mono ?_
 rintro e w1 ⟨r, rfl, hr, hk⟩
 cases r
 ·have HR : Hid (¬ Rise l) := fun x => by simpa using hr.2 x
  have HK : Hid (Kept NoBlk w w1) := hk
  clear hr hk
  go_wp2_with fail
  go_ret2
  exact ⟨HK.out, .inl ⟨HR.out, rfl⟩⟩
 ·have HR : Hid (Rise l) := hr.1 rfl
  have HK : Hid (Kept NoBlk w w1) := hk
  clear hr hk
  go_wp2_with fail
  refine (valuesByKey_map ao c n l w1 Hn.out hl (fun h0 => ?_) HW.out).mono ?_
  ·obtain ⟨b, off, e, hat⟩ := HH.out h0
   exact ⟨b, off, e, hat.kept HK.out (fun x => x)⟩
  rintro e w2 ⟨rfl, hD, hk2⟩
  have HD : Hid (MapAt keyI w2 w1.heap.size n (ivals (rowsF l))) := hD
  have HK2 : Hid (Kept NoBlk w1 w2) := hk2
  clear hD hk2
  go_wp2_with fail
  go_ret2
  have hs2 : w1.heap.size < w2.heap.size := HD.out.lt
  have hs1 : w.heap.size ≤ w1.heap.size := HK.out.size
  refine ⟨(((HK.out.trans' HK2.out).alloc _).alloc _).alloc _, .inr ⟨HR.out, ⟨w2.heap.size + 1 + 1, w1.heap.size, w2.heap.size, w2.heap.size + 1⟩, bornOw _, rfl, fun k hk => ?_, fun bs => PSt.born (block_new3 w2 _ _ _) ?_ ?_ ?_ ?_ (by show w1.heap.size ≠ w2.heap.size + 1 + 1; omega) (by show w2.heap.size ≠ w2.heap.size + 1 + 1; omega) (by show w2.heap.size + 1 ≠ w2.heap.size + 1 + 1; omega) (by show w2.heap.size ≠ w1.heap.size; omega) (by show w2.heap.size + 1 ≠ w1.heap.size; omega) (by show w2.heap.size + 1 ≠ w2.heap.size; omega) bs⟩⟩
  ·rcases bornOw_own hk with e | e | e | e
   ·have : k = w2.heap.size + 1 + 1 := e
    omega
   ·have : k = w1.heap.size := e
    omega
   ·have : k = w2.heap.size := e
    omega
   ·have : k = w2.heap.size + 1 := e
    omega
  ·exact (HD.out : MapAt keyI w2 w1.heap.size n (ivals (rowsF l))).kept ((((Kept.refl NoBlk w2).alloc _).alloc _).alloc _) (fun x => x)
  ·exact (MapAt.made keyH w2).kept (((Kept.refl NoBlk _).alloc _).alloc _) (fun x => x)
  ·have := MapAt.made keyI (w2.alloc (.map #[] 0))
   rw [alloc_size] at this
   exact this.kept ((Kept.refl NoBlk _).alloc _) (fun x => x)
  ·intro k hk
   obtain ⟨r, h1, h2⟩ := rowsF_mem l k hk
   rw [← h2]; exact (HW.out : RowsIn l) r h1
end Go.Proofs.YtmcajfefagdbnaaGreat
namespace Go.Proofs.YtmcajfefagdbnaaGreat
open Go Go.RowKit
theorem PSt.ptr {L : Lay} {bs : Nat → Nat} {A : List Nat} {ow : Ow} {m : Nat} {mu lv : Int} {s : St} {w : World} (h : PSt L bs A ow m mu lv s w) {i : Nat} (h1 : 1 ≤ i) (hi : i ≤ s.n) :
  ∃ g off c, w.cell? ⟨L.p, 4, none⟩ = some (.slice (some ⟨g, off, none⟩) s.n c) ∧ w.cell? ⟨g, off + (i - 1), none⟩ = some (.pointer (some ⟨bs i, 0, none⟩)) := by
 obtain ⟨u, tv, wv, _, _, _, _, b4, b5⟩ := h.cells
 rcases b5.1.2 with ⟨_, h0⟩ | ⟨g, off, c, cur, rfl, _⟩
 ·omega
 ·refine ⟨g, off, c, b4, b5.1.cell (i - 1) ?_⟩
  have : i - 1 + 1 = i := by omega
  simp [txPtrs, show i - 1 < s.n by omega, this]
set_option maxHeartbeats 800000 in
theorem find_some (p g off n c : Nat) (i b : Nat) (w : World) (h1 : w.cell? ⟨p, 4, none⟩ = some (.slice (some ⟨g, off, none⟩) n c)) (h2 : w.cell? ⟨g, off + (i - 1), none⟩ = some (.pointer (some ⟨b, 0, none⟩))) (hi : 1 ≤ i) (hn : i ≤ n) (hmax : n ≤ 1099511627776) :
  Calls Tryz.prog 63 #[.pointer (some ⟨p, 0, none⟩), .int .i64 (i : Int)] w fun e w' => e = .returned (.pointer (some ⟨b, 0, none⟩)) ∧ w' = w := by
 obtain ⟨k, rfl⟩ : ∃ k, i = k + 1 := ⟨i - 1, by omega⟩
 rw [show k + 1 - 1 = k from by omega] at h2
 have hlt : ¬ (((k + 1 : Nat) : Int) < 1) := by omega
 have hgt : ¬ (((k + 1 : Nat) : Int) > n) := by omega
 rw [show ((k + 1 : Nat) : Int) = (k : Int) + 1 from by omega]
 go_enter Tryz.func63, Tryz.ntmps63
 go_wp2_with fail
 all_goals first
  | (go_ret; exact ⟨rfl, rfl⟩)
  | (exfalso; omega)
set_option maxHeartbeats 800000 in
theorem find_none (p : Nat) (ao : Option Addr) (n c : Nat) (id : Int) (w : World) (h1 : w.cell? ⟨p, 4, none⟩ = some (.slice ao n c)) (hi : id < 1 ∨ (n : Int) < id) :
  Calls Tryz.prog 63 #[.pointer (some ⟨p, 0, none⟩), .int .i64 id] w fun e w' => e = .returned (.pointer none) ∧ w' = w := by
 go_enter Tryz.func63, Tryz.ntmps63
 go_wp2_with fail
 all_goals first
  | (go_ret; exact ⟨rfl, rfl⟩)
  | (exfalso; omega)
  | (exfalso; simp_all; omega)
end Go.Proofs.YtmcajfefagdbnaaGreat
