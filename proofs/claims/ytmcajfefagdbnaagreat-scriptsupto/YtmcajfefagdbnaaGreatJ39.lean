import Derived.Test.YtmcajfefagdbnaaGreatJ37
import Derived.Test.YtmcajfefagdbnaaGreatJ09
import Derived.Test.YtmcajfefagdbnaaGreatJ15
import Derived.Test.YtmcajfefagdbnaaGreatJ34
import Derived.RegionTactic
import Derived.BigRegion
import Derived.Deep.RegionHeld3
import Derived.Test.YtmcajfefagdbnaaGreatJ26
namespace Go.Proofs.YtmcajfefagdbnaaGreat
open Go Go.RowKit
set_option maxRecDepth 20000 in
set_option maxHeartbeats 3200000 in
theorem wdo_write {ow : OwB} {p : Nat} {rl : List Row2} {cl : List Cl} {n : Nat} {tx : Nat → Tx} {wins : List Nat} {c : Int} {w : World} (h : WSt ow p rl cl n tx wins c w) {i : Nat} (hi : i < n) (a : Int) (b : Nat) (oc : Int) (hb : b < 4) (hG : ∀ W, Kept NoBlk w W → Calls Tryz.prog 118 #[.pointer (some ⟨p, 0, none⟩), .int .i64 a] W fun e w' => e = .returned (.tuple #[.int .i64 ((getL rl a).getD 0), .bool (getL rl a).isSome]) ∧ Kept NoBlk W w') (hun : (tx (i + 1)).undo.length ≤ 12) (HSET : Hid (∀ ow' tx' W x, WSt ow' p rl cl n tx' wins c W → Calls Tryz.prog 110 #[.pointer (some ⟨p, 0, none⟩), .agg #[.int .i64 a, .bool true, .int .i64 x]] W fun e w' => e = .returned (.tuple #[]) ∧ ∃ ow'', Agree W ow' ow'' ∧ WSt ow'' p (setL rl a true x) cl n tx' wins c w' ∧ Kept (Own ow') W w')) :
  Calls Tryz.prog 85 #[.pointer (some ⟨p, 0, none⟩), .pointer (some ⟨ow.bs.getD i 0, 0, none⟩), .agg #[.int .i64 2, .int .i64 a, .int .i64 (b : Int), .int .i64 oc]] w fun e w' => e = .returned (.tuple #[]) ∧ ∃ ow', Agree w ow ow' ∧ WSt ow' p (setL rl a true ((tx (i + 1)).regs (b : Int))) cl n (upd tx (i + 1) { tx (i + 1) with undo := ⟨a, (getL rl a).isSome, (getL rl a).getD 0⟩ :: (tx (i + 1)).undo }) wins c w' ∧ Kept (Own ow) w w' := by
 have HW : Hid (WSt ow p rl cl n tx wins c w) := h
 have HG : Hid (∀ W, Kept NoBlk w W → Calls Tryz.prog 118 #[.pointer (some ⟨p, 0, none⟩), .int .i64 a] W fun e w' => e = .returned (.tuple #[.int .i64 ((getL rl a).getD 0), .bool (getL rl a).isSome]) ∧ Kept NoBlk W w') := hG
 generalize hgv : (getL rl a).getD 0 = v at *
 generalize hgt : (getL rl a).isSome = th at *
 have HB0 : Hid ((w.alloc (.cells #[.int .i64 2, .int .i64 a, .int .i64 (b : Int), .int .i64 oc] 114)).heap[w.heap.size]? = some (.cells #[.int .i64 2, .int .i64 a, .int .i64 (b : Int), .int .i64 oc] 114 (0, 0)) ∧ Kept NoBlk w (w.alloc (.cells #[.int .i64 2, .int .i64 a, .int .i64 (b : Int), .int .i64 oc] 114))) := ⟨block_alloc_new w _, (Kept.refl _ _).alloc _⟩
 clear h hG hgv hgt
 go_enter Tryz.func85, Tryz.ntmps85
 go_wp2_with fail
 refine (HG.out _ HB0.out.2).mono ?_
 generalize w.alloc (.cells #[.int .i64 2, .int .i64 a, .int .i64 (b : Int), .int .i64 oc] 114) = W0 at *
 generalize hH : w.heap.size = H at HB0 ⊢
 have HHS : Hid (w.heap.size = H) := hH
 clear hH
 rintro e w1 ⟨rfl, hk1⟩
 have HKW : Hid (Kept NoBlk w (w1.alloc (.cells #[.int .i64 a, .bool th, .int .i64 v] 174))) := (HB0.out.2.trans' hk1).alloc _
 have HBX : Hid ((w1.alloc (.cells #[.int .i64 a, .bool th, .int .i64 v] 174)).heap[H]? = some (.cells #[.int .i64 2, .int .i64 a, .int .i64 (b : Int), .int .i64 oc] 114 (0, 0))) := ((Kept.refl NoBlk w1).alloc (.cells #[.int .i64 a, .bool th, .int .i64 v] 174)).heap (hk1.heap HB0.out.1 (fun x => x)) (fun x => x)
 have HBF : Hid ((w1.alloc (.cells #[.int .i64 a, .bool th, .int .i64 v] 174)).heap[w1.heap.size]? = some (.cells #[.int .i64 a, .bool th, .int .i64 v] 174 (0, 0))) := block_alloc_new w1 _
 have HW2 : Hid (WSt ow p rl cl n tx wins c (w1.alloc (.cells #[.int .i64 a, .bool th, .int .i64 v] 174))) := HW.out.kept0 HKW.out
 have p1 : w1.cell? ⟨H, 1, none⟩ = some (.int .i64 a) := by rw [cell_at (hk1.heap HB0.out.1 (fun x => x))]; rfl
 have hH1 : H < w1.heap.size := Nat.lt_of_lt_of_le (lt_of_block HB0.out.1) hk1.size
 have o0 : (w1.alloc (.cells #[.int .i64 a, .bool th, .int .i64 v] 174)).cell? ⟨H, 0, none⟩ = some (.int .i64 2) := by rw [cell_at HBX.out]; rfl
 have o1 : (w1.alloc (.cells #[.int .i64 a, .bool th, .int .i64 v] 174)).cell? ⟨H, 1, none⟩ = some (.int .i64 a) := by rw [cell_at HBX.out]; rfl
 have o2 : (w1.alloc (.cells #[.int .i64 a, .bool th, .int .i64 v] 174)).cell? ⟨H, 2, none⟩ = some (.int .i64 (b : Int)) := by rw [cell_at HBX.out]; rfl
 have o3 : (w1.alloc (.cells #[.int .i64 a, .bool th, .int .i64 v] 174)).cell? ⟨H, 3, none⟩ = some (.int .i64 oc) := by rw [cell_at HBX.out]; rfl
 have b0 : (w1.alloc (.cells #[.int .i64 a, .bool th, .int .i64 v] 174)).cell? ⟨w1.heap.size, 0, none⟩ = some (.int .i64 a) := by rw [cell_at HBF.out]; rfl
 have b1 : (w1.alloc (.cells #[.int .i64 a, .bool th, .int .i64 v] 174)).cell? ⟨w1.heap.size, 1, none⟩ = some (.bool th) := by rw [cell_at HBF.out]; rfl
 have b2 : (w1.alloc (.cells #[.int .i64 a, .bool th, .int .i64 v] 174)).cell? ⟨w1.heap.size, 2, none⟩ = some (.int .i64 v) := by rw [cell_at HBF.out]; rfl
 clear hk1 HG HB0
 obtain ⟨ar, cp, cs, d9, hrow, hblk, hpr⟩ := HW2.out.undoAt hi
 generalize hB : ow.bs.getD i 0 = B at *
 generalize hG : w1.heap.size = G at *
 have HROW : Hid ((w1.alloc (.cells #[.int .i64 a, .bool th, .int .i64 v] 174)).ownsRow 0 174 3 (.slice ar (tx (i + 1)).undo.length cp) (tx (i + 1)).undo.length (sawCells (tx (i + 1)).undo.reverse)) := hrow
 have HBLK : Hid ((w1.alloc (.cells #[.int .i64 a, .bool th, .int .i64 v] 174)).heap[B]? = some (.cells cs 152 (0, 0)) ∧ ¬ (Value.slice ar (tx (i + 1)).undo.length cp).ownBlock = some B) := ⟨hblk, hpr⟩
 have HD9 : Hid ((w1.alloc (.cells #[.int .i64 a, .bool th, .int .i64 v] 174)).cell? ⟨B, 9, none⟩ = some (.slice ar (tx (i + 1)).undo.length cp)) := d9
 have HBB : Hid (ow.bs.getD i 0 = B) := hB
 have HGG : Hid (w1.heap.size = G) := hG
 generalize hm : (tx (i + 1)).undo.length = m at *
 have HM : Hid ((tx (i + 1)).undo.length = m) := hm
 have HLE : Hid (m + 1 ≤ maxLen ∧ (m + 1) * 24 ≤ 140737488355328) := ⟨by unfold maxLen; omega, by omega⟩
 obtain ⟨i1, hi1, hy0, hy1, hy2⟩ := info_parts infoBeforeW
 have HI : Hid (Tryz.prog.info? 174 = some i1 ∧ i1.zero = some (.agg #[.int .i64 0, .bool false, .int .i64 0]) ∧ i1.size = 3 ∧ i1.bytes = 24) := ⟨hi1, hy0, hy1, hy2⟩
 clear hi1 hy0 hy1 hy2 hrow hblk hpr hm hB hun
 go_wp2_with fail
 generalize w1.alloc (.cells #[.int .i64 a, .bool th, .int .i64 v] 174) = W3 at *
 have e9 : ∀ o, (W3.alloc o).cell? ⟨B, 9, none⟩ = some (.slice ar m cp) := fun o => ((Kept.refl NoBlk W3).alloc o).cell0 d9
 have eb0 : ∀ o, (W3.alloc o).cell? ⟨G, 0, none⟩ = some (.int .i64 a) := fun o => ((Kept.refl NoBlk W3).alloc o).cell0 b0
 have eb1 : ∀ o, (W3.alloc o).cell? ⟨G, 1, none⟩ = some (.bool th) := fun o => ((Kept.refl NoBlk W3).alloc o).cell0 b1
 have eb2 : ∀ o, (W3.alloc o).cell? ⟨G, 2, none⟩ = some (.int .i64 v) := fun o => ((Kept.refl NoBlk W3).alloc o).cell0 b2
 refine' cut2 (X := Option Addr) (Y := Nat) _ (fun ao' c' w6 => ∃ w5, w5.ownsRow 0 174 3 (.slice ao' (m + 1) c') (m + 1) (sawCells (tx (i + 1)).undo.reverse ++ [.int .i64 a, .bool th, .int .i64 v]) ∧ Moved (W3.alloc (.cells #[.int .i64 a, .bool th, .int .i64 v] 174)).drew w5 (.slice ar m cp) (.slice ao' (m + 1) c') (m + 1) ∧ w6 = w5.setCell ⟨B, 9, none⟩ (.slice ao' (m + 1) c')) ?_ ?_
 rotate_left
 ·go_region_law (refine step_append_own (by rfl) _ _ 150 (by rfl) 174 i1 _ 3 24 Tryz.underlying150 HI.out.1 HI.out.2.1 HI.out.2.2.1 HI.out.2.2.2 (by rfl) (.slice ar m cp) m (sawCells (tx (i + 1)).undo.reverse) (by rfl) (ownsRow_kept HROW.out ((Kept.refl NoBlk W3).alloc _).drew (fun _ _ x => x)) (.slice (some ⟨W3.heap.size, 0, none⟩) 1 1) 1 [.int .i64 a, .bool th, .int .i64 v] (by rfl) (FromMem.drew (from_new3 W3 _ _ _ _ rfl rfl rfl)) HLE.out.1 HLE.out.2 ?_; intro ao' c' w5 hrow5 hmv5; have q9 := hmv5.keptOf.cell ((((Kept.refl NoBlk W3).alloc _).drew).cell0 HD9.out) HBLK.out.2; have qf9 : w5.frozen? ⟨B, 9, none⟩ = false := frozen_at (hmv5.keptOf.heap ((((Kept.refl NoBlk W3).alloc _).drew).heap HBLK.out.1 (fun x => x)) HBLK.out.2) 9)
  all_goals (refine ⟨ao', c', ?_, w5, hrow5, hmv5, rfl⟩; exact rfl)
 rintro ao' c' w6 ⟨w5, hrow5, hmv5, rfl⟩
 have hfin : ∃ ow', Agree w ow ow' ∧ WSt ow' p rl cl n (upd tx (i + 1) { tx (i + 1) with undo := ⟨a, th, v⟩ :: (tx (i + 1)).undo }) wins c (w5.setCell ⟨B, 9, none⟩ (.slice ao' (m + 1) c')) ∧ Kept (Own ow) w (w5.setCell ⟨B, 9, none⟩ (.slice ao' (m + 1) c')) := by
  have hb := HBB.out
  obtain ⟨ow', g1, g2, g3⟩ := HW2.out.undoT (v' := .slice ao' (m + 1) c') (m := m + 1) hi ((Kept.refl NoBlk W3).alloc _).drew ⟨a, th, v⟩ (by rw [hb]; exact HD9.out) (by rw [HM.out]) hrow5 hmv5
  rw [hb] at g2 g3
  exact ⟨ow', g1.less HKW.out.size, g2, (HKW.out.mono (fun _ x => x.elim)).trans' g3⟩
 obtain ⟨ow4, ag4, st4, kp4⟩ := hfin
 have HA4 : Hid (Agree w ow ow4) := ag4
 have HS4 : Hid (WSt ow4 p rl cl n (upd tx (i + 1) { tx (i + 1) with undo := ⟨a, th, v⟩ :: (tx (i + 1)).undo }) wins c (w5.setCell ⟨B, 9, none⟩ (.slice ao' (m + 1) c'))) := st4
 have HK4 : Hid (Kept (Own ow) w (w5.setCell ⟨B, 9, none⟩ (.slice ao' (m + 1) c'))) := kp4
 have hHl : H < W3.heap.size := lt_of_block HBX.out
 have hX4 : (w5.setCell ⟨B, 9, none⟩ (.slice ao' (m + 1) c')).heap[H]? = some (.cells #[.int .i64 2, .int .i64 a, .int .i64 (b : Int), .int .i64 oc] 114 (0, 0)) := by
  have h1 := hmv5.keptOf.heap ((((Kept.refl NoBlk W3).alloc (.cells #[.int .i64 a, .bool th, .int .i64 v] 174)).drew).heap HBX.out (fun x => x)) (fun e => by
   obtain ⟨cur, hc⟩ := ownsRow_block HROW.out e
   exact blocks_apart hc HBX.out (by decide) rfl)
  rw [block_setCell_other (fun e => by
   have e' : H = B := e
   have := blocks_apart HBX.out HBLK.out.1 (by decide)
   exact this e')]
  exact h1
 have z1 : (w5.setCell ⟨B, 9, none⟩ (.slice ao' (m + 1) c')).cell? ⟨H, 1, none⟩ = some (.int .i64 a) := by rw [cell_at hX4]; rfl
 have z2 : (w5.setCell ⟨B, 9, none⟩ (.slice ao' (m + 1) c')).cell? ⟨H, 2, none⟩ = some (.int .i64 (b : Int)) := by rw [cell_at hX4]; rfl
 clear ag4 st4 kp4 hrow5 hmv5 e9 eb0 eb1 eb2 b0 b1 b2 o0 o1 o2 o3 p1 d9 hHl hX4 hG
 generalize w5.setCell ⟨B, 9, none⟩ (.slice ao' (m + 1) c') = W5 at *
 obtain ⟨g, cap, _, _, f3, f4⟩ := HS4.out.findB hi
 rw [HA4.out.bs, HBB.out, upd_same] at f3
 obtain ⟨r, f6, fx, ff, fo, frb, fs⟩ := f3.regsAt
 have ra : W5.cell? ⟨r, b, none⟩ = some (.int .i64 ((tx (i + 1)).regs (b : Int))) := fx b hb
 have j0 : (0 : Int) ≤ (b : Int) := by omega
 have j1 : (b : Int) < 4 := by omega
 clear f3 f4 fx fo fs ff
 generalize hx : (tx (i + 1)).regs (b : Int) = x at *
 have HCS : Hid (Calls Tryz.prog 110 #[.pointer (some ⟨p, 0, none⟩), .agg #[.int .i64 a, .bool true, .int .i64 x]] W5.drew fun e w7 => e = .returned (.tuple #[]) ∧ Hid (∃ ow', Agree w ow ow' ∧ WSt ow' p (setL rl a true x) cl n (upd tx (i + 1) { tx (i + 1) with undo := ⟨a, th, v⟩ :: (tx (i + 1)).undo }) wins c w7 ∧ Kept (Own ow) w w7)) := by
  refine (HSET.out ow4 _ W5.drew x (HS4.out.kept0 ((Kept.refl NoBlk W5).drew))).mono ?_
  rintro e w7 ⟨rfl, ow7, a7, s7, k7⟩
  exact ⟨rfl, ow7, HA4.out.trans HK4.out.size (a7.less (Nat.le_refl _)), s7, HK4.out.drew.trans k7 (fun k x => own_old2 HA4.out k x)⟩
 go_wp2_with fail
 refine' cutE0 _ (fun w7 => Hid (∃ ow', Agree w ow ow' ∧ WSt ow' p (setL rl a true x) cl n (upd tx (i + 1) { tx (i + 1) with undo := ⟨a, th, v⟩ :: (tx (i + 1)).undo }) wins c w7 ∧ Kept (Own ow) w w7)) ?_ ?_
 rotate_left
 ·go_region_law (first | (go_simp; go_at_call 110; refine HCS.out.mono ?_; rintro e w7 ⟨rfl, h7⟩))
  all_goals (refine ⟨?_, h7⟩; exact rfl)
 intro w7 HF7
 go_end0
 rw [hx]
 exact ⟨rfl, HF7.out⟩
end Go.Proofs.YtmcajfefagdbnaaGreat
namespace Go.Proofs.YtmcajfefagdbnaaGreat
open Go Go.RowKit
set_option maxRecDepth 20000 in
set_option maxHeartbeats 3200000 in
theorem wdo_delete {ow : OwB} {p : Nat} {rl : List Row2} {cl : List Cl} {n : Nat} {tx : Nat → Tx} {wins : List Nat} {c : Int} {w : World} (h : WSt ow p rl cl n tx wins c w) {i : Nat} (hi : i < n) (a b oc : Int) (hG : ∀ W, Kept NoBlk w W → Calls Tryz.prog 118 #[.pointer (some ⟨p, 0, none⟩), .int .i64 a] W fun e w' => e = .returned (.tuple #[.int .i64 ((getL rl a).getD 0), .bool (getL rl a).isSome]) ∧ Kept NoBlk W w') (hun : (tx (i + 1)).undo.length ≤ 12) (HSET : Hid (∀ ow' tx' W, WSt ow' p rl cl n tx' wins c W → Calls Tryz.prog 110 #[.pointer (some ⟨p, 0, none⟩), .agg #[.int .i64 a, .bool false, .int .i64 0]] W fun e w' => e = .returned (.tuple #[]) ∧ ∃ ow'', Agree W ow' ow'' ∧ WSt ow'' p (setL rl a false 0) cl n tx' wins c w' ∧ Kept (Own ow') W w')) :
  Calls Tryz.prog 85 #[.pointer (some ⟨p, 0, none⟩), .pointer (some ⟨ow.bs.getD i 0, 0, none⟩), .agg #[.int .i64 3, .int .i64 a, .int .i64 b, .int .i64 oc]] w fun e w' => e = .returned (.tuple #[]) ∧ ∃ ow', Agree w ow ow' ∧ WSt ow' p (setL rl a false 0) cl n (upd tx (i + 1) { tx (i + 1) with undo := ⟨a, (getL rl a).isSome, (getL rl a).getD 0⟩ :: (tx (i + 1)).undo }) wins c w' ∧ Kept (Own ow) w w' := by
 have HW : Hid (WSt ow p rl cl n tx wins c w) := h
 have HG : Hid (∀ W, Kept NoBlk w W → Calls Tryz.prog 118 #[.pointer (some ⟨p, 0, none⟩), .int .i64 a] W fun e w' => e = .returned (.tuple #[.int .i64 ((getL rl a).getD 0), .bool (getL rl a).isSome]) ∧ Kept NoBlk W w') := hG
 generalize hgv : (getL rl a).getD 0 = v at *
 generalize hgt : (getL rl a).isSome = th at *
 have HB0 : Hid ((w.alloc (.cells #[.int .i64 3, .int .i64 a, .int .i64 b, .int .i64 oc] 114)).heap[w.heap.size]? = some (.cells #[.int .i64 3, .int .i64 a, .int .i64 b, .int .i64 oc] 114 (0, 0)) ∧ Kept NoBlk w (w.alloc (.cells #[.int .i64 3, .int .i64 a, .int .i64 b, .int .i64 oc] 114))) := ⟨block_alloc_new w _, (Kept.refl _ _).alloc _⟩
 clear h hG hgv hgt
 go_enter Tryz.func85, Tryz.ntmps85
 go_wp2_with fail
 refine (HG.out _ HB0.out.2).mono ?_
 generalize w.alloc (.cells #[.int .i64 3, .int .i64 a, .int .i64 b, .int .i64 oc] 114) = W0 at *
 generalize hH : w.heap.size = H at HB0 ⊢
 have HHS : Hid (w.heap.size = H) := hH
 clear hH
 rintro e w1 ⟨rfl, hk1⟩
 have HKW : Hid (Kept NoBlk w (w1.alloc (.cells #[.int .i64 a, .bool th, .int .i64 v] 174))) := (HB0.out.2.trans' hk1).alloc _
 have HBX : Hid ((w1.alloc (.cells #[.int .i64 a, .bool th, .int .i64 v] 174)).heap[H]? = some (.cells #[.int .i64 3, .int .i64 a, .int .i64 b, .int .i64 oc] 114 (0, 0))) := ((Kept.refl NoBlk w1).alloc (.cells #[.int .i64 a, .bool th, .int .i64 v] 174)).heap (hk1.heap HB0.out.1 (fun x => x)) (fun x => x)
 have HBF : Hid ((w1.alloc (.cells #[.int .i64 a, .bool th, .int .i64 v] 174)).heap[w1.heap.size]? = some (.cells #[.int .i64 a, .bool th, .int .i64 v] 174 (0, 0))) := block_alloc_new w1 _
 have HW2 : Hid (WSt ow p rl cl n tx wins c (w1.alloc (.cells #[.int .i64 a, .bool th, .int .i64 v] 174))) := HW.out.kept0 HKW.out
 have p1 : w1.cell? ⟨H, 1, none⟩ = some (.int .i64 a) := by rw [cell_at (hk1.heap HB0.out.1 (fun x => x))]; rfl
 have hH1 : H < w1.heap.size := Nat.lt_of_lt_of_le (lt_of_block HB0.out.1) hk1.size
 have o0 : (w1.alloc (.cells #[.int .i64 a, .bool th, .int .i64 v] 174)).cell? ⟨H, 0, none⟩ = some (.int .i64 3) := by rw [cell_at HBX.out]; rfl
 have o1 : (w1.alloc (.cells #[.int .i64 a, .bool th, .int .i64 v] 174)).cell? ⟨H, 1, none⟩ = some (.int .i64 a) := by rw [cell_at HBX.out]; rfl
 have o2 : (w1.alloc (.cells #[.int .i64 a, .bool th, .int .i64 v] 174)).cell? ⟨H, 2, none⟩ = some (.int .i64 b) := by rw [cell_at HBX.out]; rfl
 have o3 : (w1.alloc (.cells #[.int .i64 a, .bool th, .int .i64 v] 174)).cell? ⟨H, 3, none⟩ = some (.int .i64 oc) := by rw [cell_at HBX.out]; rfl
 have b0 : (w1.alloc (.cells #[.int .i64 a, .bool th, .int .i64 v] 174)).cell? ⟨w1.heap.size, 0, none⟩ = some (.int .i64 a) := by rw [cell_at HBF.out]; rfl
 have b1 : (w1.alloc (.cells #[.int .i64 a, .bool th, .int .i64 v] 174)).cell? ⟨w1.heap.size, 1, none⟩ = some (.bool th) := by rw [cell_at HBF.out]; rfl
 have b2 : (w1.alloc (.cells #[.int .i64 a, .bool th, .int .i64 v] 174)).cell? ⟨w1.heap.size, 2, none⟩ = some (.int .i64 v) := by rw [cell_at HBF.out]; rfl
 clear hk1 HG HB0
 obtain ⟨ar, cp, cs, d9, hrow, hblk, hpr⟩ := HW2.out.undoAt hi
 generalize hB : ow.bs.getD i 0 = B at *
 generalize hG : w1.heap.size = G at *
 have HROW : Hid ((w1.alloc (.cells #[.int .i64 a, .bool th, .int .i64 v] 174)).ownsRow 0 174 3 (.slice ar (tx (i + 1)).undo.length cp) (tx (i + 1)).undo.length (sawCells (tx (i + 1)).undo.reverse)) := hrow
 have HBLK : Hid ((w1.alloc (.cells #[.int .i64 a, .bool th, .int .i64 v] 174)).heap[B]? = some (.cells cs 152 (0, 0)) ∧ ¬ (Value.slice ar (tx (i + 1)).undo.length cp).ownBlock = some B) := ⟨hblk, hpr⟩
 have HD9 : Hid ((w1.alloc (.cells #[.int .i64 a, .bool th, .int .i64 v] 174)).cell? ⟨B, 9, none⟩ = some (.slice ar (tx (i + 1)).undo.length cp)) := d9
 have HBB : Hid (ow.bs.getD i 0 = B) := hB
 have HGG : Hid (w1.heap.size = G) := hG
 generalize hm : (tx (i + 1)).undo.length = m at *
 have HM : Hid ((tx (i + 1)).undo.length = m) := hm
 have HLE : Hid (m + 1 ≤ maxLen ∧ (m + 1) * 24 ≤ 140737488355328) := ⟨by unfold maxLen; omega, by omega⟩
 obtain ⟨i1, hi1, hy0, hy1, hy2⟩ := info_parts infoBeforeW
 have HI : Hid (Tryz.prog.info? 174 = some i1 ∧ i1.zero = some (.agg #[.int .i64 0, .bool false, .int .i64 0]) ∧ i1.size = 3 ∧ i1.bytes = 24) := ⟨hi1, hy0, hy1, hy2⟩
 clear hi1 hy0 hy1 hy2 hrow hblk hpr hm hB hun
 go_wp2_with fail
 generalize w1.alloc (.cells #[.int .i64 a, .bool th, .int .i64 v] 174) = W3 at *
 have e9 : ∀ o, (W3.alloc o).cell? ⟨B, 9, none⟩ = some (.slice ar m cp) := fun o => ((Kept.refl NoBlk W3).alloc o).cell0 d9
 have eb0 : ∀ o, (W3.alloc o).cell? ⟨G, 0, none⟩ = some (.int .i64 a) := fun o => ((Kept.refl NoBlk W3).alloc o).cell0 b0
 have eb1 : ∀ o, (W3.alloc o).cell? ⟨G, 1, none⟩ = some (.bool th) := fun o => ((Kept.refl NoBlk W3).alloc o).cell0 b1
 have eb2 : ∀ o, (W3.alloc o).cell? ⟨G, 2, none⟩ = some (.int .i64 v) := fun o => ((Kept.refl NoBlk W3).alloc o).cell0 b2
 refine' cut2 (X := Option Addr) (Y := Nat) _ (fun ao' c' w6 => ∃ w5, w5.ownsRow 0 174 3 (.slice ao' (m + 1) c') (m + 1) (sawCells (tx (i + 1)).undo.reverse ++ [.int .i64 a, .bool th, .int .i64 v]) ∧ Moved (W3.alloc (.cells #[.int .i64 a, .bool th, .int .i64 v] 174)).drew w5 (.slice ar m cp) (.slice ao' (m + 1) c') (m + 1) ∧ w6 = w5.setCell ⟨B, 9, none⟩ (.slice ao' (m + 1) c')) ?_ ?_
 rotate_left
 ·go_region_law (refine step_append_own (by rfl) _ _ 150 (by rfl) 174 i1 _ 3 24 Tryz.underlying150 HI.out.1 HI.out.2.1 HI.out.2.2.1 HI.out.2.2.2 (by rfl) (.slice ar m cp) m (sawCells (tx (i + 1)).undo.reverse) (by rfl) (ownsRow_kept HROW.out ((Kept.refl NoBlk W3).alloc _).drew (fun _ _ x => x)) (.slice (some ⟨W3.heap.size, 0, none⟩) 1 1) 1 [.int .i64 a, .bool th, .int .i64 v] (by rfl) (FromMem.drew (from_new3 W3 _ _ _ _ rfl rfl rfl)) HLE.out.1 HLE.out.2 ?_; intro ao' c' w5 hrow5 hmv5; have q9 := hmv5.keptOf.cell ((((Kept.refl NoBlk W3).alloc _).drew).cell0 HD9.out) HBLK.out.2; have qf9 : w5.frozen? ⟨B, 9, none⟩ = false := frozen_at (hmv5.keptOf.heap ((((Kept.refl NoBlk W3).alloc _).drew).heap HBLK.out.1 (fun x => x)) HBLK.out.2) 9)
  all_goals (refine ⟨ao', c', ?_, w5, hrow5, hmv5, rfl⟩; exact rfl)
 rintro ao' c' w6 ⟨w5, hrow5, hmv5, rfl⟩
 have hfin : ∃ ow', Agree w ow ow' ∧ WSt ow' p rl cl n (upd tx (i + 1) { tx (i + 1) with undo := ⟨a, th, v⟩ :: (tx (i + 1)).undo }) wins c (w5.setCell ⟨B, 9, none⟩ (.slice ao' (m + 1) c')) ∧ Kept (Own ow) w (w5.setCell ⟨B, 9, none⟩ (.slice ao' (m + 1) c')) := by
  have hb := HBB.out
  obtain ⟨ow', g1, g2, g3⟩ := HW2.out.undoT (v' := .slice ao' (m + 1) c') (m := m + 1) hi ((Kept.refl NoBlk W3).alloc _).drew ⟨a, th, v⟩ (by rw [hb]; exact HD9.out) (by rw [HM.out]) hrow5 hmv5
  rw [hb] at g2 g3
  exact ⟨ow', g1.less HKW.out.size, g2, (HKW.out.mono (fun _ x => x.elim)).trans' g3⟩
 obtain ⟨ow4, ag4, st4, kp4⟩ := hfin
 have HA4 : Hid (Agree w ow ow4) := ag4
 have HS4 : Hid (WSt ow4 p rl cl n (upd tx (i + 1) { tx (i + 1) with undo := ⟨a, th, v⟩ :: (tx (i + 1)).undo }) wins c (w5.setCell ⟨B, 9, none⟩ (.slice ao' (m + 1) c'))) := st4
 have HK4 : Hid (Kept (Own ow) w (w5.setCell ⟨B, 9, none⟩ (.slice ao' (m + 1) c'))) := kp4
 have hHl : H < W3.heap.size := lt_of_block HBX.out
 have hX4 : (w5.setCell ⟨B, 9, none⟩ (.slice ao' (m + 1) c')).heap[H]? = some (.cells #[.int .i64 3, .int .i64 a, .int .i64 b, .int .i64 oc] 114 (0, 0)) := by
  have h1 := hmv5.keptOf.heap ((((Kept.refl NoBlk W3).alloc (.cells #[.int .i64 a, .bool th, .int .i64 v] 174)).drew).heap HBX.out (fun x => x)) (fun e => by
   obtain ⟨cur, hc⟩ := ownsRow_block HROW.out e
   exact blocks_apart hc HBX.out (by decide) rfl)
  rw [block_setCell_other (fun e => by
   have e' : H = B := e
   have := blocks_apart HBX.out HBLK.out.1 (by decide)
   exact this e')]
  exact h1
 have z1 : (w5.setCell ⟨B, 9, none⟩ (.slice ao' (m + 1) c')).cell? ⟨H, 1, none⟩ = some (.int .i64 a) := by rw [cell_at hX4]; rfl
 have z2 : (w5.setCell ⟨B, 9, none⟩ (.slice ao' (m + 1) c')).cell? ⟨H, 2, none⟩ = some (.int .i64 b) := by rw [cell_at hX4]; rfl
 clear ag4 st4 kp4 hrow5 hmv5 e9 eb0 eb1 eb2 b0 b1 b2 o0 o1 o2 o3 p1 d9 hHl hX4 hG
 generalize w5.setCell ⟨B, 9, none⟩ (.slice ao' (m + 1) c') = W5 at *
 clear z2
 go_wp2_with fail
 refine (HSET.out ow4 _ W5 HS4.out).mono ?_
 rintro e w7 ⟨rfl, ow7, a7, s7, k7⟩
 have HF7 : Hid (∃ ow', Agree w ow ow' ∧ WSt ow' p (setL rl a false 0) cl n (upd tx (i + 1) { tx (i + 1) with undo := ⟨a, th, v⟩ :: (tx (i + 1)).undo }) wins c w7 ∧ Kept (Own ow) w w7) := ⟨ow7, HA4.out.trans HK4.out.size a7, s7, HK4.out.trans k7 (fun k x => own_old2 HA4.out k x)⟩
 clear a7 s7 k7
 go_wp2_with fail
 go_end0
 exact ⟨rfl, HF7.out⟩
end Go.Proofs.YtmcajfefagdbnaaGreat
namespace Go.Proofs.YtmcajfefagdbnaaGreat
open Go Go.RowKit
set_option maxRecDepth 20000 in
set_option maxHeartbeats 1600000 in
theorem wdo_stop {ow : OwB} {p : Nat} {rl : List Row2} {cl : List Cl} {n : Nat} {tx : Nat → Tx} {wins : List Nat} {c : Int} {w : World} (h : WSt ow p rl cl n tx wins c w) {i : Nat} (a b oc : Int) (hG : ∀ W, Kept NoBlk w W → Calls Tryz.prog 118 #[.pointer (some ⟨p, 0, none⟩), .int .i64 a] W fun e w' => e = .returned (.tuple #[.int .i64 ((getL rl a).getD 0), .bool (getL rl a).isSome]) ∧ Kept NoBlk W w') :
  Calls Tryz.prog 85 #[.pointer (some ⟨p, 0, none⟩), .pointer (some ⟨ow.bs.getD i 0, 0, none⟩), .agg #[.int .i64 5, .int .i64 a, .int .i64 b, .int .i64 oc]] w fun e w' => e = .returned (.tuple #[]) ∧ Kept NoBlk w w' := by
 have HW : Hid (WSt ow p rl cl n tx wins c w) := h
 have HG : Hid (∀ W, Kept NoBlk w W → Calls Tryz.prog 118 #[.pointer (some ⟨p, 0, none⟩), .int .i64 a] W fun e w' => e = .returned (.tuple #[.int .i64 ((getL rl a).getD 0), .bool (getL rl a).isSome]) ∧ Kept NoBlk W w') := hG
 generalize hgv : (getL rl a).getD 0 = v at *
 generalize hgt : (getL rl a).isSome = th at *
 have HB0 : Hid ((w.alloc (.cells #[.int .i64 5, .int .i64 a, .int .i64 b, .int .i64 oc] 114)).heap[w.heap.size]? = some (.cells #[.int .i64 5, .int .i64 a, .int .i64 b, .int .i64 oc] 114 (0, 0)) ∧ Kept NoBlk w (w.alloc (.cells #[.int .i64 5, .int .i64 a, .int .i64 b, .int .i64 oc] 114))) := ⟨block_alloc_new w _, (Kept.refl _ _).alloc _⟩
 clear h hG hgv hgt
 go_enter Tryz.func85, Tryz.ntmps85
 go_wp2_with fail
 refine (HG.out _ HB0.out.2).mono ?_
 generalize w.alloc (.cells #[.int .i64 5, .int .i64 a, .int .i64 b, .int .i64 oc] 114) = W0 at *
 generalize hH : w.heap.size = H at HB0 ⊢
 have HHS : Hid (w.heap.size = H) := hH
 clear hH
 rintro e w1 ⟨rfl, hk1⟩
 have HKW : Hid (Kept NoBlk w (w1.alloc (.cells #[.int .i64 a, .bool th, .int .i64 v] 174))) := (HB0.out.2.trans' hk1).alloc _
 have HBX : Hid ((w1.alloc (.cells #[.int .i64 a, .bool th, .int .i64 v] 174)).heap[H]? = some (.cells #[.int .i64 5, .int .i64 a, .int .i64 b, .int .i64 oc] 114 (0, 0))) := ((Kept.refl NoBlk w1).alloc (.cells #[.int .i64 a, .bool th, .int .i64 v] 174)).heap (hk1.heap HB0.out.1 (fun x => x)) (fun x => x)
 have HBF : Hid ((w1.alloc (.cells #[.int .i64 a, .bool th, .int .i64 v] 174)).heap[w1.heap.size]? = some (.cells #[.int .i64 a, .bool th, .int .i64 v] 174 (0, 0))) := block_alloc_new w1 _
 have HW2 : Hid (WSt ow p rl cl n tx wins c (w1.alloc (.cells #[.int .i64 a, .bool th, .int .i64 v] 174))) := HW.out.kept0 HKW.out
 have p1 : w1.cell? ⟨H, 1, none⟩ = some (.int .i64 a) := by rw [cell_at (hk1.heap HB0.out.1 (fun x => x))]; rfl
 have hH1 : H < w1.heap.size := Nat.lt_of_lt_of_le (lt_of_block HB0.out.1) hk1.size
 have o0 : (w1.alloc (.cells #[.int .i64 a, .bool th, .int .i64 v] 174)).cell? ⟨H, 0, none⟩ = some (.int .i64 5) := by rw [cell_at HBX.out]; rfl
 have o1 : (w1.alloc (.cells #[.int .i64 a, .bool th, .int .i64 v] 174)).cell? ⟨H, 1, none⟩ = some (.int .i64 a) := by rw [cell_at HBX.out]; rfl
 have o2 : (w1.alloc (.cells #[.int .i64 a, .bool th, .int .i64 v] 174)).cell? ⟨H, 2, none⟩ = some (.int .i64 b) := by rw [cell_at HBX.out]; rfl
 have o3 : (w1.alloc (.cells #[.int .i64 a, .bool th, .int .i64 v] 174)).cell? ⟨H, 3, none⟩ = some (.int .i64 oc) := by rw [cell_at HBX.out]; rfl
 have b0 : (w1.alloc (.cells #[.int .i64 a, .bool th, .int .i64 v] 174)).cell? ⟨w1.heap.size, 0, none⟩ = some (.int .i64 a) := by rw [cell_at HBF.out]; rfl
 have b1 : (w1.alloc (.cells #[.int .i64 a, .bool th, .int .i64 v] 174)).cell? ⟨w1.heap.size, 1, none⟩ = some (.bool th) := by rw [cell_at HBF.out]; rfl
 have b2 : (w1.alloc (.cells #[.int .i64 a, .bool th, .int .i64 v] 174)).cell? ⟨w1.heap.size, 2, none⟩ = some (.int .i64 v) := by rw [cell_at HBF.out]; rfl
 clear hk1 HG HB0
 clear o1 o2 o3 b0 b1 b2
 go_wp2_with fail
 go_end0
 exact ⟨rfl, HKW.out⟩
end Go.Proofs.YtmcajfefagdbnaaGreat
namespace Go.Proofs.YtmcajfefagdbnaaGreat
open Go Go.RowKit
def wAnew1 (w : World) (b : Nat) : World := (((((w.setCell ⟨b, 9, none⟩ (.slice none 0 0)).setCell ⟨b, 2, none⟩ (.int .i64 0)).setCell ⟨b, 3, none⟩ (.bool false)).setCell ⟨b, 4, none⟩ (.bool false)).setCell ⟨b, 6, none⟩ (.slice (some ⟨w.heap.size, 0, none⟩) 4 4)).setCell ⟨b, 7, none⟩ (.slice none 0 0)
def wAnew (w : World) (b : Nat) : World := (wAnew1 w b).alloc (.cells #[.int .i64 0, .int .i64 0, .int .i64 0, .int .i64 0] 3)
theorem TxAt.anewAt {ow : OwB} {tag : Nat} {w : World} {b : Nat} {t : Tx} (h : TxAt ow tag w b t) : TxAt (give ow w.heap.size tag) tag (wAnew w b) b t.anew ∧ Kept (Blk b) w (wAnew w b) := by
 obtain ⟨r, rd, ov, uv, h1, h2, h3, h4, h5, h6, h7⟩ := h
 have hbl := lt_of_block h1
 have k1 : Kept (Blk b) w (wAnew1 w b) := (((((Kept.set1 w b 9 _).trans' (Kept.set1 _ b 2 _)).trans' (Kept.set1 _ b 3 _)).trans' (Kept.set1 _ b 4 _)).trans' (Kept.set1 _ b 6 _)).trans' (Kept.set1 _ b 7 _)
 have s1 : (wAnew1 w b).heap.size = w.heap.size := by simp [wAnew1, World.setCell]
 have k2 : Kept (Blk b) w (wAnew w b) := k1.alloc _
 have a1 := block_setCell (o := 9) h1 (.slice none 0 0)
 have a2 := block_setCell (o := 2) a1 (.int .i64 0)
 have a3 := block_setCell (o := 3) a2 (.bool false)
 have a4 := block_setCell (o := 4) a3 (.bool false)
 have a5 := block_setCell (o := 6) a4 (.slice (some ⟨w.heap.size, 0, none⟩) 4 4)
 have a6 := block_setCell (o := 7) a5 (.slice none 0 0)
 have a7 := block_alloc_old (.cells #[.int .i64 0, .int .i64 0, .int .i64 0, .int .i64 0] 3) a6
 have hag : Agree w ow (give ow w.heap.size tag) := give_agree ow tag (Nat.le_refl _)
 have hnew : (wAnew w b).heap[w.heap.size]? = some (.cells #[.int .i64 0, .int .i64 0, .int .i64 0, .int .i64 0] 3 (0, 0)) := by
  have e1 := block_alloc_new (wAnew1 w b) (.cells #[.int .i64 0, .int .i64 0, .int .i64 0, .int .i64 0] 3)
  rw [s1] at e1
  exact e1
 refine ⟨⟨w.heap.size, .slice none 0 0, ov, .slice none 0 0, a7, by rw [hag b hbl]; exact h2, hnew, by simp [give], ⟨World.ownsRow_nil _ _ _ _, fun k hk => by simp [Value.ownBlock] at hk⟩, ?_, ⟨World.ownsRow_nil _ _ _ _, fun k hk => by simp [Value.ownBlock] at hk⟩⟩, k2⟩
 refine ⟨ownsRow_kept h6.1 k2 (fun k hk e => ?_), fun k hk => by rw [hag k (ownsRow_lt h6.1 k hk)]; exact h6.2 k hk⟩
 obtain ⟨cur, hc⟩ := ownsRow_block h6.1 hk
 exact blocks_apart hc h1 (by decide) e
theorem WSt.anewAt {ow : OwB} {p : Nat} {rl : List Row2} {cl : List Cl} {n : Nat} {tx : Nat → Tx} {wins : List Nat} {c : Int} {w : World} (h : WSt ow p rl cl n tx wins c w) {i b : Nat} (hi : i < n) (hT : TxAt ow (i + 2) w b (tx (i + 1)))
  (hb : ∀ rv tv cv wv bs, w.heap[p]? = some (.cells #[rv, tv, cv, wv, .int .i64 c] 47 (0, 0)) → w.ownsRow 0 149 1 tv n (txCells bs) → bs.length = n → bs.getD i 0 = b) :
  Agree w ow (give ow w.heap.size (i + 2)) ∧ WSt (give ow w.heap.size (i + 2)) p rl cl n (upd tx (i + 1) (tx (i + 1)).anew) wins c (wAnew w b) ∧ Kept (Own ow) w (wAnew w b) := by
 obtain ⟨cs, hB, hO⟩ := hT.block
 obtain ⟨hN, hk⟩ := hT.anewAt
 have hsz : w.heap.size < (wAnew w b).heap.size := by
  have s1 : (wAnew1 w b).heap.size = w.heap.size := by simp [wAnew1, World.setCell]
  unfold wAnew
  rw [alloc_size, s1]
  omega
 refine ⟨give_agree ow (i + 2) (Nat.le_refl _), h.txn i _ hi (fun k h1 h2 => hk.block k (h.lt k h1) (fun e => h2 (by rw [show k = b from e]; exact hO))) (give_agree ow (i + 2) (Nat.le_refl _)) (fun k hk0 => ?_) (fun b' hT' ⟨rv, tv, cv, wv, bs, q1, q2, q3, q4⟩ => ?_), hk.mono (fun k e => by rw [show k = b from e]; unfold Own; omega)⟩
 ·have hk1 : (if k = w.heap.size then i + 2 else ow k) ≠ 0 := hk0
  split at hk1
  ·rename_i e; rw [e]; exact hsz
  ·exact Nat.lt_of_lt_of_le (h.lt k hk1) hk.size
 ·have := hb rv tv cv wv bs q1 q2 q3
  rw [q4] at this
  subst this
  exact hN
theorem back_take (f : Int → Option Int) (l : List Saw) (j : Nat) (h : j < l.length) : back f (l.take (j + 1)) = upd (back f (l.take j)) (l.getD j ⟨0, false, 0⟩).key (if (l.getD j ⟨0, false, 0⟩).there then some (l.getD j ⟨0, false, 0⟩).val else none) := by
 unfold back
 rw [List.take_add_one, List.getElem?_eq_getElem h, List.foldl_append, List.getD_eq_getElem?_getD, List.getElem?_eq_getElem h]
 rfl
theorem sawCells_at (l : List Saw) : ∀ k, k < l.length → (sawCells l)[k * 3]? = some (.int .i64 (l.getD k ⟨0, false, 0⟩).key) ∧ (sawCells l)[k * 3 + 1]? = some (.bool (l.getD k ⟨0, false, 0⟩).there) ∧ (sawCells l)[k * 3 + 2]? = some (.int .i64 (l.getD k ⟨0, false, 0⟩).val) := by
 induction l with
 | nil => intro k h; simp at h
 | cons s l ih =>
  intro k h
  have e : sawCells (s :: l) = .int .i64 s.key :: .bool s.there :: .int .i64 s.val :: sawCells l := rfl
  match k with
  | 0 => rw [e]; exact ⟨rfl, rfl, rfl⟩
  | k + 1 =>
   have := ih k (by simpa using h)
   rw [e, show (k + 1) * 3 = k * 3 + 1 + 1 + 1 from by omega]
   simp only [List.getElem?_cons_succ, List.getD_cons_succ]
   exact this
theorem getD_reverse (l : List Saw) (j : Nat) (h : j < l.length) : l.reverse.getD (l.length - 1 - j) ⟨0, false, 0⟩ = l.getD j ⟨0, false, 0⟩ := by
 rw [List.getD_eq_getElem?_getD, List.getElem?_reverse (by omega), List.getD_eq_getElem?_getD]
 congr 2
 omega
theorem TxAt.undoAt {ow : OwB} {tag : Nat} {w : World} {b : Nat} {t : Tx} (h : TxAt ow tag w b t) (j : Nat) (hj : j < t.undo.length) : ∃ g c, w.cell? ⟨b, 9, none⟩ = some (.slice (some ⟨g, 0, none⟩) t.undo.length c) ∧ w.cell? ⟨g, (t.undo.length - 1 - j) * 3, none⟩ = some (.int .i64 (t.undo.getD j ⟨0, false, 0⟩).key) ∧ w.cell? ⟨g, (t.undo.length - 1 - j) * 3 + 1, none⟩ = some (.bool (t.undo.getD j ⟨0, false, 0⟩).there) ∧ w.cell? ⟨g, (t.undo.length - 1 - j) * 3 + 2, none⟩ = some (.int .i64 (t.undo.getD j ⟨0, false, 0⟩).val) := by
 obtain ⟨r, rd, ov, uv, h1, h2, h3, h4, h5, h6, h7⟩ := h
 obtain ⟨g, cap, hform, _, _⟩ := h7.1.form (by omega)
 subst hform
 have hc := sawCells_at t.undo.reverse (t.undo.length - 1 - j) (by rw [List.length_reverse]; omega)
 rw [getD_reverse _ _ hj] at hc
 refine ⟨g, cap, by rw [cell_at h1]; rfl, ?_, ?_, ?_⟩
 ·rw [h7.1.cellAt _ (by omega)]; exact hc.1
 ·rw [h7.1.cellAt _ (by omega)]; exact hc.2.1
 ·rw [h7.1.cellAt _ (by omega)]; exact hc.2.2
theorem TxAt.undoLen {ow : OwB} {tag : Nat} {w : World} {b : Nat} {t : Tx} (h : TxAt ow tag w b t) : ∃ ao c, w.cell? ⟨b, 9, none⟩ = some (.slice ao t.undo.length c) := by
 obtain ⟨r, rd, ov, uv, h1, h2, h3, h4, h5, h6, h7⟩ := h
 obtain ⟨ao, c, rfl⟩ := ownsRow_form h7.1
 exact ⟨ao, c, by rw [cell_at h1]; rfl⟩
end Go.Proofs.YtmcajfefagdbnaaGreat
