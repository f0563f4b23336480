import Derived.Test.YtmcajfefagdbnaaGreatJ37
import Derived.Test.YtmcajfefagdbnaaGreatJ09
import Derived.Test.YtmcajfefagdbnaaGreatJ15
import Derived.RegionTactic
import Derived.BigRegion
namespace Go.Proofs.YtmcajfefagdbnaaGreat
open Go Go.RowKit
set_option maxRecDepth 20000 in
set_option maxHeartbeats 3200000 in
theorem wdo_add_raw (p b r a a2 : Nat) (oc x y v : Int) (th : Bool) (w : World) (ha : a < 4) (ha2 : a2 < 4) (h6 : w.cell? ⟨b, 6, none⟩ = some (.slice (some ⟨r, 0, none⟩) 4 4)) (hx : w.cell? ⟨r, a, none⟩ = some (.int .i64 x)) (hy : w.cell? ⟨r, a2, none⟩ = some (.int .i64 y)) (hf : ∀ W, Kept NoBlk w W → ∀ j, W.frozen? ⟨r, j, none⟩ = false)
  (HG : Hid (∀ W, Kept NoBlk w W → Calls Tryz.prog 118 #[.pointer (some ⟨p, 0, none⟩), .int .i64 (a : Int)] W fun e w' => e = .returned (.tuple #[.int .i64 v, .bool th]) ∧ Kept NoBlk W w')) :
  Calls Tryz.prog 85 #[.pointer (some ⟨p, 0, none⟩), .pointer (some ⟨b, 0, none⟩), .agg #[.int .i64 4, .int .i64 (a : Int), .int .i64 (a2 : Int), .int .i64 oc]] w fun e w' => e = .returned (.tuple #[]) ∧ ∃ W, Kept NoBlk w W ∧ w' = (W.setCell ⟨r, a, none⟩ (.int .i64 (wrap64 (wrap64 (x + y) + oc)))).drew := by
 have HB0 : Hid ((w.alloc (.cells #[.int .i64 4, .int .i64 (a : Int), .int .i64 (a2 : Int), .int .i64 oc] 114)).heap[w.heap.size]? = some (.cells #[.int .i64 4, .int .i64 (a : Int), .int .i64 (a2 : Int), .int .i64 oc] 114 (0, 0)) ∧ Kept NoBlk w (w.alloc (.cells #[.int .i64 4, .int .i64 (a : Int), .int .i64 (a2 : Int), .int .i64 oc] 114))) := ⟨block_alloc_new w _, (Kept.refl _ _).alloc _⟩
 have H6 : Hid (w.cell? ⟨b, 6, none⟩ = some (.slice (some ⟨r, 0, none⟩) 4 4) ∧ w.cell? ⟨r, a, none⟩ = some (.int .i64 x) ∧ w.cell? ⟨r, a2, none⟩ = some (.int .i64 y) ∧ ∀ W, Kept NoBlk w W → ∀ j, W.frozen? ⟨r, j, none⟩ = false) := ⟨h6, hx, hy, hf⟩
 have j0 : (0 : Int) ≤ (a : Int) := by omega
 have j1 : (a : Int) < 4 := by omega
 have j2 : (0 : Int) ≤ (a2 : Int) := by omega
 have j3 : (a2 : Int) < 4 := by omega
 clear h6 hx hy hf
 go_enter Tryz.func85, Tryz.ntmps85
 go_wp2_with fail
 refine (HG.out _ HB0.out.2).mono ?_
 generalize w.alloc (.cells #[.int .i64 4, .int .i64 (a : Int), .int .i64 (a2 : Int), .int .i64 oc] 114) = W0 at *
 generalize w.heap.size = H at *
 rintro e w1 ⟨rfl, hk1⟩
 have hK : Kept NoBlk w (w1.alloc (.cells #[.int .i64 (a : Int), .bool th, .int .i64 v] 174)) := (HB0.out.2.trans' hk1).alloc _
 have hX : (w1.alloc (.cells #[.int .i64 (a : Int), .bool th, .int .i64 v] 174)).heap[H]? = some (.cells #[.int .i64 4, .int .i64 (a : Int), .int .i64 (a2 : Int), .int .i64 oc] 114 (0, 0)) := ((Kept.refl NoBlk w1).alloc _).heap (hk1.heap HB0.out.1 (fun x => x)) (fun x => x)
 have p1 : w1.cell? ⟨H, 1, none⟩ = some (.int .i64 (a : Int)) := by rw [cell_at (hk1.heap HB0.out.1 (fun x => x))]; rfl
 have o0 : (w1.alloc (.cells #[.int .i64 (a : Int), .bool th, .int .i64 v] 174)).cell? ⟨H, 0, none⟩ = some (.int .i64 4) := by rw [cell_at hX]; rfl
 have o1 : (w1.alloc (.cells #[.int .i64 (a : Int), .bool th, .int .i64 v] 174)).cell? ⟨H, 1, none⟩ = some (.int .i64 (a : Int)) := by rw [cell_at hX]; rfl
 have o2 : (w1.alloc (.cells #[.int .i64 (a : Int), .bool th, .int .i64 v] 174)).cell? ⟨H, 2, none⟩ = some (.int .i64 (a2 : Int)) := by rw [cell_at hX]; rfl
 have o3 : (w1.alloc (.cells #[.int .i64 (a : Int), .bool th, .int .i64 v] 174)).cell? ⟨H, 3, none⟩ = some (.int .i64 oc) := by rw [cell_at hX]; rfl
 have f6 := hK.cell0 H6.out.1
 have ra := hK.cell0 H6.out.2.1
 have rb := hK.cell0 H6.out.2.2.1
 have ff := H6.out.2.2.2 _ hK
 have HK : Hid (Kept NoBlk w (w1.alloc (.cells #[.int .i64 (a : Int), .bool th, .int .i64 v] 174))) := hK
 clear hk1 hK hX HG HB0 H6
 go_wp2_with fail
 generalize w1.alloc (.cells #[.int .i64 (a : Int), .bool th, .int .i64 v] 174) = W2 at *
 clear p1 o0
 go_region
 go_end0
 exact ⟨rfl, W2, HK.out, rfl⟩
theorem wrap_add2 (x y d : Int) : wrap64 (wrap64 (x + y) + d) = IntKind.wrap .i64 (IntKind.wrap .i64 (x + y) + d) := by simp only [IntKind.wrap_i64]; unfold wrap64; omega
theorem wdo_add {ow : OwB} {p : Nat} {rl : List Row2} {cl : List Cl} {n : Nat} {tx : Nat → Tx} {wins : List Nat} {c : Int} {w : World} (h : WSt ow p rl cl n tx wins c w) {i : Nat} (hi : i < n) (a a2 : Nat) (oc : Int) (ha : a < 4) (ha2 : a2 < 4)
  (hG : ∀ W, Kept NoBlk w W → Calls Tryz.prog 118 #[.pointer (some ⟨p, 0, none⟩), .int .i64 (a : Int)] W fun e w' => e = .returned (.tuple #[.int .i64 ((getL rl (a : Int)).getD 0), .bool (getL rl (a : Int)).isSome]) ∧ Kept NoBlk W w') :
  Calls Tryz.prog 85 #[.pointer (some ⟨p, 0, none⟩), .pointer (some ⟨ow.bs.getD i 0, 0, none⟩), .agg #[.int .i64 4, .int .i64 (a : Int), .int .i64 (a2 : Int), .int .i64 oc]] w fun e w' => e = .returned (.tuple #[]) ∧ WSt ow p rl cl n (upd tx (i + 1) { tx (i + 1) with regs := upd (tx (i + 1)).regs (a : Int) (IntKind.wrap .i64 (IntKind.wrap .i64 ((tx (i + 1)).regs (a : Int) + (tx (i + 1)).regs (a2 : Int)) + oc)) }) wins c w' ∧ Kept (Own ow) w w' := by
 obtain ⟨g, cap, _, _, f3, f4⟩ := h.findB hi
 obtain ⟨r, f6, fx, ff, fo, frb, fs⟩ := f3.regsAt
 refine (wdo_add_raw p (ow.bs.getD i 0) r a a2 oc _ _ _ _ w ha ha2 f6 (fx a ha) (fx a2 ha2) (fun W hk j => ?_) hG).mono ?_
 ·obtain ⟨g', cap', _, _, f3', _⟩ := (h.kept0 hk).findB hi
  obtain ⟨r', f6', fx', ff', _⟩ := f3'.regsAt
  have e := hk.cell0 f6
  rw [f6'] at e
  simp only [Option.some.injEq, Value.slice.injEq, Addr.mk.injEq, and_true] at e
  rw [← e]
  exact ff' j
 rintro e w' ⟨rfl, W, hk, rfl⟩
 rw [wrap_add2]
 have hW := h.kept0 hk
 obtain ⟨g', cap', _, _, f3', f4'⟩ := hW.findB hi
 obtain ⟨r', f6', fx', ff', fo', frb', fs'⟩ := f3'.regsAt
 have e := hk.cell0 f6
 rw [f6'] at e
 simp only [Option.some.injEq, Value.slice.injEq, Addr.mk.injEq, and_true] at e
 subst e
 obtain ⟨k1, k2⟩ := hW.setReg hi fo' a _ (fs' a _ ha) f4'
 exact ⟨rfl, k1.kept0 ((Kept.refl NoBlk _).drew), ((hk.mono (fun _ x => x.elim)).trans' k2).drew⟩
end Go.Proofs.YtmcajfefagdbnaaGreat
