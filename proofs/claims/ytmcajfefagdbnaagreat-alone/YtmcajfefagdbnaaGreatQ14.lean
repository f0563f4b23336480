import Derived.Test.YtmcajfefagdbnaaGreatQ05
import Derived.Test.YtmcajfefagdbnaaGreatQ13
import Derived.Test.YtmcajfefagdbnaaGreatQ09
namespace Go.Proofs.YtmcajfefagdbnaaGreat
open Go Go.RowKit
def cells5 (T : Nat → Bool) (V : Nat → Int) : Array Value := #[.bool (T 0), .bool (T 1), .bool (T 2), .bool (T 3), .bool (T 4), .int .i64 (V 0), .int .i64 (V 1), .int .i64 (V 2), .int .i64 (V 3), .int .i64 (V 4)]
theorem cells5_set (T : Nat → Bool) (V : Nat → Int) (k : Nat) (hk : k < 5) (b : Bool) (x : Int) : ((cells5 T V).setIfInBounds k (.bool b)).setIfInBounds (5 + k) (.int .i64 x) = cells5 (upd T k b) (upd V k x) := by
 match k, hk with
 | 0, _ => rfl
 | 1, _ => rfl
 | 2, _ => rfl
 | 3, _ => rfl
 | 4, _ => rfl
def rows5 (T : Nat → Bool) (V : Nat → Int) (k : Nat) : List Row2 := ((List.range k).filter T).map fun (i : Nat) => (⟨(i : Int), V i⟩ : Row2)
def evenAt (raw : List Int) (i : Nat) : Bool := decide (i < raw.length) && decide ((raw.getD i 0).tmod 2 = 0)
def firstT (raw : List Int) (k i : Nat) : Bool := decide (i < k) && evenAt raw i
def firstV (raw : List Int) (k i : Nat) : Int := if firstT raw k i then raw.getD i 0 else 0
theorem firstT_succ {raw : List Int} {k : Nat} (h : evenAt raw k = true) : firstT raw (k + 1) = upd (firstT raw k) k true := by
 funext i
 unfold firstT upd
 split
 ·rename_i e; subst e; simp [h]
 ·rename_i e; congr 1; simp only [decide_eq_decide]; omega
theorem firstT_odd {raw : List Int} {k : Nat} (h : evenAt raw k = false) : firstT raw (k + 1) = firstT raw k := by
 funext i
 unfold firstT
 by_cases e : i = k
 ·subst e; simp [h]
 ·congr 1; simp only [decide_eq_decide]; omega
theorem firstV_succ {raw : List Int} {k : Nat} (h : evenAt raw k = true) : firstV raw (k + 1) = upd (firstV raw k) k (raw.getD k 0) := by
 funext i
 unfold firstV
 rw [firstT_succ h]
 by_cases e : i = k
 ·subst e; simp
 ·rw [upd_other _ _ _ _ e, upd_other _ _ _ _ e]
theorem firstV_odd {raw : List Int} {k : Nat} (h : evenAt raw k = false) : firstV raw (k + 1) = firstV raw k := by
 funext i
 unfold firstV
 rw [firstT_odd h]
theorem rows5_congr {T T' : Nat → Bool} {V V' : Nat → Int} {k : Nat} (hT : ∀ i, i < k → T i = T' i) (hV : ∀ i, i < k → V i = V' i) : rows5 T V k = rows5 T' V' k := by
 unfold rows5
 rw [List.filter_congr (q := T') (fun i hi => hT i (List.mem_range.1 hi))]
 apply List.map_congr_left
 intro i hi
 rw [hV i (List.mem_range.1 (List.mem_filter.1 hi).1)]
theorem rows5_succ (T : Nat → Bool) (V : Nat → Int) (k : Nat) : rows5 T V (k + 1) = rows5 T V k ++ (if T k then [⟨(k : Int), V k⟩] else []) := by
 unfold rows5
 rw [List.range_succ, List.filter_append, List.map_append]
 congr 1
 by_cases h : T k <;> simp [h]
def firstL (raw : List Int) (k : Nat) : List Row2 := rows5 (firstT raw k) (firstV raw k) k
theorem firstL_succ {raw : List Int} {k : Nat} (h : evenAt raw k = true) : firstL raw (k + 1) = firstL raw k ++ [⟨(k : Int), raw.getD k 0⟩] := by
 unfold firstL
 rw [rows5_succ, firstT_succ h, firstV_succ h]
 simp only [upd_same, if_true]
 congr 1
 exact rows5_congr (fun i hi => upd_other _ _ _ _ (by omega)) (fun i hi => upd_other _ _ _ _ (by omega))
theorem firstL_odd {raw : List Int} {k : Nat} (h : evenAt raw k = false) : firstL raw (k + 1) = firstL raw k := by
 unfold firstL
 rw [rows5_succ, firstT_odd h, firstV_odd h]
 have : firstT raw k k = false := by unfold firstT; simp
 simp [this]
theorem firstL_len (raw : List Int) (k : Nat) : (firstL raw k).length ≤ k := by
 unfold firstL rows5
 rw [List.length_map]
 exact Nat.le_trans (List.length_filter_le _ _) (by simp)
def IntsSrc (w : World) (v : Value) (l : List Int) : Prop := ∃ ao c, v = .slice ao l.length c ∧ (0 < l.length → ∃ b off, ao = some ⟨b, off, none⟩ ∧ ∀ i, i < l.length → w.cell? ⟨b, off + i, none⟩ = some (.int .i64 (l.getD i 0)))
theorem infoRow3 : (Tryz.prog.info? 95).map (fun i => (i.zero, i.size, i.bytes)) = some (some (.agg #[.int .i64 0, .int .i64 0]), 2, 16) := by kernel_rfl
theorem rowCells_snoc (l : List Row2) (r : Row2) : rowCells (l ++ [r]) = rowCells l ++ [.int .i64 r.k, .int .i64 r.v] := by simp [rowCells, Row2.cells]
def set10 (w : World) (H : Nat) (x0 x1 x2 x3 x4 x5 x6 x7 x8 x9 : Value) : World := ((((((((((w.setCell ⟨H, 0, none⟩ x0).setCell ⟨H, 1, none⟩ x1).setCell ⟨H, 2, none⟩ x2).setCell ⟨H, 3, none⟩ x3).setCell ⟨H, 4, none⟩ x4).setCell ⟨H, 5, none⟩ x5).setCell ⟨H, 6, none⟩ x6).setCell ⟨H, 7, none⟩ x7).setCell ⟨H, 8, none⟩ x8).setCell ⟨H, 9, none⟩ x9)
theorem set10_at (w : World) (H : Nat) (x0 x1 x2 x3 x4 x5 x6 x7 x8 x9 y0 y1 y2 y3 y4 y5 y6 y7 y8 y9 : Value) (t : TypeId) (h : w.heap[H]? = some (.cells #[y0, y1, y2, y3, y4, y5, y6, y7, y8, y9] t (0, 0))) :
  (set10 w H x0 x1 x2 x3 x4 x5 x6 x7 x8 x9).heap[H]? = some (.cells #[x0, x1, x2, x3, x4, x5, x6, x7, x8, x9] t (0, 0)) := by
 have h0 : (w.setCell ⟨H, 0, none⟩ x0).heap[H]? = some (.cells #[x0, y1, y2, y3, y4, y5, y6, y7, y8, y9] t (0, 0)) := block_setCell h x0
 have h1 : ((w.setCell ⟨H, 0, none⟩ x0).setCell ⟨H, 1, none⟩ x1).heap[H]? = some (.cells #[x0, x1, y2, y3, y4, y5, y6, y7, y8, y9] t (0, 0)) := block_setCell h0 x1
 have h2 : (((w.setCell ⟨H, 0, none⟩ x0).setCell ⟨H, 1, none⟩ x1).setCell ⟨H, 2, none⟩ x2).heap[H]? = some (.cells #[x0, x1, x2, y3, y4, y5, y6, y7, y8, y9] t (0, 0)) := block_setCell h1 x2
 have h3 : ((((w.setCell ⟨H, 0, none⟩ x0).setCell ⟨H, 1, none⟩ x1).setCell ⟨H, 2, none⟩ x2).setCell ⟨H, 3, none⟩ x3).heap[H]? = some (.cells #[x0, x1, x2, x3, y4, y5, y6, y7, y8, y9] t (0, 0)) := block_setCell h2 x3
 have h4 : (((((w.setCell ⟨H, 0, none⟩ x0).setCell ⟨H, 1, none⟩ x1).setCell ⟨H, 2, none⟩ x2).setCell ⟨H, 3, none⟩ x3).setCell ⟨H, 4, none⟩ x4).heap[H]? = some (.cells #[x0, x1, x2, x3, x4, y5, y6, y7, y8, y9] t (0, 0)) := block_setCell h3 x4
 have h5 : ((((((w.setCell ⟨H, 0, none⟩ x0).setCell ⟨H, 1, none⟩ x1).setCell ⟨H, 2, none⟩ x2).setCell ⟨H, 3, none⟩ x3).setCell ⟨H, 4, none⟩ x4).setCell ⟨H, 5, none⟩ x5).heap[H]? = some (.cells #[x0, x1, x2, x3, x4, x5, y6, y7, y8, y9] t (0, 0)) := block_setCell h4 x5
 have h6 : (((((((w.setCell ⟨H, 0, none⟩ x0).setCell ⟨H, 1, none⟩ x1).setCell ⟨H, 2, none⟩ x2).setCell ⟨H, 3, none⟩ x3).setCell ⟨H, 4, none⟩ x4).setCell ⟨H, 5, none⟩ x5).setCell ⟨H, 6, none⟩ x6).heap[H]? = some (.cells #[x0, x1, x2, x3, x4, x5, x6, y7, y8, y9] t (0, 0)) := block_setCell h5 x6
 have h7 : ((((((((w.setCell ⟨H, 0, none⟩ x0).setCell ⟨H, 1, none⟩ x1).setCell ⟨H, 2, none⟩ x2).setCell ⟨H, 3, none⟩ x3).setCell ⟨H, 4, none⟩ x4).setCell ⟨H, 5, none⟩ x5).setCell ⟨H, 6, none⟩ x6).setCell ⟨H, 7, none⟩ x7).heap[H]? = some (.cells #[x0, x1, x2, x3, x4, x5, x6, x7, y8, y9] t (0, 0)) := block_setCell h6 x7
 have h8 : (((((((((w.setCell ⟨H, 0, none⟩ x0).setCell ⟨H, 1, none⟩ x1).setCell ⟨H, 2, none⟩ x2).setCell ⟨H, 3, none⟩ x3).setCell ⟨H, 4, none⟩ x4).setCell ⟨H, 5, none⟩ x5).setCell ⟨H, 6, none⟩ x6).setCell ⟨H, 7, none⟩ x7).setCell ⟨H, 8, none⟩ x8).heap[H]? = some (.cells #[x0, x1, x2, x3, x4, x5, x6, x7, x8, y9] t (0, 0)) := block_setCell h7 x8
 have h9 : ((((((((((w.setCell ⟨H, 0, none⟩ x0).setCell ⟨H, 1, none⟩ x1).setCell ⟨H, 2, none⟩ x2).setCell ⟨H, 3, none⟩ x3).setCell ⟨H, 4, none⟩ x4).setCell ⟨H, 5, none⟩ x5).setCell ⟨H, 6, none⟩ x6).setCell ⟨H, 7, none⟩ x7).setCell ⟨H, 8, none⟩ x8).setCell ⟨H, 9, none⟩ x9).heap[H]? = some (.cells #[x0, x1, x2, x3, x4, x5, x6, x7, x8, x9] t (0, 0)) := block_setCell h8 x9
 exact h9
theorem set10_kept (w : World) (H : Nat) (x0 x1 x2 x3 x4 x5 x6 x7 x8 x9 : Value) : Kept (Blk H) w (set10 w H x0 x1 x2 x3 x4 x5 x6 x7 x8 x9) := by
 unfold set10
 repeat (refine Kept.setCell ?_ (.inl (by rfl)) _)
 exact Kept.refl _ _
set_option maxRecDepth 20000 in
set_option maxHeartbeats 3200000 in
theorem first_any (v : Value) (raw : List Int) (w : World) (hv : IntsSrc w v raw) (hl : raw.length ≤ 17592186044416) (hin : ∀ x ∈ raw, inI x) :
  Calls Tryz.prog 57 #[v] w fun e w' => ∃ x, e = .returned (.tuple #[.agg #[.bool (firstT raw 5 0), .bool (firstT raw 5 1), .bool (firstT raw 5 2), .bool (firstT raw 5 3), .bool (firstT raw 5 4), .int .i64 (firstV raw 5 0), .int .i64 (firstV raw 5 1), .int .i64 (firstV raw 5 2), .int .i64 (firstV raw 5 3), .int .i64 (firstV raw 5 4)], x]) ∧ RowAt w' 95 2 x (firstL raw 5).length (rowCells (firstL raw 5)) ∧ (∀ k, x.ownBlock = some k → w.heap.size ≤ k) ∧ Kept NoBlk w w' := by
 obtain ⟨ao, c, rfl, hv⟩ := hv
 have HV : Hid (0 < raw.length → ∃ b off, ao = some ⟨b, off, none⟩ ∧ ∀ i, i < raw.length → w.cell? ⟨b, off + i, none⟩ = some (.int .i64 (raw.getD i 0))) := hv
 have HIN : Hid (∀ x ∈ raw, inI x) := hin
 clear hv hin
 generalize hn : raw.length = n at *
 have HN : Hid (raw.length = n) := hn
 clear hn
 go_enter Tryz.func57, Tryz.ntmps57
 go_wp2_with fail
 have hb0 : ((w.alloc (.cells (cells5 (fun _ => false) (fun _ => 0)) 58)).alloc (.cells (cells5 (fun _ => false) (fun _ => 0)) 58)).heap[w.heap.size]? = some (.cells (cells5 (fun _ => false) (fun _ => 0)) 58 (0, 0)) := block_alloc_old _ (block_alloc_new w _)
 have hb1 : ((w.alloc (.cells (cells5 (fun _ => false) (fun _ => 0)) 58)).alloc (.cells (cells5 (fun _ => false) (fun _ => 0)) 58)).heap[w.heap.size + 1]? = some (.cells (cells5 (fun _ => false) (fun _ => 0)) 58 (0, 0)) := block_new2 w _ _
 have hk0 : Kept NoBlk w ((w.alloc (.cells (cells5 (fun _ => false) (fun _ => 0)) 58)).alloc (.cells (cells5 (fun _ => false) (fun _ => 0)) 58)) := ((Kept.refl _ _).alloc _).alloc _
 have HB0 : Hid (_ ∧ _ ∧ _) := ⟨hb0, hb1, hk0⟩
 clear hb0 hb1 hk0
 generalize hHH : w.heap.size = H at *
 have HHH : Hid (w.heap.size = H) := hHH
 clear hHH
 go_loopw [5, 6] (fun x i wr => ∃ k : Nat, k ≤ n ∧ k ≤ 5 ∧ i = .int .i64 k ∧ wr.heap[H]? = some (.cells (cells5 (fun _ => false) (fun _ => 0)) 58 (0, 0)) ∧ wr.heap[H + 1]? = some (.cells (cells5 (firstT raw k) (firstV raw k)) 58 (0, 0)) ∧ RowAt wr 95 2 x (firstL raw k).length (rowCells (firstL raw k)) ∧ (∀ j, x.ownBlock = some j → H + 2 ≤ j) ∧ Kept NoBlk w wr) (fun _ i _ => n - (intOf i).toNat)
 case atStart =>
  refine ⟨0, Nat.zero_le _, Nat.zero_le _, rfl, HB0.out.1, ?_, RowAt.nil _ _ _, fun j hj => by simp [Value.ownBlock] at hj, HB0.out.2.2⟩
  exact HB0.out.2.1
 case round =>
  obtain ⟨k, hk, hk5, rfl, hb0, hb1, hrow, hfr, hkw⟩ := hrel
  by_cases hlt : k < n ∧ k < 5
  ·obtain ⟨b, off, rfl, hat⟩ := HV.out (by omega)
   have g0 := hkw.cell0 (hat k hlt.1)
   have hio : inI (raw.getD k 0) := HIN.out _ (by rw [List.getD_eq_getElem?_getD, List.getElem?_eq_getElem (by rw [HN.out]; exact hlt.1)]; exact List.getElem_mem _)
   have HEV : Hid (evenAt raw k = decide ((raw.getD k 0).tmod 2 = 0)) := by
    unfold Hid evenAt
    rw [HN.out]; simp [hlt.1]
   have HR : Hid (RowAt wr 95 2 u5 (firstL raw k).length (rowCells (firstL raw k)) ∧ (∀ j, u5.ownBlock = some j → H + 2 ≤ j) ∧ Kept NoBlk w wr) := ⟨hrow, hfr, hkw⟩
   have HB0 : Hid (wr.heap[H]? = some (.cells (cells5 (fun _ => false) (fun _ => 0)) 58 (0, 0))) := hb0
   have HB1 : Hid (wr.heap[H + 1]? = some (.cells (cells5 (firstT raw k) (firstV raw k)) 58 (0, 0))) := hb1
   have HLT : Hid (k < n ∧ k < 5) := hlt
   have j0 : (0 : Int) ≤ (k : Int) := by omega
   have j1 : (k : Int) < 5 := by omega
   have j2 : (k : Int) < (n : Int) := by omega
   have HBN : Hid (¬ b = H + 1) := by have h1 := World.block_lt_of_cell? _ _ (hat k hlt.1); have h2 := HHH.out; unfold Hid; intro e; simp only at h1; omega
   clear hrow hfr hkw hat hb0 hb1
   generalize hrw : raw.getD k 0 = r at *
   have HRW : Hid (raw.getD k 0 = r) := hrw
   clear hrw
   have f1 : ∀ j, wr.frozen? ⟨H + 1, j, none⟩ = false := frozen_at HB1.out
   have q0 : ∃ x, wr.cell? ⟨H + 1, k, none⟩ = some x := ⟨_, by rw [cell_at HB1.out]; exact Array.getElem?_eq_getElem (by show k < 10; omega)⟩
   have q1 : ∃ x, wr.cell? ⟨H + 1, 5 + k, none⟩ = some x := ⟨_, by rw [cell_at HB1.out]; exact Array.getElem?_eq_getElem (by show 5 + k < 10; omega)⟩
   obtain ⟨x0, q0⟩ := q0
   obtain ⟨x1, q1⟩ := q1
   by_cases hev : r.tmod 2 = 0
   ·have hev' : (r.tmod 2 == 0) = true := by rw [beq_iff_eq]; exact hev
    have HE : Hid (evenAt raw k = true) := by unfold Hid; rw [HEV.out]; simp [hev]
    have hbl := World.block_lt_of_cell? _ _ g0
    have hbn : ¬ b = H + 1 := HBN.out
    have hbn' : ¬ H + 1 = b := fun e => hbn e.symm
    have HB4 : Hid (((wr.setCell ⟨H + 1, k, none⟩ (.bool true)).setCell ⟨H + 1, 5 + k, none⟩ (.int .i64 r)).heap[H + 1]? = some (.cells (cells5 (firstT raw (k + 1)) (firstV raw (k + 1))) 58 (0, 0))) := by
     have h1 : ((wr.setCell ⟨H + 1, k, none⟩ (.bool true)).setCell ⟨H + 1, 5 + k, none⟩ (.int .i64 r)).heap[H + 1]? = some (.cells (((cells5 (firstT raw k) (firstV raw k)).setIfInBounds k (.bool true)).setIfInBounds (5 + k) (.int .i64 r)) 58 (0, 0)) := block_setCell (block_setCell HB1.out _) _
     rw [cells5_set _ _ k HLT.out.2, ← HRW.out, ← firstT_succ HE.out, ← firstV_succ HE.out] at h1
     rw [← HRW.out]
     exact h1
    have HFM : Hid (FromMem (((wr.setCell ⟨H + 1, k, none⟩ (.bool true)).setCell ⟨H + 1, 5 + k, none⟩ (.int .i64 r)).alloc (.cells #[.int .i64 (k : Int), .int .i64 r] 95)) 2 (.slice (some ⟨wr.heap.size, 0, none⟩) 1 1) 1 [.int .i64 (k : Int), .int .i64 r]) := by
     have := from_new2 ((wr.setCell ⟨H + 1, k, none⟩ (.bool true)).setCell ⟨H + 1, 5 + k, none⟩ (.int .i64 r)) (.int .i64 (k : Int)) (.int .i64 r) 95 rfl rfl
     rw [show (((wr.setCell ⟨H + 1, k, none⟩ (.bool true)).setCell ⟨H + 1, 5 + k, none⟩ (.int .i64 r))).heap.size = wr.heap.size from by simp] at this
     exact this
    have HK4 : Hid (Kept (Blk (H + 1)) wr ((wr.setCell ⟨H + 1, k, none⟩ (.bool true)).setCell ⟨H + 1, 5 + k, none⟩ (.int .i64 r))) := (Kept.set1 wr (H + 1) k _).trans' (Kept.set1 _ (H + 1) (5 + k) _)
    have HOB : Hid (∀ j, u5.ownBlock = some j → ¬ Blk (H + 1) j) := fun j hj e => by unfold Blk at e; have := HR.out.2.1 j hj; omega
    generalize hcnt : (firstL raw k).length = cnt at *
    have HC : Hid ((firstL raw k).length = cnt) := hcnt
    have HC5 : Hid (cnt ≤ 5) := by have := firstL_len raw k; unfold Hid; omega
    have HR4 : Hid (RowAt (((wr.setCell ⟨H + 1, k, none⟩ (.bool true)).setCell ⟨H + 1, 5 + k, none⟩ (.int .i64 r)).alloc (.cells #[.int .i64 (k : Int), .int .i64 r] 95)) 95 2 u5 cnt (rowCells (firstL raw k))) := (HR.out.1.kept HK4.out HOB.out).kept ((Kept.refl NoBlk _).alloc _) (fun _ _ x => x)
    have HB5 : Hid ((cnt + 1) * 16 ≤ 140737488355328) := by have := HC5.out; unfold Hid; omega
    have HB6 : Hid (cnt + 1 ≤ maxLen) := by have := HC5.out; unfold Hid maxLen; omega
    obtain ⟨i1, hi1, hy0, hy1, hy2⟩ := info_parts infoRow3
    have HI : Hid (Tryz.prog.info? 95 = some i1 ∧ i1.zero = some (.agg #[.int .i64 0, .int .i64 0]) ∧ i1.size = 2 ∧ i1.bytes = 16) := ⟨hi1, hy0, hy1, hy2⟩
    clear hi1 hy0 hy1 hy2 hcnt hev hbl
    generalize hxs : rowCells (firstL raw k) = xs at *
    have HXS : Hid (rowCells (firstL raw k) = xs) := hxs
    clear hxs
    go_wp2_with (at_builtin; refine wpList_append_row (by rfl) _ _ 22 (by rfl) 95 i1 _ 2 16 Tryz.underlying22 HI.out.1 HI.out.2.1 HI.out.2.2.1 HI.out.2.2.2 (by rfl) u5 cnt xs (by rfl) HR4.out (.slice (some ⟨wr.heap.size, 0, none⟩) 1 1) 1 [.int .i64 (k : Int), .int .i64 r] (by rfl) HFM.out HB6.out HB5.out ?_)
    intro ao2 c2 W6 hown6 hmv6
    have hk6 := hmv6.keptOf
    have hn6 := hmv6.fresh
    have HF6 : Hid (W6.heap[H]? = some (.cells (cells5 (fun _ => false) (fun _ => 0)) 58 (0, 0)) ∧ W6.heap[H + 1]? = some (.cells (cells5 (firstT raw (k + 1)) (firstV raw (k + 1))) 58 (0, 0)) ∧ RowAt W6 95 2 (.slice ao2 (cnt + 1) c2) (firstL raw (k + 1)).length (rowCells (firstL raw (k + 1))) ∧ (∀ j, (Value.slice ao2 (cnt + 1) c2).ownBlock = some j → H + 2 ≤ j) ∧ Kept NoBlk w W6) := by
     have hka : Kept NoBlk ((wr.setCell ⟨H + 1, k, none⟩ (.bool true)).setCell ⟨H + 1, 5 + k, none⟩ (.int .i64 r)) (((wr.setCell ⟨H + 1, k, none⟩ (.bool true)).setCell ⟨H + 1, 5 + k, none⟩ (.int .i64 r)).alloc (.cells #[.int .i64 (k : Int), .int .i64 r] 95)) := (Kept.refl NoBlk _).alloc _
     have hlt1 := lt_of_block HB4.out
     have hfr := HR.out.2.1
     refine ⟨?_, ?_, ?_, fun j hj => ?_, ?_⟩
     ·exact hk6.heap (hka.heap (HK4.out.heap HB0.out (fun e => by unfold Blk at e; omega)) (fun x => x)) (fun e => by have := hfr _ e; omega)
     ·exact hk6.heap (hka.heap HB4.out (fun x => x)) (fun e => by have := hfr _ e; omega)
     ·rw [firstL_succ HE.out, rowCells_snoc, HXS.out, HRW.out, List.length_append, HC.out]
      exact hown6
     ·rcases hn6 j hj with h | h
      ·exact hfr j h
      ·have h2 : (((wr.setCell ⟨H + 1, k, none⟩ (.bool true)).setCell ⟨H + 1, 5 + k, none⟩ (.int .i64 r)).alloc (.cells #[.int .i64 (k : Int), .int .i64 r] 95)).heap.size ≤ j := h
       rw [alloc_size] at h2
       omega
     ·refine ((HR.out.2.2.trans HK4.out (fun j e => .inr ?_)).trans' hka).trans hk6 (fun j e => .inr ?_)
      ·unfold Blk at e; have := HHH.out; omega
      ·have := hfr j e; have := HHH.out; omega
    clear hk6 hn6 hown6 hmv6
    go_wp2_with fail
    go_roundw
    case rel => exact ⟨k + 1, by have := HLT.out; omega, by have := HLT.out; omega, by go_num, HF6.out⟩
    case measure => have := HLT.out; simp [intOf]; omega
   ·have hev' : (r.tmod 2 == 0) = false := by rw [beq_eq_false_iff_ne]; exact hev
    have HE : Hid (evenAt raw k = false) := by unfold Hid; rw [HEV.out]; simp [hev]
    clear hev
    go_wp2_with fail
    go_roundw
    case rel =>
     have h1 := HLT.out
     refine ⟨k + 1, by omega, by omega, by go_num, HB0.out, ?_, ?_⟩
     ·rw [firstT_odd HE.out, firstV_odd HE.out]; exact HB1.out
     ·rw [firstL_odd HE.out]; exact HR.out
    case measure => have := HLT.out; simp [intOf]; omega
  ·have HF : Hid (wr.heap[H]? = some (.cells (cells5 (fun _ => false) (fun _ => 0)) 58 (0, 0)) ∧ wr.heap[H + 1]? = some (.cells (cells5 (firstT raw 5) (firstV raw 5)) 58 (0, 0)) ∧ RowAt wr 95 2 u5 (firstL raw 5).length (rowCells (firstL raw 5)) ∧ (∀ j, u5.ownBlock = some j → H + 2 ≤ j) ∧ Kept NoBlk w wr) := by
    have hall : ∀ d, k ≤ d → firstT raw d = firstT raw k ∧ firstV raw d = firstV raw k ∧ firstL raw d = firstL raw k ∨ k = 5 := by
     intro d hd
     by_cases e5 : k = 5
     ·exact .inr e5
     ·left
      have hkn : k = n := by omega
      induction d with
      | zero =>
       obtain rfl : k = 0 := by omega
       exact ⟨rfl, rfl, rfl⟩
      | succ d ih =>
       by_cases e : k = d + 1
       ·rw [e]; exact ⟨rfl, rfl, rfl⟩
       ·obtain ⟨h1, h2, h3⟩ := ih (by omega)
        have hod : evenAt raw d = false := by unfold evenAt; rw [HN.out]; simp; intro; omega
        exact ⟨by rw [firstT_odd hod, h1], by rw [firstV_odd hod, h2], by rw [firstL_odd hod, h3]⟩
    rcases hall 5 hk5 with ⟨h1, h2, h3⟩ | e
    ·rw [h1, h2, h3]; exact ⟨hb0, hb1, hrow, hfr, hkw⟩
    ·subst e; exact ⟨hb0, hb1, hrow, hfr, hkw⟩
   clear hb0 hb1 hrow hfr hkw
   have z0 : wr.cell? ⟨H + 1, 0, none⟩ = some (.bool (firstT raw 5 0)) := by rw [cell_at HF.out.2.1]; rfl
   have z1 : wr.cell? ⟨H + 1, 1, none⟩ = some (.bool (firstT raw 5 1)) := by rw [cell_at HF.out.2.1]; rfl
   have z2 : wr.cell? ⟨H + 1, 2, none⟩ = some (.bool (firstT raw 5 2)) := by rw [cell_at HF.out.2.1]; rfl
   have z3 : wr.cell? ⟨H + 1, 3, none⟩ = some (.bool (firstT raw 5 3)) := by rw [cell_at HF.out.2.1]; rfl
   have z4 : wr.cell? ⟨H + 1, 4, none⟩ = some (.bool (firstT raw 5 4)) := by rw [cell_at HF.out.2.1]; rfl
   have z5 : wr.cell? ⟨H + 1, 5, none⟩ = some (.int .i64 (firstV raw 5 0)) := by rw [cell_at HF.out.2.1]; rfl
   have z6 : wr.cell? ⟨H + 1, 6, none⟩ = some (.int .i64 (firstV raw 5 1)) := by rw [cell_at HF.out.2.1]; rfl
   have z7 : wr.cell? ⟨H + 1, 7, none⟩ = some (.int .i64 (firstV raw 5 2)) := by rw [cell_at HF.out.2.1]; rfl
   have z8 : wr.cell? ⟨H + 1, 8, none⟩ = some (.int .i64 (firstV raw 5 3)) := by rw [cell_at HF.out.2.1]; rfl
   have z9 : wr.cell? ⟨H + 1, 9, none⟩ = some (.int .i64 (firstV raw 5 4)) := by rw [cell_at HF.out.2.1]; rfl
   have y0 : wr.cell? ⟨H, 0, none⟩ = some (.bool false) := by rw [cell_at HF.out.1]; rfl
   have y1 : wr.cell? ⟨H, 1, none⟩ = some (.bool false) := by rw [cell_at HF.out.1]; rfl
   have y2 : wr.cell? ⟨H, 2, none⟩ = some (.bool false) := by rw [cell_at HF.out.1]; rfl
   have y3 : wr.cell? ⟨H, 3, none⟩ = some (.bool false) := by rw [cell_at HF.out.1]; rfl
   have y4 : wr.cell? ⟨H, 4, none⟩ = some (.bool false) := by rw [cell_at HF.out.1]; rfl
   have y5 : wr.cell? ⟨H, 5, none⟩ = some (.int .i64 0) := by rw [cell_at HF.out.1]; rfl
   have y6 : wr.cell? ⟨H, 6, none⟩ = some (.int .i64 0) := by rw [cell_at HF.out.1]; rfl
   have y7 : wr.cell? ⟨H, 7, none⟩ = some (.int .i64 0) := by rw [cell_at HF.out.1]; rfl
   have y8 : wr.cell? ⟨H, 8, none⟩ = some (.int .i64 0) := by rw [cell_at HF.out.1]; rfl
   have y9 : wr.cell? ⟨H, 9, none⟩ = some (.int .i64 0) := by rw [cell_at HF.out.1]; rfl
   have yf : ∀ j, wr.frozen? ⟨H, j, none⟩ = false := frozen_at HF.out.1
   by_cases hk5' : k < 5
   ·have hkn : ¬ k < n := fun x => hlt ⟨x, hk5'⟩
    go_wp2_with fail
    have hk2 := set10_kept wr H (.bool (firstT raw 5 0)) (.bool (firstT raw 5 1)) (.bool (firstT raw 5 2)) (.bool (firstT raw 5 3)) (.bool (firstT raw 5 4)) (.int .i64 (firstV raw 5 0)) (.int .i64 (firstV raw 5 1)) (.int .i64 (firstV raw 5 2)) (.int .i64 (firstV raw 5 3)) (.int .i64 (firstV raw 5 4))
    have hH2 := set10_at wr H (.bool (firstT raw 5 0)) (.bool (firstT raw 5 1)) (.bool (firstT raw 5 2)) (.bool (firstT raw 5 3)) (.bool (firstT raw 5 4)) (.int .i64 (firstV raw 5 0)) (.int .i64 (firstV raw 5 1)) (.int .i64 (firstV raw 5 2)) (.int .i64 (firstV raw 5 3)) (.int .i64 (firstV raw 5 4)) _ _ _ _ _ _ _ _ _ _ _ HF.out.1
    have hR2 := HF.out.2.2.1.kept hk2 (fun j hj e => by unfold Blk at e; have := HF.out.2.2.2.1 j hj; omega)
    have hK2 := HF.out.2.2.2.2.trans hk2 (fun j e => .inr (by unfold Blk at e; have := HHH.out; omega))
    rw [show ((((((((((wr.setCell ⟨H, 0, none⟩ (.bool (firstT raw 5 0))).setCell ⟨H, 1, none⟩ (.bool (firstT raw 5 1))).setCell ⟨H, 2, none⟩ (.bool (firstT raw 5 2))).setCell ⟨H, 3, none⟩ (.bool (firstT raw 5 3))).setCell ⟨H, 4, none⟩ (.bool (firstT raw 5 4))).setCell ⟨H, 5, none⟩ (.int .i64 (firstV raw 5 0))).setCell ⟨H, 6, none⟩ (.int .i64 (firstV raw 5 1))).setCell ⟨H, 7, none⟩ (.int .i64 (firstV raw 5 2))).setCell ⟨H, 8, none⟩ (.int .i64 (firstV raw 5 3))).setCell ⟨H, 9, none⟩ (.int .i64 (firstV raw 5 4))) = set10 wr H (.bool (firstT raw 5 0)) (.bool (firstT raw 5 1)) (.bool (firstT raw 5 2)) (.bool (firstT raw 5 3)) (.bool (firstT raw 5 4)) (.int .i64 (firstV raw 5 0)) (.int .i64 (firstV raw 5 1)) (.int .i64 (firstV raw 5 2)) (.int .i64 (firstV raw 5 3)) (.int .i64 (firstV raw 5 4)) from rfl]
    clear hk2 z0 z1 z2 z3 z4 z5 z6 z7 z8 z9 y0 y1 y2 y3 y4 y5 y6 y7 y8 y9 yf
    generalize set10 wr H (.bool (firstT raw 5 0)) (.bool (firstT raw 5 1)) (.bool (firstT raw 5 2)) (.bool (firstT raw 5 3)) (.bool (firstT raw 5 4)) (.int .i64 (firstV raw 5 0)) (.int .i64 (firstV raw 5 1)) (.int .i64 (firstV raw 5 2)) (.int .i64 (firstV raw 5 3)) (.int .i64 (firstV raw 5 4)) = W3 at *
    have k0 : W3.cell? ⟨H, 0, none⟩ = some (.bool (firstT raw 5 0)) := by rw [cell_at hH2]; rfl
    have k1 : W3.cell? ⟨H, 1, none⟩ = some (.bool (firstT raw 5 1)) := by rw [cell_at hH2]; rfl
    have k2 : W3.cell? ⟨H, 2, none⟩ = some (.bool (firstT raw 5 2)) := by rw [cell_at hH2]; rfl
    have k3 : W3.cell? ⟨H, 3, none⟩ = some (.bool (firstT raw 5 3)) := by rw [cell_at hH2]; rfl
    have k4 : W3.cell? ⟨H, 4, none⟩ = some (.bool (firstT raw 5 4)) := by rw [cell_at hH2]; rfl
    have k5 : W3.cell? ⟨H, 5, none⟩ = some (.int .i64 (firstV raw 5 0)) := by rw [cell_at hH2]; rfl
    have k6 : W3.cell? ⟨H, 6, none⟩ = some (.int .i64 (firstV raw 5 1)) := by rw [cell_at hH2]; rfl
    have k7 : W3.cell? ⟨H, 7, none⟩ = some (.int .i64 (firstV raw 5 2)) := by rw [cell_at hH2]; rfl
    have k8 : W3.cell? ⟨H, 8, none⟩ = some (.int .i64 (firstV raw 5 3)) := by rw [cell_at hH2]; rfl
    have k9 : W3.cell? ⟨H, 9, none⟩ = some (.int .i64 (firstV raw 5 4)) := by rw [cell_at hH2]; rfl
    refine bodyPost_ret (v := .tuple #[.agg #[.bool (firstT raw 5 0), .bool (firstT raw 5 1), .bool (firstT raw 5 2), .bool (firstT raw 5 3), .bool (firstT raw 5 4), .int .i64 (firstV raw 5 0), .int .i64 (firstV raw 5 1), .int .i64 (firstV raw 5 2), .int .i64 (firstV raw 5 3), .int .i64 (firstV raw 5 4)], u5]) (by simp [results, Tryz.results57, go_sem, k0, k1, k2, k3, k4, k5, k6, k7, k8, k9]) rfl ?_
    exact ⟨u5, rfl, hR2, fun j hj => by have h1 := HF.out.2.2.2.1 j hj; have h2 := HHH.out; omega, hK2⟩
   ·go_wp2_with fail
    have hk2 := set10_kept wr H (.bool (firstT raw 5 0)) (.bool (firstT raw 5 1)) (.bool (firstT raw 5 2)) (.bool (firstT raw 5 3)) (.bool (firstT raw 5 4)) (.int .i64 (firstV raw 5 0)) (.int .i64 (firstV raw 5 1)) (.int .i64 (firstV raw 5 2)) (.int .i64 (firstV raw 5 3)) (.int .i64 (firstV raw 5 4))
    have hH2 := set10_at wr H (.bool (firstT raw 5 0)) (.bool (firstT raw 5 1)) (.bool (firstT raw 5 2)) (.bool (firstT raw 5 3)) (.bool (firstT raw 5 4)) (.int .i64 (firstV raw 5 0)) (.int .i64 (firstV raw 5 1)) (.int .i64 (firstV raw 5 2)) (.int .i64 (firstV raw 5 3)) (.int .i64 (firstV raw 5 4)) _ _ _ _ _ _ _ _ _ _ _ HF.out.1
    have hR2 := HF.out.2.2.1.kept hk2 (fun j hj e => by unfold Blk at e; have := HF.out.2.2.2.1 j hj; omega)
    have hK2 := HF.out.2.2.2.2.trans hk2 (fun j e => .inr (by unfold Blk at e; have := HHH.out; omega))
    rw [show ((((((((((wr.setCell ⟨H, 0, none⟩ (.bool (firstT raw 5 0))).setCell ⟨H, 1, none⟩ (.bool (firstT raw 5 1))).setCell ⟨H, 2, none⟩ (.bool (firstT raw 5 2))).setCell ⟨H, 3, none⟩ (.bool (firstT raw 5 3))).setCell ⟨H, 4, none⟩ (.bool (firstT raw 5 4))).setCell ⟨H, 5, none⟩ (.int .i64 (firstV raw 5 0))).setCell ⟨H, 6, none⟩ (.int .i64 (firstV raw 5 1))).setCell ⟨H, 7, none⟩ (.int .i64 (firstV raw 5 2))).setCell ⟨H, 8, none⟩ (.int .i64 (firstV raw 5 3))).setCell ⟨H, 9, none⟩ (.int .i64 (firstV raw 5 4))) = set10 wr H (.bool (firstT raw 5 0)) (.bool (firstT raw 5 1)) (.bool (firstT raw 5 2)) (.bool (firstT raw 5 3)) (.bool (firstT raw 5 4)) (.int .i64 (firstV raw 5 0)) (.int .i64 (firstV raw 5 1)) (.int .i64 (firstV raw 5 2)) (.int .i64 (firstV raw 5 3)) (.int .i64 (firstV raw 5 4)) from rfl]
    clear hk2 z0 z1 z2 z3 z4 z5 z6 z7 z8 z9 y0 y1 y2 y3 y4 y5 y6 y7 y8 y9 yf
    generalize set10 wr H (.bool (firstT raw 5 0)) (.bool (firstT raw 5 1)) (.bool (firstT raw 5 2)) (.bool (firstT raw 5 3)) (.bool (firstT raw 5 4)) (.int .i64 (firstV raw 5 0)) (.int .i64 (firstV raw 5 1)) (.int .i64 (firstV raw 5 2)) (.int .i64 (firstV raw 5 3)) (.int .i64 (firstV raw 5 4)) = W3 at *
    have k0 : W3.cell? ⟨H, 0, none⟩ = some (.bool (firstT raw 5 0)) := by rw [cell_at hH2]; rfl
    have k1 : W3.cell? ⟨H, 1, none⟩ = some (.bool (firstT raw 5 1)) := by rw [cell_at hH2]; rfl
    have k2 : W3.cell? ⟨H, 2, none⟩ = some (.bool (firstT raw 5 2)) := by rw [cell_at hH2]; rfl
    have k3 : W3.cell? ⟨H, 3, none⟩ = some (.bool (firstT raw 5 3)) := by rw [cell_at hH2]; rfl
    have k4 : W3.cell? ⟨H, 4, none⟩ = some (.bool (firstT raw 5 4)) := by rw [cell_at hH2]; rfl
    have k5 : W3.cell? ⟨H, 5, none⟩ = some (.int .i64 (firstV raw 5 0)) := by rw [cell_at hH2]; rfl
    have k6 : W3.cell? ⟨H, 6, none⟩ = some (.int .i64 (firstV raw 5 1)) := by rw [cell_at hH2]; rfl
    have k7 : W3.cell? ⟨H, 7, none⟩ = some (.int .i64 (firstV raw 5 2)) := by rw [cell_at hH2]; rfl
    have k8 : W3.cell? ⟨H, 8, none⟩ = some (.int .i64 (firstV raw 5 3)) := by rw [cell_at hH2]; rfl
    have k9 : W3.cell? ⟨H, 9, none⟩ = some (.int .i64 (firstV raw 5 4)) := by rw [cell_at hH2]; rfl
    refine bodyPost_ret (v := .tuple #[.agg #[.bool (firstT raw 5 0), .bool (firstT raw 5 1), .bool (firstT raw 5 2), .bool (firstT raw 5 3), .bool (firstT raw 5 4), .int .i64 (firstV raw 5 0), .int .i64 (firstV raw 5 1), .int .i64 (firstV raw 5 2), .int .i64 (firstV raw 5 3), .int .i64 (firstV raw 5 4)], u5]) (by simp [results, Tryz.results57, go_sem, k0, k1, k2, k3, k4, k5, k6, k7, k8, k9]) rfl ?_
    exact ⟨u5, rfl, hR2, fun j hj => by have h1 := HF.out.2.2.2.1 j hj; have h2 := HHH.out; omega, hK2⟩
end Go.Proofs.YtmcajfefagdbnaaGreat

namespace Go.Proofs.YtmcajfefagdbnaaGreat
open Go Go.RowKit
def St.withLk (s : St) (lk : Int → Lk) : St := { s with lk := lk }
theorem tagNe {a b : Nat} {x y : Int} (h : a ≠ b) : ((a, x) : Nat × Int) ≠ (b, y) := fun e => h (by cases e; rfl)
theorem PSt.turnHold {L : Lay} {bs : Nat → Nat} {A : List Nat} {ow : Ow} {m : Nat} {mu lv : Int} {s : St} {w w' : World} (h : PSt L bs A ow m mu lv s w) {m' : Nat} {lk' : Int → Lk} (hk : Kept (Blk L.hb) w w') (hmm : m ≤ m') (hm : MapAt keyH w' L.hb m' (hvals (holdF lk'))) (hq : ∀ k, (lk' k).q = (s.lk k).q)
  (hd : ∀ k j, (lk' k).h j ≠ 0 → inI k ∧ j ∈ A) : PSt L bs A ow m' mu lv (s.withLk lk') w' := by
 obtain ⟨t1, t2, t3, t4⟩ := h.tags
 have hb : ∀ k, k < w.heap.size → ow k ≠ (3, 0) → w'.heap[k]? = w.heap[k]? := fun k hk1 hne => hk.block k hk1 (fun e => hne (by cases e; exact t3))
 obtain ⟨u, tv, wv, b1, b2, b3⟩ := h.body
 obtain ⟨qf, q1, q2⟩ := h.que
 refine ⟨fun k hk0 => Nat.lt_of_lt_of_le (h.lt k hk0) hk.size, h.tags, ⟨u, tv, wv, by rw [hb _ (lt_of_block b1) (by rw [t1]; exact tagNe (by omega))]; exact b1, b2.kept (AgreeP.refl _ _) (fun k hk e => hb k hk (by rw [e]; exact tagNe (by omega))), b3.kept (AgreeP.refl _ _) (fun k hk e => hb k hk (by rw [e]; exact tagNe (by omega)))⟩,
  (h.vals.of_same (hb _ h.vals.lt (by rw [t2]; exact tagNe (by omega)))).mono hmm, hm, ⟨qf, (q1.of_same (hb _ q1.lt (by rw [t4]; exact tagNe (by omega)))).mono (Nat.add_le_add_right hmm _), fun k => ?_⟩,
  fun i hi hn => (h.txs i hi hn).kept (AgreeP.refl _ _) (fun k hk e => hb k hk (by rcases e with e | e <;> (rw [e]; exact tagNe (by omega)))), h.few, h.among, hd, fun k x hx => h.qdom k x (by rw [← hq k]; exact hx), h.rdom, h.nmax⟩
 show QueueAt ow w' k (qf k) (lk' k).q
 rw [hq k]
 exact (q2 k).kept (AgreeP.refl _ _) (fun j hj e => hb j hj (by rw [e]; exact tagNe (by omega)))
theorem holdF_put (lk : Int → Lk) (k : Int) (i : Nat) (md : Int) (hmd : md ≠ 0) : put (holdF lk) (k, (i : Int)) (some md) = holdF (upd lk k ⟨upd (lk k).h i md, (lk k).q⟩) := by
 funext x
 obtain ⟨a, b⟩ := x
 simp only [put, holdF, Prod.mk.injEq]
 by_cases e : a = k
 ·subst e
  simp only [true_and, upd_same]
  by_cases e2 : b = (i : Int)
  ·subst e2
   simp [hmd]
  ·rw [if_neg e2]
   by_cases e3 : 0 ≤ b
   ·have : b.toNat ≠ i := by omega
    rw [upd_other _ _ _ _ this]
   ·simp [e3]
 ·simp [e, upd_other _ _ _ _ e]
theorem holdF_drop (lk : Int → Lk) (k : Int) (i : Nat) : put (holdF lk) (k, (i : Int)) none = holdF (upd lk k ⟨upd (lk k).h i 0, (lk k).q⟩) := by
 funext x
 obtain ⟨a, b⟩ := x
 simp only [put, holdF, Prod.mk.injEq]
 by_cases e : a = k
 ·subst e
  simp only [true_and, upd_same]
  by_cases e2 : b = (i : Int)
  ·subst e2
   simp
  ·rw [if_neg e2]
   by_cases e3 : 0 ≤ b
   ·have : b.toNat ≠ i := by omega
    rw [upd_other _ _ _ _ this]
   ·simp [e3]
 ·simp [e, upd_other _ _ _ _ e]
theorem inI_nat {i : Nat} (h : i ≤ 1099511627776) : inI (i : Int) := ⟨by omega, by omega⟩
theorem ptake {L : Lay} {bs : Nat → Nat} {A : List Nat} {ow : Ow} {m : Nat} {mu lv : Int} {s : St} {w : World} (h : PSt L bs A ow m mu lv s w) (k : Int) (i : Nat) (md : Int) (hk : inI k) (hi : i ∈ A) (hmd : md ≠ 0) (hm : m < maxLen) :
  Calls Tryz.prog 96 #[.pointer (some ⟨L.p, 0, none⟩), .int .i64 k, .agg #[.int .i64 (i : Int), .int .i64 md]] w fun e w' => e = .returned (.tuple #[]) ∧ PSt L bs A ow (m + 1) mu lv (s.withLk (upd s.lk k ⟨upd (s.lk k).h i md, (s.lk k).q⟩)) w' ∧ Kept (Blk L.hb) w w' := by
 obtain ⟨u, tv, wv, b1, c3, c6, c7, c4, b2⟩ := h.cells
 have hin := h.among i hi
 have hnm := h.nmax
 refine (take_any L.p L.hb m k ((i : Int), md) (holdF s.lk) w c6 h.hold hm hk (inI_nat (by omega))).mono ?_
 rintro e w' ⟨rfl, hm', hkk⟩
 simp only at hm'
 rw [holdF_put _ _ _ _ hmd] at hm'
 refine ⟨rfl, h.turnHold hkk (Nat.le_succ _) hm' (fun k' => ?_) (fun k' j hj => ?_), hkk⟩
 ·by_cases e : k' = k
  ·subst e; rw [upd_same]
  ·rw [upd_other _ _ _ _ e]
 ·by_cases e : k' = k
  ·subst e
   rw [upd_same] at hj
   by_cases e2 : j = i
   ·subst e2; exact ⟨hk, hi⟩
   ·simp only [upd_other _ _ _ _ e2] at hj
    exact h.hdom _ _ hj
  ·rw [upd_other _ _ _ _ e] at hj
   exact h.hdom _ _ hj
theorem fits_hind {lk : Int → Lk} {k : Int} {l : List (Int × Int)} (hl : HoldsL (holdF lk) k l) (n i : Nat) (md : Int) (hd : ∀ j, (lk k).h j ≠ 0 → j ≤ n) : fitsB l ((i : Int), md) = !hind n (lk k).h i md := by
 have mem : ∀ j, (lk k).h j ≠ 0 → ((j : Int), (lk k).h j) ∈ l := fun j hj => (hl.2 _ _).2 (by simp [holdF, hj])
 have inv : ∀ x ∈ l, ∃ j : Nat, x = ((j : Int), (lk k).h j) ∧ (lk k).h j ≠ 0 := by
  intro x hx
  have := (hl.2 x.1 x.2).1 hx
  unfold holdF at this
  split at this
  ·rename_i h0
   refine ⟨x.1.toNat, ?_, h0.2⟩
   simp only [Option.some.injEq] at this
   have h1 : ((x.1.toNat : Nat) : Int) = x.1 := by have := h0.1; simp only at this; omega
   rw [h1, this]
  ·cases this
 cases hh : hind n (lk k).h i md
 ·rw [hind_false] at hh
  simp only [fitsB, Bool.not_false, List.all_eq_true, Bool.not_eq_true']
  intro x hx
  obtain ⟨j, rfl, hj⟩ := inv x hx
  by_cases e : j = i
  ·subst e; simp [confl]
  ·have := hh j (hd j hj) e hj
   simp only [conf, Bool.or_eq_false_iff] at this
   simp only [confl, Bool.and_eq_false_iff, Bool.or_eq_false_iff]
   exact .inr ⟨this.2, this.1⟩
 ·rw [hind_true] at hh
  obtain ⟨j, h1, h2, h3, h4⟩ := hh
  simp only [fitsB, Bool.not_true]
  rw [List.all_eq_false]
  refine ⟨_, mem j h3, ?_⟩
  simp only [conf, Bool.or_eq_true] at h4
  have h5 : ((i : Int) != (j : Int)) = true := by simp; omega
  simp only [confl, h5, Bool.true_and]
  rcases h4 with h4 | h4
  ·simp [h4]
  ·simp [h4]
theorem pfits {L : Lay} {bs : Nat → Nat} {A : List Nat} {ow : Ow} {m : Nat} {mu lv : Int} {s : St} {w : World} (h : PSt L bs A ow m mu lv s w) (k : Int) (i : Nat) (md : Int) (hk : inI k) :
  Calls Tryz.prog 130 #[.pointer (some ⟨L.p, 0, none⟩), .int .i64 k, .agg #[.int .i64 (i : Int), .int .i64 md]] w fun e w' => e = .returned (.bool (!hind s.n (s.lk k).h i md)) ∧ Kept NoBlk w w' := by
 obtain ⟨u, tv, wv, b1, c3, c6, c7, c4, b2⟩ := h.cells
 refine (fits_any L.p L.hb m k ((i : Int), md) (holdF s.lk) w c6 h.hold hk (holdF_ok h) (holdF_few h k)).mono ?_
 rintro e w' ⟨l, hl, rfl, hkk⟩
 rw [fits_hind hl s.n i md (fun j hj => (h.among j (h.hdom k j hj).2).2)]
 exact ⟨rfl, hkk⟩
end Go.Proofs.YtmcajfefagdbnaaGreat
