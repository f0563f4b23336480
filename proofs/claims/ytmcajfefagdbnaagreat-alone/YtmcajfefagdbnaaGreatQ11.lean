import Derived.Test.YtmcajfefagdbnaaGreatQ08
import Derived.Test.YtmcajfefagdbnaaGreatQ09
namespace Go.Proofs.YtmcajfefagdbnaaGreat
open Go Go.RowKit Go.Sort Go.Lib
def IsBox (w : World) (bx t : Nat) (i : Int) : Prop := w.cell? ⟨bx, 0, none⟩ = some (.pointer (some ⟨t, 0, none⟩)) ∧ w.cell? ⟨t, 0, none⟩ = some (.int .i64 i)
theorem IsBox.kept {w w' : World} {bx t : Nat} {i : Int} {S : Nat → Prop} (h : IsBox w bx t i) (hk : Kept S w w') (h1 : ¬ S bx) (h2 : ¬ S t) : IsBox w' bx t i := ⟨hk.cell h.1 h1, hk.cell h.2 h2⟩
theorem mine_ok (bx t : Nat) (i : Int) (x : Int × Int) (w : World) (h : IsBox w bx t i) :
    Calls Tryz.prog 170 #[.agg #[.int .i64 x.1, .int .i64 x.2], .pointer (some ⟨bx, 0, none⟩)] w fun e w' => e = .returned (.bool (x.1 == i)) ∧ Kept NoBlk w w' := by
  obtain ⟨x1, x2⟩ := x
  obtain ⟨h1, h2⟩ := h
  have l1 := World.block_lt_of_cell? w _ h1
  have l2 := World.block_lt_of_cell? w _ h2
  have HK : Hid (∀ o1, Kept NoBlk w (w.alloc o1)) := fun o1 => (Kept.refl _ _).alloc _
  have HK2 : Hid (∀ o1, Kept NoBlk w (w.alloc o1).drew) := fun o1 => ((Kept.refl _ _).alloc _).drew
  go_enter Tryz.func170, Tryz.ntmps170
  go_wp2_with fail
  first
    | (go_region
       go_wp2_with fail
       go_ret
       exact ⟨rfl, HK2.out _⟩)
    | (go_ret
       exact ⟨rfl, HK.out _⟩)
set_option maxHeartbeats 1600000 in
theorem indexFunc_any (ao : Option Addr) (c bx t : Nat) (i : Int) (l : List (Int × Int)) (w : World) (hl : LksAt w ao l) (hc : l.length ≤ 1099511627776) (hb : IsBox w bx t i) :
  Calls Tryz.prog 186 #[.slice ao l.length c, .func (.func 170) #[] #[.pointer (some ⟨bx, 0, none⟩)]] w fun e w' => ∃ k : Int, e = .returned (.int .i64 k) ∧ Kept NoBlk w w' ∧
   ((k = -1 ∧ ∀ x ∈ l, x.1 ≠ i) ∨ ∃ k0 : Nat, k = (k0 : Int) ∧ k0 < l.length ∧ (l.getD k0 (0, 0)).1 = i ∧ ∀ x ∈ l.take k0, x.1 ≠ i) := by
 have HL : Hid (LksAt w ao l) := hl
 have HB : Hid (IsBox w bx t i) := hb
 generalize hn : l.length = n at *
 have Hn : Hid (l.length = n) := hn
 clear hn hl hb
 go_enter Tryz.func186, Tryz.ntmps186
 go_wp2_with fail
 go_loopw [8] (fun v wr => ∃ k : Nat, k ≤ n ∧ v = .int .i64 (k : Int) ∧ (∀ x ∈ l.take k, x.1 ≠ i) ∧ Kept NoBlk w wr) (fun v _ => n - (intOf v).toNat)
 case atStart => exact ⟨0, Nat.zero_le _, rfl, fun x hx => by simp at hx, Kept.refl _ _⟩
 case round =>
  obtain ⟨k, hk, rfl, hno, hkw⟩ := hrel
  have HNO : Hid (∀ x ∈ l.take k, x.1 ≠ i) := hno
  have HKW : Hid (Kept NoBlk w wr) := hkw
  clear hno
  by_cases hlt : k < n
  ·have hkl : k < l.length := by rw [Hn.out]; exact hlt
   obtain ⟨g, off, rfl, g0, g1⟩ := (LksAt.kept HL.out hkw (fun _ _ x => x)) k hkl
   have hbx : IsBox wr bx t i := IsBox.kept HB.out hkw (fun x => x) (fun x => x)
   have HBX : Hid (IsBox wr bx t i) := hbx
   generalize hx : l.getD k (0, 0) = x at *
   have Hx : Hid (l.getD k (0, 0) = x) := hx
   have HKL : Hid (k < l.length) := hkl
   clear hx hkw hkl hbx
   go_wp2_with fail
   refine (mine_ok bx t i x wr HBX.out).mono ?_
   rintro e w2 ⟨rfl, hk2⟩
   have HK2 : Hid (Kept NoBlk w w2) := HKW.out.trans' hk2
   clear hk2 g0 g1
   cases hcf : (x.1 == i)
   ·go_wp2_with fail
    refine ⟨⟨k + 1, by omega, by go_num, ?_, HK2.out⟩, by simp [intOf]; omega⟩
    intro y hy
    rw [List.take_add_one, List.mem_append] at hy
    rcases hy with hy | hy
    ·exact HNO.out y hy
    ·have : l[k]? = some (l.getD k (0, 0)) := by have := HKL.out; simp [List.getD, this]
     rw [this, Hx.out] at hy
     simp at hy
     rw [hy]
     exact beq_eq_false_iff_ne.1 hcf
   ·go_wp2_with fail
    go_ret
    exact ⟨(k : Int), rfl, HK2.out, .inr ⟨k, rfl, hlt, by have := Hx.out; rw [this]; exact beq_iff_eq.1 hcf, HNO.out⟩⟩
  ·obtain rfl : k = n := by omega
   go_wp2_with fail
   go_ret
   have := HNO.out
   rw [← Hn.out, List.take_length] at this
   exact ⟨-1, rfl, HKW.out, .inl ⟨rfl, this⟩⟩
theorem size_zc (z : Array Value) (n : Nat) : (Builtin.zeroCells z n).size = n * z.size := size_zeroCells z n
theorem zeroCells_one : ∀ n, ∀ u ∈ (Builtin.zeroCells (Value.agg #[.int .i64 0, .int .i64 0]).cells n).toList, u.oneCell' = true := by
 intro n u hu
 simp only [Builtin.zeroCells, Array.toList_map, List.mem_map] at hu
 obtain ⟨k, _, rfl⟩ := hu
 have : k % 2 = 0 ∨ k % 2 = 1 := by omega
 rcases this with h | h <;> (simp [Value.cells, h]; rfl)
theorem run_clear_row {P : Program} (w : World) (t e e' ty : TypeId) (z : Value) (size : Nat) (ht : P.underlying t = some (.slice e)) (hv : ∀ w, (zeroValue e).run P w = .ok z w) (hz : z.cells.size = size) (h1 : ∀ n, ∀ u ∈ (Builtin.zeroCells z.cells n).toList, u.oneCell' = true) (g off n c : Nat) (cur : Array Value) (hg : w.heap[g]? = some (.cells cur e' (0, 0))) (hn : 0 < n) (hfit : off + n * size ≤ cur.size) :
  ∃ cur', (Builtin.clear_ #[t] ty #[.slice (some ⟨g, off, none⟩) n c]).run P w = .ok (.tuple #[]) (w.setRow g cur') ∧ cur'.size = cur.size ∧ ∀ j, j < off → cur'[j]? = cur[j]? := by
 have hlen : (Builtin.zeroCells z.cells n).toList.length = n * size := by rw [Array.length_toList, size_zc, hz]
 have hst := run_storeCells_at P g off e' (Builtin.zeroCells z.cells n).toList 0 cur w hg (by rw [hlen]; omega) (h1 n)
 simp only [Nat.add_zero] at hst
 refine ⟨(cur.toList.take off ++ (Builtin.zeroCells z.cells n).toList ++ cur.toList.drop (off + (Builtin.zeroCells z.cells n).toList.length)).toArray, ?_, ?_, ?_⟩
 ·obtain ⟨m, rfl⟩ : ∃ m, n = m + 1 := ⟨n - 1, by omega⟩
  simp [Builtin.clear_, run_underlying ht, hv, hst]
 ·rw [hlen]
  rw [List.size_toArray, List.length_append, List.length_append, hlen, List.length_take, List.length_drop, Array.length_toList]
  omega
 ·intro j hj
  simp only [List.getElem?_toArray]
  rw [List.append_assoc, List.getElem?_append_left (by simp; omega), List.getElem?_take_of_lt hj]
  simp
theorem RowAt.setAt {w : World} {e : TypeId} {size n g off c : Nat} {xs : List Value} (h : RowAt w e size (.slice (some ⟨g, off, none⟩) n c) n xs) (j : Nat) (hj : j < xs.length) (v : Value) : RowAt (w.setCell ⟨g, off + j, none⟩ v) e size (.slice (some ⟨g, off, none⟩) n c) n (xs.set j v) := by
 have hl := h.1
 rcases h.2 with ⟨h0, _⟩ | ⟨g', off', cap', cur, h0, hg, h1, h2, h3, h4⟩
 ·cases h0
 ·simp only [Value.slice.injEq, Option.some.injEq, Addr.mk.injEq, and_true, true_and] at h0
  obtain ⟨⟨rfl, rfl⟩, rfl⟩ := h0
  refine ⟨by rw [List.length_set]; exact hl, .inr ⟨g, off, c, _, rfl, block_setCell hg v, h1, h2, by simpa using h3, fun k u hu => ?_⟩⟩
  by_cases e : k = j
  ·subst e
   rw [List.getElem?_set_self hj] at hu
   have hjc : off + k < cur.size := by
    have := h4 k xs[k] (by simp)
    exact (Array.getElem?_eq_some_iff.1 this).1
   rw [Array.getElem?_setIfInBounds_self_of_lt hjc]
   exact hu
  ·rw [List.getElem?_set_ne (fun e' => e e'.symm)] at hu
   rw [Array.getElem?_setIfInBounds_ne (by omega)]
   exact h4 k u hu
theorem lkc_set (l : List (Int × Int)) : ∀ (k : Nat) (x y : Int), k < l.length → lkc (l.set k (x, y)) = ((lkc l).set (k * 2) (.int .i64 x)).set (k * 2 + 1) (.int .i64 y) := by
 induction l with
 | nil => intro k x y hk; simp at hk
 | cons o l ih =>
  intro k x y hk
  cases k with
  | zero => simp [lkc]
  | succ k =>
   have := ih k x y (by simpa using hk)
   rw [show (k + 1) * 2 = k * 2 + 1 + 1 from by omega]
   simp only [lkc, List.set_cons_succ, List.flatMap_cons, List.cons_append, List.nil_append, List.cons.injEq, true_and] at this ⊢
   exact this
theorem RowAt.set2 {w : World} {n g off c : Nat} {l : List (Int × Int)} (h : RowAt w 107 2 (.slice (some ⟨g, off, none⟩) n c) n (lkc l)) (k : Nat) (hk : k < l.length) (x y : Int) :
  RowAt ((w.setCell ⟨g, off + k * 2, none⟩ (.int .i64 x)).setCell ⟨g, off + k * 2 + 1, none⟩ (.int .i64 y)) 107 2 (.slice (some ⟨g, off, none⟩) n c) n (lkc (l.set k (x, y))) := by
 rw [lkc_set l k x y hk]
 have h1 := h.setAt (k * 2) (by rw [lkc_len]; omega) (.int .i64 x)
 have h2 := h1.setAt (k * 2 + 1) (by rw [List.length_set, lkc_len]; omega) (.int .i64 y)
 rw [← Nat.add_assoc] at h2
 exact h2
structure DelInv (l : List (Int × Int)) (i : Int) (n ci j : Nat) (l' : List (Int × Int)) : Prop where
 lt : ci < j
 le : j ≤ n
 len : l'.length = n
 low : l'.take ci = (l.take j).filter fun x => x.1 != i
 high : l'.drop j = l.drop j
theorem DelInv.start {l : List (Int × Int)} {i : Int} {k0 : Nat} (hk : k0 < l.length) (hi : (l.getD k0 (0, 0)).1 = i) (hno : ∀ x ∈ l.take k0, x.1 ≠ i) : DelInv l i l.length k0 (k0 + 1) l := by
 refine ⟨by omega, by omega, rfl, ?_, rfl⟩
 rw [List.take_add_one, List.filter_append, List.filter_eq_self.2 (fun x hx => by simpa using hno x hx)]
 have : l[k0]? = some (l.getD k0 (0, 0)) := by simp [List.getD, hk]
 rw [this]
 generalize l.getD k0 (0, 0) = x at *
 simp [hi]
theorem DelInv.at {l : List (Int × Int)} {i : Int} {n ci j : Nat} {l' : List (Int × Int)} (h : DelInv l i n ci j l') : l'.getD j (0, 0) = l.getD j (0, 0) := by
 have := congrArg (fun x => x[0]?) h.high
 simp only [List.getElem?_drop, Nat.add_zero] at this
 simp [List.getD, this]
theorem drop_succ_of {α : Type} {l l' : List α} {j : Nat} (h : l'.drop j = l.drop j) : l'.drop (j + 1) = l.drop (j + 1) := by
 rw [← List.drop_drop, ← List.drop_drop, h]
theorem DelInv.skip {l : List (Int × Int)} {i : Int} {n ci j : Nat} {l' : List (Int × Int)} (h : DelInv l i n ci j l') (hl : l.length = n) (hj : j < n) (hx : (l.getD j (0, 0)).1 = i) : DelInv l i n ci (j + 1) l' := by
 refine ⟨by have := h.lt; omega, by omega, h.len, ?_, drop_succ_of h.high⟩
 rw [h.low, List.take_add_one, List.filter_append]
 have : l[j]? = some (l.getD j (0, 0)) := by simp [List.getD, show j < l.length by omega]
 rw [this]
 generalize l.getD j (0, 0) = x at *
 simp [hx]
theorem DelInv.keep {l : List (Int × Int)} {i : Int} {n ci j : Nat} {l' : List (Int × Int)} (h : DelInv l i n ci j l') (hl : l.length = n) (hj : j < n) (hx : (l.getD j (0, 0)).1 ≠ i) : DelInv l i n (ci + 1) (j + 1) (l'.set ci (l.getD j (0, 0))) := by
 have hlt := h.lt
 refine ⟨by omega, by omega, by rw [List.length_set]; exact h.len, ?_, ?_⟩
 ·rw [List.take_add_one, List.take_set_of_le (Nat.le_refl _), h.low, List.take_add_one, List.filter_append]
  have e1 : l[j]? = some (l.getD j (0, 0)) := by simp [List.getD, show j < l.length by omega]
  have e2 : (l'.set ci (l.getD j (0, 0)))[ci]? = some (l.getD j (0, 0)) := List.getElem?_set_self (by rw [h.len]; omega)
  rw [e1, e2]
  have : ((l.getD j (0, 0)).1 != i) = true := by simpa using hx
  generalize l.getD j (0, 0) = x at *
  simp [this]
 ·rw [List.drop_set_of_lt (by omega)]
  exact drop_succ_of h.high
theorem zeroLk (w : World) : (zeroValue 107).run Tryz.prog w = .ok (.agg #[.int .i64 0, .int .i64 0]) w := by kernel_rfl
set_option maxHeartbeats 3200000 in
theorem deleteFunc_any (g off n c bx t : Nat) (i : Int) (l : List (Int × Int)) (w : World) (hr : RowAt w 107 2 (.slice (some ⟨g, off, none⟩) n c) n (lkc l)) (hn : n ≤ 1099511627776) (hb : IsBox w bx t i) (hbg : bx ≠ g) (htg : t ≠ g) (hin : ∃ x ∈ l, x.1 = i) :
  Calls Tryz.prog 169 #[.slice (some ⟨g, off, none⟩) n c, .func (.func 170) #[] #[.pointer (some ⟨bx, 0, none⟩)]] w fun e w' => ∃ k, e = .returned (.slice (some ⟨g, off, none⟩) k c) ∧ RowAt w' 107 2 (.slice (some ⟨g, off, none⟩) k c) k (lkc (l.filter fun x => x.1 != i)) ∧ Kept (Blk g) w w' := by
 have hlen : l.length = n := by have := hr.1; rw [lkc_len] at this; omega
 have hcon := indexFunc_any (some ⟨g, off, none⟩) c bx t i l w hr.lks (by omega) hb
 rw [hlen] at hcon
 have HR : Hid (RowAt w 107 2 (.slice (some ⟨g, off, none⟩) n c) n (lkc l)) := hr
 have HB : Hid (IsBox w bx t i) := hb
 clear hr hb
 go_enter Tryz.func169, Tryz.ntmps169
 go_wp2_with fail
 refine hcon.mono ?_
 rintro e w1 ⟨k, rfl, hk1, hk⟩
 obtain ⟨k0, rfl, hk0, hki, hkno⟩ : ∃ k0 : Nat, k = (k0 : Int) ∧ k0 < n ∧ (l.getD k0 (0, 0)).1 = i ∧ ∀ x ∈ l.take k0, x.1 ≠ i := by
  rcases hk with ⟨_, h⟩ | h
  ·obtain ⟨x, h1, h2⟩ := hin
   exact absurd h2 (h x h1)
  ·exact h
 have hne : ¬ ((k0 : Int) = -1) := by omega
 have hne2 : ((k0 : Int) == -1) = false := beq_eq_false_iff_ne.2 (by omega)
 have HST : Hid (DelInv l i n k0 (k0 + 1) l) := by
  have := DelInv.start (by omega) hki hkno
  rw [hlen] at this
  exact this
 have HK1 : Hid (Kept (Blk g) w w1) := hk1.mono (fun _ x => x.elim)
 have HR1 : Hid (RowAt w1 107 2 (.slice (some ⟨g, off, none⟩) n c) n (lkc l)) := RowAt.kept HR.out hk1 (fun _ _ x => x)
 have HBG : Hid (bx ≠ g ∧ t ≠ g) := ⟨hbg, htg⟩
 have HLN : Hid (l.length = n) := hlen
 clear hcon hk hki hkno hk1 hin
 go_wp2_with fail
 go_loopw [5, 6] (fun a b wr => ∃ (ci j : Nat) (l' : List (Int × Int)), a = .int .i64 (ci : Int) ∧ b = .int .i64 (j : Int) ∧ DelInv l i n ci j l' ∧ RowAt wr 107 2 (.slice (some ⟨g, off, none⟩) n c) n (lkc l') ∧ Kept (Blk g) w wr) (fun _ b _ => n - (intOf b).toNat)
 case atStart => exact ⟨k0, k0 + 1, l, rfl, by go_num, HST.out, HR1.out, HK1.out⟩
 case round =>
  obtain ⟨ci, j, l', rfl, rfl, hinv, hrow, hkw⟩ := hrel
  have hcj := hinv.lt
  have hjn := hinv.le
  have HINV : Hid (DelInv l i n ci j l') := hinv
  have HROW : Hid (RowAt wr 107 2 (.slice (some ⟨g, off, none⟩) n c) n (lkc l')) := hrow
  have HKW : Hid (Kept (Blk g) w wr) := hkw
  have HBX : Hid (IsBox wr bx t i) := IsBox.kept HB.out hkw (fun e => HBG.out.1 e) (fun e => HBG.out.2 e)
  have hgl : g < wr.heap.size := hrow.lt g rfl
  by_cases hlt : j < n
  ·obtain ⟨g', off', hgo, g0, g1⟩ := hrow.lks j (by rw [hinv.len]; exact hlt)
   obtain ⟨g2', off2', hgo2, i0, i1⟩ := hrow.lks ci (by rw [hinv.len]; omega)
   simp only [Option.some.injEq, Addr.mk.injEq, and_true] at hgo hgo2
   obtain ⟨rfl, rfl⟩ := hgo
   obtain ⟨rfl, rfl⟩ := hgo2
   rw [hinv.at] at g0 g1
   generalize hx : l.getD j (0, 0) = x at *
   have Hx : Hid (l.getD j (0, 0) = x) := hx
   generalize l'.getD ci (0, 0) = y at *
   have f0 := hrow.unfrozen (off + ci * 2)
   have f1 := hrow.unfrozen (off + ci * 2 + 1)
   clear hx hinv hrow hkw
   go_wp2_with fail
   refine (mine_ok bx t i x _ (IsBox.kept HBX.out ((Kept.refl NoBlk wr).alloc _) (fun x => x) (fun x => x))).mono ?_
   rintro e w2 ⟨rfl, hk2⟩
   have hk3 : Kept NoBlk wr w2 := ((Kept.refl NoBlk wr).alloc _).trans' hk2
   have hbox := hk2.heap (block_alloc_new wr _) (fun x => x)
   have b0 : w2.cell? ⟨wr.heap.size, 0, none⟩ = some (.int .i64 x.1) := by rw [cell_at hbox]; rfl
   have b1 : w2.cell? ⟨wr.heap.size, 1, none⟩ = some (.int .i64 x.2) := by rw [cell_at hbox]; rfl
   have i0' := hk3.cell0 i0
   have i1' := hk3.cell0 i1
   have hrow2 : RowAt w2 107 2 (.slice (some ⟨g, off, none⟩) n c) n (lkc l') := RowAt.kept HROW.out hk3 (fun _ _ x => x)
   have f0' := hrow2.unfrozen (off + ci * 2)
   have f1' := hrow2.unfrozen (off + ci * 2 + 1)
   have HROW2 : Hid (RowAt w2 107 2 (.slice (some ⟨g, off, none⟩) n c) n (lkc l')) := hrow2
   have HKW2 : Hid (Kept (Blk g) w w2) := HKW.out.trans hk3 (fun _ x => x.elim)
   have hgl2 := hrow2.lt g rfl
   have hwg : wr.heap.size ≠ g := by omega
   clear hk2 hk3 hbox hrow2 g0 g1 i0 i1 f0 f1
   cases hcf : (x.1 == i)
   ·go_wp2_with fail
    have hset := RowAt.set2 HROW2.out ci (by rw [HINV.out.len]; omega) x.1 x.2
    have hkp := HINV.out.keep HLN.out hlt (by rw [Hx.out]; exact beq_eq_false_iff_ne.1 hcf)
    rw [Hx.out] at hkp
    exact ⟨⟨ci + 1, j + 1, _, by go_num, by go_num, hkp, hset, ((HKW2.out.trans' (Kept.set1 _ g _ _)).trans' (Kept.set1 _ g _ _))⟩, by simp [intOf]; omega⟩
   ·go_wp2_with fail
    exact ⟨⟨ci, j + 1, l', rfl, by go_num, HINV.out.skip HLN.out hlt (by rw [Hx.out]; exact beq_iff_eq.1 hcf), HROW2.out, HKW2.out⟩, by simp [intOf]; omega⟩
  ·obtain rfl : j = n := by omega
   obtain ⟨cur, hgc⟩ := hrow.block (k := g) rfl
   have hfit : off + ci * 2 + (j - ci) * 2 ≤ cur.size ∧ j ≤ c := by
    rcases hrow.2 with ⟨h0, _⟩ | ⟨g', off', cap', cur', h0, hg, h1, h2, h3, h4⟩
    ·cases h0
    ·simp only [Value.slice.injEq, Option.some.injEq, Addr.mk.injEq, and_true, true_and] at h0
     obtain ⟨⟨rfl, rfl⟩, rfl⟩ := h0
     rw [hgc] at hg
     simp only [Option.some.injEq, Obj.cells.injEq, and_true] at hg
     subst hg
     exact ⟨by omega, h1⟩
   obtain ⟨cur', hcl, hcs, hcl2⟩ := run_clear_row (P := Tryz.prog) wr 74 107 107 0 (.agg #[.int .i64 0, .int .i64 0]) 2 Tryz.underlying74 (fun w => zeroLk w) rfl zeroCells_one g (off + ci * 2) (j - ci) (c - ci) cur hgc (by omega) hfit.1
   ·have hcc := hfit.2
    have HF : Hid (RowAt (wr.setRow g cur') 107 2 (.slice (some ⟨g, off, none⟩) ci c) ci (lkc (l.filter fun x => x.1 != i))) := by
     have hfl : l'.take ci = l.filter fun x => x.1 != i := by rw [hinv.low, ← HLN.out, List.take_length]
     rw [← hfl]
     rcases hrow.2 with ⟨h0, _⟩ | ⟨g', off', cap', cur2, h0, hg, h1, h2, h3, h4⟩
     ·cases h0
     ·simp only [Value.slice.injEq, Option.some.injEq, Addr.mk.injEq, and_true, true_and] at h0
      obtain ⟨⟨rfl, rfl⟩, rfl⟩ := h0
      rw [hgc] at hg
      simp only [Option.some.injEq, Obj.cells.injEq, and_true] at hg
      subst hg
      have hll : (l'.take ci).length = ci := by rw [List.length_take, hinv.len]; omega
      refine ⟨by rw [lkc_len, hll], .inr ⟨g, off, c, cur', rfl, setRow_heap wr g cur _ _ _ hgc, by omega, h2, by omega, fun q u hu => ?_⟩⟩
      have hq : q < ci * 2 := by have := (List.getElem?_eq_some_iff.1 hu).1; rw [lkc_len, hll] at this; exact this
      rw [hcl2 (off + q) (by omega)]
      refine h4 q u ?_
      have e1 : lkc l' = lkc (l'.take ci) ++ lkc (l'.drop ci) := by simp only [lkc]; rw [← List.flatMap_append, List.take_append_drop]
      rw [e1, List.getElem?_append_left (by rw [lkc_len, hll]; exact hq)]
      exact hu
    have HK : Hid (Kept (Blk g) w (wr.setRow g cur')) := HKW.out.trans' ⟨rfl, rfl, rfl, by simp [World.setRow], fun k _ hk => setRow_other wr g k _ (fun e => hk e)⟩
    clear hinv hrow hkw hcs hcl2 hgc hfit
    go_wp2_with fail
    go_ret
    exact ⟨ci, rfl, HF.out, HK.out⟩
end Go.Proofs.YtmcajfefagdbnaaGreat
namespace Go.Proofs.YtmcajfefagdbnaaGreat
open Go Go.RowKit Go.Sort Go.Lib
theorem compactUpTo_rising (d : Array Int) (h : ∀ i j, i < j → j < d.size → d[i]! ≤ d[j]!) : ∀ m, m ≤ d.size → (compactUpTo d m).Pairwise (· < ·) ∧ ∀ x, x ∈ compactUpTo d m ↔ ∃ j, j < m ∧ d[j]! = x
 | 0, _ => by simp [compactUpTo]
 | m + 1, hm => by
  obtain ⟨h1, h2⟩ := compactUpTo_rising d h m (by omega)
  rw [compactUpTo_succ]
  by_cases h0 : m = 0
  ·subst h0
   have : keeps d 0 = true := keeps_lt_one d 0 (by omega)
   simp [compactUpTo, this]
   intro x
   exact eq_comm
  ·by_cases he : d[m]! = d[m - 1]!
   ·rw [keeps_neg (by omega) he]
    simp only [Bool.false_eq_true, if_false, List.append_nil]
    refine ⟨h1, fun x => ?_⟩
    rw [h2 x]
    constructor
    ·rintro ⟨j, hj, rfl⟩; exact ⟨j, by omega, rfl⟩
    ·rintro ⟨j, hj, rfl⟩
     by_cases e : j = m
     ·subst e; exact ⟨j - 1, by omega, he.symm⟩
     ·exact ⟨j, by omega, rfl⟩
   ·rw [keeps_pos he]
    simp only [if_true]
    refine ⟨?_, fun x => ?_⟩
    ·rw [List.pairwise_append]
     refine ⟨h1, by simp, fun a ha b hb => ?_⟩
     simp at hb
     subst hb
     obtain ⟨j, hj, rfl⟩ := (h2 a).1 ha
     have e1 : d[m - 1]! ≤ d[m]! := h (m - 1) m (by omega) (by omega)
     have e2 : d[j]! ≤ d[m - 1]! := by
      by_cases e : j = m - 1
      ·rw [e]; exact Int.le_refl _
      ·exact h j (m - 1) (by omega) (by omega)
     omega
    ·rw [List.mem_append, h2 x]
     constructor
     ·rintro (⟨j, hj, rfl⟩ | hx)
      ·exact ⟨j, by omega, rfl⟩
      ·simp at hx; exact ⟨m, by omega, hx.symm⟩
     ·rintro ⟨j, hj, rfl⟩
      by_cases e : j = m
      ·subst e; exact .inr (by simp)
      ·exact .inl ⟨j, by omega, rfl⟩
theorem compact_rising (l : List Int) (h : l.Pairwise (· ≤ ·)) : (compact l).Pairwise (· < ·) ∧ ∀ x, x ∈ compact l ↔ x ∈ l := by
 have hd : ∀ i j, i < j → j < l.toArray.size → l.toArray[i]! ≤ l.toArray[j]! := by
  intro i j hij hj
  have hj' : j < l.length := by simpa using hj
  have := List.pairwise_iff_getElem.1 h i j (by omega) hj' hij
  simpa [show i < l.length by omega, hj'] using this
 obtain ⟨h1, h2⟩ := compactUpTo_rising l.toArray hd l.length (by simp)
 refine ⟨h1, fun x => ?_⟩
 rw [show compact l = compactUpTo l.toArray l.length from rfl, h2 x, List.mem_iff_getElem]
 constructor
 ·rintro ⟨j, hj, rfl⟩; exact ⟨j, hj, by simp [hj]⟩
 ·rintro ⟨j, hj, rfl⟩; exact ⟨j, hj, by simp [hj]⟩
def GotA (H : Int × Int → Option Int) (left : Int × Int → Bool) (l : List Int) : Prop := ∀ k, k ∈ l ↔ ∃ t, (H (k, t)).isSome = true ∧ left (k, t) = false
theorem GotA.start (H : Int × Int → Option Int) : GotA H (fun a => (hvals H a).isSome) [] := by
 intro k
 simp only [List.not_mem_nil, false_iff, hvals, Option.isSome_map]
 rintro ⟨t, h1, h2⟩
 rw [h1] at h2
 cases h2
theorem GotA.more {H : Int × Int → Option Int} {left : Int × Int → Bool} {l : List Int} (h : GotA H left l) {k0 t0 : Int} (hH : (H (k0, t0)).isSome = true) : GotA H (fun c => left c && !decide (c = (k0, t0))) (l ++ [k0]) := by
 intro k
 rw [List.mem_append, h k]
 simp only [List.mem_singleton, Prod.mk.injEq, Bool.and_eq_false_iff, Bool.not_eq_false', decide_eq_true_eq]
 constructor
 ·rintro (⟨t, h1, h2⟩ | rfl)
  ·exact ⟨t, h1, .inl h2⟩
  ·exact ⟨t0, hH, .inr ⟨rfl, rfl⟩⟩
 ·rintro ⟨t, h1, h2 | ⟨rfl, rfl⟩⟩
  ·exact .inl ⟨t, h1, h2⟩
  ·exact .inr rfl
def LiveL (H : Int × Int → Option Int) (l : List Int) : Prop := l.Pairwise (· < ·) ∧ ∀ k, k ∈ l ↔ ∃ t, (H (k, t)).isSome = true
theorem GotA.sorted {H : Int × Int → Option Int} {left : Int × Int → Bool} {l : List Int} (h : GotA H left l) (hlf : ∀ a, keyH.ok a → left a = false) (hok : ∀ a, (H a).isSome = true → keyH.ok a) : LiveL H (compact (sortedI l)) := by
 obtain ⟨h1, h2⟩ := compact_rising (sortedI l) (sortedI_le l)
 refine ⟨h1, fun k => ?_⟩
 rw [h2, (sortedI_perm l).mem_iff, h k]
 exact ⟨fun ⟨t, x, _⟩ => ⟨t, x⟩, fun ⟨t, x⟩ => ⟨t, x, hlf _ (hok _ x)⟩⟩
theorem compactInts (v : Value) (n : Nat) (zs : List Int) (w : World) (h : w.ownsRow 0 3 1 v n (zs.map (Value.int .i64))) (hn : n < 4611686018427387904) :
  Calls Tryz.prog 152 #[v] w fun e w' => ∃ ao c, e = .returned (.slice ao (compact zs).length c) ∧ (∀ b, (Value.slice ao (compact zs).length c).ownBlock = some b → v.ownBlock = some b) ∧ RowAt w' 3 1 (.slice ao (compact zs).length c) (compact zs).length ((compact zs).map (Value.int .i64)) ∧ Kept (fun k => v.ownBlock = some k) w w' := by
 have hl : zs.length = n := by have := h.1; simpa using this
 rcases h.2 with ⟨rfl, rfl⟩ | ⟨g, cap, cur, rfl, _, hg, h1, h2, h3, h4⟩
 ·have : zs = [] := List.eq_nil_of_length_eq_zero hl
  subst this
  refine (show Calls Tryz.prog 152 #[.slice none 0 0] w _ from Any.slices_Compact_int_empty Tryz.laysNm220 none 0 w).mono ?_
  rintro e w' ⟨rfl, rfl⟩
  exact ⟨none, 0, rfl, fun b hb => hb, RowAt.nil _ _ _, Kept.refl _ _⟩
 ·subst hl
  have hH : Holds (Value.int .i64) w g 0 zs.toArray := by
   intro j hj
   have hj' : j < zs.length := by simpa using hj
   refine ⟨?_, frozen_at hg _⟩
   rw [cell_at hg, Nat.zero_add]
   have e1 : (cur.toList.take (zs.length * 1))[j]? = (zs.map (Value.int .i64))[j]? := by rw [h4]
   rw [List.getElem?_take_of_lt (by omega)] at e1
   rw [← Array.getElem?_toList, e1]
   simp [hj']
  refine (show Calls Tryz.prog 152 #[.slice (some ⟨g, 0, none⟩) zs.length cap] w _ from Any.slices_Compact_int Tryz.laysNm220 g 0 cap zs w hH (by omega) h1).mono ?_
  rintro e w' ⟨rfl, q, rfl⟩
  have hle := compact_length_le zs
  refine ⟨some ⟨g, 0, none⟩, cap, rfl, fun b hb => hb, ⟨by simp, .inr ⟨g, 0, cap, _, rfl, by have := putRow_block (Value.int .i64) q 0 (compact zs ++ List.replicate (zs.length - (compact zs).length) 0).toArray #[] hg; rw [grow_empty] at this; exact this, by omega, h2, by simp [putCells, h3], ?_⟩⟩, ?_⟩
  ·intro j u hu
   have hj : j < (compact zs).length := by simpa using (List.getElem?_eq_some_iff.1 hu).1
   have hj3 : j < cur.size := by omega
   rw [List.getElem?_map, List.getElem?_eq_getElem hj] at hu
   simp only [Option.map_some, Option.some.injEq] at hu
   rw [← hu]
   have hj4 : j < (compact zs ++ List.replicate (zs.length - (compact zs).length) 0).length := by simp; omega
   have e2 : (compact zs ++ List.replicate (zs.length - (compact zs).length) 0).toArray[j]! = (compact zs)[j] := by
    rw [getElem!_pos _ j (by simpa using hj4)]
    simp [List.getElem_append_left hj]
   simp only [putCells, Nat.zero_add, Array.getElem?_mapIdx, Array.getElem?_eq_getElem hj3, Option.map_some, Nat.zero_le, true_and, Nat.sub_zero]
   rw [if_pos (by simpa using hj4), e2]
  ·have := putRow_kept (Value.int .i64) w q g 0 (compact zs ++ List.replicate (zs.length - (compact zs).length) 0).toArray #[]
   rw [grow_empty] at this
   exact this.mono (fun k hk => by cases hk; rfl)
set_option maxHeartbeats 3200000 in
set_option maxRecDepth 20000 in
theorem rowsWithLocks_any (p hb m : Nat) (H : Int × Int → Option Int) (w : World) (hp : w.cell? ⟨p, 6, none⟩ = some (.map (some hb))) (hm : MapAt keyH w hb m (hvals H))
  (hok : ∀ a, (H a).isSome = true → keyH.ok a) (hmm : m ≤ 1099511627776) :
  Calls Tryz.prog 128 #[.pointer (some ⟨p, 0, none⟩)] w fun e w' => ∃ ao c l, e = .returned (.slice ao l.length c) ∧ RowAt w' 3 1 (.slice ao l.length c) l.length (l.map (Value.int .i64)) ∧ LiveL H l ∧ l.length ≤ m ∧ Kept NoBlk w w' := by
 have hpl := World.block_lt_of_cell? w _ hp
 obtain ⟨w1, cnt, hrun, hR, hk1, hsz1, hcnt⟩ := hm.range Tryz.underlying124
 have HR : Hid (RangeAt keyH w1 hb w.heap.size m (hvals H) (fun a => (hvals H a).isSome) cnt) := hR
 have HK1 : Hid (Kept NoBlk w w1) := hk1
 have HHB : Hid (hb < w.heap.size) := hm.lt
 have HOK : Hid (∀ a, (H a).isSome = true → keyH.ok a) := hok
 have HMM : Hid (m ≤ 1099511627776) := hmm
 have HCNT : Hid (cnt ≤ m) := hcnt
 obtain ⟨i1, hi1, hy0, hy1, hy2⟩ := info_parts infoI
 have HI : Hid (Tryz.prog.info? 3 = some i1 ∧ i1.zero = some (.int .i64 0) ∧ i1.size = 1 ∧ i1.bytes = 8) := ⟨hi1, hy0, hy1, hy2⟩
 clear hR hk1 hm hok hi1 hy0 hy1 hy2 hmm hcnt
 go_enter Tryz.func128, Tryz.ntmps128
 go_wp2_with fail
 go_loopw [3] (fun v wr => ∃ (l : List Int) (ao : Option Addr) (c : Nat) (left : Int × Int → Bool) (cnt : Nat), v = .slice ao l.length c ∧ wr.ownsRow 0 3 1 (.slice ao l.length c) l.length (l.map (Value.int .i64)) ∧ (∀ b, (Value.slice ao l.length c).ownBlock = some b → w.heap.size < b) ∧
  RangeAt keyH wr hb w.heap.size m (hvals H) left cnt ∧ GotA H left l ∧ l.length + cnt ≤ m ∧ Kept NoBlk w wr) (fun _ wr => wr.rangeLeft hb w.heap.size)
 case atStart => exact ⟨[], none, 0, _, cnt, rfl, World.ownsRow_nil _ _ _ _, fun b hb => by simp [Value.ownBlock] at hb, HR.out, GotA.start H, by have := HCNT.out; simpa using this, HK1.out⟩
 case round =>
  obtain ⟨l, ao, c, left, cnt', rfl, hown, hbl, hrg, hgot, hlc, hkw⟩ := hrel
  have hleft := hrg.left_eq
  rcases hrg.next 0 with ⟨h0, hlf, hnx⟩ | ⟨a, v, w2, cnt2, ha, hla, hga, hnx, hrg2, hlt, hk2, hsz2, hen⟩
  ·have HF : Hid (LiveL H (compact (sortedI l))) := hgot.sorted hlf HOK.out
   have HO : Hid (wr.ownsRow 0 3 1 (.slice ao l.length c) l.length (l.map (Value.int .i64))) := hown
   have HB : Hid _ := hbl
   have HKW : Hid (Kept NoBlk w wr) := hkw
   have HLC : Hid (l.length < 4611686018427387904) := by have := HMM.out; unfold Hid; omega
   have HLM : Hid (l.length ≤ m) := by unfold Hid; omega
   clear hlf hgot hown hbl hkw hleft hrg HR HK1 hlc
   go_wp2_with fail
   refine (sortInts _ l.length l wr HO.out HLC.out).mono ?_
   rintro e w' ⟨rfl, hown', hk'⟩
   have HO' : Hid (w'.ownsRow 0 3 1 (.slice ao l.length c) l.length ((sortedI l).map (Value.int .i64))) := hown'
   have HK' : Hid (Kept NoBlk w w') := HKW.out.trans hk' (fun k hk => .inr (Nat.le_of_lt (HB.out k hk)))
   clear hown' hk'
   go_wp2_with fail
   refine (compactInts _ l.length (sortedI l) w' HO'.out HLC.out).mono ?_
   rintro e w'' ⟨ao', c', rfl, hbl', hrow', hk'⟩
   have HR' : Hid _ := hrow'
   have HK'' : Hid (Kept NoBlk w w'') := HK'.out.trans hk' (fun k hk => .inr (Nat.le_of_lt (HB.out k hk)))
   have hcl := compact_length_le (sortedI l)
   have hsl : (sortedI l).length = l.length := by simp [sortedI]
   have HLE : Hid ((compact (sortedI l)).length ≤ m) := by have := HLM.out; unfold Hid; omega
   clear hcl hsl
   clear hrow' hk' hbl'
   generalize compact (sortedI l) = zs at *
   go_wp2_with fail
   go_ret
   exact ⟨ao', c', zs, rfl, HR'.out, HF.out, HLE.out, HK''.out⟩
  ·obtain ⟨r0, t0⟩ := a
   obtain ⟨md, hmd, rfl⟩ : ∃ md, H (r0, t0) = some md ∧ v = .int .i64 md := by
    simp only [hvals] at hga
    cases hH : H (r0, t0) with
    | none => rw [hH] at hga; cases hga
    | some md => rw [hH] at hga; exact ⟨md, rfl, by cases hga; rfl⟩
   have hnx' : (Instr.next (.pointer (some ⟨w.heap.size, 0, none⟩)) false 0).run Tryz.prog wr = .ok (.tuple #[.bool true, .agg #[.int .i64 r0, .int .i64 t0], .int .i64 md]) w2 := hnx
   have hen' : (Instr.entry (.pointer (some ⟨w.heap.size, 0, none⟩))).run Tryz.prog w2 = .ok (.tuple #[.agg #[.int .i64 r0, .int .i64 t0], .int .i64 md]) w2 := hen
   have hkw2 : Kept NoBlk w w2 := hkw.trans hk2 (fun k hk => .inr (by cases hk; exact Nat.le_refl _))
   have hown2 : w2.ownsRow 0 3 1 (.slice ao l.length c) l.length (l.map (Value.int .i64)) := ownsRow_kept hown hk2 (fun k hk e => by have := hbl k hk; unfold Blk at e; omega)
   have HMD : Hid (H (r0, t0) = some md) := hmd
   have HRG : Hid (RangeAt keyH w2 hb w.heap.size m (hvals H) (fun c => left c && !decide (c = (r0, t0))) cnt2) := hrg2
   have HLT : Hid (cnt2 < wr.rangeLeft hb w.heap.size) := by rw [hleft]; exact hlt
   have HLC : Hid (l.length + 1 + cnt2 ≤ m) := by unfold Hid; omega
   have HG : Hid (GotA H left l) := hgot
   have HO : Hid (w2.ownsRow 0 3 1 (.slice ao l.length c) l.length (l.map (Value.int .i64))) := hown2
   have HB : Hid _ := hbl
   have HKW : Hid (Kept NoBlk w w2) := hkw2
   have HWS : Hid (w.heap.size < w2.heap.size) := hrg2.lt.1
   clear hnx hen hkw2 hown2 hown hbl hrg hgot hkw hleft hla hga hrg2 hlt hk2 hsz2 hmd ha HR HK1 hlc
   have HB0 : Hid (l.length + 1 ≤ maxLen) := by have := HLC.out; have := HMM.out; unfold Hid maxLen; omega
   have HB1 : Hid ((l.length + 1) * 8 ≤ 140737488355328) := by have := HLC.out; have := HMM.out; unfold Hid; omega
   go_wp2_with (at_builtin; refine wpList_append_at (by rfl) _ _ 45 (by rfl) 3 i1 _ 1 8 Tryz.underlying45 HI.out.1 HI.out.2.1 HI.out.2.2.1 HI.out.2.2.2 (by rfl) (.slice ao l.length c) l.length (l.map (Value.int .i64)) (by rfl) (ownsRow_kept HO.out (((Kept.refl NoBlk w2).alloc _).alloc _) (fun _ _ x => x)) (.slice (some ⟨w2.heap.size + 1, 0, none⟩) 1 1) 1 [.int .i64 r0] (by rfl) (from_new1' w2 _ _ _ rfl) HB0.out HB1.out ?_; intro ao' c' w3 hown3 hmv3)
   have hka : Kept NoBlk w2 ((w2.alloc (Obj.cells #[Value.int IntKind.i64 r0, Value.int IntKind.i64 t0] 168)).alloc (Obj.cells #[Value.int IntKind.i64 r0] 3)) := ((Kept.refl _ _).alloc _).alloc _
   have hkb := hmv3.keptOf
   have hnb : ∀ k, k ≤ w.heap.size → ¬ (Value.slice ao l.length c).ownBlock = some k := fun k hk e => by have := HB.out k e; omega
   have hrg3 := (RangeAt.kept HRG.out hka (fun x => x) (fun x => x)).kept hkb (hnb _ (Nat.le_of_lt HHB.out)) (hnb _ (Nat.le_refl _))
   refine ⟨⟨l ++ [r0], ao', c', _, cnt2, ?_, ?_, ?_, hrg3, GotA.more HG.out (by rw [HMD.out]; rfl), by simpa using HLC.out, ?_⟩, ?_⟩
   ·simp
   ·rw [List.map_append]; simpa using hown3
   ·intro b hb
    have : (Value.slice ao' (l.length + 1) c').ownBlock = some b := by simpa [Value.ownBlock] using hb
    rcases hmv3.fresh b this with h | h
    ·exact HB.out b h
    ·have := HWS.out
     have h5 := hka.size
     omega
   ·exact (HKW.out.trans' hka).trans hkb (fun k hk => .inr (Nat.le_of_lt (HB.out k hk)))
   ·rw [hrg3.left_eq]; exact HLT.out
end Go.Proofs.YtmcajfefagdbnaaGreat
