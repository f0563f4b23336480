import Derived.Test.YtmcajfefagdbnaaGreatJ14
import Derived.Test.YtmcajfefagdbnaaGreatJ15
import Derived.Test.YtmcajfefagdbnaaGreatJ07
namespace Go.Proofs.YtmcajfefagdbnaaGreat
open Go Go.RowKit Go.Sort Go.Lib
def IsBox (w : World) (bx t : Nat) (i : Int) : Prop := w.cell? ⟨bx, 0, none⟩ = some (.pointer (some ⟨t, 0, none⟩)) ∧ w.cell? ⟨t, 0, none⟩ = some (.int .i64 i)
theorem IsBox.kept {w w' : World} {bx t : Nat} {i : Int} {S : Nat → Prop} (h : IsBox w bx t i) (hk : Kept S w w') (h1 : ¬ S bx) (h2 : ¬ S t) : IsBox w' bx t i := ⟨hk.cell h.1 h1, hk.cell h.2 h2⟩
theorem mine_ok (bx t : Nat) (i : Int) (x : Int × Int) (w : World) (h : IsBox w bx t i) :
    Calls Tryz.prog 170 #[.agg #[.int .i64 x.1, .int .i64 x.2], .pointer (some ⟨bx, 0, none⟩)] w fun e w' => e = .returned (.bool (x.1 == i)) ∧ Kept NoBlk w w' := by
  obtain ⟨x1, x2⟩ := x
  obtain ⟨h1, h2⟩ := h
  have l1 := World.block_lt_of_cell? w _ h1
  have l2 := World.block_lt_of_cell? w _ h2
  have HK : Hid (∀ o1, Kept NoBlk w (w.alloc o1)) := fun o1 => (Kept.refl _ _).alloc _
  have HK2 : Hid (∀ o1, Kept NoBlk w (w.alloc o1).drew) := fun o1 => ((Kept.refl _ _).alloc _).drew
  go_enter Tryz.func170, Tryz.ntmps170
  go_wp2_with fail
  first
    | (go_region
       go_wp2_with fail
       go_ret
       exact ⟨rfl, HK2.out _⟩)
    | (go_ret
       exact ⟨rfl, HK.out _⟩)
set_option maxHeartbeats 1600000 in
theorem indexFunc_any (ao : Option Addr) (c bx t : Nat) (i : Int) (l : List (Int × Int)) (w : World) (hl : LksAt w ao l) (hc : l.length ≤ 1099511627776) (hb : IsBox w bx t i) :
  Calls Tryz.prog 186 #[.slice ao l.length c, .func (.func 170) #[] #[.pointer (some ⟨bx, 0, none⟩)]] w fun e w' => ∃ k : Int, e = .returned (.int .i64 k) ∧ Kept NoBlk w w' ∧
   ((k = -1 ∧ ∀ x ∈ l, x.1 ≠ i) ∨ ∃ k0 : Nat, k = (k0 : Int) ∧ k0 < l.length ∧ (l.getD k0 (0, 0)).1 = i ∧ ∀ x ∈ l.take k0, x.1 ≠ i) := by
 have HL : Hid (LksAt w ao l) := hl
 have HB : Hid (IsBox w bx t i) := hb
 generalize hn : l.length = n at *
 have Hn : Hid (l.length = n) := hn
 clear hn hl hb
 go_enter Tryz.func186, Tryz.ntmps186
 go_wp2_with fail
 go_loopw [8] (fun v wr => ∃ k : Nat, k ≤ n ∧ v = .int .i64 (k : Int) ∧ (∀ x ∈ l.take k, x.1 ≠ i) ∧ Kept NoBlk w wr) (fun v _ => n - (intOf v).toNat)
 case atStart => exact ⟨0, Nat.zero_le _, rfl, fun x hx => by simp at hx, Kept.refl _ _⟩
 case round =>
  obtain ⟨k, hk, rfl, hno, hkw⟩ := hrel
  have HNO : Hid (∀ x ∈ l.take k, x.1 ≠ i) := hno
  have HKW : Hid (Kept NoBlk w wr) := hkw
  clear hno
  by_cases hlt : k < n
  ·have hkl : k < l.length := by rw [Hn.out]; exact hlt
   obtain ⟨g, off, rfl, g0, g1⟩ := (LksAt.kept HL.out hkw (fun _ _ x => x)) k hkl
   have hbx : IsBox wr bx t i := IsBox.kept HB.out hkw (fun x => x) (fun x => x)
   have HBX : Hid (IsBox wr bx t i) := hbx
   generalize hx : l.getD k (0, 0) = x at *
   have Hx : Hid (l.getD k (0, 0) = x) := hx
   have HKL : Hid (k < l.length) := hkl
   clear hx hkw hkl hbx
   go_wp2_with fail
   refine (mine_ok bx t i x wr HBX.out).mono ?_
   rintro e w2 ⟨rfl, hk2⟩
   have HK2 : Hid (Kept NoBlk w w2) := HKW.out.trans' hk2
   clear hk2 g0 g1
   cases hcf : (x.1 == i)
   ·go_wp2_with fail
    refine ⟨⟨k + 1, by omega, by go_num, ?_, HK2.out⟩, by simp [intOf]; omega⟩
    intro y hy
    rw [List.take_add_one, List.mem_append] at hy
    rcases hy with hy | hy
    ·exact HNO.out y hy
    ·have : l[k]? = some (l.getD k (0, 0)) := by have := HKL.out; simp [List.getD, this]
     rw [this, Hx.out] at hy
     simp at hy
     rw [hy]
     exact beq_eq_false_iff_ne.1 hcf
   ·go_wp2_with fail
    go_ret
    exact ⟨(k : Int), rfl, HK2.out, .inr ⟨k, rfl, hlt, by have := Hx.out; rw [this]; exact beq_iff_eq.1 hcf, HNO.out⟩⟩
  ·obtain rfl : k = n := by omega
   go_wp2_with fail
   go_ret
   have := HNO.out
   rw [← Hn.out, List.take_length] at this
   exact ⟨-1, rfl, HKW.out, .inl ⟨rfl, this⟩⟩
theorem size_zc (z : Array Value) (n : Nat) : (Builtin.zeroCells z n).size = n * z.size := size_zeroCells z n
theorem zeroCells_one : ∀ n, ∀ u ∈ (Builtin.zeroCells (Value.agg #[.int .i64 0, .int .i64 0]).cells n).toList, u.oneCell' = true := by
 intro n u hu
 simp only [Builtin.zeroCells, Array.toList_map, List.mem_map] at hu
 obtain ⟨k, _, rfl⟩ := hu
 have : k % 2 = 0 ∨ k % 2 = 1 := by omega
 rcases this with h | h <;> (simp [Value.cells, h]; rfl)
theorem run_clear_row {P : Program} (w : World) (t e e' ty : TypeId) (z : Value) (size : Nat) (ht : P.underlying t = some (.slice e)) (hv : ∀ w, (zeroValue e).run P w = .ok z w) (hz : z.cells.size = size) (h1 : ∀ n, ∀ u ∈ (Builtin.zeroCells z.cells n).toList, u.oneCell' = true) (g off n c : Nat) (cur : Array Value) (hg : w.heap[g]? = some (.cells cur e' (0, 0))) (hn : 0 < n) (hfit : off + n * size ≤ cur.size) :
  ∃ cur', (Builtin.clear_ #[t] ty #[.slice (some ⟨g, off, none⟩) n c]).run P w = .ok (.tuple #[]) (w.setRow g cur') ∧ cur'.size = cur.size ∧ ∀ j, j < off → cur'[j]? = cur[j]? := by
 have hlen : (Builtin.zeroCells z.cells n).toList.length = n * size := by rw [Array.length_toList, size_zc, hz]
 have hst := run_storeCells_at P g off e' (Builtin.zeroCells z.cells n).toList 0 cur w hg (by rw [hlen]; omega) (h1 n)
 simp only [Nat.add_zero] at hst
 refine ⟨(cur.toList.take off ++ (Builtin.zeroCells z.cells n).toList ++ cur.toList.drop (off + (Builtin.zeroCells z.cells n).toList.length)).toArray, ?_, ?_, ?_⟩
 ·obtain ⟨m, rfl⟩ : ∃ m, n = m + 1 := ⟨n - 1, by omega⟩
  simp [Builtin.clear_, run_underlying ht, hv, hst]
 ·rw [hlen]
  rw [List.size_toArray, List.length_append, List.length_append, hlen, List.length_take, List.length_drop, Array.length_toList]
  omega
 ·intro j hj
  simp only [List.getElem?_toArray]
  rw [List.append_assoc, List.getElem?_append_left (by simp; omega), List.getElem?_take_of_lt hj]
  simp
theorem RowAt.setAt {w : World} {e : TypeId} {size n g off c : Nat} {xs : List Value} (h : RowAt w e size (.slice (some ⟨g, off, none⟩) n c) n xs) (j : Nat) (hj : j < xs.length) (v : Value) : RowAt (w.setCell ⟨g, off + j, none⟩ v) e size (.slice (some ⟨g, off, none⟩) n c) n (xs.set j v) := by
 have hl := h.1
 rcases h.2 with ⟨h0, _⟩ | ⟨g', off', cap', cur, h0, hg, h1, h2, h3, h4⟩
 ·cases h0
 ·simp only [Value.slice.injEq, Option.some.injEq, Addr.mk.injEq, and_true, true_and] at h0
  obtain ⟨⟨rfl, rfl⟩, rfl⟩ := h0
  refine ⟨by rw [List.length_set]; exact hl, .inr ⟨g, off, c, _, rfl, block_setCell hg v, h1, h2, by simpa using h3, fun k u hu => ?_⟩⟩
  by_cases e : k = j
  ·subst e
   rw [List.getElem?_set_self hj] at hu
   have hjc : off + k < cur.size := by
    have := h4 k xs[k] (by simp)
    exact (Array.getElem?_eq_some_iff.1 this).1
   rw [Array.getElem?_setIfInBounds_self_of_lt hjc]
   exact hu
  ·rw [List.getElem?_set_ne (fun e' => e e'.symm)] at hu
   rw [Array.getElem?_setIfInBounds_ne (by omega)]
   exact h4 k u hu
theorem lkc_set (l : List (Int × Int)) : ∀ (k : Nat) (x y : Int), k < l.length → lkc (l.set k (x, y)) = ((lkc l).set (k * 2) (.int .i64 x)).set (k * 2 + 1) (.int .i64 y) := by
 induction l with
 | nil => intro k x y hk; simp at hk
 | cons o l ih =>
  intro k x y hk
  cases k with
  | zero => simp [lkc]
  | succ k =>
   have := ih k x y (by simpa using hk)
   rw [show (k + 1) * 2 = k * 2 + 1 + 1 from by omega]
   simp only [lkc, List.set_cons_succ, List.flatMap_cons, List.cons_append, List.nil_append, List.cons.injEq, true_and] at this ⊢
   exact this
theorem RowAt.set2 {w : World} {n g off c : Nat} {l : List (Int × Int)} (h : RowAt w 107 2 (.slice (some ⟨g, off, none⟩) n c) n (lkc l)) (k : Nat) (hk : k < l.length) (x y : Int) :
  RowAt ((w.setCell ⟨g, off + k * 2, none⟩ (.int .i64 x)).setCell ⟨g, off + k * 2 + 1, none⟩ (.int .i64 y)) 107 2 (.slice (some ⟨g, off, none⟩) n c) n (lkc (l.set k (x, y))) := by
 rw [lkc_set l k x y hk]
 have h1 := h.setAt (k * 2) (by rw [lkc_len]; omega) (.int .i64 x)
 have h2 := h1.setAt (k * 2 + 1) (by rw [List.length_set, lkc_len]; omega) (.int .i64 y)
 rw [← Nat.add_assoc] at h2
 exact h2
structure DelInv (l : List (Int × Int)) (i : Int) (n ci j : Nat) (l' : List (Int × Int)) : Prop where
 lt : ci < j
 le : j ≤ n
 len : l'.length = n
 low : l'.take ci = (l.take j).filter fun x => x.1 != i
 high : l'.drop j = l.drop j
theorem DelInv.start {l : List (Int × Int)} {i : Int} {k0 : Nat} (hk : k0 < l.length) (hi : (l.getD k0 (0, 0)).1 = i) (hno : ∀ x ∈ l.take k0, x.1 ≠ i) : DelInv l i l.length k0 (k0 + 1) l := by
 refine ⟨by omega, by omega, rfl, ?_, rfl⟩
 rw [List.take_add_one, List.filter_append, List.filter_eq_self.2 (fun x hx => by simpa using hno x hx)]
 have : l[k0]? = some (l.getD k0 (0, 0)) := by simp [List.getD, hk]
 rw [this]
 generalize l.getD k0 (0, 0) = x at *
 simp [hi]
theorem DelInv.at {l : List (Int × Int)} {i : Int} {n ci j : Nat} {l' : List (Int × Int)} (h : DelInv l i n ci j l') : l'.getD j (0, 0) = l.getD j (0, 0) := by
 have := congrArg (fun x => x[0]?) h.high
 simp only [List.getElem?_drop, Nat.add_zero] at this
 simp [List.getD, this]
theorem drop_succ_of {α : Type} {l l' : List α} {j : Nat} (h : l'.drop j = l.drop j) : l'.drop (j + 1) = l.drop (j + 1) := by
 rw [← List.drop_drop, ← List.drop_drop, h]
theorem DelInv.skip {l : List (Int × Int)} {i : Int} {n ci j : Nat} {l' : List (Int × Int)} (h : DelInv l i n ci j l') (hl : l.length = n) (hj : j < n) (hx : (l.getD j (0, 0)).1 = i) : DelInv l i n ci (j + 1) l' := by
 refine ⟨by have := h.lt; omega, by omega, h.len, ?_, drop_succ_of h.high⟩
 rw [h.low, List.take_add_one, List.filter_append]
 have : l[j]? = some (l.getD j (0, 0)) := by simp [List.getD, show j < l.length by omega]
 rw [this]
 generalize l.getD j (0, 0) = x at *
 simp [hx]
theorem DelInv.keep {l : List (Int × Int)} {i : Int} {n ci j : Nat} {l' : List (Int × Int)} (h : DelInv l i n ci j l') (hl : l.length = n) (hj : j < n) (hx : (l.getD j (0, 0)).1 ≠ i) : DelInv l i n (ci + 1) (j + 1) (l'.set ci (l.getD j (0, 0))) := by
 have hlt := h.lt
 refine ⟨by omega, by omega, by rw [List.length_set]; exact h.len, ?_, ?_⟩
 ·rw [List.take_add_one, List.take_set_of_le (Nat.le_refl _), h.low, List.take_add_one, List.filter_append]
  have e1 : l[j]? = some (l.getD j (0, 0)) := by simp [List.getD, show j < l.length by omega]
  have e2 : (l'.set ci (l.getD j (0, 0)))[ci]? = some (l.getD j (0, 0)) := List.getElem?_set_self (by rw [h.len]; omega)
  rw [e1, e2]
  have : ((l.getD j (0, 0)).1 != i) = true := by simpa using hx
  generalize l.getD j (0, 0) = x at *
  simp [this]
 ·rw [List.drop_set_of_lt (by omega)]
  exact drop_succ_of h.high
theorem zeroLk (w : World) : (zeroValue 107).run Tryz.prog w = .ok (.agg #[.int .i64 0, .int .i64 0]) w := by kernel_rfl
set_option maxHeartbeats 3200000 in
theorem deleteFunc_any (g off n c bx t : Nat) (i : Int) (l : List (Int × Int)) (w : World) (hr : RowAt w 107 2 (.slice (some ⟨g, off, none⟩) n c) n (lkc l)) (hn : n ≤ 1099511627776) (hb : IsBox w bx t i) (hbg : bx ≠ g) (htg : t ≠ g) (hin : ∃ x ∈ l, x.1 = i) :
  Calls Tryz.prog 169 #[.slice (some ⟨g, off, none⟩) n c, .func (.func 170) #[] #[.pointer (some ⟨bx, 0, none⟩)]] w fun e w' => ∃ k, e = .returned (.slice (some ⟨g, off, none⟩) k c) ∧ RowAt w' 107 2 (.slice (some ⟨g, off, none⟩) k c) k (lkc (l.filter fun x => x.1 != i)) ∧ Kept (Blk g) w w' := by
 have hlen : l.length = n := by have := hr.1; rw [lkc_len] at this; omega
 have hcon := indexFunc_any (some ⟨g, off, none⟩) c bx t i l w hr.lks (by omega) hb
 rw [hlen] at hcon
 have HR : Hid (RowAt w 107 2 (.slice (some ⟨g, off, none⟩) n c) n (lkc l)) := hr
 have HB : Hid (IsBox w bx t i) := hb
 clear hr hb
 go_enter Tryz.func169, Tryz.ntmps169
 go_wp2_with fail
 refine hcon.mono ?_
 rintro e w1 ⟨k, rfl, hk1, hk⟩
 obtain ⟨k0, rfl, hk0, hki, hkno⟩ : ∃ k0 : Nat, k = (k0 : Int) ∧ k0 < n ∧ (l.getD k0 (0, 0)).1 = i ∧ ∀ x ∈ l.take k0, x.1 ≠ i := by
  rcases hk with ⟨_, h⟩ | h
  ·obtain ⟨x, h1, h2⟩ := hin
   exact absurd h2 (h x h1)
  ·exact h
 have hne : ¬ ((k0 : Int) = -1) := by omega
 have hne2 : ((k0 : Int) == -1) = false := beq_eq_false_iff_ne.2 (by omega)
 have HST : Hid (DelInv l i n k0 (k0 + 1) l) := by
  have := DelInv.start (by omega) hki hkno
  rw [hlen] at this
  exact this
 have HK1 : Hid (Kept (Blk g) w w1) := hk1.mono (fun _ x => x.elim)
 have HR1 : Hid (RowAt w1 107 2 (.slice (some ⟨g, off, none⟩) n c) n (lkc l)) := RowAt.kept HR.out hk1 (fun _ _ x => x)
 have HBG : Hid (bx ≠ g ∧ t ≠ g) := ⟨hbg, htg⟩
 have HLN : Hid (l.length = n) := hlen
 clear hcon hk hki hkno hk1 hin
 go_wp2_with fail
 go_loopw [5, 6] (fun a b wr => ∃ (ci j : Nat) (l' : List (Int × Int)), a = .int .i64 (ci : Int) ∧ b = .int .i64 (j : Int) ∧ DelInv l i n ci j l' ∧ RowAt wr 107 2 (.slice (some ⟨g, off, none⟩) n c) n (lkc l') ∧ Kept (Blk g) w wr) (fun _ b _ => n - (intOf b).toNat)
 case atStart => exact ⟨k0, k0 + 1, l, rfl, by go_num, HST.out, HR1.out, HK1.out⟩
 case round =>
  obtain ⟨ci, j, l', rfl, rfl, hinv, hrow, hkw⟩ := hrel
  have hcj := hinv.lt
  have hjn := hinv.le
  have HINV : Hid (DelInv l i n ci j l') := hinv
  have HROW : Hid (RowAt wr 107 2 (.slice (some ⟨g, off, none⟩) n c) n (lkc l')) := hrow
  have HKW : Hid (Kept (Blk g) w wr) := hkw
  have HBX : Hid (IsBox wr bx t i) := IsBox.kept HB.out hkw (fun e => HBG.out.1 e) (fun e => HBG.out.2 e)
  have hgl : g < wr.heap.size := hrow.lt g rfl
  by_cases hlt : j < n
  ·obtain ⟨g', off', hgo, g0, g1⟩ := hrow.lks j (by rw [hinv.len]; exact hlt)
   obtain ⟨g2', off2', hgo2, i0, i1⟩ := hrow.lks ci (by rw [hinv.len]; omega)
   simp only [Option.some.injEq, Addr.mk.injEq, and_true] at hgo hgo2
   obtain ⟨rfl, rfl⟩ := hgo
   obtain ⟨rfl, rfl⟩ := hgo2
   rw [hinv.at] at g0 g1
   generalize hx : l.getD j (0, 0) = x at *
   have Hx : Hid (l.getD j (0, 0) = x) := hx
   generalize l'.getD ci (0, 0) = y at *
   have f0 := hrow.unfrozen (off + ci * 2)
   have f1 := hrow.unfrozen (off + ci * 2 + 1)
   clear hx hinv hrow hkw
   go_wp2_with fail
   refine (mine_ok bx t i x _ (IsBox.kept HBX.out ((Kept.refl NoBlk wr).alloc _) (fun x => x) (fun x => x))).mono ?_
   rintro e w2 ⟨rfl, hk2⟩
   have hk3 : Kept NoBlk wr w2 := ((Kept.refl NoBlk wr).alloc _).trans' hk2
   have hbox := hk2.heap (block_alloc_new wr _) (fun x => x)
   have b0 : w2.cell? ⟨wr.heap.size, 0, none⟩ = some (.int .i64 x.1) := by rw [cell_at hbox]; rfl
   have b1 : w2.cell? ⟨wr.heap.size, 1, none⟩ = some (.int .i64 x.2) := by rw [cell_at hbox]; rfl
   have i0' := hk3.cell0 i0
   have i1' := hk3.cell0 i1
   have hrow2 : RowAt w2 107 2 (.slice (some ⟨g, off, none⟩) n c) n (lkc l') := RowAt.kept HROW.out hk3 (fun _ _ x => x)
   have f0' := hrow2.unfrozen (off + ci * 2)
   have f1' := hrow2.unfrozen (off + ci * 2 + 1)
   have HROW2 : Hid (RowAt w2 107 2 (.slice (some ⟨g, off, none⟩) n c) n (lkc l')) := hrow2
   have HKW2 : Hid (Kept (Blk g) w w2) := HKW.out.trans hk3 (fun _ x => x.elim)
   have hgl2 := hrow2.lt g rfl
   have hwg : wr.heap.size ≠ g := by omega
   clear hk2 hk3 hbox hrow2 g0 g1 i0 i1 f0 f1
   cases hcf : (x.1 == i)
   ·go_wp2_with fail
    have hset := RowAt.set2 HROW2.out ci (by rw [HINV.out.len]; omega) x.1 x.2
    have hkp := HINV.out.keep HLN.out hlt (by rw [Hx.out]; exact beq_eq_false_iff_ne.1 hcf)
    rw [Hx.out] at hkp
    exact ⟨⟨ci + 1, j + 1, _, by go_num, by go_num, hkp, hset, ((HKW2.out.trans' (Kept.set1 _ g _ _)).trans' (Kept.set1 _ g _ _))⟩, by simp [intOf]; omega⟩
   ·go_wp2_with fail
    exact ⟨⟨ci, j + 1, l', rfl, by go_num, HINV.out.skip HLN.out hlt (by rw [Hx.out]; exact beq_iff_eq.1 hcf), HROW2.out, HKW2.out⟩, by simp [intOf]; omega⟩
  ·obtain rfl : j = n := by omega
   obtain ⟨cur, hgc⟩ := hrow.block (k := g) rfl
   have hfit : off + ci * 2 + (j - ci) * 2 ≤ cur.size ∧ j ≤ c := by
    rcases hrow.2 with ⟨h0, _⟩ | ⟨g', off', cap', cur', h0, hg, h1, h2, h3, h4⟩
    ·cases h0
    ·simp only [Value.slice.injEq, Option.some.injEq, Addr.mk.injEq, and_true, true_and] at h0
     obtain ⟨⟨rfl, rfl⟩, rfl⟩ := h0
     rw [hgc] at hg
     simp only [Option.some.injEq, Obj.cells.injEq, and_true] at hg
     subst hg
     exact ⟨by omega, h1⟩
   obtain ⟨cur', hcl, hcs, hcl2⟩ := run_clear_row (P := Tryz.prog) wr 74 107 107 0 (.agg #[.int .i64 0, .int .i64 0]) 2 Tryz.underlying74 (fun w => zeroLk w) rfl zeroCells_one g (off + ci * 2) (j - ci) (c - ci) cur hgc (by omega) hfit.1
   ·have hcc := hfit.2
    have HF : Hid (RowAt (wr.setRow g cur') 107 2 (.slice (some ⟨g, off, none⟩) ci c) ci (lkc (l.filter fun x => x.1 != i))) := by
     have hfl : l'.take ci = l.filter fun x => x.1 != i := by rw [hinv.low, ← HLN.out, List.take_length]
     rw [← hfl]
     rcases hrow.2 with ⟨h0, _⟩ | ⟨g', off', cap', cur2, h0, hg, h1, h2, h3, h4⟩
     ·cases h0
     ·simp only [Value.slice.injEq, Option.some.injEq, Addr.mk.injEq, and_true, true_and] at h0
      obtain ⟨⟨rfl, rfl⟩, rfl⟩ := h0
      rw [hgc] at hg
      simp only [Option.some.injEq, Obj.cells.injEq, and_true] at hg
      subst hg
      have hll : (l'.take ci).length = ci := by rw [List.length_take, hinv.len]; omega
      refine ⟨by rw [lkc_len, hll], .inr ⟨g, off, c, cur', rfl, setRow_heap wr g cur _ _ _ hgc, by omega, h2, by omega, fun q u hu => ?_⟩⟩
      have hq : q < ci * 2 := by have := (List.getElem?_eq_some_iff.1 hu).1; rw [lkc_len, hll] at this; exact this
      rw [hcl2 (off + q) (by omega)]
      refine h4 q u ?_
      have e1 : lkc l' = lkc (l'.take ci) ++ lkc (l'.drop ci) := by simp only [lkc]; rw [← List.flatMap_append, List.take_append_drop]
      rw [e1, List.getElem?_append_left (by rw [lkc_len, hll]; exact hq)]
      exact hu
    have HK : Hid (Kept (Blk g) w (wr.setRow g cur')) := HKW.out.trans' ⟨rfl, rfl, rfl, by simp [World.setRow], fun k _ hk => setRow_other wr g k _ (fun e => hk e)⟩
    clear hinv hrow hkw hcs hcl2 hgc hfit
    go_wp2_with fail
    go_ret
    exact ⟨ci, rfl, HF.out, HK.out⟩
end Go.Proofs.YtmcajfefagdbnaaGreat
namespace Go.Proofs.YtmcajfefagdbnaaGreat
def Apart2 (a b : Cl) : Prop := ¬ (a.holds = true ∧ b.holds = true ∧ a.key = b.key ∧ a.txn = b.txn)
structure Rep (n : Nat) (cl : List Cl) (lk : Int → Lk) : Prop where
 ids : ∀ c, c ∈ cl → (1 ≤ c.txn ∧ c.txn ≤ n) ∧ (c.mode = 1 ∨ c.mode = 2)
 one : cl.Pairwise Apart2
 held : ∀ k (j : Nat) (m : Int), m ≠ 0 → ((lk k).h j = m ↔ (⟨k, (j : Int), m, true⟩ : Cl) ∈ cl)
 queue : ∀ k, (cl.filter (isWait k)).map (fun c => (c.txn.toNat, c.mode)) = (lk k).q
theorem Apart2.symm {a b : Cl} (h : Apart2 a b) : Apart2 b a := fun ⟨h1, h2, h3, h4⟩ => h ⟨h2, h1, h3.symm, h4.symm⟩
theorem Rep.mode_of {n : Nat} {cl : List Cl} {lk : Int → Lk} (h : Rep n cl lk) {c : Cl} (hc : c ∈ cl) (hh : c.holds = true) : (lk c.key).h c.txn.toNat = c.mode := by
 have hi := h.ids c hc
 rw [h.held c.key c.txn.toNat c.mode (by omega)]
 have : ((c.txn.toNat : Nat) : Int) = c.txn := by omega
 rw [this, ← hh]
 exact hc
theorem Rep.heldL {n : Nat} {cl : List Cl} {lk : Int → Lk} (h : Rep n cl lk) (k : Int) (j : Nat) : heldL cl k j = (lk k).h j := by
 simp only [Go.Proofs.YtmcajfefagdbnaaGreat.heldL]
 cases hf : cl.find? (isHeld k j) with
 | some c =>
  have h1 := List.find?_some hf
  have h2 := List.mem_of_find?_eq_some hf
  simp only [isHeld, Bool.and_eq_true, decide_eq_true_eq] at h1
  have := h.mode_of h2 h1.2
  rw [h1.1.1, h1.1.2] at this
  simpa using this.symm
 | none =>
  simp only
  rcases Classical.em ((lk k).h j = 0) with h0 | h0
  ·exact h0.symm
  ·have h1 := (h.held k j _ h0).mp rfl
   have := List.find?_eq_none.mp hf _ h1
   simp [isHeld] at this
theorem Rep.hind {n : Nat} {cl : List Cl} {lk : Int → Lk} (h : Rep n cl lk) (k : Int) (i : Nat) (m : Int) : (cl.find? (isHind k i m)).isSome = hind n (lk k).h i m := by
 rw [Bool.eq_iff_iff, hind_true, List.find?_isSome]
 constructor
 ·rintro ⟨c, hc, hp⟩
  simp only [isHind, Bool.and_eq_true, decide_eq_true_eq, Bool.not_eq_true', decide_eq_false_iff_not] at hp
  have hi := h.ids c hc
  have hm := h.mode_of hc hp.1.2
  rw [hp.1.1.1] at hm
  refine ⟨c.txn.toNat, by omega, ?_, by rw [hm]; omega, by rw [hm]; exact hp.2⟩
  intro e
  exact hp.1.1.2 (by omega)
 ·rintro ⟨j, h1, h2, h3, h4⟩
  refine ⟨_, (h.held k j _ h3).mp rfl, ?_⟩
  simp only [isHind, Bool.and_eq_true, decide_eq_true_eq, Bool.not_eq_true', decide_eq_false_iff_not]
  exact ⟨⟨⟨trivial, by omega⟩, trivial⟩, h4⟩
theorem filter_idx {l : List Cl} {p : Cl → Bool} : (l.findIdx? p = none ∧ l.filter p = []) ∨ ∃ i l1 c l2, l.findIdx? p = some i ∧ i < l.length ∧ l = l1 ++ c :: l2 ∧ l.eraseIdx i = l1 ++ l2 ∧ l.getD i Cl.z = c ∧ p c = true ∧ l1.filter p = [] ∧ l.filter p = c :: l2.filter p ∧ ∀ d, l.set i d = l1 ++ d :: l2 := by
 induction l with
 | nil => exact .inl ⟨rfl, rfl⟩
 | cons a l ih =>
  cases ha : p a
  ·rcases ih with ⟨h1, h2⟩ | ⟨i, l1, c, l2, h1, h2, h3, h4, h5, h6, h7, h8, h9⟩
   ·left
    rw [List.findIdx?_cons, ha, h1, List.filter_cons_of_neg (by simp [ha]), h2]
    exact ⟨rfl, rfl⟩
   ·right
    refine ⟨i + 1, a :: l1, c, l2, ?_, by simpa using h2, by rw [h3]; rfl, by rw [List.eraseIdx_cons_succ, h4]; rfl, by simpa using h5, h6, by rw [List.filter_cons_of_neg (by simp [ha]), h7], by rw [List.filter_cons_of_neg (by simp [ha]), h8], fun d => by rw [List.set_cons_succ, h9]; rfl⟩
    rw [List.findIdx?_cons, ha, h1]
    rfl
  ·right
   refine ⟨0, [], a, l, ?_, by simp, rfl, rfl, rfl, ha, rfl, by rw [List.filter_cons_of_pos ha], fun d => rfl⟩
   rw [List.findIdx?_cons, ha]
   rfl
theorem pairwise_drop {R : Cl → Cl → Prop} {l1 l2 : List Cl} {c : Cl} (h : (l1 ++ c :: l2).Pairwise R) : (l1 ++ l2).Pairwise R ∧ (∀ x, x ∈ l1 → R x c) ∧ (∀ x, x ∈ l2 → R c x) := by
 rw [List.pairwise_append, List.pairwise_cons] at h
 obtain ⟨h1, ⟨h2, h3⟩, h4⟩ := h
 refine ⟨?_, fun x hx => h4 x hx c List.mem_cons_self, h2⟩
 rw [List.pairwise_append]
 exact ⟨h1, h3, fun a ha b hb => h4 a ha b (List.mem_cons_of_mem _ hb)⟩
theorem pairwise_put {R : Cl → Cl → Prop} {l1 l2 : List Cl} {c d : Cl} (h : (l1 ++ c :: l2).Pairwise R) (h1 : ∀ x, R x c → R x d) (h2 : ∀ x, R c x → R d x) : (l1 ++ d :: l2).Pairwise R := by
 rw [List.pairwise_append, List.pairwise_cons] at h ⊢
 obtain ⟨a1, ⟨a2, a3⟩, a4⟩ := h
 refine ⟨a1, ⟨fun x hx => h2 x (a2 x hx), a3⟩, fun a ha b hb => ?_⟩
 rcases List.mem_cons.mp hb with rfl | hb
 ·exact h1 a (a4 a ha c List.mem_cons_self)
 ·exact a4 a ha b (List.mem_cons_of_mem _ hb)
theorem mem_skip {l1 l2 : List Cl} {c x : Cl} (h : x ≠ c) : x ∈ l1 ++ c :: l2 ↔ x ∈ l1 ++ l2 := by
 simp only [List.mem_append, List.mem_cons]
 constructor
 ·rintro (h1 | h1 | h1)
  ·exact .inl h1
  ·exact absurd h1 h
  ·exact .inr h1
 ·rintro (h1 | h1)
  ·exact .inl h1
  ·exact .inr (.inr h1)
theorem Rep.unwait {n : Nat} {cl : List Cl} {lk : Int → Lk} (h : Rep n cl lk) (k : Int) {q : List (Nat × Int)} {x : Nat × Int} (hq : (lk k).q = x :: q) :
  ∃ i, cl.findIdx? (isWait k) = some i ∧ i < cl.length ∧ (cl.getD i Cl.z).txn = (x.1 : Nat) ∧ (cl.getD i Cl.z).mode = x.2 ∧ (1 ≤ x.1 ∧ x.1 ≤ n) ∧ (x.2 = 1 ∨ x.2 = 2) ∧ Rep n (cl.eraseIdx i) (upd lk k ⟨(lk k).h, q⟩) := by
 have hk := h.queue k
 rcases filter_idx (l := cl) (p := isWait k) with ⟨_, h2⟩ | ⟨i, l1, c, l2, h1, h2, h3, h4, h5, h6, h7, h8, _⟩
 ·rw [h2, hq] at hk; cases hk
 ·rw [h8, hq, List.map_cons, List.cons.injEq] at hk
  have hc : c ∈ cl := by rw [h3]; simp
  have hi := h.ids c hc
  simp only [isWait, Bool.and_eq_true, decide_eq_true_eq, Bool.not_eq_true'] at h6
  have hx := hk.1
  have e1 : x.1 = c.txn.toNat := by rw [← hx]
  have e2 : x.2 = c.mode := by rw [← hx]
  refine ⟨i, h1, h2, by rw [h5]; omega, by rw [h5, e2], by omega, by rw [e2]; exact hi.2, ?_⟩
  rw [h4]
  have hone := h.one
  rw [h3] at hone
  refine ⟨fun d hd => h.ids d ?_, (pairwise_drop hone).1, fun k' j m hm => ?_, fun k' => ?_⟩
  ·rw [h3]
   rcases List.mem_append.mp hd with hd | hd
   ·exact List.mem_append_left _ hd
   ·exact List.mem_append_right _ (List.mem_cons_of_mem _ hd)
  ·have hl : (upd lk k ⟨(lk k).h, q⟩ k').h = (lk k').h := by
    by_cases e : k' = k
    ·subst e; simp
    ·rw [upd_other _ _ _ _ e]
   rw [hl, h.held k' j m hm, h3]
   exact mem_skip (fun e => by rw [← e] at h6; simp at h6)
  ·by_cases e : k' = k
   ·subst e
    rw [upd_same, List.filter_append, h7, List.nil_append]
    exact hk.2
   ·rw [upd_other _ _ _ _ e, ← h.queue k', h3, List.filter_append, List.filter_append]
    rw [List.filter_cons_of_neg (by simp [isWait, h6.1]; exact fun e' => absurd e'.symm e)]
theorem Rep.nowait {n : Nat} {cl : List Cl} {lk : Int → Lk} (h : Rep n cl lk) (k : Int) (hq : (lk k).q = []) : cl.findIdx? (isWait k) = none := by
 have hk := h.queue k
 rcases filter_idx (l := cl) (p := isWait k) with ⟨h1, _⟩ | ⟨i, l1, c, l2, h1, h2, h3, h4, h5, h6, h7, h8, _⟩
 ·exact h1
 ·rw [h8, hq] at hk; cases hk
theorem Rep.hold {n : Nat} {cl : List Cl} {lk : Int → Lk} (h : Rep n cl lk) (k : Int) (i : Nat) (m : Int) (hi : 1 ≤ i ∧ i ≤ n) (hm : m = 1 ∨ m = 2) : Rep n (holdL cl k i m) (upd lk k ⟨upd (lk k).h i m, (lk k).q⟩) := by
 have hq : ∀ k', (upd lk k ⟨upd (lk k).h i m, (lk k).q⟩ k').q = (lk k').q := fun k' => by
  by_cases e : k' = k
  ·subst e; simp
  ·rw [upd_other _ _ _ _ e]
 have hh : ∀ k' j, ¬ (k' = k ∧ j = i) → (upd lk k ⟨upd (lk k).h i m, (lk k).q⟩ k').h j = (lk k').h j := fun k' j hne => by
  by_cases e : k' = k
  ·subst e
   rw [upd_same]
   exact upd_other _ _ _ _ (fun e => hne ⟨rfl, e⟩)
  ·rw [upd_other _ _ _ _ e]
 have hs : (upd lk k ⟨upd (lk k).h i m, (lk k).q⟩ k).h i = m := by rw [upd_same]; exact upd_same _ _ _
 simp only [holdL]
 rcases filter_idx (l := cl) (p := isHeld k i) with ⟨h1, h2⟩ | ⟨a, l1, c, l2, h1, h2, h3, h4, h5, h6, h7, h8, h9⟩
 ·rw [h1]
  simp only
  have hno : ∀ c, c ∈ cl → isHeld k i c = false := fun c hc => by
   cases hx : isHeld k i c
   ·rfl
   ·have : c ∈ cl.filter (isHeld k i) := List.mem_filter.mpr ⟨hc, hx⟩
    rw [h2] at this; cases this
  refine ⟨fun c hc => ?_, ?_, fun k' j m' hm' => ?_, fun k' => ?_⟩
  ·rcases List.mem_append.mp hc with hc | hc
   ·exact h.ids c hc
   ·simp only [List.mem_singleton] at hc; subst hc; exact ⟨by simp only; omega, hm⟩
  ·rw [List.pairwise_append]
   refine ⟨h.one, List.pairwise_singleton _ _, fun a ha b hb => ?_⟩
   simp only [List.mem_singleton] at hb
   subst hb
   rintro ⟨x1, _, x3, x4⟩
   have := hno a ha
   simp only at x3 x4
   simp [isHeld, x1, x3, x4] at this
  ·by_cases e : k' = k ∧ j = i
   ·obtain ⟨rfl, rfl⟩ := e
    rw [hs, List.mem_append, List.mem_singleton]
    constructor
    ·rintro rfl; exact .inr rfl
    ·rintro (x | x)
     ·have := hno _ x; simp [isHeld] at this
     ·simp only [Cl.mk.injEq] at x; exact x.2.2.1.symm
   ·rw [hh k' j e, h.held k' j m' hm', List.mem_append, List.mem_singleton]
    constructor
    ·exact .inl
    ·rintro (x | x)
     ·exact x
     ·simp only [Cl.mk.injEq] at x
      exact absurd ⟨x.1, by omega⟩ e
  ·rw [hq, ← h.queue k', List.filter_append]
   rw [List.filter_cons_of_neg (by simp [isWait])]
   simp
 ·rw [h1]
  simp only
  rw [h5, h9]
  have hc : c ∈ cl := by rw [h3]; simp
  simp only [isHeld, Bool.and_eq_true, decide_eq_true_eq] at h6
  have hone := h.one
  rw [h3] at hone
  obtain ⟨_, q1, q2⟩ := pairwise_drop hone
  refine ⟨fun d hd => ?_, pairwise_put hone (fun x hx => hx) (fun x hx => hx), fun k' j m' hm' => ?_, fun k' => ?_⟩
  ·rcases List.mem_append.mp hd with hd | hd
   ·exact h.ids d (by rw [h3]; exact List.mem_append_left _ hd)
   ·rcases List.mem_cons.mp hd with rfl | hd
    ·exact ⟨(h.ids c hc).1, hm⟩
    ·exact h.ids d (by rw [h3]; exact List.mem_append_right _ (List.mem_cons_of_mem _ hd))
  ·by_cases e : k' = k ∧ j = i
   ·obtain ⟨rfl, rfl⟩ := e
    rw [hs]
    constructor
    ·rintro rfl
     refine List.mem_append_right _ ?_
     rw [show (⟨k', (j : Int), m, true⟩ : Cl) = { c with mode := m } from by rw [← h6.1.1, ← h6.1.2, ← h6.2]]
     exact List.mem_cons_self
    ·intro x
     rcases List.mem_append.mp x with x | x
     ·exact absurd ⟨rfl, h6.2, h6.1.1.symm, h6.1.2.symm⟩ (q1 _ x)
     ·rcases List.mem_cons.mp x with x | x
      ·have := congrArg Cl.mode x; exact this.symm
      ·exact absurd ⟨h6.2, rfl, h6.1.1, h6.1.2⟩ (q2 _ x)
   ·rw [hh k' j e, h.held k' j m' hm', h3]
    rw [mem_skip (fun x => e ⟨by have := congrArg Cl.key x; simp only at this; rw [this]; exact h6.1.1, by have := congrArg Cl.txn x; simp only at this; have := h6.1.2; omega⟩)]
    rw [mem_skip (fun x => e ⟨by have := congrArg Cl.key x; simp only at this; rw [this]; exact h6.1.1, by have := congrArg Cl.txn x; simp only at this; have := h6.1.2; omega⟩)]
  ·rw [hq, ← h.queue k', h3, List.filter_append, List.filter_append]
   rw [List.filter_cons_of_neg (by simp [isWait, h6.2]), List.filter_cons_of_neg (by simp [isWait, h6.2])]
theorem Rep.wait {n : Nat} {cl : List Cl} {lk : Int → Lk} (h : Rep n cl lk) (k : Int) (i : Nat) (m : Int) (hi : 1 ≤ i ∧ i ≤ n) (hm : m = 1 ∨ m = 2) : Rep n (cl ++ [⟨k, i, m, false⟩]) (upd lk k ⟨(lk k).h, (lk k).q ++ [(i, m)]⟩) := by
 refine ⟨fun c hc => ?_, ?_, fun k' j m' hm' => ?_, fun k' => ?_⟩
 ·rcases List.mem_append.mp hc with hc | hc
  ·exact h.ids c hc
  ·simp only [List.mem_singleton] at hc; subst hc; exact ⟨by simp only; omega, hm⟩
 ·rw [List.pairwise_append]
  refine ⟨h.one, List.pairwise_singleton _ _, fun a ha b hb => ?_⟩
  simp only [List.mem_singleton] at hb
  subst hb
  rintro ⟨_, x2, _⟩
  cases x2
 ·have hl : (upd lk k ⟨(lk k).h, (lk k).q ++ [(i, m)]⟩ k').h = (lk k').h := by
   by_cases e : k' = k
   ·subst e; simp
   ·rw [upd_other _ _ _ _ e]
  rw [hl, h.held k' j m' hm', List.mem_append, List.mem_singleton]
  constructor
  ·exact .inl
  ·rintro (x | x)
   ·exact x
   ·have := congrArg Cl.holds x; cases this
 ·by_cases e : k' = k
  ·subst e
   rw [upd_same, List.filter_append, List.map_append, h.queue k', List.filter_cons_of_pos (by simp [isWait])]
   simp
  ·rw [upd_other _ _ _ _ e, List.filter_append, List.filter_cons_of_neg (by simp [isWait]; exact fun e' => absurd e'.symm e), ← h.queue k']
   simp
end Go.Proofs.YtmcajfefagdbnaaGreat
