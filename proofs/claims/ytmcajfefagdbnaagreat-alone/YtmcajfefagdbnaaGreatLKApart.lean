import Derived.Test.YtmcajfefagdbnaaGreatLKRows
namespace Go.Proofs.YtmcajfefagdbnaaGreat
open Go Go.RowKit
theorem seenCells_len (l : List Saw) : (seenCells l).length = l.length * 3 := by
 induction l with
 | nil => rfl
 | cons o l ih =>
  have e : seenCells (o :: l) = .int .i64 o.key :: .bool o.there :: .int .i64 o.val :: seenCells l := rfl
  rw [e]
  simp only [List.length_cons, ih]
  omega
def KUn (L : Lay) (bs : Nat → Nat) (ow : Ow) (j : Nat) (s : St) (wb : Nat) (w : World) : Prop := KSt L bs ow j s w ∧ KW w wb L s.n ∧ ¬ OwnP ow wb
def Sep (ow ow2 : Ow) (wb2 : Nat) : Prop := (∀ k, OwnP ow2 k → ¬ OwnP ow k) ∧ ¬ OwnP ow wb2
theorem KUn.wlt {L : Lay} {bs : Nat → Nat} {ow : Ow} {j : Nat} {s : St} {wb : Nat} {w : World} (h : KUn L bs ow j s wb w) : wb < w.heap.size := by
 obtain ⟨cs, ao, c, h1, _⟩ := h.2.1
 exact lt_of_block h1
theorem KUn.other {L2 : Lay} {bs2 : Nat → Nat} {ow ow2 : Ow} {j2 : Nat} {s2 : St} {wb2 : Nat} {w w' : World} (h : KUn L2 bs2 ow2 j2 s2 wb2 w) (hs : Sep ow ow2 wb2) (hk : Kept (OwnP ow) w w') : KUn L2 bs2 ow2 j2 s2 wb2 w' :=
 ⟨h.1.kept hk hs.1, h.2.1.kept hk hs.2, h.2.2⟩
theorem KUn.kept0 {L2 : Lay} {bs2 : Nat → Nat} {ow2 : Ow} {j2 : Nat} {s2 : St} {wb2 : Nat} {w w' : World} (h : KUn L2 bs2 ow2 j2 s2 wb2 w) (hk : Kept NoBlk w w') : KUn L2 bs2 ow2 j2 s2 wb2 w' :=
 ⟨h.1.kept hk (fun _ _ x => x), h.2.1.kept hk (fun x => x), h.2.2⟩
theorem Sep.aft {L2 : Lay} {bs2 : Nat → Nat} {ow ow' ow2 : Ow} {j2 : Nat} {s2 : St} {wb2 : Nat} {w : World} (h : KUn L2 bs2 ow2 j2 s2 wb2 w) (hs : Sep ow ow2 wb2) (ha : AgreeP w ow ow') : Sep ow' ow2 wb2 :=
 ⟨fun k hk x => hs.1 k hk (by have := h.1.st.lt k hk; unfold OwnP at x ⊢; rw [← ha k this]; exact x), not_own hs.2 ha h.wlt⟩
theorem Sep.aft2 {L2 : Lay} {bs2 : Nat → Nat} {ow ow' ow2 : Ow} {j2 : Nat} {s2 : St} {wb wb2 : Nat} {w : World} (h : KUn L2 bs2 ow2 j2 s2 wb2 w) (hs : Sep ow2 ow wb) (ha : AgreeP w ow ow') : Sep ow2 ow' wb :=
 ⟨fun k hk x => by
  have h1 := h.1.st.lt k x
  refine hs.1 k ?_ x
  unfold OwnP at hk ⊢
  rw [← ha k h1]; exact hk, hs.2⟩
theorem Sep.fresh {L : Lay} {bs : Nat → Nat} {ow ow2 : Ow} {j : Nat} {s : St} {wb wb2 : Nat} {w : World} (h : KUn L bs ow j s wb w) (hf : Fr w.heap.size ow2) (hw : w.heap.size ≤ wb2) : Sep ow ow2 wb2 ∧ Sep ow2 ow wb := by
 refine ⟨⟨fun k hk x => ?_, fun x => ?_⟩, ⟨fun k hk x => ?_, fun x => ?_⟩⟩
 ·have := hf k hk; have := h.1.st.lt k x; omega
 ·have := h.1.st.lt _ x; omega
 ·have := hf k x; have := h.1.st.lt k hk; omega
 ·have := hf _ x; have := h.wlt; omega
theorem stepR_n (s : St) (r : Int) : (s.stepR r).n = s.n := by
 unfold St.stepR
 split
 ·rfl
 ·exact stepN_n _ _
theorem KUn.step {L : Lay} {bs : Nat → Nat} {ow : Ow} {j : Nat} {s : St} {wb : Nat} {w : World} (h : KUn L bs ow j s wb w) (raw : Int) (hr : inI raw) (hj : j ≤ 140737488355328) :
  Calls Tryz.prog 30 #[.pointer (some ⟨wb, 0, none⟩), .int .i64 raw] w fun e w' => e = .returned (.bool true) ∧ ∃ ow', KUn L bs ow' (j + 1) (s.stepR raw) wb w' ∧ AgreeP w ow ow' ∧ Kept (OwnP ow) w w' := by
 refine (wstep_any h.1 wb h.2.1 h.2.2 raw hr hj).mono ?_
 rintro e w' ⟨rfl, ⟨ow', h1, h2⟩, h3⟩
 exact ⟨rfl, ow', ⟨h1, by rw [stepR_n]; exact h.2.1.kept h3 h.2.2, not_own h.2.2 h2 h.wlt⟩, h2, h3⟩
def St.stepsR (s : St) (l : List Int) : St := l.foldl St.stepR s
theorem stepsR_snoc (s : St) (l : List Int) (x : Int) : s.stepsR (l ++ [x]) = (s.stepsR l).stepR x := by unfold St.stepsR; rw [List.foldl_append]; rfl
theorem stepsR_take (s : St) (l : List Int) (k : Nat) (h : k < l.length) : s.stepsR (l.take (k + 1)) = (s.stepsR (l.take k)).stepR (l.getD k 0) := by
 rw [List.take_add_one, List.getElem?_eq_getElem h, List.getD_eq_getElem?_getD, List.getElem?_eq_getElem h]
 exact stepsR_snoc s _ _
set_option maxRecDepth 20000 in
set_option maxHeartbeats 3200000 in
theorem alike_any {L L2 : Lay} {bs bs2 : Nat → Nat} {ow ow2 : Ow} {j j2 : Nat} {s : St} {wb wb2 : Nat} {w : World} (h : KUn L bs ow j s wb w) (h2 : KUn L2 bs2 ow2 j2 s wb2 w) (s1 : Sep ow ow2 wb2) (s2 : Sep ow2 ow wb) (n : Nat) (hn : n = s.n) (H : Nat) (hf : Fr H ow) (hf2 : Fr H ow2) (w0 : World) (hH : w0.heap.size = H) (hk0 : Kept NoBlk w0 w) (hj : j ≤ 140737488355328) (hj2 : j2 ≤ 140737488355328) :
  Calls Tryz.prog 37 #[.pointer (some ⟨L.p, 0, none⟩), .pointer (some ⟨L2.p, 0, none⟩), .int .i64 (n : Int)] w fun e w' => e = .returned (.bool true) ∧ Kept NoBlk w0 w' := by
 have HR1 : Hid (Calls Tryz.prog 25 #[.pointer (some ⟨L.p, 0, none⟩)] w fun e w' => ∃ x l, e = .returned x ∧ RowAt w' 95 2 x l.length (rowCells l) ∧ (∀ k, x.ownBlock = some k → w.heap.size ≤ k) ∧ RowsOf s.rows l ∧ KSt L bs ow j s w' ∧ Kept (OwnP ow) w w') := kRows h.1 hj
 have HS : Hid (KUn L bs ow j s wb w ∧ KUn L2 bs2 ow2 j2 s wb2 w ∧ Sep ow ow2 wb2 ∧ Sep ow2 ow wb ∧ Fr H ow ∧ Fr H ow2 ∧ w0.heap.size = H ∧ Kept NoBlk w0 w) := ⟨h, h2, s1, s2, hf, hf2, hH, hk0⟩
 have h5 := h.1.n5
 clear h h2 s1 s2 hf hf2 hH hk0
 go_enter Tryz.func37, Tryz.ntmps37
 go_wp2_with fail
 refine HR1.out.mono ?_
 rintro e w1 ⟨x, l, rfl, hx1, hx2, hx3, ha1, hk1⟩
 obtain ⟨xa, xc, rfl, _⟩ := hx1.form
 have hu1 : KUn L bs ow j s wb w1 := ⟨ha1, HS.out.1.2.1.kept hk1 HS.out.1.2.2, HS.out.1.2.2⟩
 have hu2 : KUn L2 bs2 ow2 j2 s wb2 w1 := HS.out.2.1.other HS.out.2.2.1 hk1
 have hkk1 : Kept NoBlk w0 w1 := HS.out.2.2.2.2.1.kept (Nat.le_of_eq HS.out.2.2.2.2.2.2.1) HS.out.2.2.2.2.2.2.2 hk1
 have HU1 : Hid (KUn L bs ow j s wb w1 ∧ KUn L2 bs2 ow2 j2 s wb2 w1 ∧ Kept NoBlk w0 w1) := ⟨hu1, hu2, hkk1⟩
 have HX : Hid (RowAt w1 95 2 (.slice xa l.length xc) l.length (rowCells l) ∧ (∀ k, (Value.slice xa l.length xc).ownBlock = some k → w.heap.size ≤ k) ∧ RowsOf s.rows l) := ⟨hx1, hx2, hx3⟩
 have HR2 : Hid (Calls Tryz.prog 25 #[.pointer (some ⟨L2.p, 0, none⟩)] w1 fun e w' => ∃ x l, e = .returned x ∧ RowAt w' 95 2 x l.length (rowCells l) ∧ (∀ k, x.ownBlock = some k → w1.heap.size ≤ k) ∧ RowsOf s.rows l ∧ KSt L2 bs2 ow2 j2 s w' ∧ Kept (OwnP ow2) w1 w') := kRows hu2.1 hj2
 clear hx1 hx2 hx3 ha1 hk1 hu1 hu2 hkk1 HR1
 go_wp2_with fail
 refine HR2.out.mono ?_
 rintro e w2 ⟨y, l2, rfl, hy1, hy2, hy3, ha2, hk2⟩
 obtain rfl : l = l2 := HX.out.2.2.eq hy3
 have hxo : ∀ k, (Value.slice xa l.length xc).ownBlock = some k → ¬ OwnP ow2 k := fun k e x => by
  have h1 := HX.out.2.1 k e
  have h2 := HS.out.2.1.1.st.lt k x
  omega
 have hls : l.length ≤ 9223372036854775807 := by
  obtain ⟨_, c, h0, c1, c2⟩ := hy1.form
  unfold maxLen at c2
  omega
 obtain ⟨ya, yc, rfl, _⟩ := hy1.form
 have HSM : Hid (Calls Tryz.prog 24 #[.slice xa l.length xc, .slice ya l.length yc] w2 fun e w' => e = .returned (.bool true) ∧ Kept NoBlk w2 w') := sameRows_true _ _ l w2 (HX.out.1.kept hk2 (fun k e => hxo k e)) hy1 hls
 have HU2 : Hid (KUn L bs ow j s wb w2 ∧ KUn L2 bs2 ow2 j2 s wb2 w2 ∧ Kept NoBlk w0 w2) := ⟨HU1.out.1.other HS.out.2.2.2.1 hk2, ⟨ha2, HU1.out.2.1.2.1.kept hk2 HU1.out.2.1.2.2, HU1.out.2.1.2.2⟩, HS.out.2.2.2.2.2.1.kept (Nat.le_of_eq HS.out.2.2.2.2.2.2.1) HU1.out.2.2 hk2⟩
 clear hy1 hy2 hy3 ha2 hk2 hxo HR2 HX HU1
 generalize l.length = ll at *
 go_wp2_with fail
 refine HSM.out.mono ?_
 rintro e w3 ⟨rfl, hk3⟩
 have HU3 : Hid (KUn L bs ow j s wb w3 ∧ KUn L2 bs2 ow2 j2 s wb2 w3 ∧ Kept NoBlk w0 w3) := ⟨HU2.out.1.kept0 hk3, HU2.out.2.1.kept0 hk3, HU2.out.2.2.trans' hk3⟩
 clear hk3 HSM HU2 hls
 go_wp2_with fail
 go_loopw [8] (fun i wr => ∃ k : Nat, 1 ≤ k ∧ k ≤ n + 1 ∧ i = .int .i64 (k : Int) ∧ KUn L bs ow j s wb wr ∧ KUn L2 bs2 ow2 j2 s wb2 wr ∧ Kept NoBlk w0 wr) (fun i _ => n + 1 - (intOf i).toNat)
 case atStart => exact ⟨1, by omega, by omega, rfl, HU3.out⟩
 case round =>
  clear HU3
  obtain ⟨k, hk1, hk2, rfl, u1, u2, hkw⟩ := hrel
  by_cases hlt : k ≤ n
  ·have HT1 : Hid (Calls Tryz.prog 23 #[.pointer (some ⟨L.p, 0, none⟩), .int .i64 (k : Int)] wr fun e w' => ∃ x, e = .returned (.tuple #[x, .int .i64 0]) ∧ TxnTold wr (s.tx k) x w' ∧ KSt L bs ow j s w' ∧ Kept (OwnP ow) wr w') := kTxn u1.1 k ⟨hk1, by omega⟩
   have HU : Hid (KUn L bs ow j s wb wr ∧ KUn L2 bs2 ow2 j2 s wb2 wr ∧ Kept NoBlk w0 wr) := ⟨u1, u2, hkw⟩
   clear u1 u2 hkw
   go_wp2_with fail
   refine HT1.out.mono ?_
   rintro e w4 ⟨x, rfl, ⟨a1, k1, rfl, t1, t2, t3, t4⟩, h4, hk4⟩
   have hv1 : KUn L bs ow j s wb w4 := ⟨h4, HU.out.1.2.1.kept hk4 HU.out.1.2.2, HU.out.1.2.2⟩
   have hv2 : KUn L2 bs2 ow2 j2 s wb2 w4 := HU.out.2.1.other HS.out.2.2.1 hk4
   have hkk4 : Kept NoBlk w0 w4 := HS.out.2.2.2.2.1.kept (Nat.le_of_eq HS.out.2.2.2.2.2.2.1) HU.out.2.2 hk4
   have HV : Hid (KUn L bs ow j s wb w4 ∧ KUn L2 bs2 ow2 j2 s wb2 w4 ∧ Kept NoBlk w0 w4) := ⟨hv1, hv2, hkk4⟩
   have hk1o : ¬ OwnP ow2 k1 := fun x => by have := HU.out.2.1.1.st.lt _ x; omega
   have HRD1 : Hid (w4.heap[k1]? = some (.cells (seenCells (s.tx k).reads).toArray 105 (0, 0)) ∧ ¬ OwnP ow2 k1) := ⟨t4, hk1o⟩
   have HT2 : Hid (∀ bx, Calls Tryz.prog 23 #[.pointer (some ⟨L2.p, 0, none⟩), .int .i64 (k : Int)] (w4.alloc bx) fun e w' => ∃ x, e = .returned (.tuple #[x, .int .i64 0]) ∧ TxnTold (w4.alloc bx) (s.tx k) x w' ∧ KSt L2 bs2 ow2 j2 s w' ∧ Kept (OwnP ow2) (w4.alloc bx) w') := fun bx => kTxn (hv2.kept0 ((Kept.refl NoBlk w4).alloc bx)).1 k ⟨hk1, by omega⟩
   have hrd : (s.tx k).reads.length ≤ 12 := by
    obtain ⟨_, _, _, _, _, _, y4, _⟩ := h4.st.txs k hk1 (by omega)
    exact y4
   clear t1 t2 t3 t4 h4 hk4 hv1 hv2 hkk4 hk1o HT1 HU
   generalize hts : s.tx k = t at *
   go_wp2_with fail
   refine (HT2.out _).mono ?_
   rintro e w5 ⟨x, rfl, ⟨a2, k2, rfl, t1, t2, t3, t4⟩, h5, hk5⟩
   have hka4 : Kept NoBlk w4 (w4.alloc (.cells #[.int .i64 t.stamp, .int .i64 t.state, .int .i64 (t.next : Int), .bool t.wounded, .bool t.waits.isSome, .int .i64 t.agains, .slice (some ⟨a1, 0, none⟩) 4 4, .slice (some ⟨k1, 0, none⟩) t.reads.length t.reads.length] 69)) := (Kept.refl _ _).alloc _
   have hT1 : ¬ OwnP ow2 w4.heap.size := fun x => by have := HV.out.2.1.1.st.lt _ x; omega
   have hb1 := hk5.heap (block_alloc_new w4 (.cells #[.int .i64 t.stamp, .int .i64 t.state, .int .i64 (t.next : Int), .bool t.wounded, .bool t.waits.isSome, .int .i64 t.agains, .slice (some ⟨a1, 0, none⟩) 4 4, .slice (some ⟨k1, 0, none⟩) t.reads.length t.reads.length] 69)) hT1
   have HW : Hid (KUn L bs ow j s wb w5 ∧ KUn L2 bs2 ow2 j2 s wb2 w5 ∧ Kept NoBlk w0 w5) := by
    have u1 := HV.out.1.kept0 hka4
    have u2 := HV.out.2.1.kept0 hka4
    exact ⟨u1.other HS.out.2.2.2.1 hk5, ⟨h5, u2.2.1.kept hk5 u2.2.2, u2.2.2⟩, HS.out.2.2.2.2.2.1.kept (Nat.le_of_eq HS.out.2.2.2.2.2.2.1) (HV.out.2.2.trans' hka4) hk5⟩
   have hr1 : w5.heap[k1]? = some (.cells (seenCells t.reads).toArray 105 (0, 0)) := hk5.heap (hka4.heap HRD1.out.1 (fun x => x)) HRD1.out.2
   have hT5 : w4.heap.size < w5.heap.size := lt_of_block hb1
   have HB1 : Hid (w5.heap[w4.heap.size]? = some (.cells #[.int .i64 t.stamp, .int .i64 t.state, .int .i64 (t.next : Int), .bool t.wounded, .bool t.waits.isSome, .int .i64 t.agains, .slice (some ⟨a1, 0, none⟩) 4 4, .slice (some ⟨k1, 0, none⟩) t.reads.length t.reads.length] 69 (0, 0))) := hb1
   have HSS : Hid (∀ bx, Calls Tryz.prog 28 #[.slice (some ⟨k1, 0, none⟩) t.reads.length t.reads.length, .slice (some ⟨k2, 0, none⟩) t.reads.length t.reads.length] (w5.alloc bx) fun e w' => e = .returned (.bool true) ∧ Kept NoBlk (w5.alloc bx) w') := fun bx => by
    have hl3 := seenCells_len t.reads
    exact sameSeen_true _ _ t.reads (w5.alloc bx) (RowAt.full (block_alloc_old bx hr1) hl3 (by unfold maxLen; omega)) (RowAt.full (block_alloc_old bx t4) hl3 (by unfold maxLen; omega)) (by omega)
   have y0 : ∀ bx, (w5.alloc bx).cell? ⟨w4.heap.size, 0, none⟩ = some (.int .i64 t.stamp) := fun bx => ((Kept.refl NoBlk w5).alloc bx).cell0 (by rw [cell_at hb1]; rfl)
   have y1 : ∀ bx, (w5.alloc bx).cell? ⟨w4.heap.size, 1, none⟩ = some (.int .i64 t.state) := fun bx => ((Kept.refl NoBlk w5).alloc bx).cell0 (by rw [cell_at hb1]; rfl)
   have y2 : ∀ bx, (w5.alloc bx).cell? ⟨w4.heap.size, 2, none⟩ = some (.int .i64 (t.next : Int)) := fun bx => ((Kept.refl NoBlk w5).alloc bx).cell0 (by rw [cell_at hb1]; rfl)
   have y3 : ∀ bx, (w5.alloc bx).cell? ⟨w4.heap.size, 3, none⟩ = some (.bool t.wounded) := fun bx => ((Kept.refl NoBlk w5).alloc bx).cell0 (by rw [cell_at hb1]; rfl)
   have y4 : ∀ bx, (w5.alloc bx).cell? ⟨w4.heap.size, 4, none⟩ = some (.bool t.waits.isSome) := fun bx => ((Kept.refl NoBlk w5).alloc bx).cell0 (by rw [cell_at hb1]; rfl)
   have y5 : ∀ bx, (w5.alloc bx).cell? ⟨w4.heap.size, 5, none⟩ = some (.int .i64 t.agains) := fun bx => ((Kept.refl NoBlk w5).alloc bx).cell0 (by rw [cell_at hb1]; rfl)
   have y6 : ∀ bx, (w5.alloc bx).cell? ⟨w4.heap.size, 6, none⟩ = some (.slice (some ⟨a1, 0, none⟩) 4 4) := fun bx => ((Kept.refl NoBlk w5).alloc bx).cell0 (by rw [cell_at hb1]; rfl)
   have y7 : ∀ bx, (w5.alloc bx).cell? ⟨w4.heap.size, 7, none⟩ = some (.slice (some ⟨k1, 0, none⟩) t.reads.length t.reads.length) := fun bx => ((Kept.refl NoBlk w5).alloc bx).cell0 (by rw [cell_at hb1]; rfl)
   clear hka4 hT1 hb1 hr1 t1 t2 t3 t4 h5 hk5 HT2 HV HRD1
   generalize w4.heap.size = tb at *
   go_wp2_with fail
   refine (HSS.out _).mono ?_
   rintro e w6 ⟨rfl, hk6⟩
   have hc1 := hk6.heap (block_alloc_old (.cells #[.int .i64 t.stamp, .int .i64 t.state, .int .i64 (t.next : Int), .bool t.wounded, .bool t.waits.isSome, .int .i64 t.agains, .slice (some ⟨a2, 0, none⟩) 4 4, .slice (some ⟨k2, 0, none⟩) t.reads.length t.reads.length] 69) HB1.out) (fun x => x)
   have hc2 := hk6.heap (block_alloc_new w5 (.cells #[.int .i64 t.stamp, .int .i64 t.state, .int .i64 (t.next : Int), .bool t.wounded, .bool t.waits.isSome, .int .i64 t.agains, .slice (some ⟨a2, 0, none⟩) 4 4, .slice (some ⟨k2, 0, none⟩) t.reads.length t.reads.length] 69)) (fun x => x)
   have HU6 : Hid (KUn L bs ow j s wb w6 ∧ KUn L2 bs2 ow2 j2 s wb2 w6 ∧ Kept NoBlk w0 w6) := by
    have hk := ((Kept.refl NoBlk w5).alloc (.cells #[.int .i64 t.stamp, .int .i64 t.state, .int .i64 (t.next : Int), .bool t.wounded, .bool t.waits.isSome, .int .i64 t.agains, .slice (some ⟨a2, 0, none⟩) 4 4, .slice (some ⟨k2, 0, none⟩) t.reads.length t.reads.length] 69)).trans' hk6
    exact ⟨HW.out.1.kept0 hk, HW.out.2.1.kept0 hk, HW.out.2.2.trans' hk⟩
   have v0 : w6.cell? ⟨tb, 0, none⟩ = some (.int .i64 t.stamp) := by rw [cell_at hc1]; rfl
   have q0 : w6.cell? ⟨w5.heap.size, 0, none⟩ = some (.int .i64 t.stamp) := by rw [cell_at hc2]; rfl
   have v1 : w6.cell? ⟨tb, 1, none⟩ = some (.int .i64 t.state) := by rw [cell_at hc1]; rfl
   have q1 : w6.cell? ⟨w5.heap.size, 1, none⟩ = some (.int .i64 t.state) := by rw [cell_at hc2]; rfl
   have v2 : w6.cell? ⟨tb, 2, none⟩ = some (.int .i64 (t.next : Int)) := by rw [cell_at hc1]; rfl
   have q2 : w6.cell? ⟨w5.heap.size, 2, none⟩ = some (.int .i64 (t.next : Int)) := by rw [cell_at hc2]; rfl
   have v3 : w6.cell? ⟨tb, 3, none⟩ = some (.bool t.wounded) := by rw [cell_at hc1]; rfl
   have q3 : w6.cell? ⟨w5.heap.size, 3, none⟩ = some (.bool t.wounded) := by rw [cell_at hc2]; rfl
   have v4 : w6.cell? ⟨tb, 4, none⟩ = some (.bool t.waits.isSome) := by rw [cell_at hc1]; rfl
   have q4 : w6.cell? ⟨w5.heap.size, 4, none⟩ = some (.bool t.waits.isSome) := by rw [cell_at hc2]; rfl
   have v5 : w6.cell? ⟨tb, 5, none⟩ = some (.int .i64 t.agains) := by rw [cell_at hc1]; rfl
   have q5 : w6.cell? ⟨w5.heap.size, 5, none⟩ = some (.int .i64 t.agains) := by rw [cell_at hc2]; rfl
   clear hc1 hc2 hk6 HSS HW HB1 y0 y1 y2 y3 y4 y5 y6 y7
   generalize w5.heap.size = ub at *
   go_wp2_with fail
   go_roundw
   case rel => exact ⟨k + 1, by omega, by omega, by go_num, HU6.out⟩
   case measure => simp [intOf]; omega
  ·go_wp2_with fail
   go_ret
   exact ⟨rfl, hkw⟩
set_option maxRecDepth 20000 in
set_option maxHeartbeats 3200000 in
theorem apartLaw (vr : Value) (raw : List Int) (vt : Value) (ls : List (List Op4)) (vs : Value) (steps : List Int) (w : World) (hr : IntsSrc w vr raw) (hrl : raw.length ≤ 17592186044416) (hrin : ∀ x ∈ raw, inI x) (ht : TxnsSrc w vt ls) (htl : ls.length ≤ 17592186044416) (htin : ∀ l ∈ ls, OpsIn l ∧ l.length ≤ 17592186044416) (hs : IntsSrc w vs steps) (hsl : steps.length ≤ 17592186044416) (hsin : ∀ x ∈ steps, inI x) :
  Calls Tryz.prog 13 #[vr, vt, vs] w fun e w' => e = .returned (.bool true) ∧ Kept NoBlk w w' := by
 have HM : Hid (∀ W, Kept NoBlk w W → Calls Tryz.prog 20 #[vr, vt, .bool true] W fun e w' => ∃ wb L bs ow, e = .returned (.pointer (some ⟨wb, 0, none⟩)) ∧ KUn L bs ow 0 (mkS raw ls true (min ls.length 5)) wb w' ∧ Fr W.heap.size ow ∧ Kept NoBlk W w' ∧ W.heap.size ≤ wb) := fun W hW => by
  refine (made_any' vr raw vt ls true W (hr.kept hW (fun _ _ x => x)) hrl hrin (ht.kept0 hW) htl htin).mono ?_
  rintro e w' ⟨wb, L, bs, ow, rfl, h1, h2, h3, h4, h5⟩
  have hn : (mkL ls true (min ls.length 5)).length = (mkS raw ls true (min ls.length 5)).n := by rw [mkS_n, mkL_len _ _ _ (Nat.min_le_left _ _)]
  exact ⟨wb, L, bs, ow, rfl, ⟨h1, by rw [← hn]; exact h2.kw, h2.out⟩, h3, h4, h5⟩
 have HSS : Hid (IntsSrc w vs steps) := hs
 have HSI : Hid (∀ k, k < steps.length → inI (steps.getD k 0)) := fun k hk => hsin _ (by rw [List.getD_eq_getElem?_getD, List.getElem?_eq_getElem hk]; exact List.getElem_mem _)
 obtain ⟨ra, rc, rfl, _⟩ := hr
 obtain ⟨ta, tc, rfl, _⟩ := ht
 obtain ⟨sa, sc, rfl, _⟩ := hs
 generalize raw.length = rn at *
 generalize ls.length = tn at *
 generalize hsn : steps.length = sn at *
 have HSN : Hid (steps.length = sn) := hsn
 clear hrin htin hsin hsn
 generalize mkS raw ls true (min tn 5) = s0 at *
 go_enter Tryz.func13, Tryz.ntmps13
 go_wp2_with fail
 refine (HM.out w (Kept.refl _ _)).mono ?_
 rintro e w1 ⟨wb, L, bs, ow, rfl, h1, hf1, hk1, hwb1⟩
 have H1 : Hid (KUn L bs ow 0 s0 wb w1 ∧ Fr w.heap.size ow ∧ Kept NoBlk w w1 ∧ w.heap.size ≤ wb) := ⟨h1, hf1, hk1, hwb1⟩
 clear h1 hf1 hk1 hwb1
 go_wp2_with fail
 refine (HM.out w1 H1.out.2.2.1).mono ?_
 rintro e w2 ⟨wb2, L2, bs2, ow2, rfl, h2, hf2, hk2, hwb2⟩
 have hsep := Sep.fresh H1.out.1 hf2 hwb2
 have hf2' : Fr w.heap.size ow2 := fun k hk => Nat.le_trans H1.out.2.2.1.size (hf2 k hk)
 have H2 : Hid (KUn L bs ow 0 s0 wb w2 ∧ KUn L2 bs2 ow2 0 s0 wb2 w2 ∧ Sep ow ow2 wb2 ∧ Sep ow2 ow wb ∧ Fr w.heap.size ow ∧ Fr w.heap.size ow2 ∧ Kept NoBlk w w2) := ⟨H1.out.1.kept0 hk2, h2, hsep.1, hsep.2, H1.out.2.1, hf2', H1.out.2.2.1.trans' hk2⟩
 clear h2 hf2 hk2 hwb2 hsep hf2' H1
 go_wp2_with fail
 go_loopw [9] (fun i wr => ∃ (k : Nat) (owA owB : Ow) (sB : St), k ≤ sn ∧ i = .int .i64 (k : Int) ∧ KUn L bs owA k (s0.stepsR (steps.take k)) wb wr ∧ KUn L2 bs2 owB k sB wb2 wr ∧ Sep owA owB wb2 ∧ Sep owB owA wb ∧ Fr w.heap.size owA ∧ Fr w.heap.size owB ∧ Kept NoBlk w wr) (fun i _ => sn - (intOf i).toNat)
 case atStart => exact ⟨0, ow, ow2, s0, by omega, rfl, H2.out⟩
 case round =>
  clear H2
  obtain ⟨k, owA, owB, sB, hk, rfl, uA, uB, sAB, sBA, fA, fB, hkw⟩ := hrel
  by_cases hlt : k < sn
  ·obtain ⟨sao, scc, hsv, hss⟩ := HSS.out
   obtain ⟨b, off, hsb, hcell⟩ := hss (by rw [HSN.out]; omega)
   simp only [Value.slice.injEq] at hsv
   obtain ⟨rfl, hh, rfl⟩ := hsv
   clear hh
   subst hsb
   have hc1 := hcell k (by rw [HSN.out]; exact hlt)
   have HC : Hid (∀ q, q < sn → w.cell? ⟨b, off + q, none⟩ = some (.int .i64 (steps.getD q 0)) ∧ inI (steps.getD q 0)) := fun q hq => ⟨hcell q (by rw [HSN.out]; exact hq), HSI.out q hq⟩
   have g1 := hkw.cell0 hc1
   have HSA : Hid (Calls Tryz.prog 30 #[.pointer (some ⟨wb, 0, none⟩), .int .i64 (steps.getD k 0)] wr fun e w' => e = .returned (.bool true) ∧ ∃ ow', KUn L bs ow' (k + 1) (s0.stepsR (steps.take (k + 1))) wb w' ∧ AgreeP wr owA ow' ∧ Kept (OwnP owA) wr w') := by
    have := uA.step (steps.getD k 0) (HC.out k hlt).2 (by omega)
    rw [← stepsR_take s0 steps k (by rw [HSN.out]; exact hlt)] at this
    exact this
   have HR : Hid (KUn L2 bs2 owB k sB wb2 wr ∧ Sep owA owB wb2 ∧ Sep owB owA wb ∧ Fr w.heap.size owA ∧ Fr w.heap.size owB ∧ Kept NoBlk w wr) := ⟨uB, sAB, sBA, fA, fB, hkw⟩
   clear hcell hss hc1 uA uB sAB sBA fA fB hkw
   generalize steps.getD k 0 = rk at *
   have j0 : (0 : Int) ≤ (k : Int) := by omega
   have j1 : (k : Int) < (sn : Int) := by omega
   go_wp2_with fail
   refine HSA.out.mono ?_
   rintro e w5 ⟨rfl, owA', u5, ha5, hk5⟩
   have H5 : Hid (KUn L bs owA' (k + 1) (s0.stepsR (steps.take (k + 1))) wb w5 ∧ KUn L2 bs2 owB k sB wb2 w5 ∧ Sep owA' owB wb2 ∧ Sep owB owA' wb ∧ Fr w.heap.size owA' ∧ Fr w.heap.size owB ∧ Kept NoBlk w w5) := by
    obtain ⟨r1, r2, r3, r4, r5, r6⟩ := HR.out
    exact ⟨u5, r1.other r2 hk5, r2.aft r1 ha5, r3.aft2 r1 ha5, r4.agree ha5 r6.size, r5, r4.kept (Nat.le_refl _) r6 hk5⟩
   clear u5 ha5 hk5 HSA HR g1
   rcases Nat.mod_two_eq_zero_or_one k with hev | hod
   ·obtain ⟨h, rfl⟩ : ∃ h, k = 2 * h := ⟨k / 2, by omega⟩
    have g2 := H5.out.2.2.2.2.2.2.cell0 (HC.out h (by omega)).1
    have HSB : Hid (Calls Tryz.prog 30 #[.pointer (some ⟨wb2, 0, none⟩), .int .i64 (steps.getD h 0)] w5 fun e w' => e = .returned (.bool true) ∧ ∃ ow', KUn L2 bs2 ow' (2 * h + 1) (sB.stepR (steps.getD h 0)) wb2 w' ∧ AgreeP w5 owB ow' ∧ Kept (OwnP owB) w5 w') := H5.out.2.1.step (steps.getD h 0) (HC.out h (by omega)).2 (by omega)
    generalize steps.getD h 0 = rh at *
    have hm2 : ((2 * h : Nat) : Int) % 2 = 0 := by omega
    have hd2 : ((2 * h : Nat) : Int) / 2 = (h : Int) := by omega
    have j2 : (0 : Int) ≤ (h : Int) := by omega
    have j3 : (h : Int) < (sn : Int) := by omega
    clear hev
    go_wp2_with fail
    refine HSB.out.mono ?_
    rintro e w6 ⟨rfl, owB', u6, ha6, hk6⟩
    have H6 : Hid (KUn L bs owA' (2 * h + 1) (s0.stepsR (steps.take (2 * h + 1))) wb w6 ∧ KUn L2 bs2 owB' (2 * h + 1) (sB.stepR rh) wb2 w6 ∧ Sep owA' owB' wb2 ∧ Sep owB' owA' wb ∧ Fr w.heap.size owA' ∧ Fr w.heap.size owB' ∧ Kept NoBlk w w6) := by
     obtain ⟨r0, r1, r2, r3, r4, r5, r6⟩ := H5.out
     exact ⟨r0.other r3 hk6, u6, r2.aft2 r0 ha6, r3.aft r0 ha6, r4, r5.agree ha6 r6.size, r5.kept (Nat.le_refl _) r6 hk6⟩
    clear u6 ha6 hk6 HSB H5 g2
    go_wp2_with fail
    go_roundw
    case rel => exact ⟨2 * h + 1, owA', owB', sB.stepR rh, by omega, by go_num, H6.out⟩
    case measure => simp [intOf]; omega
   ·have hm2 : (k : Int) % 2 = 1 := by omega
    have H6 : Hid (KUn L bs owA' (k + 1) (s0.stepsR (steps.take (k + 1))) wb w5 ∧ KUn L2 bs2 owB (k + 1) sB wb2 w5 ∧ Sep owA' owB wb2 ∧ Sep owB owA' wb ∧ Fr w.heap.size owA' ∧ Fr w.heap.size owB ∧ Kept NoBlk w w5) := by
     obtain ⟨r0, r1, r⟩ := H5.out
     exact ⟨r0, ⟨r1.1.mono (by omega), r1.2⟩, r⟩
    clear hod H5
    go_wp2_with fail
    go_roundw
    case rel => exact ⟨k + 1, owA', owB, sB, by omega, by go_num, H6.out⟩
    case measure => simp [intOf]; omega
  ·obtain rfl : k = sn := by omega
   have hall : steps.take k = steps := by rw [← HSN.out]; exact List.take_length
   rw [hall] at uA
   have HA : Hid (KUn L bs owA k (s0.stepsR steps) wb wr ∧ Fr w.heap.size owA ∧ Kept NoBlk w wr) := ⟨uA, fA, hkw⟩
   have HM2 : Hid (Calls Tryz.prog 20 #[.slice ra rn rc, .slice ta tn tc, .bool true] wr fun e w' => ∃ wb L bs ow, e = .returned (.pointer (some ⟨wb, 0, none⟩)) ∧ KUn L bs ow 0 s0 wb w' ∧ Fr wr.heap.size ow ∧ Kept NoBlk wr w' ∧ wr.heap.size ≤ wb) := HM.out wr hkw
   clear uA uB sAB sBA fA fB hkw hall hlt
   go_wp2_with fail
   refine HM2.out.mono ?_
   rintro e w7 ⟨wb3, L3, bs3, ow3, rfl, h7, hf7, hk7, hwb7⟩
   have hsep := Sep.fresh HA.out.1 hf7 hwb7
   have hf7' : Fr w.heap.size ow3 := fun q hq => Nat.le_trans HA.out.2.2.size (hf7 q hq)
   have H7 : Hid (KUn L bs owA k (s0.stepsR steps) wb w7 ∧ KUn L3 bs3 ow3 0 s0 wb3 w7 ∧ Sep owA ow3 wb3 ∧ Sep ow3 owA wb ∧ Fr w.heap.size owA ∧ Fr w.heap.size ow3 ∧ Kept NoBlk w w7) := ⟨HA.out.1.kept0 hk7, h7, hsep.1, hsep.2, HA.out.2.1, hf7', HA.out.2.2.trans' hk7⟩
   clear h7 hf7 hk7 hwb7 hsep hf7' HA HM2
   go_wp2_with fail
   go_loopw [13] (fun i wr => ∃ (q : Nat) (owY : Ow), q ≤ k ∧ i = .int .i64 (q : Int) ∧ KUn L bs owA k (s0.stepsR steps) wb wr ∧ KUn L3 bs3 owY q (s0.stepsR (steps.take q)) wb3 wr ∧ Sep owA owY wb3 ∧ Sep owY owA wb ∧ Fr w.heap.size owA ∧ Fr w.heap.size owY ∧ Kept NoBlk w wr) (fun i _ => k - (intOf i).toNat)
   case atStart => exact ⟨0, ow3, by omega, rfl, H7.out⟩
   case round =>
    clear H7
    obtain ⟨q, owY, hq, rfl, uA, uY, sAY, sYA, fA, fY, hkw⟩ := hrel
    by_cases hlt : q < k
    ·obtain ⟨sao, scc, hsv, hss⟩ := HSS.out
     obtain ⟨b, off, hsb, hcell⟩ := hss (by rw [HSN.out]; omega)
     simp only [Value.slice.injEq] at hsv
     obtain ⟨rfl, hh, rfl⟩ := hsv
     clear hh
     subst hsb
     have g1 := hkw.cell0 (hcell q (by rw [HSN.out]; exact hlt))
     have HSY : Hid (Calls Tryz.prog 30 #[.pointer (some ⟨wb3, 0, none⟩), .int .i64 (steps.getD q 0)] wr fun e w' => e = .returned (.bool true) ∧ ∃ ow', KUn L3 bs3 ow' (q + 1) (s0.stepsR (steps.take (q + 1))) wb3 w' ∧ AgreeP wr owY ow' ∧ Kept (OwnP owY) wr w') := by
      have := uY.step (steps.getD q 0) (HSI.out q hlt) (by omega)
      rw [← stepsR_take s0 steps q (by rw [HSN.out]; exact hlt)] at this
      exact this
     have HR : Hid (KUn L bs owA k (s0.stepsR steps) wb wr ∧ Sep owA owY wb3 ∧ Sep owY owA wb ∧ Fr w.heap.size owA ∧ Fr w.heap.size owY ∧ Kept NoBlk w wr) := ⟨uA, sAY, sYA, fA, fY, hkw⟩
     clear hcell hss uA uY sAY sYA fA fY hkw
     generalize steps.getD q 0 = rk at *
     have j0 : (0 : Int) ≤ (q : Int) := by omega
     have j1 : (q : Int) < (k : Int) := by omega
     go_wp2_with fail
     refine HSY.out.mono ?_
     rintro e w5 ⟨rfl, owY', u5, ha5, hk5⟩
     have H5 : Hid (KUn L bs owA k (s0.stepsR steps) wb w5 ∧ KUn L3 bs3 owY' (q + 1) (s0.stepsR (steps.take (q + 1))) wb3 w5 ∧ Sep owA owY' wb3 ∧ Sep owY' owA wb ∧ Fr w.heap.size owA ∧ Fr w.heap.size owY' ∧ Kept NoBlk w w5) := by
      obtain ⟨r1, r2, r3, r4, r5, r6⟩ := HR.out
      exact ⟨r1.other r3 hk5, u5, r2.aft2 r1 ha5, r3.aft r1 ha5, r4, r5.agree ha5 r6.size, r5.kept (Nat.le_refl _) r6 hk5⟩
     clear u5 ha5 hk5 HSY HR g1
     go_wp2_with fail
     go_roundw
     case rel => exact ⟨q + 1, owY', by omega, by go_num, H5.out⟩
     case measure => simp [intOf]; omega
    ·obtain rfl : q = k := by omega
     have hall : steps.take q = steps := by rw [← HSN.out]; exact List.take_length
     rw [hall] at uY
     have HAL : Hid (∀ W, Kept NoBlk wr W → Calls Tryz.prog 37 #[.pointer (some ⟨L.p, 0, none⟩), .pointer (some ⟨L3.p, 0, none⟩), .int .i64 ((s0.stepsR steps).n : Int)] W fun e w' => e = .returned (.bool true) ∧ Kept NoBlk w w') := fun W hW => alike_any (uA.kept0 hW) (uY.kept0 hW) sAY sYA _ rfl w.heap.size fA fY w rfl (hkw.trans' hW) (by omega) (by omega)
     obtain ⟨cs, ao, c, x1, x2, x3⟩ := uA.2.1
     obtain ⟨cs3, ao3, cc3, y1, y2, y3⟩ := uY.2.1
     have c0 : wr.cell? ⟨wb, 0, none⟩ = some (.pointer (some ⟨L.p, 0, none⟩)) := by rw [cell_at x1]; exact x2
     have c11 : wr.cell? ⟨wb, 11, none⟩ = some (.slice ao (s0.stepsR steps).n c) := by rw [cell_at x1]; exact x3
     have d0 : wr.cell? ⟨wb3, 0, none⟩ = some (.pointer (some ⟨L3.p, 0, none⟩)) := by rw [cell_at y1]; exact y2
     clear uA uY sAY sYA fA fY hkw hall x1 x2 x3 y1 y2 y3 hlt
     generalize (s0.stepsR steps).n = nn at *
     have HAL2 : Hid (Calls Tryz.prog 37 #[.pointer (some ⟨L.p, 0, none⟩), .pointer (some ⟨L3.p, 0, none⟩), .int .i64 (nn : Int)] wr.drew fun e w' => e = .returned (.bool true) ∧ Kept NoBlk w w') := HAL.out wr.drew (Kept.refl NoBlk wr).drew
     go_wp2_with fail
     go_region_law (go_simp; go_at_call 37; (with_reducible refine HAL2.out.mono ?_); rintro e w14 ⟨rfl, hk14⟩)
     all_goals
      go_wp2_with fail
      go_ret
      exact ⟨rfl, hk14⟩
end Go.Proofs.YtmcajfefagdbnaaGreat
