import Derived.Test.YtmcajfefagdbnaaGreatQ18
import Derived.Lib.QuietBelow
import Derived.Test.YtmcajfefagdbnaaGreatQ12
namespace Go.Proofs.YtmcajfefagdbnaaGreat
open Go Go.RowKit Go.Sort Go.Lib
def woundL (s : St) (i : Nat) (md : Int) (l : List (Int × Int)) (tx : Nat → Tx) : Nat → Tx := fun j =>
 if l.any (fun x => decide (x.1 = (j : Int)) && confl ((i : Int), md) x && decide ((s.tx i).stamp < (s.tx j).stamp)) then { tx j with wounded := true } else tx j
theorem woundL_snoc (s : St) (i : Nat) (md : Int) (l : List (Int × Int)) (x : Int × Int) (j : Nat) (hx : x.1 = (j : Int)) (tx : Nat → Tx) :
  woundL s i md (l ++ [x]) tx = if confl ((i : Int), md) x && decide ((s.tx i).stamp < (s.tx j).stamp) then upd (woundL s i md l tx) j { woundL s i md l tx j with wounded := true } else woundL s i md l tx := by
 funext k
 by_cases e : k = j
 ·subst e
  cases hc : confl ((i : Int), md) x && decide ((s.tx i).stamp < (s.tx k).stamp)
  ·simp only [Bool.false_eq_true, if_false]
   unfold woundL
   rw [List.any_append, List.any_cons, List.any_nil, Bool.or_false]
   have : (decide (x.1 = (k : Int)) && confl ((i : Int), md) x && decide ((s.tx i).stamp < (s.tx k).stamp)) = false := by rw [Bool.and_assoc, hc, Bool.and_false]
   rw [this, Bool.or_false]
  ·simp only [if_true]
   rw [upd_same]
   unfold woundL
   rw [List.any_append, List.any_cons, List.any_nil, Bool.or_false]
   have : (decide (x.1 = (k : Int)) && confl ((i : Int), md) x && decide ((s.tx i).stamp < (s.tx k).stamp)) = true := by rw [Bool.and_assoc, hc, Bool.and_true]; simp [hx]
   rw [this, Bool.or_true]
   simp only [if_true]
   split <;> rfl
 ·have hne : decide (x.1 = (k : Int)) = false := by simp; omega
  have : woundL s i md (l ++ [x]) tx k = woundL s i md l tx k := by
   unfold woundL
   rw [List.any_append, List.any_cons, List.any_nil, Bool.or_false, hne, Bool.false_and, Bool.false_and, Bool.or_false]
  rw [this]
  split
  ·rw [upd_other _ _ _ _ e]
  ·rfl
theorem woundL_stamp (s : St) (i : Nat) (md : Int) (l : List (Int × Int)) (tx : Nat → Tx) (j : Nat) : (woundL s i md l tx j).stamp = (tx j).stamp := by
 unfold woundL
 split <;> rfl
theorem PSt.wounded {L : Lay} {bs : Nat → Nat} {A : List Nat} {ow : Ow} {m : Nat} {mu lv : Int} {s : St} {w : World} (h : PSt L bs A ow m mu lv s w) (j : Nat) (hin : 1 ≤ j ∧ j ≤ s.n) :
  PSt L bs A ow m mu lv (s.withTx (upd s.tx j { s.tx j with wounded := true })) (w.setCell ⟨bs j, 6, none⟩ (.bool true)) ∧ Kept (OwnP ow) w (w.setCell ⟨bs j, 6, none⟩ (.bool true)) :=
 h.setT j hin { s.tx j with wounded := true } (Kept.set1 w (bs j) 6 (.bool true)) rfl (fun h0 => ⟨h0, rfl, rfl, rfl⟩) (fun ov _ dv e => ⟨ov, dv, fun _ => ⟨rfl, rfl⟩, block_setCell e _⟩)
set_option maxRecDepth 20000 in
set_option maxHeartbeats 6400000 in
theorem pwound {L : Lay} {bs : Nat → Nat} {A : List Nat} {ow : Ow} {m : Nat} {mu lv : Int} {s : St} {tx1 : Nat → Tx} {w : World} (h : PSt L bs A ow m mu lv (s.withTx tx1) w) (hst1 : ∀ j, (tx1 j).stamp = (s.tx j).stamp) (i : Nat) (hin : 1 ≤ i ∧ i ≤ s.n) (md : Int) (v : Value) (l : List (Int × Int)) (hl : RowAt w 107 2 v l.length (lkc l)) (hn : l.length ≤ 1099511627776) (hown : ∀ b, v.ownBlock = some b → ∀ j : Int, ow b ≠ (8, j))
  (hA : ∀ x ∈ l, ∃ j : Nat, x.1 = (j : Int) ∧ 1 ≤ j ∧ j ≤ s.n) :
  Calls Tryz.prog 131 #[.pointer (some ⟨L.p, 0, none⟩), v, .pointer (some ⟨bs i, 0, none⟩), .agg #[.int .i64 (i : Int), .int .i64 md]] w fun e w' => e = .returned (.tuple #[]) ∧ PSt L bs A ow m mu lv (s.withTx (woundL s i md l tx1)) w' ∧ Kept (fun k => ∃ j : Int, ow k = (8, j)) w w' := by
 obtain ⟨ao, c, rfl, hc1, hc2⟩ := hl.form
 have HH : Hid (PSt L bs A ow m mu lv (s.withTx tx1) w) := h
 have HL : Hid (RowAt w 107 2 (.slice ao l.length c) l.length (lkc l)) := hl
 have HIN : Hid (1 ≤ i ∧ i ≤ s.n) := hin
 have HA : Hid (∀ x ∈ l, ∃ j : Nat, x.1 = (j : Int) ∧ 1 ≤ j ∧ j ≤ s.n) := hA
 have HO : Hid (∀ b, (Value.slice ao l.length c).ownBlock = some b → ∀ j : Int, ow b ≠ (8, j)) := hown
 have HS1 : Hid (∀ j, (tx1 j).stamp = (s.tx j).stamp) := hst1
 generalize hnn : l.length = n at *
 have HN : Hid (l.length = n) := hnn
 clear h hl hin hA hown hnn hst1
 go_enter Tryz.func131, Tryz.ntmps131
 go_wp2_with fail
 generalize hw0 : w.alloc (Obj.cells #[Value.int IntKind.i64 (i : Int), Value.int IntKind.i64 md] 107) = w0
 have hk0 : Kept NoBlk w w0 := by rw [← hw0]; exact (Kept.refl _ _).alloc _
 have hbx : w0.heap[w.heap.size]? = some (.cells #[.int .i64 (i : Int), .int .i64 md] 107 (0, 0)) := by rw [← hw0]; exact block_alloc_new w _
 have HBX : Hid (w0.heap[w.heap.size]? = some (.cells #[.int .i64 (i : Int), .int .i64 md] 107 (0, 0))) := hbx
 have HK0 : Hid (Kept NoBlk w w0) := hk0
 have HW0 : Hid (∀ j : Int, ow w.heap.size ≠ (8, j)) := fun j e => by
  have := (HH.out : PSt L bs A ow m mu lv (s.withTx tx1) w).lt w.heap.size (by rw [e]; exact tagNe (by omega))
  omega
 clear hw0 hk0 hbx
 go_loopw [13] (fun v wr => ∃ k : Nat, k ≤ n ∧ v = .int .i64 (k : Int) ∧ PSt L bs A ow m mu lv (s.withTx (woundL s i md (l.take k) tx1)) wr ∧ Kept (fun b => ∃ j : Int, ow b = (8, j)) w0 wr) (fun v _ => n - (intOf v).toNat)
 case atStart => exact ⟨0, Nat.zero_le _, rfl, PSt.kept0 HH.out HK0.out, Kept.refl _ _⟩
 case round =>
  obtain ⟨k, hk, rfl, hst, hkw⟩ := hrel
  have HST : Hid (PSt L bs A ow m mu lv (s.withTx (woundL s i md (l.take k) tx1)) wr) := hst
  have HKW : Hid (Kept (fun b => ∃ j : Int, ow b = (8, j)) w0 wr) := hkw
  by_cases hlt : k < n
  ·have hkl : k < l.length := by rw [HN.out]; exact hlt
   have hrow : RowAt wr 107 2 (.slice ao n c) n (lkc l) := (RowAt.kept HL.out HK0.out (fun _ _ x => x)).kept hkw (fun b hb e => by obtain ⟨j, e⟩ := e; exact HO.out b hb j e)
   obtain ⟨g, off, rfl, g0, g1⟩ := hrow.lks k hkl
   have hbw := hkw.heap HBX.out (fun e => by obtain ⟨j, e⟩ := e; exact HW0.out j e)
   have b0 : wr.cell? ⟨w.heap.size, 0, none⟩ = some (.int .i64 (i : Int)) := by rw [cell_at hbw]; rfl
   have b1 : wr.cell? ⟨w.heap.size, 1, none⟩ = some (.int .i64 md) := by rw [cell_at hbw]; rfl
   have hwl := lt_of_block hbw
   generalize hx : l.getD k (0, 0) = x at *
   have Hx : Hid (l.getD k (0, 0) = x) := hx
   have hmem : x ∈ l := by rw [← hx]; simp [List.getD, hkl]
   obtain ⟨j, hj, hj1, hjn⟩ := HA.out x hmem
   obtain ⟨x1, x2⟩ := x
   simp only at hj g0 g1
   subst hj
   have HJ : Hid (1 ≤ j ∧ j ≤ s.n) := ⟨hj1, hjn⟩
   have HKL : Hid (k < l.length) := hkl
   have hgl := World.block_lt_of_cell? _ _ g0
   have hal : Kept NoBlk wr (wr.alloc (.cells #[.int .i64 (j : Int), .int .i64 x2] 107)) := (Kept.refl _ _).alloc _
   have hsta := hst.kept0 hal
   obtain ⟨g2, off2, cc, p4, pp⟩ := hsta.ptr (i := j) hj1 hjn
   have hfd := find_some L.p g2 off2 s.n cc j (bs j) _ p4 pp hj1 hjn hst.nmax
   clear hx hst hkw hbw hrow hmem hkl hal hsta p4 pp
   go_wp2_with fail
   refine hfd.mono ?_
   rintro e w2 ⟨rfl, rfl⟩
   clear hfd
   have hst2 : PSt L bs A ow m mu lv (s.withTx (woundL s i md (l.take k) tx1)) (wr.alloc (.cells #[.int .i64 (j : Int), .int .i64 x2] 107)) := PSt.kept0 HST.out ((Kept.refl _ _).alloc _)
   obtain ⟨ovi, rvi, dvi, yi, _, _⟩ := hst2.txs i HIN.out.1 HIN.out.2
   obtain ⟨ovj, rvj, dvj, yj, _, _⟩ := hst2.txs j HJ.out.1 HJ.out.2
   have sti : ((s.withTx (woundL s i md (l.take k) tx1)).tx i).stamp = (s.tx i).stamp := by show (woundL s i md (l.take k) tx1 i).stamp = _; rw [woundL_stamp, HS1.out]
   have stj : ((s.withTx (woundL s i md (l.take k) tx1)).tx j).stamp = (s.tx j).stamp := by show (woundL s i md (l.take k) tx1 j).stamp = _; rw [woundL_stamp, HS1.out]
   rw [sti] at yi
   rw [stj] at yj
   have HYI : Hid _ := yi
   have HYJ : Hid _ := yj
   have hal : Kept NoBlk wr (wr.alloc (.cells #[.int .i64 (j : Int), .int .i64 x2] 107)) := (Kept.refl _ _).alloc _
   have a0 := hal.cell0 b0
   have a1 := hal.cell0 b1
   have hnb := block_alloc_new wr (.cells #[.int .i64 (j : Int), .int .i64 x2] 107)
   have e0 : (wr.alloc (.cells #[.int .i64 (j : Int), .int .i64 x2] 107)).cell? ⟨wr.heap.size, 0, none⟩ = some (.int .i64 (j : Int)) := by rw [cell_at hnb]; rfl
   have e1 : (wr.alloc (.cells #[.int .i64 (j : Int), .int .i64 x2] 107)).cell? ⟨wr.heap.size, 1, none⟩ = some (.int .i64 x2) := by rw [cell_at hnb]; rfl
   have HST2 : Hid (PSt L bs A ow m mu lv (s.withTx (woundL s i md (l.take k) tx1)) (wr.alloc (.cells #[.int .i64 (j : Int), .int .i64 x2] 107))) := hst2
   have HKW2 : Hid (Kept (fun b => ∃ j : Int, ow b = (8, j)) w0 (wr.alloc (.cells #[.int .i64 (j : Int), .int .i64 x2] 107))) := HKW.out.trans hal (fun _ x => x.elim)
   have hsn : woundL s i md (l.take (k + 1)) tx1 = if confl ((i : Int), md) ((j : Int), x2) && decide ((s.tx i).stamp < (s.tx j).stamp) then upd (woundL s i md (l.take k) tx1) j { woundL s i md (l.take k) tx1 j with wounded := true } else woundL s i md (l.take k) tx1 := by
    rw [List.take_add_one, show l[k]? = some ((j : Int), x2) from by have := HKL.out; rw [← Hx.out]; simp [List.getD, this]]
    exact woundL_snoc s i md (l.take k) ((j : Int), x2) j rfl tx1
   have HSN : Hid (woundL s i md (l.take (k + 1)) tx1 = if confl ((i : Int), md) ((j : Int), x2) && decide ((s.tx i).stamp < (s.tx j).stamp) then upd (woundL s i md (l.take k) tx1) j { woundL s i md (l.take k) tx1 j with wounded := true } else woundL s i md (l.take k) tx1) := hsn
   have hcon := fun W => conflict_ok ((i : Int), md) ((j : Int), x2) W
   simp only at hcon
   clear hst2 yi yj sti stj hal hnb b0 b1 g0 g1 hsn
   generalize wr.alloc (.cells #[.int .i64 (j : Int), .int .i64 x2] 107) = W2 at *
   generalize (s.tx i).stamp = si at *
   generalize (s.tx j).stamp = sj at *
   have t2i : W2.cell? ⟨bs i, 2, none⟩ = some (.int .i64 si) := by rw [cell_at HYI.out]; rfl
   have t2j : W2.cell? ⟨bs j, 2, none⟩ = some (.int .i64 sj) := by rw [cell_at HYJ.out]; rfl
   have hf0 : W2.drew.cell? ⟨w.heap.size, 0, none⟩ = some (.int .i64 (i : Int)) ∧ W2.drew.cell? ⟨w.heap.size, 1, none⟩ = some (.int .i64 md) ∧ W2.drew.cell? ⟨wr.heap.size, 0, none⟩ = some (.int .i64 (j : Int)) ∧ W2.drew.cell? ⟨wr.heap.size, 1, none⟩ = some (.int .i64 x2) ∧ W2.drew.cell? ⟨bs i, 2, none⟩ = some (.int .i64 si) ∧ W2.drew.cell? ⟨bs j, 2, none⟩ = some (.int .i64 sj) := ⟨a0, a1, e0, e1, t2i, t2j⟩
   generalize hcf : confl ((i : Int), md) ((j : Int), x2) = cf at *
   clear a0 a1 e0 e1 t2i t2j
   cases cf
   ·go_wp2_with fail
    have k0 := cell_regrown (w := W2) hf0.1
    have k1 := cell_regrown (w := W2) hf0.2.1
    have k2 := cell_regrown (w := W2) hf0.2.2.1
    have k3 := cell_regrown (w := W2) hf0.2.2.2.1
    have k4 := cell_regrown (w := W2) hf0.2.2.2.2.1
    have k5 := cell_regrown (w := W2) hf0.2.2.2.2.2
    have cQ : ∀ d os, Calls Tryz.prog 154 #[.agg #[.int .i64 (i : Int), .int .i64 md], .agg #[.int .i64 (j : Int), .int .i64 x2]] (grow (redrawn W2 d) os) fun e w'' => e = .returned (.bool false) ∧ ∃ p : Regrown, w'' = grow (redrawn W2 p.d) p.os := fun d os => Calls.regrown_of ((hcon _).mono (fun e w' h => ⟨h.1, h.2.below (Nat.le_refl _) (fun _ x => x.elim)⟩))
    clear hf0 hcon
    refine wp_region_quiet_below (by kernel_rfl) (by kernel_rfl) ?_
    repeat (go_big_quiet_step (exact cQ _ _))
    refine wpQuiet_nil ?_
    intro w3 hw3
    obtain ⟨⟨d3, os3⟩, hw3⟩ := hw3
    have hk3 : Kept NoBlk W2 w3 := by rw [hw3]; exact Kept.of_below (below_regrown W2 d3 os3)
    clear hw3 k0 k1 k2 k3 k4 k5 cQ
    have HST3 : Hid (PSt L bs A ow m mu lv (s.withTx (woundL s i md (l.take k) tx1)) w3) := PSt.kept0 HST2.out hk3
    have HKW3 : Hid (Kept (fun b => ∃ j : Int, ow b = (8, j)) w0 w3) := HKW2.out.trans hk3 (fun _ x => x.elim)
    have yj3 := hk3.heap HYJ.out (fun x => x)
    clear hk3 yj3
    go_wp2_with fail
    refine ⟨⟨k + 1, by omega, by go_num, ?_, HKW3.out⟩, by simp [intOf]; omega⟩
    rw [HSN.out]
    exact HST3.out
   ·by_cases hss : si < sj
    ·go_wp2_with fail
     have k0 := cell_regrown (w := W2) hf0.1
     have k1 := cell_regrown (w := W2) hf0.2.1
     have k2 := cell_regrown (w := W2) hf0.2.2.1
     have k3 := cell_regrown (w := W2) hf0.2.2.2.1
     have k4 := cell_regrown (w := W2) hf0.2.2.2.2.1
     have k5 := cell_regrown (w := W2) hf0.2.2.2.2.2
     have cQ : ∀ d os, Calls Tryz.prog 154 #[.agg #[.int .i64 (i : Int), .int .i64 md], .agg #[.int .i64 (j : Int), .int .i64 x2]] (grow (redrawn W2 d) os) fun e w'' => e = .returned (.bool true) ∧ ∃ p : Regrown, w'' = grow (redrawn W2 p.d) p.os := fun d os => Calls.regrown_of ((hcon _).mono (fun e w' h => ⟨h.1, h.2.below (Nat.le_refl _) (fun _ x => x.elim)⟩))
     clear hf0 hcon
     refine wp_region_quiet_below (by kernel_rfl) (by kernel_rfl) ?_
     repeat (go_big_quiet_step (exact cQ _ _))
     refine wpQuiet_nil ?_
     intro w3 hw3
     obtain ⟨⟨d3, os3⟩, hw3⟩ := hw3
     have hk3 : Kept NoBlk W2 w3 := by rw [hw3]; exact Kept.of_below (below_regrown W2 d3 os3)
     clear hw3 k0 k1 k2 k3 k4 k5 cQ
     have HST3 : Hid (PSt L bs A ow m mu lv (s.withTx (woundL s i md (l.take k) tx1)) w3) := PSt.kept0 HST2.out hk3
     have HKW3 : Hid (Kept (fun b => ∃ j : Int, ow b = (8, j)) w0 w3) := HKW2.out.trans hk3 (fun _ x => x.elim)
     have yj3 := hk3.heap HYJ.out (fun x => x)
     have z6 : w3.cell? ⟨bs j, 6, none⟩ = some (.bool (woundL s i md (l.take k) tx1 j).wounded) := by rw [cell_at yj3]; rfl
     have zf : w3.frozen? ⟨bs j, 6, none⟩ = false := frozen_at yj3 6
     have HF : Hid (PSt L bs A ow m mu lv (s.withTx (woundL s i md (l.take (k + 1)) tx1)) (w3.setCell ⟨bs j, 6, none⟩ (.bool true)) ∧ Kept (fun b => ∃ j : Int, ow b = (8, j)) w0 (w3.setCell ⟨bs j, 6, none⟩ (.bool true))) := by
      have h3 : PSt L bs A ow m mu lv (s.withTx (woundL s i md (l.take k) tx1)) w3 := HST3.out
      obtain ⟨z1, _⟩ := h3.wounded j HJ.out
      have hbt := (h3.ownT HJ.out).1
      refine ⟨?_, HKW3.out.trans (Kept.set1 w3 (bs j) 6 _) (fun b e => by cases e; exact .inl ⟨_, hbt⟩)⟩
      rw [HSN.out]
      simp only [hss, decide_true, Bool.and_self, if_true]
      exact z1
     clear hk3 yj3
     go_wp2_with fail
     exact ⟨⟨k + 1, by omega, by go_num, HF.out.1, HF.out.2⟩, by simp [intOf]; omega⟩
    ·have hsd : decide (si < sj) = false := by simp [hss]
     go_wp2_with fail
     have k0 := cell_regrown (w := W2) hf0.1
     have k1 := cell_regrown (w := W2) hf0.2.1
     have k2 := cell_regrown (w := W2) hf0.2.2.1
     have k3 := cell_regrown (w := W2) hf0.2.2.2.1
     have k4 := cell_regrown (w := W2) hf0.2.2.2.2.1
     have k5 := cell_regrown (w := W2) hf0.2.2.2.2.2
     have cQ : ∀ d os, Calls Tryz.prog 154 #[.agg #[.int .i64 (i : Int), .int .i64 md], .agg #[.int .i64 (j : Int), .int .i64 x2]] (grow (redrawn W2 d) os) fun e w'' => e = .returned (.bool true) ∧ ∃ p : Regrown, w'' = grow (redrawn W2 p.d) p.os := fun d os => Calls.regrown_of ((hcon _).mono (fun e w' h => ⟨h.1, h.2.below (Nat.le_refl _) (fun _ x => x.elim)⟩))
     clear hf0 hcon
     refine wp_region_quiet_below (by kernel_rfl) (by kernel_rfl) ?_
     repeat (go_big_quiet_step (exact cQ _ _))
     refine wpQuiet_nil ?_
     intro w3 hw3
     obtain ⟨⟨d3, os3⟩, hw3⟩ := hw3
     have hk3 : Kept NoBlk W2 w3 := by rw [hw3]; exact Kept.of_below (below_regrown W2 d3 os3)
     clear hw3 k0 k1 k2 k3 k4 k5 cQ
     have HST3 : Hid (PSt L bs A ow m mu lv (s.withTx (woundL s i md (l.take k) tx1)) w3) := PSt.kept0 HST2.out hk3
     have HKW3 : Hid (Kept (fun b => ∃ j : Int, ow b = (8, j)) w0 w3) := HKW2.out.trans hk3 (fun _ x => x.elim)
     have yj3 := hk3.heap HYJ.out (fun x => x)
     clear hk3 yj3
     go_wp2_with fail
     refine ⟨⟨k + 1, by omega, by go_num, ?_, HKW3.out⟩, by simp [intOf]; omega⟩
     rw [HSN.out, hsd]
     exact HST3.out
  ·obtain rfl : k = n := by omega
   go_wp2_with fail
   go_end0
   have := HST.out
   rw [← HN.out, List.take_length] at this
   exact ⟨rfl, this, (HK0.out.mono (fun _ x => x.elim)).trans' HKW.out⟩
end Go.Proofs.YtmcajfefagdbnaaGreat
namespace Go.Proofs.YtmcajfefagdbnaaGreat
open Go Go.RowKit
open Go.MuLone
def set8 (w : World) (H : Nat) (x0 x1 x2 x3 x4 x5 x6 x7 : Value) : World :=
 (((((((w.setCell ⟨H, 0, none⟩ x0).setCell ⟨H, 1, none⟩ x1).setCell ⟨H, 2, none⟩ x2).setCell ⟨H, 3, none⟩ x3).setCell ⟨H, 4, none⟩ x4).setCell ⟨H, 5, none⟩ x5).setCell ⟨H, 6, none⟩ x6).setCell ⟨H, 7, none⟩ x7
theorem set8_at (w : World) (H : Nat) (x0 x1 x2 x3 x4 x5 x6 x7 y0 y1 y2 y3 y4 y5 y6 y7 : Value) (t : TypeId) (h : w.heap[H]? = some (.cells #[y0, y1, y2, y3, y4, y5, y6, y7] t (0, 0))) :
  (set8 w H x0 x1 x2 x3 x4 x5 x6 x7).heap[H]? = some (.cells #[x0, x1, x2, x3, x4, x5, x6, x7] t (0, 0)) := by
 have h0 : (w.setCell ⟨H, 0, none⟩ x0).heap[H]? = some (.cells #[x0, y1, y2, y3, y4, y5, y6, y7] t (0, 0)) := block_setCell h x0
 have h1 : ((w.setCell ⟨H, 0, none⟩ x0).setCell ⟨H, 1, none⟩ x1).heap[H]? = some (.cells #[x0, x1, y2, y3, y4, y5, y6, y7] t (0, 0)) := block_setCell h0 x1
 have h2 : (((w.setCell ⟨H, 0, none⟩ x0).setCell ⟨H, 1, none⟩ x1).setCell ⟨H, 2, none⟩ x2).heap[H]? = some (.cells #[x0, x1, x2, y3, y4, y5, y6, y7] t (0, 0)) := block_setCell h1 x2
 have h3 : ((((w.setCell ⟨H, 0, none⟩ x0).setCell ⟨H, 1, none⟩ x1).setCell ⟨H, 2, none⟩ x2).setCell ⟨H, 3, none⟩ x3).heap[H]? = some (.cells #[x0, x1, x2, x3, y4, y5, y6, y7] t (0, 0)) := block_setCell h2 x3
 have h4 : (((((w.setCell ⟨H, 0, none⟩ x0).setCell ⟨H, 1, none⟩ x1).setCell ⟨H, 2, none⟩ x2).setCell ⟨H, 3, none⟩ x3).setCell ⟨H, 4, none⟩ x4).heap[H]? = some (.cells #[x0, x1, x2, x3, x4, y5, y6, y7] t (0, 0)) := block_setCell h3 x4
 have h5 : ((((((w.setCell ⟨H, 0, none⟩ x0).setCell ⟨H, 1, none⟩ x1).setCell ⟨H, 2, none⟩ x2).setCell ⟨H, 3, none⟩ x3).setCell ⟨H, 4, none⟩ x4).setCell ⟨H, 5, none⟩ x5).heap[H]? = some (.cells #[x0, x1, x2, x3, x4, x5, y6, y7] t (0, 0)) := block_setCell h4 x5
 have h6 : (((((((w.setCell ⟨H, 0, none⟩ x0).setCell ⟨H, 1, none⟩ x1).setCell ⟨H, 2, none⟩ x2).setCell ⟨H, 3, none⟩ x3).setCell ⟨H, 4, none⟩ x4).setCell ⟨H, 5, none⟩ x5).setCell ⟨H, 6, none⟩ x6).heap[H]? = some (.cells #[x0, x1, x2, x3, x4, x5, x6, y7] t (0, 0)) := block_setCell h5 x6
 have h7 : ((((((((w.setCell ⟨H, 0, none⟩ x0).setCell ⟨H, 1, none⟩ x1).setCell ⟨H, 2, none⟩ x2).setCell ⟨H, 3, none⟩ x3).setCell ⟨H, 4, none⟩ x4).setCell ⟨H, 5, none⟩ x5).setCell ⟨H, 6, none⟩ x6).setCell ⟨H, 7, none⟩ x7).heap[H]? = some (.cells #[x0, x1, x2, x3, x4, x5, x6, x7] t (0, 0)) := block_setCell h6 x7
 exact h7
theorem set8_kept (w : World) (H : Nat) (x0 x1 x2 x3 x4 x5 x6 x7 : Value) : Kept (Blk H) w (set8 w H x0 x1 x2 x3 x4 x5 x6 x7) := by
 unfold set8
 repeat (refine Kept.setCell ?_ (.inl (by rfl)) _)
 exact Kept.refl _ _
theorem seen_one (l : List Saw) : ∀ u ∈ seenCells l, u.oneCell' = true := by
 intro u hu
 simp only [seenCells, List.mem_flatMap] at hu
 obtain ⟨x, _, hx⟩ := hu
 simp at hx
 rcases hx with rfl | rfl | rfl <;> rfl
set_option maxRecDepth 100000 in
set_option maxHeartbeats 3200000 in
theorem pTxn_some {L : Lay} {bs : Nat → Nat} {A : List Nat} {ow : Ow} {m : Nat} {lv : Int} {s : St} {w : World} (h : PSt L bs A ow m 0 lv s w) (i : Nat) (hin : 1 ≤ i ∧ i ≤ s.n) :
  Calls Tryz.prog 23 #[.pointer (some ⟨L.p, 0, none⟩), .int .i64 (i : Int)] w fun e w' => ∃ a k,
   e = .returned (.tuple #[.agg #[.int .i64 (s.tx i).stamp, .int .i64 (s.tx i).state, .int .i64 ((s.tx i).next : Int), .bool (s.tx i).wounded, .bool (s.tx i).waits.isSome, .int .i64 (s.tx i).agains, .slice (some ⟨a, 0, none⟩) 4 4, .slice (some ⟨k, 0, none⟩) (s.tx i).reads.length (s.tx i).reads.length], .int .i64 0]) ∧ w.heap.size ≤ a ∧ w.heap.size ≤ k ∧
   w'.heap[a]? = some (.cells #[.int .i64 ((s.tx i).regs 0), .int .i64 ((s.tx i).regs 1), .int .i64 ((s.tx i).regs 2), .int .i64 ((s.tx i).regs 3)] 3 (0, 0)) ∧ w'.heap[k]? = some (.cells (seenCells (s.tx i).reads).toArray 105 (0, 0)) ∧
   PSt L bs A ow m 0 lv s w' ∧ Kept (OwnP ow) w w' := by
 have hk0 : Kept NoBlk w (w.alloc (.cells #[.int .i64 0, .int .i64 0, .int .i64 0, .bool false, .bool false, .int .i64 0, .slice none 0 0, .slice none 0 0] 69)) := (Kept.refl _ _).alloc _
 have h0 := h.kept0 hk0
 have hH0 : (w.alloc (.cells #[.int .i64 0, .int .i64 0, .int .i64 0, .bool false, .bool false, .int .i64 0, .slice none 0 0, .slice none 0 0] 69)).heap[w.heap.size]? = some (.cells #[.int .i64 0, .int .i64 0, .int .i64 0, .bool false, .bool false, .int .i64 0, .slice none 0 0, .slice none 0 0] 69 (0, 0)) := block_alloc_new w _
 have hpl : L.p < w.heap.size := h.lt _ h.ownP
 have HPL : Hid (w.heap.size ≠ L.p) := by unfold Hid; omega
 have HK0 : Hid (Kept NoBlk w (w.alloc (.cells #[.int .i64 0, .int .i64 0, .int .i64 0, .bool false, .bool false, .int .i64 0, .slice none 0 0, .slice none 0 0] 69))) := hk0
 have HH0 : Hid ((w.alloc (.cells #[.int .i64 0, .int .i64 0, .int .i64 0, .bool false, .bool false, .int .i64 0, .slice none 0 0, .slice none 0 0] 69)).heap[w.heap.size]? = some (.cells #[.int .i64 0, .int .i64 0, .int .i64 0, .bool false, .bool false, .int .i64 0, .slice none 0 0, .slice none 0 0] 69 (0, 0))) := hH0
 have H0 : Hid (PSt L bs A ow m 0 lv s (w.alloc (.cells #[.int .i64 0, .int .i64 0, .int .i64 0, .bool false, .bool false, .int .i64 0, .slice none 0 0, .slice none 0 0] 69))) := h0
 have HOP : Hid (OwnP ow L.p) := h.ownP
 have HNO : Hid (¬ OwnP ow w.heap.size) := fun e => by have := h.lt _ e; omega
 have HI : Hid (1 ≤ i ∧ i ≤ s.n) := hin
 clear h h0 hk0 hH0 hpl hin
 go_enter_defers Tryz.func23, Tryz.ntmps23
 go_wp2_with fail
 generalize (w.alloc (.cells #[.int .i64 0, .int .i64 0, .int .i64 0, .bool false, .bool false, .int .i64 0, .slice none 0 0, .slice none 0 0] 69)) = W0 at *
 refine (lock_free Tryz.muLib ⟨L.p, 0, none⟩ _ H0.out.mucell.1 H0.out.mucell.2).mono ?_
 rintro e w1 ⟨rfl, rfl⟩
 have H1 : Hid (PSt L bs A ow m 1 lv s (W0.setCell ⟨L.p, 0, none⟩ (.int .i32 1))) := H0.out.locked 1
 have HH1 : Hid ((W0.setCell ⟨L.p, 0, none⟩ (.int .i32 1)).heap[w.heap.size]? = some (.cells #[.int .i64 0, .int .i64 0, .int .i64 0, .bool false, .bool false, .int .i64 0, .slice none 0 0, .slice none 0 0] 69 (0, 0))) := (block_setCell_other (a := ⟨L.p, 0, none⟩) (by exact HPL.out) (.int .i32 1)).trans HH0.out
 have HK1 : Hid (Kept (OwnP ow) w (W0.setCell ⟨L.p, 0, none⟩ (.int .i32 1))) := (HK0.out.mono (fun _ x => x.elim)).trans' (H0.out.keptP _)
 generalize W0.setCell ⟨L.p, 0, none⟩ (.int .i32 1) = W1 at *
 clear HH0 HK0 H0
 generalize hHH : w.heap.size = H at *
 have HHH : Hid (w.heap.size = H) := hHH
 clear hHH
 go_wp2_with fail
 obtain ⟨g, off, c, p1, p2⟩ := (H1.out : PSt L bs A ow m 1 lv s W1).ptr HI.out.1 HI.out.2
 refine (find_some L.p g off s.n c i (bs i) W1 p1 p2 HI.out.1 HI.out.2 (H1.out : PSt L bs A ow m 1 lv s W1).nmax).mono ?_
 rintro e w1 ⟨rfl, rfl⟩
 clear p1 p2
 obtain ⟨ov, rv, dv, y1, y2, y3, y4, y5⟩ := (H1.out : PSt L bs A ow m 1 lv s w1).txs i HI.out.1 HI.out.2
 have HT : Hid (Calls Tryz.prog 64 #[.pointer (some ⟨bs i, 0, none⟩)] w1 _) := told_any (bs i) _ ov rv dv _ _ _ _ _ _ _ _ _ _ _ _ w1 y1 y3.1 (seen_one _) y4
 clear y1 y2 y3 y4 y5
 generalize e1 : (s.tx i).stamp = st at *
 generalize e2 : (s.tx i).state = sa at *
 generalize e3 : ((s.tx i).next : Int) = ne at *
 generalize e4 : (s.tx i).wounded = wo at *
 generalize e5 : (s.tx i).waits.isSome = wa at *
 generalize e6 : (s.tx i).agains = ag at *
 generalize e7 : (s.tx i).reads.length = nr at *
 have HEQ : Hid ((s.tx i).stamp = st ∧ (s.tx i).state = sa ∧ ((s.tx i).next : Int) = ne ∧ (s.tx i).wounded = wo ∧ (s.tx i).waits.isSome = wa ∧ (s.tx i).agains = ag ∧ (s.tx i).reads.length = nr) := ⟨e1, e2, e3, e4, e5, e6, e7⟩
 clear e1 e2 e3 e4 e5 e6 e7
 go_wp2_with fail
 refine HT.out.mono ?_
 rintro e w2 ⟨a, k, rfl, ha, hk, hga, hgk, hkw⟩
 have HH2 : Hid (w2.heap[H]? = some (.cells #[.int .i64 0, .int .i64 0, .int .i64 0, .bool false, .bool false, .int .i64 0, .slice none 0 0, .slice none 0 0] 69 (0, 0))) := hkw.heap HH1.out (fun x => x)
 have hlH := lt_of_block HH1.out
 have hpl := H1.out.lt _ HOP.out
 have z0 : w2.cell? ⟨H, 0, none⟩ = some (.int .i64 0) := by rw [cell_at HH2.out]; rfl
 have z1 : w2.cell? ⟨H, 1, none⟩ = some (.int .i64 0) := by rw [cell_at HH2.out]; rfl
 have z2 : w2.cell? ⟨H, 2, none⟩ = some (.int .i64 0) := by rw [cell_at HH2.out]; rfl
 have z3 : w2.cell? ⟨H, 3, none⟩ = some (.bool false) := by rw [cell_at HH2.out]; rfl
 have z4 : w2.cell? ⟨H, 4, none⟩ = some (.bool false) := by rw [cell_at HH2.out]; rfl
 have z5 : w2.cell? ⟨H, 5, none⟩ = some (.int .i64 0) := by rw [cell_at HH2.out]; rfl
 have z6 : w2.cell? ⟨H, 6, none⟩ = some (.slice none 0 0) := by rw [cell_at HH2.out]; rfl
 have z7 : w2.cell? ⟨H, 7, none⟩ = some (.slice none 0 0) := by rw [cell_at HH2.out]; rfl
 have zf : ∀ o, w2.frozen? ⟨H, o, none⟩ = false := fun o => frozen_at HH2.out o
 have H2 : Hid (PSt L bs A ow m 1 lv s w2) := H1.out.kept0 hkw
 have HG : Hid (w2.heap[a]? = _ ∧ w2.heap[k]? = _) := ⟨hga, hgk⟩
 have HKW : Hid (Kept (OwnP ow) w w2) := HK1.out.trans hkw (fun i x => x.elim)
 have HNE : Hid (a ≠ H ∧ k ≠ H ∧ a ≠ L.p ∧ k ≠ L.p ∧ w.heap.size ≤ a ∧ w.heap.size ≤ k) := by
  have := HHH.out
  refine ⟨by omega, by omega, by omega, by omega, by omega, by omega⟩
 clear hga hgk hkw hlH hpl ha hk
 go_wp2_with fail
 have hk2 := set8_kept w2 H (.int .i64 st) (.int .i64 sa) (.int .i64 ne) (.bool wo) (.bool wa) (.int .i64 ag) (.slice (some ⟨a, 0, none⟩) 4 4) (.slice (some ⟨k, 0, none⟩) nr nr)
 have hH2 := set8_at w2 H (.int .i64 st) (.int .i64 sa) (.int .i64 ne) (.bool wo) (.bool wa) (.int .i64 ag) (.slice (some ⟨a, 0, none⟩) 4 4) (.slice (some ⟨k, 0, none⟩) nr nr) _ _ _ _ _ _ _ _ _ HH2.out
 have h2 : PSt L bs A ow m 1 lv s (set8 w2 H (.int .i64 st) (.int .i64 sa) (.int .i64 ne) (.bool wo) (.bool wa) (.int .i64 ag) (.slice (some ⟨a, 0, none⟩) 4 4) (.slice (some ⟨k, 0, none⟩) nr nr)) := (H2.out : PSt L bs A ow m 1 lv s w2).kept hk2 (fun k hk e => by unfold Blk at e; subst e; exact HNO.out hk)
 have hga2 := hk2.heap HG.out.1 HNE.out.1
 have hgk2 := hk2.heap HG.out.2 HNE.out.2.1
 have HK2 : Hid (Kept (OwnP ow) w (set8 w2 H (.int .i64 st) (.int .i64 sa) (.int .i64 ne) (.bool wo) (.bool wa) (.int .i64 ag) (.slice (some ⟨a, 0, none⟩) 4 4) (.slice (some ⟨k, 0, none⟩) nr nr))) := HKW.out.trans hk2 (fun i x => .inr (by cases x; exact Nat.le_of_eq HHH.out))
 rw [show ((((((((w2.setCell ⟨H, 0, none⟩ (.int .i64 st)).setCell ⟨H, 1, none⟩ (.int .i64 sa)).setCell ⟨H, 2, none⟩ (.int .i64 ne)).setCell ⟨H, 3, none⟩ (.bool wo)).setCell ⟨H, 4, none⟩ (.bool wa)).setCell ⟨H, 5, none⟩ (.int .i64 ag)).setCell ⟨H, 6, none⟩ (.slice (some ⟨a, 0, none⟩) 4 4)).setCell ⟨H, 7, none⟩ (.slice (some ⟨k, 0, none⟩) nr nr)) = set8 w2 H (.int .i64 st) (.int .i64 sa) (.int .i64 ne) (.bool wo) (.bool wa) (.int .i64 ag) (.slice (some ⟨a, 0, none⟩) 4 4) (.slice (some ⟨k, 0, none⟩) nr nr) from rfl]
 clear hk2 z0 z1 z2 z3 z4 z5 z6 z7 zf
 generalize set8 w2 H (.int .i64 st) (.int .i64 sa) (.int .i64 ne) (.bool wo) (.bool wa) (.int .i64 ag) (.slice (some ⟨a, 0, none⟩) 4 4) (.slice (some ⟨k, 0, none⟩) nr nr) = W2 at *
 refine leaves_cons (f := 60) (args := #[.pointer (some ⟨L.p, 0, none⟩)]) (by simp) (by simp [go_sem]) ?_
 refine (unlock_deferred Tryz.muLib ⟨L.p, 0, none⟩ .returning _ h2.mucell.1 h2.mucell.2).mono ?_
 rintro e u' w'' ⟨rfl, rfl, rfl⟩
 have h3 := h2.locked 0
 have hH3 := (block_setCell_other (a := ⟨L.p, 0, none⟩) (by exact HPL.out) (.int .i32 0)).trans hH2
 have hga3 := (block_setCell_other (a := ⟨L.p, 0, none⟩) (by exact HNE.out.2.2.1) (.int .i32 0)).trans hga2
 have hgk3 := (block_setCell_other (a := ⟨L.p, 0, none⟩) (by exact HNE.out.2.2.2.1) (.int .i32 0)).trans hgk2
 have hk3 := HK2.out.trans' (h2.keptP (W := W2) (.int .i32 0))
 generalize W2.setCell ⟨L.p, 0, none⟩ (.int .i32 0) = W3 at *
 have k0 : W3.cell? ⟨H, 0, none⟩ = some (.int .i64 st) := by rw [cell_at hH3]; rfl
 have k1 : W3.cell? ⟨H, 1, none⟩ = some (.int .i64 sa) := by rw [cell_at hH3]; rfl
 have k2 : W3.cell? ⟨H, 2, none⟩ = some (.int .i64 ne) := by rw [cell_at hH3]; rfl
 have k3 : W3.cell? ⟨H, 3, none⟩ = some (.bool wo) := by rw [cell_at hH3]; rfl
 have k4 : W3.cell? ⟨H, 4, none⟩ = some (.bool wa) := by rw [cell_at hH3]; rfl
 have k5 : W3.cell? ⟨H, 5, none⟩ = some (.int .i64 ag) := by rw [cell_at hH3]; rfl
 have k6 : W3.cell? ⟨H, 6, none⟩ = some (.slice (some ⟨a, 0, none⟩) 4 4) := by rw [cell_at hH3]; rfl
 have k7 : W3.cell? ⟨H, 7, none⟩ = some (.slice (some ⟨k, 0, none⟩) nr nr) := by rw [cell_at hH3]; rfl
 refine ⟨.tuple #[.agg #[.int .i64 st, .int .i64 sa, .int .i64 ne, .bool wo, .bool wa, .int .i64 ag, .slice (some ⟨a, 0, none⟩) 4 4, .slice (some ⟨k, 0, none⟩) nr nr], .int .i64 0], ?_, a, k, by obtain ⟨e1, e2, e3, e4, e5, e6, e7⟩ := HEQ.out; rw [e1, e2, e3, e4, e5, e6, e7], HNE.out.2.2.2.2.1, HNE.out.2.2.2.2.2, hga3, hgk3, h3, hk3⟩
 simp [results, Tryz.results23, go_sem, k0, k1, k2, k3, k4, k5, k6, k7]
end Go.Proofs.YtmcajfefagdbnaaGreat
