import Derived.Test.YtmcajfefagdbnaaGreatQ21
namespace Go.Proofs.YtmcajfefagdbnaaGreat
open Go Go.RowKit Go.Sort Go.Lib
theorem infoSeenD : (Tryz.prog.info? 105).map (fun i => (i.zero, i.size, i.bytes)) = some (some (.agg #[.int .i64 0, .bool false, .int .i64 0]), 3, 24) := by kernel_rfl
set_option maxRecDepth 20000 in
set_option maxHeartbeats 1600000 in
theorem pdo_read {L : Lay} {bs : Nat → Nat} {A : List Nat} {ow : Ow} {m : Nat} {mu lv : Int} {s : St} {w : World} (h : PSt L bs A ow m mu lv s w) (i : Nat) (hi : i ∈ A) (hst : (s.tx i).state = 0) (hnx : (s.tx i).next < (s.tx i).ops.length) (h12 : (s.tx i).ops.length ≤ 12) (a d : Int) (b : Nat) (ha : inI a) (hb : b < 4) :
  Calls Tryz.prog 97 #[.pointer (some ⟨L.p, 0, none⟩), .pointer (some ⟨bs i, 0, none⟩), .agg #[.int .i64 1, .int .i64 a, .int .i64 (b : Int), .int .i64 d]] w fun e w' => e = .returned (.tuple #[]) ∧ (∃ ow', PSt L bs A ow' (m + 1) mu lv (s.doOp i ⟨1, a, b, d⟩) w' ∧ AgreeP w ow ow') ∧ Kept (OwnP ow) w w' := by
 have hin := h.among i hi
 have hk0 : Kept NoBlk w (w.alloc (.cells #[.int .i64 1, .int .i64 a, .int .i64 (b : Int), .int .i64 d] 114)) := (Kept.refl _ _).alloc _
 have hbx := block_alloc_new w (.cells #[.int .i64 1, .int .i64 a, .int .i64 (b : Int), .int .i64 d] 114)
 have z0 : (w.alloc (.cells #[.int .i64 1, .int .i64 a, .int .i64 (b : Int), .int .i64 d] 114)).cell? ⟨w.heap.size, 0, none⟩ = some (.int .i64 1) := by rw [cell_at hbx]; rfl
 have z1 : (w.alloc (.cells #[.int .i64 1, .int .i64 a, .int .i64 (b : Int), .int .i64 d] 114)).cell? ⟨w.heap.size, 1, none⟩ = some (.int .i64 a) := by rw [cell_at hbx]; rfl
 have z2 : (w.alloc (.cells #[.int .i64 1, .int .i64 a, .int .i64 (b : Int), .int .i64 d] 114)).cell? ⟨w.heap.size, 2, none⟩ = some (.int .i64 (b : Int)) := by rw [cell_at hbx]; rfl
 have h0 := h.kept0 hk0
 obtain ⟨u, tv, wv, b1, c3, c6, c7, c4, b2⟩ := h0.cells
 have HH : Hid (PSt L bs A ow m mu lv s w) := h
 have HH0 : Hid (PSt L bs A ow m mu lv s (w.alloc (.cells #[.int .i64 1, .int .i64 a, .int .i64 (b : Int), .int .i64 d] 114))) := h0
 have HK0 : Hid (Kept NoBlk w (w.alloc (.cells #[.int .i64 1, .int .i64 a, .int .i64 (b : Int), .int .i64 d] 114))) := hk0
 have HIN : Hid (1 ≤ i ∧ i ≤ s.n) := hin
 have HHY : Hid ((s.tx i).state = 0 ∧ (s.tx i).next < (s.tx i).ops.length ∧ (s.tx i).ops.length ≤ 12) := ⟨hst, hnx, h12⟩
 have HLK : Hid (∀ W : World, Kept NoBlk (w.alloc (.cells #[.int .i64 1, .int .i64 a, .int .i64 (b : Int), .int .i64 d] 114)) W → (Instr.lookup 122 (.map (some L.vb)) (.int .i64 a) true).run Tryz.prog W = .ok (.tuple #[.int .i64 ((s.rows a).getD 0), .bool (s.rows a).isSome]) W) := by
  intro W hk
  have hl := (h0.vals.kept hk (fun x => x)).look_ok Tryz.underlying122 (zeroInt _) (a := a) ha
  cases e : s.rows a <;> (simp only [ivals, e, Option.map_none, Option.map_some, Option.getD_none, Option.getD_some, Option.isSome_none, Option.isSome_some] at hl ⊢; exact hl)
 have hl0 := HLK.out _ (Kept.refl _ _)
 have hl1 := HLK.out _ (Kept.refl _ _).drew
 obtain ⟨c5, cr, cf⟩ := h0.tcells hin
 have cb := cr b hb
 clear h h0 hk0 hbx b1 b2 c6 c7 c4 hin hst hnx h12 cr
 go_enter Tryz.func97, Tryz.ntmps97
 go_wp2_with fail
 generalize w.alloc (.cells #[.int .i64 1, .int .i64 a, .int .i64 (b : Int), .int .i64 d] 114) = W0 at *
 go_region
 clear hl0 hl1
 generalize hv : (s.rows a).getD 0 = v at *
 generalize hth : (s.rows a).isSome = th at *
 have HV : Hid ((s.rows a).getD 0 = v ∧ (s.rows a).isSome = th) := ⟨hv, hth⟩
 clear hv hth
 go_wp2_with fail
 go_region
 obtain ⟨ov, rv, dv, y1, y2, y3, y4, y5⟩ := (HH0.out : PSt L bs A ow m mu lv s W0).txs i HIN.out.1 HIN.out.2
 obtain ⟨ar, cap, rfl, _, _⟩ := y3.1.form
 obtain ⟨ye, yl⟩ := y5 HHY.out.1
 have hwb : w.heap.size ≠ bs i := fun e => by
  have h1 := (HH.out : PSt L bs A ow m mu lv s w).lt (bs i) (by rw [y2]; exact tagNe (by omega))
  omega
 have HB1 : Hid ((W0.setCell ⟨bs i, 8 + b, none⟩ (.int .i64 v)).drew.drew.heap[bs i]? = some (.cells ((#[.int .i64 (i : Int), ov, .int .i64 (s.tx i).stamp, .int .i64 (s.tx i).state, .int .i64 (s.tx i).agains, .int .i64 ((s.tx i).next : Int), .bool (s.tx i).wounded, .bool (s.tx i).waits.isSome, .int .i64 ((s.tx i).regs 0), .int .i64 ((s.tx i).regs 1), .int .i64 ((s.tx i).regs 2), .int .i64 ((s.tx i).regs 3), .slice ar (s.tx i).reads.length cap, dv] : Array Value).setIfInBounds (8 + b) (.int .i64 v)) 146 (0, 0))) := block_setCell y1 _
 have HK1 : Hid (Kept (Blk (bs i)) W0 (W0.setCell ⟨bs i, 8 + b, none⟩ (.int .i64 v)).drew.drew) := (Kept.set1 W0 (bs i) (8 + b) (.int .i64 v)).drew.drew
 have d12 : (W0.setCell ⟨bs i, 8 + b, none⟩ (.int .i64 v)).drew.drew.cell? ⟨bs i, 12, none⟩ = some (.slice ar (s.tx i).reads.length cap) := (World.cell?_setCell_other W0 ⟨bs i, 8 + b, none⟩ ⟨bs i, 12, none⟩ (.int .i64 v) (by intro e; simp only [Addr.mk.injEq] at e; omega)).trans (by rw [cell_at y1]; rfl)
 have d5 : (W0.setCell ⟨bs i, 8 + b, none⟩ (.int .i64 v)).drew.drew.cell? ⟨bs i, 5, none⟩ = some (.int .i64 ((s.tx i).next : Int)) := (World.cell?_setCell_other W0 ⟨bs i, 8 + b, none⟩ ⟨bs i, 5, none⟩ (.int .i64 v) (by intro e; simp only [Addr.mk.injEq] at e; omega)).trans c5
 have dz : (W0.setCell ⟨bs i, 8 + b, none⟩ (.int .i64 v)).drew.drew.cell? ⟨w.heap.size, 1, none⟩ = some (.int .i64 a) := (World.cell?_setCell_other W0 ⟨bs i, 8 + b, none⟩ ⟨w.heap.size, 1, none⟩ (.int .i64 v) (by intro e; simp only [Addr.mk.injEq] at e; exact hwb e.1.symm)).trans z1
 have HY1 : Hid (W0.heap[bs i]? = some (.cells #[.int .i64 (i : Int), ov, .int .i64 (s.tx i).stamp, .int .i64 (s.tx i).state, .int .i64 (s.tx i).agains, .int .i64 ((s.tx i).next : Int), .bool (s.tx i).wounded, .bool (s.tx i).waits.isSome, .int .i64 ((s.tx i).regs 0), .int .i64 ((s.tx i).regs 1), .int .i64 ((s.tx i).regs 2), .int .i64 ((s.tx i).regs 3), .slice ar (s.tx i).reads.length cap, dv] 146 (0, 0))) := y1
 have HY2 : Hid (ow (bs i) = (8, (i : Int))) := y2
 have HY3 : Hid (RowT ow (9, i) W0 105 3 (.slice ar (s.tx i).reads.length cap) (s.tx i).reads.length (seenCells (s.tx i).reads)) := y3
 have HY5 : Hid ((s.tx i).reads.length ≤ (s.tx i).next ∧ LiveAt ow L.p W0 i (s.tx i) ov dv) := ⟨ye, yl⟩
 have HPR : Hid (¬ (Value.slice ar (s.tx i).reads.length cap).ownBlock = some (bs i)) := fun e => by have := y3.2 _ e; rw [y2] at this; exact tagNe (by omega) this
 have HROW : Hid (RowAt (W0.setCell ⟨bs i, 8 + b, none⟩ (.int .i64 v)).drew.drew 105 3 (.slice ar (s.tx i).reads.length cap) (s.tx i).reads.length (seenCells (s.tx i).reads)) := y3.1.kept HK1.out (fun k hk e => by unfold Blk at e; subst e; exact HPR.out hk)
 have HLE : Hid ((s.tx i).next ≤ 12 ∧ (s.tx i).reads.length + 1 ≤ maxLen ∧ ((s.tx i).reads.length + 1) * 24 ≤ 140737488355328) := by
  have h1 := HHY.out
  have h2 := HY5.out.1
  refine ⟨by omega, by unfold maxLen; omega, by omega⟩
 clear y1 y2 y3 y4 y5 ye yl c5 c3 z0 z1 z2 cf cb hwb
 generalize (W0.setCell ⟨bs i, 8 + b, none⟩ (.int .i64 v)).drew.drew = W1 at *
 generalize hnr : (s.tx i).reads.length = n at *
 have e12 : ∀ o, (W1.alloc o).cell? ⟨bs i, 12, none⟩ = some (.slice ar n cap) := fun o => ((Kept.refl NoBlk W1).alloc o).cell0 d12
 have ez : ∀ o, (W1.alloc o).cell? ⟨w.heap.size, 1, none⟩ = some (.int .i64 a) := fun o => ((Kept.refl NoBlk W1).alloc o).cell0 dz
 obtain ⟨i1, hi1, hy0, hy1, hy2⟩ := info_parts infoSeenD
 have HI : Hid (Tryz.prog.info? 105 = some i1 ∧ i1.zero = some (.agg #[.int .i64 0, .bool false, .int .i64 0]) ∧ i1.size = 3 ∧ i1.bytes = 24) := ⟨hi1, hy0, hy1, hy2⟩
 have HD12 : Hid (W1.cell? ⟨bs i, 12, none⟩ = some (.slice ar n cap)) := d12
 have HD5 : Hid (W1.cell? ⟨bs i, 5, none⟩ = some (.int .i64 ((s.tx i).next : Int))) := d5
 have HNR : Hid ((s.tx i).reads.length = n) := hnr
 clear hi1 hy0 hy1 hy2 d5 hnr
 go_wp2_with fail
 refine' cutB2 (X := Option Addr) (Y := Nat) _ (fun ao' c' w6 => ∃ w5, RowAt w5 105 3 (.slice ao' (n + 1) c') (n + 1) (seenCells (s.tx i).reads ++ [.int .i64 a, .bool th, .int .i64 v]) ∧ Moved (W1.alloc (.cells #[.int .i64 a, .bool th, .int .i64 v] 105)).drew w5 (.slice ar n cap) (.slice ao' (n + 1) c') (n + 1) ∧ w6 = w5.setCell ⟨bs i, 12, none⟩ (.slice ao' (n + 1) c')) ?_ ?_
 rotate_left
 ·go_region_law (refine step_append_row (by rfl) _ _ 61 (by rfl) 105 i1 _ 3 24 Tryz.underlying61 HI.out.1 HI.out.2.1 HI.out.2.2.1 HI.out.2.2.2 (by rfl) (.slice ar n cap) n (seenCells (s.tx i).reads) (by rfl) (RowAt.kept HROW.out ((Kept.refl NoBlk W1).alloc _).drew (fun _ _ x => x)) (.slice (some ⟨W1.heap.size, 0, none⟩) 1 1) 1 [.int .i64 a, .bool th, .int .i64 v] (by rfl) (FromMem.drew (from_new3 W1 _ _ _ _ rfl rfl rfl)) HLE.out.2.1 HLE.out.2.2 ?_; intro ao' c' w5 hrow5 hmv5; have q12 := hmv5.keptOf.cell ((((Kept.refl NoBlk W1).alloc _).drew).cell0 HD12.out) HPR.out; have qf12 : w5.frozen? ⟨bs i, 12, none⟩ = false := frozen_at (hmv5.keptOf.heap ((((Kept.refl NoBlk W1).alloc _).drew).heap HB1.out (fun x => x)) HPR.out) 12)
  all_goals (refine ⟨ao', c', ?_, w5, hrow5, hmv5, rfl⟩; exact rfl)
 rintro ao' c' w6 ⟨w5, hrow5, hmv5, rfl⟩
 have hb5 := hmv5.keptOf.heap ((((Kept.refl NoBlk W1).alloc _).drew).heap HB1.out (fun x => x)) HPR.out
 have hb6 := block_setCell (o := 12) hb5 (.slice ao' (n + 1) c')
 have g5 : (w5.setCell ⟨bs i, 12, none⟩ (.slice ao' (n + 1) c')).cell? ⟨bs i, 5, none⟩ = some (.int .i64 ((s.tx i).next : Int)) :=
  (World.cell?_setCell_other w5 ⟨bs i, 12, none⟩ ⟨bs i, 5, none⟩ _ (by intro e; simp only [Addr.mk.injEq] at e; omega)).trans (hmv5.keptOf.cell ((((Kept.refl NoBlk W1).alloc _).drew).cell0 HD5.out) HPR.out)
 have gf5 : (w5.setCell ⟨bs i, 12, none⟩ (.slice ao' (n + 1) c')).frozen? ⟨bs i, 5, none⟩ = false := frozen_at hb6 5
 have hb7 := block_setCell (o := 5) hb6 (.int .i64 (((s.tx i).next : Int) + 1))
 have HF : Hid ((∃ ow', PSt L bs A ow' (m + 1) mu lv (s.doOp i ⟨1, a, b, d⟩) ((w5.setCell ⟨bs i, 12, none⟩ (.slice ao' (n + 1) c')).setCell ⟨bs i, 5, none⟩ (.int .i64 (((s.tx i).next : Int) + 1))) ∧ AgreeP w ow ow') ∧ Kept (OwnP ow) w ((w5.setCell ⟨bs i, 12, none⟩ (.slice ao' (n + 1) c')).setCell ⟨bs i, 5, none⟩ (.int .i64 (((s.tx i).next : Int) + 1)))) := by
  obtain ⟨hv, hth⟩ := HV.out
  have hx : sawOf s.rows a = ⟨a, th, v⟩ := by unfold sawOf; rw [hv, hth]
  obtain ⟨z1, z2⟩ := (HH0.out : PSt L bs A ow m mu lv s W0).readT i HIN.out HHY.out.2.1 (upd (s.tx i).regs (b : Int) v) ⟨a, th, v⟩ HNR.out HY5.out.1 HY3.out HY5.out.2 HK1.out ((Kept.refl NoBlk W1).alloc _).drew hmv5 hrow5 ((Kept.set1 w5 (bs i) 12 _).trans' (Kept.set1 _ (bs i) 5 (.int .i64 (((s.tx i).next : Int) + 1)))) (by
   rw [hb7]
   match b, hb with
   | 0, _ => rfl
   | 1, _ => rfl
   | 2, _ => rfl
   | 3, _ => rfl)
  refine ⟨⟨_, (z1.mono (Nat.le_succ _)).congr rfl rfl rfl rfl ?_ rfl, fun k hk => giveAll_agree ow W0 _ _ k (Nat.lt_of_lt_of_le hk HK0.out.size)⟩, (HK0.out.mono (fun _ x => x.elim)).trans' z2⟩
  show upd s.tx i _ = upd s.tx i _
  rw [hx, hv]
 have HN : Hid ((s.tx i).next ≤ 12) := HLE.out.1
 have hn12 : (s.tx i).next ≤ 12 := HLE.out.1
 clear hb5 hb6 hb7 hrow5 hmv5
 generalize w5.setCell ⟨bs i, 12, none⟩ (.slice ao' (n + 1) c') = W6 at *
 generalize (s.tx i).next = nx at *
 go_wp2_with fail
 go_end0
 exact ⟨rfl, HF.out⟩
end Go.Proofs.YtmcajfefagdbnaaGreat
namespace Go.Proofs.YtmcajfefagdbnaaGreat
open Go Go.RowKit Go.Sort Go.Lib
theorem PSt.turnTV {L : Lay} {bs : Nat → Nat} {A : List Nat} {ow ow' : Ow} {m m' : Nat} {mu lv : Int} {s : St} {w w' : World} (h : PSt L bs A ow m mu lv s w) (j : Nat) (t' : Tx) {r : Int → Option Int} (hk : Kept (fun k => ow k = (8, (j : Int)) ∨ ow k = (9, (j : Int)) ∨ ow k = (2, 0)) w w') (ha : AgreeP w ow ow') (hlt : ∀ k, ow' k ≠ (0, 0) → k < w'.heap.size)
  (hmm : m ≤ m') (hm : MapAt keyI w' L.vb m' (ivals r)) (hd : ∀ k, r k ≠ none → inI k) (ht : 1 ≤ j → j ≤ s.n → TxnAt ow' L.p w' j (bs j) t') : PSt L bs A ow' m' mu lv ((s.withTx (upd s.tx j t')).withRows r) w' := by
 obtain ⟨t1, t2, t3, t4⟩ := h.tags
 have hb : ∀ k, k < w.heap.size → ow k ≠ (8, (j : Int)) → ow k ≠ (9, (j : Int)) → ow k ≠ (2, 0) → w'.heap[k]? = w.heap[k]? := fun k hk1 n1 n2 n3 => hk.block k hk1 (fun e => e.elim n1 (fun e => e.elim n2 n3))
 have hb' : ∀ {t : Nat × Int}, t.1 ≠ 8 → t.1 ≠ 9 → t.1 ≠ 2 → ∀ k, k < w.heap.size → ow k = t → w'.heap[k]? = w.heap[k]? := fun n1 n2 n3 k hk1 e => hb k hk1 (fun e' => n1 (by rw [← e, e'])) (fun e' => n2 (by rw [← e, e'])) (fun e' => n3 (by rw [← e, e']))
 obtain ⟨u, tv, wv, b1, b2, b3⟩ := h.body
 obtain ⟨qf, q1, q2⟩ := h.que
 refine ⟨hlt, ⟨by rw [ha _ (lt_of_block b1)]; exact t1, by rw [ha _ h.vals.lt]; exact t2, by rw [ha _ h.hold.lt]; exact t3, by rw [ha _ q1.lt]; exact t4⟩, ⟨u, tv, wv, by rw [hb' (by simp) (by simp) (by simp) _ (lt_of_block b1) t1]; exact b1, b2.kept ha (hb' (by simp) (by simp) (by simp)), b3.kept ha (hb' (by simp) (by simp) (by simp))⟩,
  hm, (h.hold.of_same (hb' (by simp) (by simp) (by simp) _ h.hold.lt t3)).mono hmm, ⟨qf, (q1.of_same (hb' (by simp) (by simp) (by simp) _ q1.lt t4)).mono (Nat.add_le_add_right hmm _), fun k => (q2 k).kept ha (hb' (by simp) (by simp) (by simp))⟩,
  fun i hi hn => ?_, h.few, h.among, h.hdom, h.qdom, hd, h.nmax⟩
 show TxnAt ow' L.p w' i (bs i) (upd s.tx j t' i)
 by_cases e : i = j
 ·subst e
  rw [upd_same]
  exact ht hi hn
 ·rw [upd_other _ _ _ _ e]
  have e2 : (i : Int) ≠ (j : Int) := by omega
  refine (h.txs i hi hn).kept ha (fun k hk1 ek => hb k hk1 ?_ ?_ ?_)
  ·rcases ek with ek | ek <;> (rw [ek]; intro x; simp only [Prod.mk.injEq] at x; omega)
  ·rcases ek with ek | ek <;> (rw [ek]; intro x; simp only [Prod.mk.injEq] at x; omega)
  ·rcases ek with ek | ek <;> (rw [ek]; intro x; simp only [Prod.mk.injEq] at x; omega)
theorem saw_old (f : Int → Option Int) (k : Int) : (sawOf f k).old = f k := by
 unfold sawOf Saw.old
 cases f k <;> rfl
theorem PSt.writeT {L : Lay} {bs : Nat → Nat} {A : List Nat} {ow : Ow} {m : Nat} {mu lv : Int} {s : St} {W0 w1 Wa w5 w6 w7 w' : World} (h : PSt L bs A ow m mu lv s W0) (i : Nat) (hin : 1 ≤ i ∧ i ≤ s.n) (hnx : (s.tx i).next < (s.tx i).ops.length) (a : Int) (ha : inI a) {r : Int → Option Int} (hr : ∀ k, r k ≠ none → inI k) {x0 : FuncId × Array Value} {cs : List (FuncId × Array Value)} {ov rv dv : Value} {ao : Option Addr} {c n : Nat}
  (hn : (s.tx i).undo.length = n) (hle : n ≤ (s.tx i).next) (hrv : RowT ow (9, i) W0 105 3 rv (s.tx i).reads.length (seenCells (s.tx i).reads)) (hrl : (s.tx i).reads.length ≤ (s.tx i).next)
  (l1 : RowT ow (9, i) W0 114 4 ov (s.tx i).ops.length (opCells (s.tx i).ops)) (l2 : (s.tx i).ops.length ≤ 12) (l3 : ∀ o ∈ (s.tx i).ops, OpWf o) (l6 : RowT ow (9, i) W0 1 1 dv n (cs.map fnOf)) (l7 : Backs W0 (fun k => ow k = (9, (i : Int))) L.p (s.tx i).undo cs.reverse)
  (hk1 : Kept NoBlk W0 w1) (hp : PutsBack w1 (fun k => W0.heap.size ≤ k) L.p (fnOf x0) a (s.rows a)) (hka : Kept NoBlk w1 Wa) (hmv : Moved Wa w5 dv (.slice ao (n + 1) c) (n + 1)) (hrow : RowAt w5 1 1 (.slice ao (n + 1) c) (n + 1) (cs.map fnOf ++ [fnOf x0])) (hk6 : Kept (Blk (bs i)) w5 w6) (hk7 : Kept (Blk L.vb) w6 w7) (hk8 : Kept (Blk (bs i)) w7 w') (hm : MapAt keyI w' L.vb (m + 1) (ivals r))
  (hblk : w'.heap[bs i]? = some (.cells #[.int .i64 (i : Int), ov, .int .i64 (s.tx i).stamp, .int .i64 (s.tx i).state, .int .i64 (s.tx i).agains, .int .i64 (((s.tx i).next + 1 : Nat) : Int), .bool (s.tx i).wounded, .bool (s.tx i).waits.isSome, .int .i64 ((s.tx i).regs 0), .int .i64 ((s.tx i).regs 1), .int .i64 ((s.tx i).regs 2), .int .i64 ((s.tx i).regs 3), rv, .slice ao (n + 1) c] 146 (0, 0))) :
  PSt L bs A (giveAll ow W0.heap.size w'.heap.size (9, (i : Int))) (m + 1) mu lv ((s.withTx (upd s.tx i { s.tx i with next := (s.tx i).next + 1, undo := sawOf s.rows a :: (s.tx i).undo })).withRows r) w' ∧ Kept (OwnP ow) W0 w' := by
 obtain ⟨hbt, hbo⟩ := h.ownT hin
 obtain ⟨t1, t2, t3, t4⟩ := h.tags
 have hblt : bs i < W0.heap.size := h.lt _ hbo
 have hvlt : L.vb < W0.heap.size := h.vals.lt
 have hk5 : Kept (fun k => k = bs i ∨ dv.ownBlock = some k ∨ k = L.vb) w1 w' := ((((hka.mono (fun _ x => x.elim)).trans hmv.keptOf (fun k e => .inl (.inr (.inl e)))).trans hk6 (fun k e => .inl (.inl (by unfold Blk at e; exact e)))).trans hk7 (fun k e => .inl (.inr (.inr (by unfold Blk at e; exact e))))).trans hk8 (fun k e => .inl (.inl (by unfold Blk at e; exact e)))
 have hkf : Kept (fun k => k = bs i ∨ dv.ownBlock = some k ∨ k = L.vb) W0 w' := (hk1.mono (fun _ x => x.elim)).trans' hk5
 have hk2 : Kept (fun k => ow k = (8, (i : Int)) ∨ ow k = (9, (i : Int)) ∨ ow k = (2, 0)) W0 w' := hkf.mono (fun k e => by
  rcases e with e | e | e
  ·subst e; exact .inl hbt
  ·exact .inr (.inl (l6.2 k e))
  ·subst e; exact .inr (.inr t2))
 have hag := giveAll_agree ow W0 w'.heap.size (9, (i : Int))
 have hsz : W0.heap.size ≤ w'.heap.size := hkf.size
 have n9 : ∀ k, ow k = (9, (i : Int)) → k ≠ bs i := fun k e e' => by subst e'; rw [hbt] at e; exact tagNe (by omega) e
 have nv : ∀ k, ow k = (9, (i : Int)) → k ≠ L.vb := fun k e e' => by subst e'; rw [t2] at e; exact tagNe (by omega) e
 have s1 := hk1.size
 have s2 := hka.size
 refine ⟨h.turnTV i _ hk2 hag (giveAll_lt hsz) (Nat.le_succ _) hm hr (fun _ _ => ?_), hk2.mono (fun k e => by unfold OwnP; rcases e with e | e | e <;> (rw [e]; exact tagNe (by omega)))⟩
 have hl : (sawOf s.rows a :: (s.tx i).undo).length = n + 1 := by rw [List.length_cons, hn]
 have hc : (cs ++ [x0]).map fnOf = cs.map fnOf ++ [fnOf x0] := by simp
 refine ⟨ov, rv, .slice ao (n + 1) c, hblk, by rw [hag _ hblt]; exact hbt, ⟨?_, ?_⟩, by show (s.tx i).reads.length ≤ 12; omega, fun _ => ⟨Nat.le_succ_of_le hrl, ⟨?_, ?_⟩, l2, l3, hnx, by show (sawOf s.rows a :: (s.tx i).undo).length ≤ _ + 1; omega, cs ++ [x0], ⟨?_, ?_⟩, ?_⟩⟩
 ·exact hrv.1.kept hkf (fun k hk e => e.elim (n9 k (hrv.2 k hk)) (fun e => e.elim (hrv.1.apart l6.1 (by decide) hk) (nv k (hrv.2 k hk))))
 ·intro k hk; rw [hag k (hrv.1.lt k hk)]; exact hrv.2 k hk
 ·exact l1.1.kept hkf (fun k hk e => e.elim (n9 k (l1.2 k hk)) (fun e => e.elim (l1.1.apart l6.1 (by decide) hk) (nv k (l1.2 k hk))))
 ·intro k hk; rw [hag k (l1.1.lt k hk)]; exact l1.2 k hk
 ·show RowAt w' _ 1 _ (sawOf s.rows a :: (s.tx i).undo).length ((cs ++ [x0]).map fnOf)
  rw [hl, hc]
  refine hrow.kept ((hk6.mono (S' := fun k => k = bs i ∨ k = L.vb) (fun k e => .inl (by unfold Blk at e; exact e))).trans hk7 (fun k e => .inl (.inr (by unfold Blk at e; exact e))) |>.trans hk8 (fun k e => .inl (.inl (by unfold Blk at e; exact e)))) (fun k hk e => ?_)
  rcases hmv.fresh k hk with y | y
  ·rcases e with e | e
   ·exact n9 k (l6.2 k y) e
   ·exact nv k (l6.2 k y) e
  ·rcases e with e | e <;> omega
 ·intro k hk
  rcases hmv.fresh k hk with y | y
  ·rw [hag k (l6.1.lt k y)]; exact l6.2 k y
  ·exact giveAll_new (by omega) (Nat.lt_of_lt_of_le (hrow.lt k hk) (Nat.le_trans hk6.size (Nat.le_trans hk7.size hk8.size)))
 ·have e1 : (cs ++ [x0]).reverse = x0 :: cs.reverse := by simp
  show Backs w' _ L.p (sawOf s.rows a :: (s.tx i).undo) _
  rw [e1]
  refine ⟨?_, ha, ?_⟩
  ·rw [saw_old]
   refine hp.of_same (fun k hk e => giveAll_new e (Nat.lt_of_lt_of_le hk hk5.size)) (fun k hk e => hk5.block k hk (fun e' => ?_))
   rcases e' with e' | e' | e'
   ·omega
   ·have := l6.1.lt k e'; omega
   ·omega
  ·refine Backs.of_same (fun k hk e => by rw [hag k hk]; exact e.1) (fun k hk e => hkf.block k hk (fun e' => ?_)) l7.typed
   rcases e' with e' | e' | e'
   ·exact n9 k e.1 e'
   ·exact l6.1.noBox (by decide) (by decide) e' e.2
   ·exact nv k e.1 e'
theorem putBack_fn (p vb n : Nat) (row : Int) (f : Int → Option Int) (w : World) (hp : w.cell? ⟨p, 3, none⟩ = some (.map (some vb))) (hm : MapAt keyI w vb n (ivals f)) (hr : inI row) :
  Calls Tryz.prog 132 #[.pointer (some ⟨p, 0, none⟩), .int .i64 row] w fun e w' => ∃ x : FuncId × Array Value, e = .returned (fnOf x) ∧ PutsBack w' (fun k => w.heap.size ≤ k) p (fnOf x) row (f row) ∧ Kept NoBlk w w' := by
 cases hv : f row with
 | none =>
  refine (putBack_none p vb n row f w hp hm hr hv).mono ?_
  rintro e w' ⟨c, rfl, h1, h2⟩
  rw [hv] at h1
  obtain ⟨s, r, rfl, h3⟩ := h1
  exact ⟨(_, _), rfl, ⟨s, r, rfl, h3⟩, h2⟩
 | some v =>
  refine (putBack_some p vb n row v f w hp hm hr hv).mono ?_
  rintro e w' ⟨c, rfl, h1, h2⟩
  rw [hv] at h1
  obtain ⟨x, s, r, rfl, h3⟩ := h1
  exact ⟨(_, _), rfl, ⟨x, s, r, rfl, h3⟩, h2⟩
theorem infoFn : (Tryz.prog.info? 1).map (fun i => (i.zero, i.size, i.bytes)) = some (some .nilFunc, 1, 8) := by kernel_rfl
end Go.Proofs.YtmcajfefagdbnaaGreat
namespace Go.Proofs.YtmcajfefagdbnaaGreat
open Go Go.RowKit Go.Sort Go.Lib
def CutP5 {X Y Z U V : Type} (f : X → Y → Z → U → V → Act) (R : X → Y → Z → U → V → World → Prop) (a : Act) (w : World) : Prop := ∃ x y z u v, a = f x y z u v ∧ R x y z u v w
theorem cutB5 {P : Program} {c : Code} {n : Nat} {K : Act → World → Prop} {Q : Exit → Act → World → Prop} {a : Act} {w : World} {X Y Z U V : Type} (f : X → Y → Z → U → V → Act) (R : X → Y → Z → U → V → World → Prop) (h1 : c.wp P (Exit.then (CutP5 f R) (Exit.inBlock n Q)) a w) (h2 : ∀ x y z u v w', R x y z u v w' → Exit.then K (Exit.inBlock n Q) .normal (f x y z u v) w') : c.wp P (Exit.then K (Exit.inBlock n Q)) a w :=
 Code.wp_mono (by intro e a w h; cases e <;> first | exact h | (obtain ⟨x, y, z, u, v, rfl, h⟩ := h; exact h2 _ _ _ _ _ _ h)) h1
set_option maxRecDepth 20000 in
set_option maxHeartbeats 1600000 in
theorem pdo_write {L : Lay} {bs : Nat → Nat} {A : List Nat} {ow : Ow} {m : Nat} {mu lv : Int} {s : St} {w : World} (h : PSt L bs A ow m mu lv s w) (i : Nat) (hi : i ∈ A) (hst : (s.tx i).state = 0) (hnx : (s.tx i).next < (s.tx i).ops.length) (a d : Int) (b : Nat) (ha : inI a) (hb : b < 4) (hmm : m + 1000 ≤ 1099511627776) :
  Calls Tryz.prog 97 #[.pointer (some ⟨L.p, 0, none⟩), .pointer (some ⟨bs i, 0, none⟩), .agg #[.int .i64 2, .int .i64 a, .int .i64 (b : Int), .int .i64 d]] w fun e w' => e = .returned (.tuple #[]) ∧ (∃ ow', PSt L bs A ow' (m + 1) mu lv (s.doOp i ⟨2, a, b, d⟩) w' ∧ AgreeP w ow ow') ∧ Kept (OwnP ow) w w' := by
 have hin := h.among i hi
 have hk0 : Kept NoBlk w (w.alloc (.cells #[.int .i64 2, .int .i64 a, .int .i64 (b : Int), .int .i64 d] 114)) := (Kept.refl _ _).alloc _
 have hbx := block_alloc_new w (.cells #[.int .i64 2, .int .i64 a, .int .i64 (b : Int), .int .i64 d] 114)
 have z0 : (w.alloc (.cells #[.int .i64 2, .int .i64 a, .int .i64 (b : Int), .int .i64 d] 114)).cell? ⟨w.heap.size, 0, none⟩ = some (.int .i64 2) := by rw [cell_at hbx]; rfl
 have z1 : (w.alloc (.cells #[.int .i64 2, .int .i64 a, .int .i64 (b : Int), .int .i64 d] 114)).cell? ⟨w.heap.size, 1, none⟩ = some (.int .i64 a) := by rw [cell_at hbx]; rfl
 have z2 : (w.alloc (.cells #[.int .i64 2, .int .i64 a, .int .i64 (b : Int), .int .i64 d] 114)).cell? ⟨w.heap.size, 2, none⟩ = some (.int .i64 (b : Int)) := by rw [cell_at hbx]; rfl
 have HZ : Hid ((w.alloc (.cells #[.int .i64 2, .int .i64 a, .int .i64 (b : Int), .int .i64 d] 114)).heap[w.heap.size]? = some (.cells #[.int .i64 2, .int .i64 a, .int .i64 (b : Int), .int .i64 d] 114 (0, 0))) := hbx
 have h0 := h.kept0 hk0
 have HH : Hid (PSt L bs A ow m mu lv s w) := h
 have HH0 : Hid (PSt L bs A ow m mu lv s (w.alloc (.cells #[.int .i64 2, .int .i64 a, .int .i64 (b : Int), .int .i64 d] 114))) := h0
 have HK0 : Hid (Kept NoBlk w (w.alloc (.cells #[.int .i64 2, .int .i64 a, .int .i64 (b : Int), .int .i64 d] 114))) := hk0
 have HIN : Hid (1 ≤ i ∧ i ≤ s.n) := hin
 have HHY : Hid ((s.tx i).state = 0 ∧ (s.tx i).next < (s.tx i).ops.length) := ⟨hst, hnx⟩
 clear h h0 hk0 hbx hin hst hnx
 go_enter Tryz.func97, Tryz.ntmps97
 go_wp2_with fail
 generalize w.alloc (.cells #[.int .i64 2, .int .i64 a, .int .i64 (b : Int), .int .i64 d] 114) = W0 at *
 obtain ⟨ov, rv, dv, y1, y2, y3, y4, y5⟩ := (HH0.out : PSt L bs A ow m mu lv s W0).txs i HIN.out.1 HIN.out.2
 obtain ⟨yr, l1, l2, l3, l4, l5, cs, l6, l7⟩ := y5 HHY.out.1
 obtain ⟨ad, cap, rfl, _, _⟩ := l6.1.form
 obtain ⟨u, tv, wv, b1, c3, c6, c7, c4, b2⟩ := (HH0.out : PSt L bs A ow m mu lv s W0).cells
 have hwb : w.heap.size ≠ bs i := fun e => by
  have h1 := (HH.out : PSt L bs A ow m mu lv s w).lt (bs i) (by rw [y2]; exact tagNe (by omega))
  omega
 have HPB : Hid (Calls Tryz.prog 132 #[.pointer (some ⟨L.p, 0, none⟩), .int .i64 a] W0.drew fun e w' => ∃ f0 caps, e = .returned (.func (.func f0) #[] caps) ∧ PutsBack w' (fun k => W0.heap.size ≤ k) L.p (fnOf (f0, caps)) a (s.rows a) ∧ Kept NoBlk W0.drew w') := (putBack_fn L.p L.vb m a s.rows W0.drew c3 (show MapAt keyI W0.drew L.vb m (ivals s.rows) from (HH0.out : PSt L bs A ow m mu lv s W0).vals.kept (Kept.refl NoBlk W0).drew (fun x => x)) ha).mono (by rintro e w' ⟨⟨f0, caps⟩, h1, h2, h3⟩; exact ⟨f0, caps, h1, h2, h3⟩)
 have d13 : W0.cell? ⟨bs i, 13, none⟩ = some (.slice ad (s.tx i).undo.length cap) := by rw [cell_at y1]; rfl
 have HY1 : Hid (W0.heap[bs i]? = some (.cells #[.int .i64 (i : Int), ov, .int .i64 (s.tx i).stamp, .int .i64 (s.tx i).state, .int .i64 (s.tx i).agains, .int .i64 ((s.tx i).next : Int), .bool (s.tx i).wounded, .bool (s.tx i).waits.isSome, .int .i64 ((s.tx i).regs 0), .int .i64 ((s.tx i).regs 1), .int .i64 ((s.tx i).regs 2), .int .i64 ((s.tx i).regs 3), rv, .slice ad (s.tx i).undo.length cap] 146 (0, 0))) := y1
 have HY2 : Hid (ow (bs i) = (8, (i : Int))) := y2
 have HL : Hid (RowT ow (9, i) W0 105 3 rv (s.tx i).reads.length (seenCells (s.tx i).reads) ∧ (s.tx i).reads.length ≤ (s.tx i).next ∧ RowT ow (9, i) W0 114 4 ov (s.tx i).ops.length (opCells (s.tx i).ops) ∧ (s.tx i).ops.length ≤ 12 ∧ (∀ o ∈ (s.tx i).ops, OpWf o) ∧ Backs W0 (fun k => ow k = (9, (i : Int))) L.p (s.tx i).undo cs.reverse) := ⟨y3, yr, l1, l2, l3, l7⟩
 have HL6 : Hid (RowT ow (9, i) W0 1 1 (.slice ad (s.tx i).undo.length cap) (s.tx i).undo.length (cs.map fnOf)) := l6
 have HPR : Hid (¬ (Value.slice ad (s.tx i).undo.length cap).ownBlock = some (bs i)) := fun e => by have := l6.2 _ e; rw [y2] at this; exact tagNe (by omega) this
 have HLE : Hid ((s.tx i).undo.length ≤ (s.tx i).next ∧ (s.tx i).next ≤ 12 ∧ (s.tx i).undo.length + 1 ≤ maxLen ∧ ((s.tx i).undo.length + 1) * 8 ≤ 140737488355328) := by
  have h1 := HHY.out
  refine ⟨l5, by omega, by unfold maxLen; omega, by omega⟩
 clear y1 y2 y3 y4 y5 yr l1 l2 l3 l4 l5 l6 l7 b1 b2 c6 c7 c4 hwb
 generalize hnr : (s.tx i).undo.length = n at *
 have HNR : Hid ((s.tx i).undo.length = n) := hnr
 obtain ⟨i1, hi1, hy0, hy1, hy2⟩ := info_parts infoFn
 have HI : Hid (Tryz.prog.info? 1 = some i1 ∧ i1.zero = some .nilFunc ∧ i1.size = 1 ∧ i1.bytes = 8) := ⟨hi1, hy0, hy1, hy2⟩
 have HD13 : Hid (W0.drew.cell? ⟨bs i, 13, none⟩ = some (.slice ad n cap)) := d13
 have HZ1 : Hid (W0.drew.cell? ⟨w.heap.size, 1, none⟩ = some (.int .i64 a)) := z1
 clear hi1 hy0 hy1 hy2 hnr
 refine' cutB5 (X := Option Addr) (Y := Nat) (Z := FuncId) (U := Array Value) (V := World) _ (fun ao' c' f0 caps w1 w6 => PutsBack w1 (fun k => W0.heap.size ≤ k) L.p (fnOf (f0, caps)) a (s.rows a) ∧ Kept NoBlk W0.drew w1 ∧ ∃ w5, RowAt w5 1 1 (.slice ao' (n + 1) c') (n + 1) (cs.map fnOf ++ [.func (.func f0) #[] caps]) ∧ Moved (w1.alloc (.cells #[.func (.func f0) #[] caps] 1)) w5 (.slice ad n cap) (.slice ao' (n + 1) c') (n + 1) ∧ w6 = w5.setCell ⟨bs i, 13, none⟩ (.slice ao' (n + 1) c')) ?_ ?_
 rotate_left
 ·go_region_law (first
   | (go_simp; go_at_call 132; refine HPB.out.mono ?_; rintro e w1 ⟨f0, caps, rfl, hpb1, hk1⟩; have q13 := hk1.cell0 HD13.out; have q13' : ∀ o, (w1.alloc o).cell? ⟨bs i, 13, none⟩ = some (.slice ad n cap) := fun o => ((Kept.refl NoBlk w1).alloc o).cell0 q13)
   | (refine step_append_row (by rfl) _ _ 142 (by rfl) 1 i1 _ 1 8 Tryz.underlying142 HI.out.1 HI.out.2.1 HI.out.2.2.1 HI.out.2.2.2 (by rfl) (.slice ad n cap) n (cs.map fnOf) (by rfl) (RowAt.kept (RowAt.kept (RowAt.kept HL6.out.1 (Kept.refl NoBlk W0).drew (fun _ _ x => x)) hk1 (fun _ _ x => x)) ((Kept.refl NoBlk w1).alloc _) (fun _ _ x => x)) (.slice (some ⟨w1.heap.size, 0, none⟩) 1 1) 1 [.func (.func f0) #[] caps] (by rfl) (from_new1 w1 _ _ rfl) HLE.out.2.2.1 HLE.out.2.2.2 ?_; intro ao' c' w5 hrow5 hmv5; have q13'' := hmv5.keptOf.cell (q13' _) HPR.out; have qf13 : w5.frozen? ⟨bs i, 13, none⟩ = false := frozen_at (hmv5.keptOf.heap (((Kept.refl NoBlk w1).alloc _).heap (hk1.heap ((Kept.refl NoBlk W0).drew.heap HY1.out (fun x => x)) (fun x => x)) (fun x => x)) HPR.out) 13))
  all_goals (refine ⟨ao', c', f0, caps, w1, ?_, hpb1, hk1, w5, hrow5, hmv5, rfl⟩; exact rfl)
 rintro ao' c' f0 caps w1 w6 ⟨hpb1, hk1, w5, hrow5, hmv5, rfl⟩
 have hkd : Kept (fun k => k = bs i ∨ (Value.slice ad n cap).ownBlock = some k) W0 (w5.setCell ⟨bs i, 13, none⟩ (.slice ao' (n + 1) c')) := (((((Kept.refl NoBlk W0).drew.mono (fun _ x => x.elim)).trans hk1 (fun _ x => x.elim)).trans ((Kept.refl NoBlk w1).alloc _) (fun _ x => x.elim)).trans hmv5.keptOf (fun k e => .inl (.inr e))).trans (Kept.set1 w5 (bs i) 13 _) (fun k e => .inl (.inl (by unfold Blk at e; exact e)))
 have nS : ∀ k, ow k ≠ (8, (i : Int)) → ow k ≠ (9, (i : Int)) → ¬ (k = bs i ∨ (Value.slice ad n cap).ownBlock = some k) := fun k n1 n2 e => by
  rcases e with e | e
  ·subst e; exact n1 HY2.out
  ·exact n2 (HL6.out.2 k e)
 have hz : ow w.heap.size = (0, 0) := by
  by_cases e : ow w.heap.size = (0, 0)
  ·exact e
  ·have := (HH.out : PSt L bs A ow m mu lv s w).lt _ e; omega
 obtain ⟨t1, t2, t3, t4⟩ := (HH0.out : PSt L bs A ow m mu lv s W0).tags
 have nz : ¬ (w.heap.size = bs i ∨ (Value.slice ad n cap).ownBlock = some w.heap.size) := nS _ (by rw [hz]; exact tagNe (by omega)) (by rw [hz]; exact tagNe (by omega))
 have np : ¬ (L.p = bs i ∨ (Value.slice ad n cap).ownBlock = some L.p) := nS _ (by rw [t1]; exact tagNe (by omega)) (by rw [t1]; exact tagNe (by omega))
 have nv : ¬ (L.vb = bs i ∨ (Value.slice ad n cap).ownBlock = some L.vb) := nS _ (by rw [t2]; exact tagNe (by omega)) (by rw [t2]; exact tagNe (by omega))
 have k1 := hkd.cell z1 nz
 have k2 := hkd.cell z2 nz
 have k3 := hkd.cell c3 np
 have hb5 := hmv5.keptOf.heap (((Kept.refl NoBlk w1).alloc _).heap (hk1.heap ((Kept.refl NoBlk W0).drew.heap HY1.out (fun x => x)) (fun x => x)) (fun x => x)) HPR.out
 have hb6 := block_setCell (o := 13) hb5 (.slice ao' (n + 1) c')
 have kr : (w5.setCell ⟨bs i, 13, none⟩ (.slice ao' (n + 1) c')).cell? ⟨bs i, 8 + b, none⟩ = some (.int .i64 ((s.tx i).regs (b : Int))) := by
  rw [cell_at hb6]
  match b, hb with
  | 0, _ => rfl
  | 1, _ => rfl
  | 2, _ => rfl
  | 3, _ => rfl
 have hm6 : MapAt keyI (w5.setCell ⟨bs i, 13, none⟩ (.slice ao' (n + 1) c')).drew L.vb m (ivals s.rows) := ((HH0.out : PSt L bs A ow m mu lv s W0).vals.kept hkd nv).kept (Kept.refl NoBlk _).drew (fun x => x)
 obtain ⟨w7, hrun7, hm7, hk7, hsz7⟩ := hm6.store Tryz.underlying122 (by unfold maxLen; omega) (a := a) ha (.int .i64 ((s.tx i).regs (b : Int)))
 have hrun8 : (Instr.mapUpdate 122 (.map (some L.vb)) (.int .i64 a) (.int .i64 ((s.tx i).regs (b : Int)))).run Tryz.prog (w5.setCell ⟨bs i, 13, none⟩ (.slice ao' (n + 1) c')).drew = .ok () w7 := hrun7
 have HM7 : Hid (MapAt keyI w7 L.vb (m + 1) (put (ivals s.rows) a (some (.int .i64 ((s.tx i).regs (b : Int)))))) := hm7
 have HK7 : Hid (Kept (Blk L.vb) (w5.setCell ⟨bs i, 13, none⟩ (.slice ao' (n + 1) c')).drew w7) := hk7
 have HKD : Hid (Kept (fun k => k = bs i ∨ (Value.slice ad n cap).ownBlock = some k) W0 (w5.setCell ⟨bs i, 13, none⟩ (.slice ao' (n + 1) c'))) := hkd
 have HB6 : Hid ((w5.setCell ⟨bs i, 13, none⟩ (.slice ao' (n + 1) c')).heap[bs i]? = some (.cells ((#[.int .i64 (i : Int), ov, .int .i64 (s.tx i).stamp, .int .i64 (s.tx i).state, .int .i64 (s.tx i).agains, .int .i64 ((s.tx i).next : Int), .bool (s.tx i).wounded, .bool (s.tx i).waits.isSome, .int .i64 ((s.tx i).regs 0), .int .i64 ((s.tx i).regs 1), .int .i64 ((s.tx i).regs 2), .int .i64 ((s.tx i).regs 3), rv, .slice ad n cap] : Array Value).setIfInBounds 13 (.slice ao' (n + 1) c')) 146 (0, 0))) := hb6
 have HNV : Hid (bs i ≠ L.vb) := fun e => nv (.inl e.symm)
 have HPB1 : Hid (PutsBack w1 (fun k => W0.heap.size ≤ k) L.p (fnOf (f0, caps)) a (s.rows a) ∧ Kept NoBlk W0.drew w1) := ⟨hpb1, hk1⟩
 have HROW5 : Hid (RowAt w5 1 1 (.slice ao' (n + 1) c') (n + 1) (cs.map fnOf ++ [.func (.func f0) #[] caps]) ∧ Moved (w1.alloc (.cells #[.func (.func f0) #[] caps] 1)) w5 (.slice ad n cap) (.slice ao' (n + 1) c') (n + 1)) := ⟨hrow5, hmv5⟩
 have HK65 : Hid (Kept (Blk (bs i)) w5 (w5.setCell ⟨bs i, 13, none⟩ (.slice ao' (n + 1) c'))) := Kept.set1 w5 (bs i) 13 _
 clear hm6 hrun7 hm7 hk7 hsz7 hkd hb5 hb6 nS nz np nv hz t1 t2 t3 t4 hpb1 hk1 hrow5 hmv5 z0 z1 z2 c3 d13
 generalize w5.setCell ⟨bs i, 13, none⟩ (.slice ao' (n + 1) c') = W6 at *
 go_wp2_with fail
 go_region
 have hb7 := HK7.out.heap ((Kept.refl NoBlk W6).drew.heap HB6.out (fun x => x)) (fun e => HNV.out (by unfold Blk at e; exact e))
 have g5 : w7.cell? ⟨bs i, 5, none⟩ = some (.int .i64 ((s.tx i).next : Int)) := by rw [cell_at hb7]; rfl
 have gf5 : w7.frozen? ⟨bs i, 5, none⟩ = false := frozen_at hb7 5
 have hb8 := block_setCell (o := 5) hb7 (.int .i64 (((s.tx i).next : Int) + 1))
 have HF : Hid ((∃ ow', PSt L bs A ow' (m + 1) mu lv (s.doOp i ⟨2, a, b, d⟩) (w7.setCell ⟨bs i, 5, none⟩ (.int .i64 (((s.tx i).next : Int) + 1))) ∧ AgreeP w ow ow') ∧ Kept (OwnP ow) w (w7.setCell ⟨bs i, 5, none⟩ (.int .i64 (((s.tx i).next : Int) + 1)))) := by
  have hk8 := Kept.set1 w7 (bs i) 5 (.int .i64 (((s.tx i).next : Int) + 1))
  have hm8 : MapAt keyI (w7.setCell ⟨bs i, 5, none⟩ (.int .i64 (((s.tx i).next : Int) + 1))) L.vb (m + 1) (ivals (upd s.rows a (some ((s.tx i).regs (b : Int))))) := by
   rw [← ivals_put]
   exact HM7.out.kept hk8 (fun e => HNV.out (by unfold Blk at e; exact e.symm))
  obtain ⟨y3, yr, l1, l2, l3, l7⟩ := HL.out
  obtain ⟨z1, z2⟩ := (HH0.out : PSt L bs A ow m mu lv s W0).writeT (w6 := W6.drew) (x0 := (f0, caps)) i HIN.out HHY.out.2 a ha (r := upd s.rows a (some ((s.tx i).regs (b : Int)))) (fun k hk => by
    by_cases e : k = a
    ·subst e; exact ha
    ·rw [upd_other _ _ _ _ e] at hk; exact (HH0.out : PSt L bs A ow m mu lv s W0).rdom k hk) HNR.out HLE.out.1 y3 yr l1 l2 l3 HL6.out l7 ((Kept.refl NoBlk W0).drew.trans' HPB1.out.2) HPB1.out.1 ((Kept.refl NoBlk w1).alloc _) HROW5.out.2 HROW5.out.1 HK65.out.drew HK7.out hk8 hm8 (by rw [hb8]; rfl)
  exact ⟨⟨_, z1.congr rfl rfl rfl rfl rfl rfl, fun k hk => giveAll_agree ow W0 _ _ k (Nat.lt_of_lt_of_le hk HK0.out.size)⟩, (HK0.out.mono (fun _ x => x.elim)).trans' z2⟩
 have hn12 : (s.tx i).next ≤ 12 := HLE.out.2.1
 clear hb7 hb8 k1 k2 k3 kr hrun8
 generalize (s.tx i).next = nx at *
 go_wp2_with fail
 go_end0
 exact ⟨rfl, HF.out⟩
end Go.Proofs.YtmcajfefagdbnaaGreat
