import Derived.Test.YtmcajfefagdbnaaGreatJ37
import Derived.Test.YtmcajfefagdbnaaGreatJ39
namespace Go.Proofs.YtmcajfefagdbnaaGreat
open Go Go.RowKit Go.Sort Go.Lib
def CutP5 {X Y Z U V : Type} (f : X → Y → Z → U → V → Act) (R : X → Y → Z → U → V → World → Prop) (a : Act) (w : World) : Prop := ∃ x y z u v, a = f x y z u v ∧ R x y z u v w
theorem cutB5 {P : Program} {c : Code} {n : Nat} {K : Act → World → Prop} {Q : Exit → Act → World → Prop} {a : Act} {w : World} {X Y Z U V : Type} (f : X → Y → Z → U → V → Act) (R : X → Y → Z → U → V → World → Prop) (h1 : c.wp P (Exit.then (CutP5 f R) (Exit.inBlock n Q)) a w) (h2 : ∀ x y z u v w', R x y z u v w' → Exit.then K (Exit.inBlock n Q) .normal (f x y z u v) w') : c.wp P (Exit.then K (Exit.inBlock n Q)) a w :=
 Code.wp_mono (by intro e a w h; cases e <;> first | exact h | (obtain ⟨x, y, z, u, v, rfl, h⟩ := h; exact h2 _ _ _ _ _ _ h)) h1
set_option maxRecDepth 20000 in
set_option maxHeartbeats 1600000 in
theorem pdo_write {L : Lay} {bs : Nat → Nat} {A : List Nat} {ow : Ow} {m : Nat} {mu lv : Int} {s : St} {w : World} (h : PSt L bs A ow m mu lv s w) (i : Nat) (hi : i ∈ A) (hst : (s.tx i).state = 0) (hnx : (s.tx i).next < (s.tx i).ops.length) (a d : Int) (b : Nat) (ha : inI a) (hb : b < 4) (hmm : m + 1000 ≤ 1099511627776) :
  Calls Tryz.prog 97 #[.pointer (some ⟨L.p, 0, none⟩), .pointer (some ⟨bs i, 0, none⟩), .agg #[.int .i64 2, .int .i64 a, .int .i64 (b : Int), .int .i64 d]] w fun e w' => e = .returned (.tuple #[]) ∧ (∃ ow', PSt L bs A ow' (m + 1) mu lv (s.doOp i ⟨2, a, b, d⟩) w' ∧ AgreeP w ow ow') ∧ Kept (OwnP ow) w w' := by
 have hin := h.among i hi
 have hk0 : Kept NoBlk w (w.alloc (.cells #[.int .i64 2, .int .i64 a, .int .i64 (b : Int), .int .i64 d] 114)) := (Kept.refl _ _).alloc _
 have hbx := block_alloc_new w (.cells #[.int .i64 2, .int .i64 a, .int .i64 (b : Int), .int .i64 d] 114)
 have z0 : (w.alloc (.cells #[.int .i64 2, .int .i64 a, .int .i64 (b : Int), .int .i64 d] 114)).cell? ⟨w.heap.size, 0, none⟩ = some (.int .i64 2) := by rw [cell_at hbx]; rfl
 have z1 : (w.alloc (.cells #[.int .i64 2, .int .i64 a, .int .i64 (b : Int), .int .i64 d] 114)).cell? ⟨w.heap.size, 1, none⟩ = some (.int .i64 a) := by rw [cell_at hbx]; rfl
 have z2 : (w.alloc (.cells #[.int .i64 2, .int .i64 a, .int .i64 (b : Int), .int .i64 d] 114)).cell? ⟨w.heap.size, 2, none⟩ = some (.int .i64 (b : Int)) := by rw [cell_at hbx]; rfl
 have HZ : Hid ((w.alloc (.cells #[.int .i64 2, .int .i64 a, .int .i64 (b : Int), .int .i64 d] 114)).heap[w.heap.size]? = some (.cells #[.int .i64 2, .int .i64 a, .int .i64 (b : Int), .int .i64 d] 114 (0, 0))) := hbx
 have h0 := h.kept0 hk0
 have HH : Hid (PSt L bs A ow m mu lv s w) := h
 have HH0 : Hid (PSt L bs A ow m mu lv s (w.alloc (.cells #[.int .i64 2, .int .i64 a, .int .i64 (b : Int), .int .i64 d] 114))) := h0
 have HK0 : Hid (Kept NoBlk w (w.alloc (.cells #[.int .i64 2, .int .i64 a, .int .i64 (b : Int), .int .i64 d] 114))) := hk0
 have HIN : Hid (1 ≤ i ∧ i ≤ s.n) := hin
 have HHY : Hid ((s.tx i).state = 0 ∧ (s.tx i).next < (s.tx i).ops.length) := ⟨hst, hnx⟩
 clear h h0 hk0 hbx hin hst hnx
 go_enter Tryz.func97, Tryz.ntmps97
 go_wp2_with fail
 generalize w.alloc (.cells #[.int .i64 2, .int .i64 a, .int .i64 (b : Int), .int .i64 d] 114) = W0 at *
 obtain ⟨ov, rv, dv, y1, y2, y3, y4, y5⟩ := (HH0.out : PSt L bs A ow m mu lv s W0).txs i HIN.out.1 HIN.out.2
 obtain ⟨yr, l1, l2, l3, l4, l5, cs, l6, l7⟩ := y5 HHY.out.1
 obtain ⟨ad, cap, rfl, _, _⟩ := l6.1.form
 obtain ⟨u, tv, wv, b1, c3, c6, c7, c4, b2⟩ := (HH0.out : PSt L bs A ow m mu lv s W0).cells
 have hwb : w.heap.size ≠ bs i := fun e => by
  have h1 := (HH.out : PSt L bs A ow m mu lv s w).lt (bs i) (by rw [y2]; exact tagNe (by omega))
  omega
 have HPB : Hid (Calls Tryz.prog 132 #[.pointer (some ⟨L.p, 0, none⟩), .int .i64 a] W0.drew fun e w' => ∃ f0 caps, e = .returned (.func (.func f0) #[] caps) ∧ PutsBack w' (fun k => W0.heap.size ≤ k) L.p (fnOf (f0, caps)) a (s.rows a) ∧ Kept NoBlk W0.drew w') := (putBack_fn L.p L.vb m a s.rows W0.drew c3 (show MapAt keyI W0.drew L.vb m (ivals s.rows) from (HH0.out : PSt L bs A ow m mu lv s W0).vals.kept (Kept.refl NoBlk W0).drew (fun x => x)) ha).mono (by rintro e w' ⟨⟨f0, caps⟩, h1, h2, h3⟩; exact ⟨f0, caps, h1, h2, h3⟩)
 have d13 : W0.cell? ⟨bs i, 13, none⟩ = some (.slice ad (s.tx i).undo.length cap) := by rw [cell_at y1]; rfl
 have HY1 : Hid (W0.heap[bs i]? = some (.cells #[.int .i64 (i : Int), ov, .int .i64 (s.tx i).stamp, .int .i64 (s.tx i).state, .int .i64 (s.tx i).agains, .int .i64 ((s.tx i).next : Int), .bool (s.tx i).wounded, .bool (s.tx i).waits.isSome, .int .i64 ((s.tx i).regs 0), .int .i64 ((s.tx i).regs 1), .int .i64 ((s.tx i).regs 2), .int .i64 ((s.tx i).regs 3), rv, .slice ad (s.tx i).undo.length cap] 146 (0, 0))) := y1
 have HY2 : Hid (ow (bs i) = (8, (i : Int))) := y2
 have HL : Hid (RowT ow (9, i) W0 105 3 rv (s.tx i).reads.length (seenCells (s.tx i).reads) ∧ (s.tx i).reads.length ≤ (s.tx i).next ∧ RowT ow (9, i) W0 114 4 ov (s.tx i).ops.length (opCells (s.tx i).ops) ∧ (s.tx i).ops.length ≤ 12 ∧ (∀ o ∈ (s.tx i).ops, OpWf o) ∧ Backs W0 (fun k => ow k = (9, (i : Int))) L.p (s.tx i).undo cs.reverse) := ⟨y3, yr, l1, l2, l3, l7⟩
 have HL6 : Hid (RowT ow (9, i) W0 1 1 (.slice ad (s.tx i).undo.length cap) (s.tx i).undo.length (cs.map fnOf)) := l6
 have HPR : Hid (¬ (Value.slice ad (s.tx i).undo.length cap).ownBlock = some (bs i)) := fun e => by have := l6.2 _ e; rw [y2] at this; exact tagNe (by omega) this
 have HLE : Hid ((s.tx i).undo.length ≤ (s.tx i).next ∧ (s.tx i).next ≤ 12 ∧ (s.tx i).undo.length + 1 ≤ maxLen ∧ ((s.tx i).undo.length + 1) * 8 ≤ 140737488355328) := by
  have h1 := HHY.out
  refine ⟨l5, by omega, by unfold maxLen; omega, by omega⟩
 clear y1 y2 y3 y4 y5 yr l1 l2 l3 l4 l5 l6 l7 b1 b2 c6 c7 c4 hwb
 generalize hnr : (s.tx i).undo.length = n at *
 have HNR : Hid ((s.tx i).undo.length = n) := hnr
 obtain ⟨i1, hi1, hy0, hy1, hy2⟩ := info_parts infoFn
 have HI : Hid (Tryz.prog.info? 1 = some i1 ∧ i1.zero = some .nilFunc ∧ i1.size = 1 ∧ i1.bytes = 8) := ⟨hi1, hy0, hy1, hy2⟩
 have HD13 : Hid (W0.drew.cell? ⟨bs i, 13, none⟩ = some (.slice ad n cap)) := d13
 have HZ1 : Hid (W0.drew.cell? ⟨w.heap.size, 1, none⟩ = some (.int .i64 a)) := z1
 clear hi1 hy0 hy1 hy2 hnr
 refine' cutB5 (X := Option Addr) (Y := Nat) (Z := FuncId) (U := Array Value) (V := World) _ (fun ao' c' f0 caps w1 w6 => PutsBack w1 (fun k => W0.heap.size ≤ k) L.p (fnOf (f0, caps)) a (s.rows a) ∧ Kept NoBlk W0.drew w1 ∧ ∃ w5, RowAt w5 1 1 (.slice ao' (n + 1) c') (n + 1) (cs.map fnOf ++ [.func (.func f0) #[] caps]) ∧ Moved (w1.alloc (.cells #[.func (.func f0) #[] caps] 1)) w5 (.slice ad n cap) (.slice ao' (n + 1) c') (n + 1) ∧ w6 = w5.setCell ⟨bs i, 13, none⟩ (.slice ao' (n + 1) c')) ?_ ?_
 rotate_left
 ·go_region_law (first
   | (go_simp; go_at_call 132; refine HPB.out.mono ?_; rintro e w1 ⟨f0, caps, rfl, hpb1, hk1⟩; have q13 := hk1.cell0 HD13.out; have q13' : ∀ o, (w1.alloc o).cell? ⟨bs i, 13, none⟩ = some (.slice ad n cap) := fun o => ((Kept.refl NoBlk w1).alloc o).cell0 q13)
   | (refine step_append_row (by rfl) _ _ 142 (by rfl) 1 i1 _ 1 8 Tryz.underlying142 HI.out.1 HI.out.2.1 HI.out.2.2.1 HI.out.2.2.2 (by rfl) (.slice ad n cap) n (cs.map fnOf) (by rfl) (RowAt.kept (RowAt.kept (RowAt.kept HL6.out.1 (Kept.refl NoBlk W0).drew (fun _ _ x => x)) hk1 (fun _ _ x => x)) ((Kept.refl NoBlk w1).alloc _) (fun _ _ x => x)) (.slice (some ⟨w1.heap.size, 0, none⟩) 1 1) 1 [.func (.func f0) #[] caps] (by rfl) (from_new1 w1 _ _ rfl) HLE.out.2.2.1 HLE.out.2.2.2 ?_; intro ao' c' w5 hrow5 hmv5; have q13'' := hmv5.keptOf.cell (q13' _) HPR.out; have qf13 : w5.frozen? ⟨bs i, 13, none⟩ = false := frozen_at (hmv5.keptOf.heap (((Kept.refl NoBlk w1).alloc _).heap (hk1.heap ((Kept.refl NoBlk W0).drew.heap HY1.out (fun x => x)) (fun x => x)) (fun x => x)) HPR.out) 13))
  all_goals (refine ⟨ao', c', f0, caps, w1, ?_, hpb1, hk1, w5, hrow5, hmv5, rfl⟩; exact rfl)
 rintro ao' c' f0 caps w1 w6 ⟨hpb1, hk1, w5, hrow5, hmv5, rfl⟩
 have hkd : Kept (fun k => k = bs i ∨ (Value.slice ad n cap).ownBlock = some k) W0 (w5.setCell ⟨bs i, 13, none⟩ (.slice ao' (n + 1) c')) := (((((Kept.refl NoBlk W0).drew.mono (fun _ x => x.elim)).trans hk1 (fun _ x => x.elim)).trans ((Kept.refl NoBlk w1).alloc _) (fun _ x => x.elim)).trans hmv5.keptOf (fun k e => .inl (.inr e))).trans (Kept.set1 w5 (bs i) 13 _) (fun k e => .inl (.inl (by unfold Blk at e; exact e)))
 have nS : ∀ k, ow k ≠ (8, (i : Int)) → ow k ≠ (9, (i : Int)) → ¬ (k = bs i ∨ (Value.slice ad n cap).ownBlock = some k) := fun k n1 n2 e => by
  rcases e with e | e
  ·subst e; exact n1 HY2.out
  ·exact n2 (HL6.out.2 k e)
 have hz : ow w.heap.size = (0, 0) := by
  by_cases e : ow w.heap.size = (0, 0)
  ·exact e
  ·have := (HH.out : PSt L bs A ow m mu lv s w).lt _ e; omega
 obtain ⟨t1, t2, t3, t4⟩ := (HH0.out : PSt L bs A ow m mu lv s W0).tags
 have nz : ¬ (w.heap.size = bs i ∨ (Value.slice ad n cap).ownBlock = some w.heap.size) := nS _ (by rw [hz]; exact tagNe (by omega)) (by rw [hz]; exact tagNe (by omega))
 have np : ¬ (L.p = bs i ∨ (Value.slice ad n cap).ownBlock = some L.p) := nS _ (by rw [t1]; exact tagNe (by omega)) (by rw [t1]; exact tagNe (by omega))
 have nv : ¬ (L.vb = bs i ∨ (Value.slice ad n cap).ownBlock = some L.vb) := nS _ (by rw [t2]; exact tagNe (by omega)) (by rw [t2]; exact tagNe (by omega))
 have k1 := hkd.cell z1 nz
 have k2 := hkd.cell z2 nz
 have k3 := hkd.cell c3 np
 have hb5 := hmv5.keptOf.heap (((Kept.refl NoBlk w1).alloc _).heap (hk1.heap ((Kept.refl NoBlk W0).drew.heap HY1.out (fun x => x)) (fun x => x)) (fun x => x)) HPR.out
 have hb6 := block_setCell (o := 13) hb5 (.slice ao' (n + 1) c')
 have kr : (w5.setCell ⟨bs i, 13, none⟩ (.slice ao' (n + 1) c')).cell? ⟨bs i, 8 + b, none⟩ = some (.int .i64 ((s.tx i).regs (b : Int))) := by
  rw [cell_at hb6]
  match b, hb with
  | 0, _ => rfl
  | 1, _ => rfl
  | 2, _ => rfl
  | 3, _ => rfl
 have hm6 : MapAt keyI (w5.setCell ⟨bs i, 13, none⟩ (.slice ao' (n + 1) c')).drew L.vb m (ivals s.rows) := ((HH0.out : PSt L bs A ow m mu lv s W0).vals.kept hkd nv).kept (Kept.refl NoBlk _).drew (fun x => x)
 obtain ⟨w7, hrun7, hm7, hk7, hsz7⟩ := hm6.store Tryz.underlying122 (by unfold maxLen; omega) (a := a) ha (.int .i64 ((s.tx i).regs (b : Int)))
 have hrun8 : (Instr.mapUpdate 122 (.map (some L.vb)) (.int .i64 a) (.int .i64 ((s.tx i).regs (b : Int)))).run Tryz.prog (w5.setCell ⟨bs i, 13, none⟩ (.slice ao' (n + 1) c')).drew = .ok () w7 := hrun7
 have HM7 : Hid (MapAt keyI w7 L.vb (m + 1) (put (ivals s.rows) a (some (.int .i64 ((s.tx i).regs (b : Int)))))) := hm7
 have HK7 : Hid (Kept (Blk L.vb) (w5.setCell ⟨bs i, 13, none⟩ (.slice ao' (n + 1) c')).drew w7) := hk7
 have HKD : Hid (Kept (fun k => k = bs i ∨ (Value.slice ad n cap).ownBlock = some k) W0 (w5.setCell ⟨bs i, 13, none⟩ (.slice ao' (n + 1) c'))) := hkd
 have HB6 : Hid ((w5.setCell ⟨bs i, 13, none⟩ (.slice ao' (n + 1) c')).heap[bs i]? = some (.cells ((#[.int .i64 (i : Int), ov, .int .i64 (s.tx i).stamp, .int .i64 (s.tx i).state, .int .i64 (s.tx i).agains, .int .i64 ((s.tx i).next : Int), .bool (s.tx i).wounded, .bool (s.tx i).waits.isSome, .int .i64 ((s.tx i).regs 0), .int .i64 ((s.tx i).regs 1), .int .i64 ((s.tx i).regs 2), .int .i64 ((s.tx i).regs 3), rv, .slice ad n cap] : Array Value).setIfInBounds 13 (.slice ao' (n + 1) c')) 146 (0, 0))) := hb6
 have HNV : Hid (bs i ≠ L.vb) := fun e => nv (.inl e.symm)
 have HPB1 : Hid (PutsBack w1 (fun k => W0.heap.size ≤ k) L.p (fnOf (f0, caps)) a (s.rows a) ∧ Kept NoBlk W0.drew w1) := ⟨hpb1, hk1⟩
 have HROW5 : Hid (RowAt w5 1 1 (.slice ao' (n + 1) c') (n + 1) (cs.map fnOf ++ [.func (.func f0) #[] caps]) ∧ Moved (w1.alloc (.cells #[.func (.func f0) #[] caps] 1)) w5 (.slice ad n cap) (.slice ao' (n + 1) c') (n + 1)) := ⟨hrow5, hmv5⟩
 have HK65 : Hid (Kept (Blk (bs i)) w5 (w5.setCell ⟨bs i, 13, none⟩ (.slice ao' (n + 1) c'))) := Kept.set1 w5 (bs i) 13 _
 clear hm6 hrun7 hm7 hk7 hsz7 hkd hb5 hb6 nS nz np nv hz t1 t2 t3 t4 hpb1 hk1 hrow5 hmv5 z0 z1 z2 c3 d13
 generalize w5.setCell ⟨bs i, 13, none⟩ (.slice ao' (n + 1) c') = W6 at *
 go_wp2_with fail
 go_region
 have hb7 := HK7.out.heap ((Kept.refl NoBlk W6).drew.heap HB6.out (fun x => x)) (fun e => HNV.out (by unfold Blk at e; exact e))
 have g5 : w7.cell? ⟨bs i, 5, none⟩ = some (.int .i64 ((s.tx i).next : Int)) := by rw [cell_at hb7]; rfl
 have gf5 : w7.frozen? ⟨bs i, 5, none⟩ = false := frozen_at hb7 5
 have hb8 := block_setCell (o := 5) hb7 (.int .i64 (((s.tx i).next : Int) + 1))
 have HF : Hid ((∃ ow', PSt L bs A ow' (m + 1) mu lv (s.doOp i ⟨2, a, b, d⟩) (w7.setCell ⟨bs i, 5, none⟩ (.int .i64 (((s.tx i).next : Int) + 1))) ∧ AgreeP w ow ow') ∧ Kept (OwnP ow) w (w7.setCell ⟨bs i, 5, none⟩ (.int .i64 (((s.tx i).next : Int) + 1)))) := by
  have hk8 := Kept.set1 w7 (bs i) 5 (.int .i64 (((s.tx i).next : Int) + 1))
  have hm8 : MapAt keyI (w7.setCell ⟨bs i, 5, none⟩ (.int .i64 (((s.tx i).next : Int) + 1))) L.vb (m + 1) (ivals (upd s.rows a (some ((s.tx i).regs (b : Int))))) := by
   rw [← ivals_put]
   exact HM7.out.kept hk8 (fun e => HNV.out (by unfold Blk at e; exact e.symm))
  obtain ⟨y3, yr, l1, l2, l3, l7⟩ := HL.out
  obtain ⟨z1, z2⟩ := (HH0.out : PSt L bs A ow m mu lv s W0).writeT (w6 := W6.drew) (x0 := (f0, caps)) i HIN.out HHY.out.2 a ha (r := upd s.rows a (some ((s.tx i).regs (b : Int)))) (fun k hk => by
    by_cases e : k = a
    ·subst e; exact ha
    ·rw [upd_other _ _ _ _ e] at hk; exact (HH0.out : PSt L bs A ow m mu lv s W0).rdom k hk) HNR.out HLE.out.1 y3 yr l1 l2 l3 HL6.out l7 ((Kept.refl NoBlk W0).drew.trans' HPB1.out.2) HPB1.out.1 ((Kept.refl NoBlk w1).alloc _) HROW5.out.2 HROW5.out.1 HK65.out.drew HK7.out hk8 hm8 (by rw [hb8]; rfl)
  exact ⟨⟨_, z1.congr rfl rfl rfl rfl rfl rfl, fun k hk => giveAll_agree ow W0 _ _ k (Nat.lt_of_lt_of_le hk HK0.out.size)⟩, (HK0.out.mono (fun _ x => x.elim)).trans' z2⟩
 have hn12 : (s.tx i).next ≤ 12 := HLE.out.2.1
 clear hb7 hb8 k1 k2 k3 kr hrun8
 generalize (s.tx i).next = nx at *
 go_wp2_with fail
 go_end0
 exact ⟨rfl, HF.out⟩
end Go.Proofs.YtmcajfefagdbnaaGreat
namespace Go.Proofs.YtmcajfefagdbnaaGreat
open Go Go.RowKit
theorem make4 (w : World) : (Instr.makeSlice 45 (.int .i64 4) (.int .i64 4)).run Tryz.prog w = .ok (.slice (some ⟨w.heap.size, 0, none⟩) 4 4) (w.alloc (.cells #[.int .i64 0, .int .i64 0, .int .i64 0, .int .i64 0] 3)) := by kernel_rfl
structure UndI (w : World) (p : Nat) (rv tv cv wv c : Value) (rl : List Row2) (f : Int → Option Int) (u : List Saw) (j : Nat) (wr : World) : Prop where
 kept : Kept (Blk p) w wr
 body : ∃ rv' rl', wr.heap[p]? = some (.cells #[rv', tv, cv, wv, c] 47 (0, 0)) ∧ wr.ownsRow 0 95 2 rv' rl'.length (rowCells rl') ∧ RowsOf (back f (u.take j)) rl' ∧ rl'.length ≤ rl.length + j ∧ ((rv' = rv ∧ rl' = rl) ∨ ∀ k, rv'.ownBlock = some k → w.heap.size ≤ k)
theorem UndI.step {w : World} {p : Nat} {rv tv cv wv c : Value} {rl : List Row2} {f : Int → Option Int} {u : List Saw} {j : Nat} {wr : World} (h : UndI w p rv tv cv wv c rl f u j wr) (hj : j < u.length) (hrl : rl.length + j ≤ 1099511627775) :
  Calls Tryz.prog 110 #[.pointer (some ⟨p, 0, none⟩), .agg #[.int .i64 (u.getD j ⟨0, false, 0⟩).key, .bool (u.getD j ⟨0, false, 0⟩).there, .int .i64 (u.getD j ⟨0, false, 0⟩).val]] wr fun e w' => e = .returned (.tuple #[]) ∧ UndI w p rv tv cv wv c rl f u (j + 1) w' := by
 obtain ⟨rv', rl', h1, h2, h3, h4, h5⟩ := h.body
 have hs : rl'.Pairwise (fun a b => a.k < b.k) := by have := h3.1.1; rw [List.pairwise_map] at this; exact this
 refine (wset p rl' rv' tv cv wv c _ (u.getD j ⟨0, false, 0⟩).val (u.getD j ⟨0, false, 0⟩).there wr h1 h2 (by omega) hs).mono ?_
 rintro e w' ⟨rfl, rv2, g1, g2, g3, g4⟩
 refine ⟨rfl, h.kept.trans' g4, rv2, _, g1, g2, ?_, ?_, .inr (fun k hk => Nat.le_trans h.kept.size (g3 k hk))⟩
 ·rw [back_take f u j hj]
  exact h3.set _ _ _
 ·have := setL_len rl' (u.getD j ⟨0, false, 0⟩).key (u.getD j ⟨0, false, 0⟩).val (u.getD j ⟨0, false, 0⟩).there hs
  omega
theorem UndI.st {ow : OwB} {p : Nat} {rl : List Row2} {cl : List Cl} {n : Nat} {tx : Nat → Tx} {wins : List Nat} {c : Int} {w wr : World} (hw : WSt ow p rl cl n tx wins c w) {rv tv cv wv : Value} {f : Int → Option Int} {u : List Saw} {j : Nat} (hp : w.heap[p]? = some (.cells #[rv, tv, cv, wv, .int .i64 c] 47 (0, 0))) (h : UndI w p rv tv cv wv (.int .i64 c) rl f u j wr) :
  ∃ ow' rl', Agree w ow ow' ∧ WSt ow' p rl' cl n tx wins c wr ∧ RowsOf (back f (u.take j)) rl' ∧ rl'.length ≤ rl.length + j ∧ Kept (Own ow) w wr := by
 obtain ⟨rv', rl', h1, h2, h3, h4, h5⟩ := h.body
 rcases h5 with ⟨rfl, rfl⟩ | h5
 ·have hO : ow p = 1 := by
   obtain ⟨rv0, tv0, cv0, wv0, bs, q1, q2, _⟩ := hw.body
   exact q2
  refine ⟨ow, rl', Agree.refl _ _, hw.of_same h.kept.size (fun k hk => ?_), h3, h4, h.kept.mono (fun k e => by unfold Blk at e; subst e; unfold Own; omega)⟩
  by_cases e : k = p
  ·subst e; rw [h1, hp]
  ·exact h.kept.block k (hw.lt k hk) (fun x => e x)
 ·obtain ⟨ow', a1, a2, a3⟩ := hw.rowsT hp h1 h2 h5 h.kept
  exact ⟨ow', rl', a1, a2, h3, h4, a3⟩
set_option maxRecDepth 20000 in
set_option maxHeartbeats 3200000 in
theorem wundone {ow : OwB} {p : Nat} {rl : List Row2} {cl : List Cl} {n : Nat} {tx : Nat → Tx} {wins : List Nat} {c : Int} {w : World} {lk : Int → Lk} {i : Nat} {f : Int → Option Int} (h : WSt ow p rl cl n tx wins c w) (hi : i < n) (hrows : RowsOf f rl) (hrl : rl.length ≤ 1099511627000) (hun : (tx (i + 1)).undo.length ≤ 12) (hr : Rep n cl lk) (hT : WTx (upd tx (i + 1) (tx (i + 1)).anew) lk (i + 1))
  (hs : ∀ k, RowStill n (lk k)) (hq : ∀ k, ((lk k).q.map (·.1)).Nodup) (hone : ∀ k k' m m', (i + 1, m) ∈ (lk k).q → (i + 1, m') ∈ (lk k').q → k = k') (hn : cl.length ≤ 1099511627776) (hn2 : n ≤ 1099511627776) :
  Calls Tryz.prog 79 #[.pointer (some ⟨p, 0, none⟩), .int .i64 ((i : Int) + 1)] w fun e w' => e = .returned (.tuple #[]) ∧ ∃ ow' rl' cl', Agree w ow ow' ∧
   WSt ow' p rl' cl' n (fun j => (upd tx (i + 1) (tx (i + 1)).anew j).look (fun k => (lk k).freed n (i + 1)) j) wins c w' ∧ RowsOf (back f (tx (i + 1)).undo) rl' ∧ rl'.length ≤ rl.length + 12 ∧ Rep n cl' (fun k => (lk k).freed n (i + 1)) ∧ cl'.length ≤ cl.length ∧ Kept (Own ow) w w' := by
 obtain ⟨rv, tv, cv, wv, bs, q1, q2, q3, q4, q5, q6, q7, q8⟩ := h.body
 obtain ⟨g, cap, b, v1, v2, v3, v4⟩ := h.find hi
 have HTW : Hid (∀ W, Kept (Blk p) w W → TxAt ow (i + 2) W b (tx (i + 1))) := fun W hk => v3.kept (Agree.refl _ _) (fun k hk1 e => hk.block k hk1 (fun x => by unfold Blk at x; subst x; omega))
 have HW : Hid (WSt ow p rl cl n tx wins c w) := h
 have HQ1 : Hid (w.heap[p]? = some (.cells #[rv, tv, cv, wv, .int .i64 c] 47 (0, 0))) := q1
 have HV4 : Hid (∀ rv tv cv wv bs, w.heap[p]? = some (.cells #[rv, tv, cv, wv, .int .i64 c] 47 (0, 0)) → w.ownsRow 0 149 1 tv n (txCells bs) → bs.length = n → bs.getD i 0 = b) := v4
 have HQ4 : Hid (w.ownsRow 0 149 1 tv n (txCells bs) ∧ bs.length = n) := ⟨q4.1, q5⟩
 have HU0 : Hid (UndI w p rv tv cv wv (.int .i64 c) rl f (tx (i + 1)).undo 0 w) := ⟨Kept.refl _ _, rv, rl, q1, q3.1, hrows, by omega, .inl ⟨rfl, rfl⟩⟩
 have HRS : Hid (Rep n cl lk ∧ WTx (upd tx (i + 1) (tx (i + 1)).anew) lk (i + 1) ∧ (∀ k, RowStill n (lk k)) ∧ (∀ k, ((lk k).q.map (·.1)).Nodup) ∧ ∀ k k' m m', (i + 1, m) ∈ (lk k).q → (i + 1, m') ∈ (lk k').q → k = k') := ⟨hr, hT, hs, hq, hone⟩
 obtain ⟨uo, uc, u9⟩ := v3.undoLen
 have hm4 := fun w => make4 w
 have hwr : IntKind.wrap .i64 (i : Int) = (i : Int) := by rw [IntKind.wrap_i64]; omega
 have j0 : (0 : Int) ≤ (i : Int) := by omega
 have j1 : (i : Int) < (n : Int) := by omega
 generalize hul : (tx (i + 1)).undo.length = ul at *
 have HUL : Hid ((tx (i + 1)).undo.length = ul) := hul
 clear hul h hr hT hs hq hone q1 q2 q3 q4 q5 q6 q7 q8 v3 v4 hrows
 go_enter Tryz.func79, Tryz.ntmps79
 go_wp2_with fail
 go_loopw [5] (fun iv wr => ∃ jn : Nat, jn ≤ ul ∧ iv = .int .i64 ((ul : Int) - 1 - (jn : Int)) ∧ UndI w p rv tv cv wv (.int .i64 c) rl f (tx (i + 1)).undo jn wr) (fun iv _ => ((intOf iv) + 1).toNat)
 case atStart => exact ⟨0, by omega, by simp, HU0.out⟩
 case round =>
  clear HU0 v1 v2 u9
  obtain ⟨jn, hjn, rfl, hU⟩ := hrel
  by_cases hlt : jn < ul
  ·obtain ⟨gu, cu, x0, x1, x2, x3⟩ := (HTW.out wr hU.kept).undoAt jn (by rw [HUL.out]; exact hlt)
   rw [HUL.out] at x0 x1 x2 x3
   have HST : Hid (Calls Tryz.prog 110 #[.pointer (some ⟨p, 0, none⟩), .agg #[.int .i64 ((tx (i + 1)).undo.getD jn ⟨0, false, 0⟩).key, .bool ((tx (i + 1)).undo.getD jn ⟨0, false, 0⟩).there, .int .i64 ((tx (i + 1)).undo.getD jn ⟨0, false, 0⟩).val]] wr fun e w' => e = .returned (.tuple #[]) ∧ UndI w p rv tv cv wv (.int .i64 c) rl f (tx (i + 1)).undo (jn + 1) w') := hU.step (by rw [HUL.out]; exact hlt) (by omega)
   clear hU
   generalize ((tx (i + 1)).undo.getD jn ⟨0, false, 0⟩).key = uk at *
   generalize ((tx (i + 1)).undo.getD jn ⟨0, false, 0⟩).there = ut at *
   generalize ((tx (i + 1)).undo.getD jn ⟨0, false, 0⟩).val = uv at *
   obtain ⟨m, hm⟩ : ∃ m : Nat, ul - 1 - jn = m := ⟨_, rfl⟩
   rw [hm] at x1 x2 x3
   have em : ((ul : Int) - 1 - (jn : Int)) = (m : Int) := by omega
   have HEM : Hid (((ul : Int) - 1 - (jn : Int)) = (m : Int)) := em
   rw [em]
   have j2 : (0 : Int) ≤ (m : Int) := by omega
   have j3 : (m : Int) < (ul : Int) := by omega
   clear em hm
   go_wp2_with fail
   refine HST.out.mono ?_
   rintro e w5 ⟨rfl, h5⟩
   have H5 : Hid (UndI w p rv tv cv wv (.int .i64 c) rl f (tx (i + 1)).undo (jn + 1) w5) := h5
   clear h5 HST x0 x1 x2 x3
   go_wp2_with fail
   go_roundw
   case rel =>
    have e1 : (m : Int) - 1 = (ul : Int) - 1 - ((jn + 1 : Nat) : Int) := by have := HEM.out; omega
    exact ⟨jn + 1, by omega, by rw [← e1], H5.out⟩
   case measure => simp [intOf]
  ·have hju : jn = ul := by omega
   have em : ((ul : Int) - 1 - (jn : Int)) = -1 := by omega
   rw [em]
   have ht := HTW.out wr hU.kept
   obtain ⟨r, rd, ov, uv, h1, h2, h3, h4, h5, h6, h7⟩ := ht
   have e2 : wr.cell? ⟨b, 2, none⟩ = some (.int .i64 ((tx (i + 1)).next : Int)) := by rw [cell_at h1]; rfl
   have e3 : wr.cell? ⟨b, 3, none⟩ = some (.bool (tx (i + 1)).wounded) := by rw [cell_at h1]; rfl
   have e4 : wr.cell? ⟨b, 4, none⟩ = some (.bool (tx (i + 1)).waits.isSome) := by rw [cell_at h1]; rfl
   have e6 : wr.cell? ⟨b, 6, none⟩ = some (.slice (some ⟨r, 0, none⟩) 4 4) := by rw [cell_at h1]; rfl
   have e7 : wr.cell? ⟨b, 7, none⟩ = some rd := by rw [cell_at h1]; rfl
   have e9 : wr.cell? ⟨b, 9, none⟩ = some uv := by rw [cell_at h1]; rfl
   have ef : ∀ j, wr.frozen? ⟨b, j, none⟩ = false := frozen_at h1
   have HFN : Hid (Calls Tryz.prog 80 #[.pointer (some ⟨p, 0, none⟩), .int .i64 ((i : Int) + 1)] (wAnew wr b) fun e w' => e = .returned (.tuple #[]) ∧ ∃ ow' rl' cl', Agree w ow ow' ∧ WSt ow' p rl' cl' n (fun j => (upd tx (i + 1) (tx (i + 1)).anew j).look (fun k => (lk k).freed n (i + 1)) j) wins c w' ∧ RowsOf (back f (tx (i + 1)).undo) rl' ∧ rl'.length ≤ rl.length + 12 ∧ Rep n cl' (fun k => (lk k).freed n (i + 1)) ∧ cl'.length ≤ cl.length ∧ Kept (Own ow) w w') := by
    obtain ⟨ow1, rl1, a1, a2, a3, a4, a5⟩ := hU.st HW.out HQ1.out
    rw [hju, ← HUL.out, List.take_length] at a3
    obtain ⟨g2, cap2, b2, _, _, v3, v4⟩ := a2.find hi
    have hb2 : b2 = b := by
     obtain ⟨rv', rl', k1, _⟩ := hU.body
     have k2 : wr.ownsRow 0 149 1 tv n (txCells bs) := ownsRow_kept HQ4.out.1 hU.kept (fun k hk e => by
      obtain ⟨cur, hc⟩ := ownsRow_block HQ4.out.1 hk
      exact blocks_apart hc HQ1.out (by decide) e)
     rw [← v4 rv' tv cv wv bs k1 k2 HQ4.out.2, HV4.out rv tv cv wv bs HQ1.out HQ4.out.1 HQ4.out.2]
    subst hb2
    obtain ⟨c1, c2, c3⟩ := a2.anewAt hi v3 v4
    obtain ⟨r1, r2, r3, r4, r5⟩ := HRS.out
    refine (wfreed (id := i + 1) c2 r1 r2 (by rw [upd_same]; rfl) r3 r4 r5 hn hn2).mono ?_
    rintro e w' ⟨rfl, ow3, cl3, d1, d2, d3, d4, d5⟩
    refine ⟨rfl, ow3, rl1, cl3, ?_, d2, a3, by omega, d3, d4, ?_⟩
    ·exact (a1.trans a5.size c1).trans (Nat.le_trans a5.size c3.size) d1
    ·refine (a5.trans c3 (fun k x => own_old a1 k x)).trans d5 (fun k x => ?_)
     rcases own_old c1 k x with y | y
     ·exact own_old a1 k y
     ·exact .inr (Nat.le_trans a5.size y)
   have hbl : b < wr.heap.size := lt_of_block h1
   have hbn : ¬ b = wr.heap.size := by omega
   have hbn' : ¬ wr.heap.size = b := by omega
   clear h1 h2 h3 h4 h5 h6 h7 hU hju em HTW HW HV4 HQ4 HRS HQ1
   go_wp2_with fail
   refine HFN.out.mono ?_
   rintro e w5 ⟨rfl, h5⟩
   have H5 : Hid (∃ ow' rl' cl', Agree w ow ow' ∧ WSt ow' p rl' cl' n (fun j => (upd tx (i + 1) (tx (i + 1)).anew j).look (fun k => (lk k).freed n (i + 1)) j) wins c w5 ∧ RowsOf (back f (tx (i + 1)).undo) rl' ∧ rl'.length ≤ rl.length + 12 ∧ Rep n cl' (fun k => (lk k).freed n (i + 1)) ∧ cl'.length ≤ cl.length ∧ Kept (Own ow) w w5) := h5
   clear h5 HFN
   go_wp2_with fail
   go_end0
   exact ⟨rfl, H5.out⟩
end Go.Proofs.YtmcajfefagdbnaaGreat
