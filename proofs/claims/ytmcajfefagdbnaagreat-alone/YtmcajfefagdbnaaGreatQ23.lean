import Derived.Test.YtmcajfefagdbnaaGreatQ22
import Derived.Test.YtmcajfefagdbnaaGreatQ08
import Derived.Test.YtmcajfefagdbnaaGreatQ15
import Derived.Test.YtmcajfefagdbnaaGreatQ21
import Derived.Test.YtmcajfefagdbnaaGreatQ20
import Derived.Test.YtmcajfefagdbnaaGreatQ18
namespace Go.Proofs.YtmcajfefagdbnaaGreat
open Go Go.RowKit Go.Sort Go.Lib
set_option maxRecDepth 20000 in
set_option maxHeartbeats 1600000 in
theorem pdo_delete {L : Lay} {bs : Nat → Nat} {A : List Nat} {ow : Ow} {m : Nat} {mu lv : Int} {s : St} {w : World} (h : PSt L bs A ow m mu lv s w) (i : Nat) (hi : i ∈ A) (hst : (s.tx i).state = 0) (hnx : (s.tx i).next < (s.tx i).ops.length) (a b d : Int) (ha : inI a) :
  Calls Tryz.prog 97 #[.pointer (some ⟨L.p, 0, none⟩), .pointer (some ⟨bs i, 0, none⟩), .agg #[.int .i64 3, .int .i64 a, .int .i64 b, .int .i64 d]] w fun e w' => e = .returned (.tuple #[]) ∧ (∃ ow', PSt L bs A ow' (m + 1) mu lv (s.doOp i ⟨3, a, b, d⟩) w' ∧ AgreeP w ow ow') ∧ Kept (OwnP ow) w w' := by
 have hin := h.among i hi
 have hk0 : Kept NoBlk w (w.alloc (.cells #[.int .i64 3, .int .i64 a, .int .i64 b, .int .i64 d] 114)) := (Kept.refl _ _).alloc _
 have hbx := block_alloc_new w (.cells #[.int .i64 3, .int .i64 a, .int .i64 b, .int .i64 d] 114)
 have z0 : (w.alloc (.cells #[.int .i64 3, .int .i64 a, .int .i64 b, .int .i64 d] 114)).cell? ⟨w.heap.size, 0, none⟩ = some (.int .i64 3) := by rw [cell_at hbx]; rfl
 have z1 : (w.alloc (.cells #[.int .i64 3, .int .i64 a, .int .i64 b, .int .i64 d] 114)).cell? ⟨w.heap.size, 1, none⟩ = some (.int .i64 a) := by rw [cell_at hbx]; rfl
 have HZ : Hid ((w.alloc (.cells #[.int .i64 3, .int .i64 a, .int .i64 b, .int .i64 d] 114)).heap[w.heap.size]? = some (.cells #[.int .i64 3, .int .i64 a, .int .i64 b, .int .i64 d] 114 (0, 0))) := hbx
 have h0 := h.kept0 hk0
 have HH : Hid (PSt L bs A ow m mu lv s w) := h
 have HH0 : Hid (PSt L bs A ow m mu lv s (w.alloc (.cells #[.int .i64 3, .int .i64 a, .int .i64 b, .int .i64 d] 114))) := h0
 have HK0 : Hid (Kept NoBlk w (w.alloc (.cells #[.int .i64 3, .int .i64 a, .int .i64 b, .int .i64 d] 114))) := hk0
 have HIN : Hid (1 ≤ i ∧ i ≤ s.n) := hin
 have HHY : Hid ((s.tx i).state = 0 ∧ (s.tx i).next < (s.tx i).ops.length) := ⟨hst, hnx⟩
 clear h h0 hk0 hbx hin hst hnx
 go_enter Tryz.func97, Tryz.ntmps97
 go_wp2_with fail
 generalize w.alloc (.cells #[.int .i64 3, .int .i64 a, .int .i64 b, .int .i64 d] 114) = W0 at *
 obtain ⟨ov, rv, dv, y1, y2, y3, y4, y5⟩ := (HH0.out : PSt L bs A ow m mu lv s W0).txs i HIN.out.1 HIN.out.2
 obtain ⟨yr, l1, l2, l3, l4, l5, cs, l6, l7⟩ := y5 HHY.out.1
 obtain ⟨ad, cap, rfl, _, _⟩ := l6.1.form
 obtain ⟨u, tv, wv, b1, c3, c6, c7, c4, b2⟩ := (HH0.out : PSt L bs A ow m mu lv s W0).cells
 have hwb : w.heap.size ≠ bs i := fun e => by
  have h1 := (HH.out : PSt L bs A ow m mu lv s w).lt (bs i) (by rw [y2]; exact tagNe (by omega))
  omega
 have HPB : Hid (Calls Tryz.prog 132 #[.pointer (some ⟨L.p, 0, none⟩), .int .i64 a] W0.drew fun e w' => ∃ f0 caps, e = .returned (.func (.func f0) #[] caps) ∧ PutsBack w' (fun k => W0.heap.size ≤ k) L.p (fnOf (f0, caps)) a (s.rows a) ∧ Kept NoBlk W0.drew w') := (putBack_fn L.p L.vb m a s.rows W0.drew c3 (show MapAt keyI W0.drew L.vb m (ivals s.rows) from (HH0.out : PSt L bs A ow m mu lv s W0).vals.kept (Kept.refl NoBlk W0).drew (fun x => x)) ha).mono (by rintro e w' ⟨⟨f0, caps⟩, h1, h2, h3⟩; exact ⟨f0, caps, h1, h2, h3⟩)
 have d13 : W0.cell? ⟨bs i, 13, none⟩ = some (.slice ad (s.tx i).undo.length cap) := by rw [cell_at y1]; rfl
 have HY1 : Hid (W0.heap[bs i]? = some (.cells #[.int .i64 (i : Int), ov, .int .i64 (s.tx i).stamp, .int .i64 (s.tx i).state, .int .i64 (s.tx i).agains, .int .i64 ((s.tx i).next : Int), .bool (s.tx i).wounded, .bool (s.tx i).waits.isSome, .int .i64 ((s.tx i).regs 0), .int .i64 ((s.tx i).regs 1), .int .i64 ((s.tx i).regs 2), .int .i64 ((s.tx i).regs 3), rv, .slice ad (s.tx i).undo.length cap] 146 (0, 0))) := y1
 have HY2 : Hid (ow (bs i) = (8, (i : Int))) := y2
 have HL : Hid (RowT ow (9, i) W0 105 3 rv (s.tx i).reads.length (seenCells (s.tx i).reads) ∧ (s.tx i).reads.length ≤ (s.tx i).next ∧ RowT ow (9, i) W0 114 4 ov (s.tx i).ops.length (opCells (s.tx i).ops) ∧ (s.tx i).ops.length ≤ 12 ∧ (∀ o ∈ (s.tx i).ops, OpWf o) ∧ Backs W0 (fun k => ow k = (9, (i : Int))) L.p (s.tx i).undo cs.reverse) := ⟨y3, yr, l1, l2, l3, l7⟩
 have HL6 : Hid (RowT ow (9, i) W0 1 1 (.slice ad (s.tx i).undo.length cap) (s.tx i).undo.length (cs.map fnOf)) := l6
 have HPR : Hid (¬ (Value.slice ad (s.tx i).undo.length cap).ownBlock = some (bs i)) := fun e => by have := l6.2 _ e; rw [y2] at this; exact tagNe (by omega) this
 have HLE : Hid ((s.tx i).undo.length ≤ (s.tx i).next ∧ (s.tx i).next ≤ 12 ∧ (s.tx i).undo.length + 1 ≤ maxLen ∧ ((s.tx i).undo.length + 1) * 8 ≤ 140737488355328) := by
  have h1 := HHY.out
  refine ⟨l5, by omega, by unfold maxLen; omega, by omega⟩
 clear y1 y2 y3 y4 y5 yr l1 l2 l3 l4 l5 l6 l7 b1 b2 c6 c7 c4 hwb
 generalize hnr : (s.tx i).undo.length = n at *
 have HNR : Hid ((s.tx i).undo.length = n) := hnr
 obtain ⟨i1, hi1, hy0, hy1, hy2⟩ := info_parts infoFn
 have HI : Hid (Tryz.prog.info? 1 = some i1 ∧ i1.zero = some .nilFunc ∧ i1.size = 1 ∧ i1.bytes = 8) := ⟨hi1, hy0, hy1, hy2⟩
 have HD13 : Hid (W0.drew.cell? ⟨bs i, 13, none⟩ = some (.slice ad n cap)) := d13
 have HZ1 : Hid (W0.drew.cell? ⟨w.heap.size, 1, none⟩ = some (.int .i64 a)) := z1
 clear hi1 hy0 hy1 hy2 hnr
 refine' cutB5 (X := Option Addr) (Y := Nat) (Z := FuncId) (U := Array Value) (V := World) _ (fun ao' c' f0 caps w1 w6 => PutsBack w1 (fun k => W0.heap.size ≤ k) L.p (fnOf (f0, caps)) a (s.rows a) ∧ Kept NoBlk W0.drew w1 ∧ ∃ w5, RowAt w5 1 1 (.slice ao' (n + 1) c') (n + 1) (cs.map fnOf ++ [.func (.func f0) #[] caps]) ∧ Moved (w1.alloc (.cells #[.func (.func f0) #[] caps] 1)) w5 (.slice ad n cap) (.slice ao' (n + 1) c') (n + 1) ∧ w6 = w5.setCell ⟨bs i, 13, none⟩ (.slice ao' (n + 1) c')) ?_ ?_
 rotate_left
 ·go_region_law (first
   | (go_simp; go_at_call 132; refine HPB.out.mono ?_; rintro e w1 ⟨f0, caps, rfl, hpb1, hk1⟩; have q13 := hk1.cell0 HD13.out; have q13' : ∀ o, (w1.alloc o).cell? ⟨bs i, 13, none⟩ = some (.slice ad n cap) := fun o => ((Kept.refl NoBlk w1).alloc o).cell0 q13)
   | (refine step_append_row (by rfl) _ _ 142 (by rfl) 1 i1 _ 1 8 Tryz.underlying142 HI.out.1 HI.out.2.1 HI.out.2.2.1 HI.out.2.2.2 (by rfl) (.slice ad n cap) n (cs.map fnOf) (by rfl) (RowAt.kept (RowAt.kept (RowAt.kept HL6.out.1 (Kept.refl NoBlk W0).drew (fun _ _ x => x)) hk1 (fun _ _ x => x)) ((Kept.refl NoBlk w1).alloc _) (fun _ _ x => x)) (.slice (some ⟨w1.heap.size, 0, none⟩) 1 1) 1 [.func (.func f0) #[] caps] (by rfl) (from_new1 w1 _ _ rfl) HLE.out.2.2.1 HLE.out.2.2.2 ?_; intro ao' c' w5 hrow5 hmv5; have q13'' := hmv5.keptOf.cell (q13' _) HPR.out; have qf13 : w5.frozen? ⟨bs i, 13, none⟩ = false := frozen_at (hmv5.keptOf.heap (((Kept.refl NoBlk w1).alloc _).heap (hk1.heap ((Kept.refl NoBlk W0).drew.heap HY1.out (fun x => x)) (fun x => x)) (fun x => x)) HPR.out) 13))
  all_goals (refine ⟨ao', c', f0, caps, w1, ?_, hpb1, hk1, w5, hrow5, hmv5, rfl⟩; exact rfl)
 rintro ao' c' f0 caps w1 w6 ⟨hpb1, hk1, w5, hrow5, hmv5, rfl⟩
 have hkd : Kept (fun k => k = bs i ∨ (Value.slice ad n cap).ownBlock = some k) W0 (w5.setCell ⟨bs i, 13, none⟩ (.slice ao' (n + 1) c')) := (((((Kept.refl NoBlk W0).drew.mono (fun _ x => x.elim)).trans hk1 (fun _ x => x.elim)).trans ((Kept.refl NoBlk w1).alloc _) (fun _ x => x.elim)).trans hmv5.keptOf (fun k e => .inl (.inr e))).trans (Kept.set1 w5 (bs i) 13 _) (fun k e => .inl (.inl (by unfold Blk at e; exact e)))
 have nS : ∀ k, ow k ≠ (8, (i : Int)) → ow k ≠ (9, (i : Int)) → ¬ (k = bs i ∨ (Value.slice ad n cap).ownBlock = some k) := fun k n1 n2 e => by
  rcases e with e | e
  ·subst e; exact n1 HY2.out
  ·exact n2 (HL6.out.2 k e)
 have hz : ow w.heap.size = (0, 0) := by
  by_cases e : ow w.heap.size = (0, 0)
  ·exact e
  ·have := (HH.out : PSt L bs A ow m mu lv s w).lt _ e; omega
 obtain ⟨t1, t2, t3, t4⟩ := (HH0.out : PSt L bs A ow m mu lv s W0).tags
 have nz : ¬ (w.heap.size = bs i ∨ (Value.slice ad n cap).ownBlock = some w.heap.size) := nS _ (by rw [hz]; exact tagNe (by omega)) (by rw [hz]; exact tagNe (by omega))
 have np : ¬ (L.p = bs i ∨ (Value.slice ad n cap).ownBlock = some L.p) := nS _ (by rw [t1]; exact tagNe (by omega)) (by rw [t1]; exact tagNe (by omega))
 have nv : ¬ (L.vb = bs i ∨ (Value.slice ad n cap).ownBlock = some L.vb) := nS _ (by rw [t2]; exact tagNe (by omega)) (by rw [t2]; exact tagNe (by omega))
 have k1 := hkd.cell z1 nz
 have k3 := hkd.cell c3 np
 have hb5 := hmv5.keptOf.heap (((Kept.refl NoBlk w1).alloc _).heap (hk1.heap ((Kept.refl NoBlk W0).drew.heap HY1.out (fun x => x)) (fun x => x)) (fun x => x)) HPR.out
 have hb6 := block_setCell (o := 13) hb5 (.slice ao' (n + 1) c')
 have hm6 : MapAt keyI (w5.setCell ⟨bs i, 13, none⟩ (.slice ao' (n + 1) c')).drew L.vb m (ivals s.rows) := ((HH0.out : PSt L bs A ow m mu lv s W0).vals.kept hkd nv).kept (Kept.refl NoBlk _).drew (fun x => x)
 obtain ⟨w7, hrun7, hm7, hk7, hsz7⟩ := hm6.drop Tryz.underlying122 (a := a) ha 0
 have hrun8 : (Builtin.delete_ #[122, 3] 0 #[.map (some L.vb), .int .i64 a]).run Tryz.prog (w5.setCell ⟨bs i, 13, none⟩ (.slice ao' (n + 1) c')).drew = .ok (.tuple #[]) w7 := hrun7
 have HM7 : Hid (MapAt keyI w7 L.vb (m + 1) (put (ivals s.rows) a none)) := hm7.mono (Nat.le_succ _)
 have HK7 : Hid (Kept (Blk L.vb) (w5.setCell ⟨bs i, 13, none⟩ (.slice ao' (n + 1) c')).drew w7) := hk7
 have HKD : Hid (Kept (fun k => k = bs i ∨ (Value.slice ad n cap).ownBlock = some k) W0 (w5.setCell ⟨bs i, 13, none⟩ (.slice ao' (n + 1) c'))) := hkd
 have HB6 : Hid ((w5.setCell ⟨bs i, 13, none⟩ (.slice ao' (n + 1) c')).heap[bs i]? = some (.cells ((#[.int .i64 (i : Int), ov, .int .i64 (s.tx i).stamp, .int .i64 (s.tx i).state, .int .i64 (s.tx i).agains, .int .i64 ((s.tx i).next : Int), .bool (s.tx i).wounded, .bool (s.tx i).waits.isSome, .int .i64 ((s.tx i).regs 0), .int .i64 ((s.tx i).regs 1), .int .i64 ((s.tx i).regs 2), .int .i64 ((s.tx i).regs 3), rv, .slice ad n cap] : Array Value).setIfInBounds 13 (.slice ao' (n + 1) c')) 146 (0, 0))) := hb6
 have HNV : Hid (bs i ≠ L.vb) := fun e => nv (.inl e.symm)
 have HPB1 : Hid (PutsBack w1 (fun k => W0.heap.size ≤ k) L.p (fnOf (f0, caps)) a (s.rows a) ∧ Kept NoBlk W0.drew w1) := ⟨hpb1, hk1⟩
 have HROW5 : Hid (RowAt w5 1 1 (.slice ao' (n + 1) c') (n + 1) (cs.map fnOf ++ [.func (.func f0) #[] caps]) ∧ Moved (w1.alloc (.cells #[.func (.func f0) #[] caps] 1)) w5 (.slice ad n cap) (.slice ao' (n + 1) c') (n + 1)) := ⟨hrow5, hmv5⟩
 have HK65 : Hid (Kept (Blk (bs i)) w5 (w5.setCell ⟨bs i, 13, none⟩ (.slice ao' (n + 1) c'))) := Kept.set1 w5 (bs i) 13 _
 clear hm6 hrun7 hm7 hk7 hsz7 hkd hb5 hb6 nS nz np nv hz t1 t2 t3 t4 hpb1 hk1 hrow5 hmv5 z0 z1 c3 d13
 generalize w5.setCell ⟨bs i, 13, none⟩ (.slice ao' (n + 1) c') = W6 at *
 go_wp2_with fail
 go_region
 have hb7 := HK7.out.heap ((Kept.refl NoBlk W6).drew.heap HB6.out (fun x => x)) (fun e => HNV.out (by unfold Blk at e; exact e))
 have g5 : w7.cell? ⟨bs i, 5, none⟩ = some (.int .i64 ((s.tx i).next : Int)) := by rw [cell_at hb7]; rfl
 have gf5 : w7.frozen? ⟨bs i, 5, none⟩ = false := frozen_at hb7 5
 have hb8 := block_setCell (o := 5) hb7 (.int .i64 (((s.tx i).next : Int) + 1))
 have HF : Hid ((∃ ow', PSt L bs A ow' (m + 1) mu lv (s.doOp i ⟨3, a, b, d⟩) (w7.setCell ⟨bs i, 5, none⟩ (.int .i64 (((s.tx i).next : Int) + 1))) ∧ AgreeP w ow ow') ∧ Kept (OwnP ow) w (w7.setCell ⟨bs i, 5, none⟩ (.int .i64 (((s.tx i).next : Int) + 1)))) := by
  have hk8 := Kept.set1 w7 (bs i) 5 (.int .i64 (((s.tx i).next : Int) + 1))
  have hm8 : MapAt keyI (w7.setCell ⟨bs i, 5, none⟩ (.int .i64 (((s.tx i).next : Int) + 1))) L.vb (m + 1) (ivals (upd s.rows a none)) := by
   rw [← ivals_put s.rows a none]
   exact HM7.out.kept hk8 (fun e => HNV.out (by unfold Blk at e; exact e.symm))
  obtain ⟨y3, yr, l1, l2, l3, l7⟩ := HL.out
  obtain ⟨z1, z2⟩ := (HH0.out : PSt L bs A ow m mu lv s W0).writeT (w6 := W6.drew) (x0 := (f0, caps)) i HIN.out HHY.out.2 a ha (r := upd s.rows a none) (fun k hk => by
    by_cases e : k = a
    ·subst e; exact ha
    ·rw [upd_other _ _ _ _ e] at hk; exact (HH0.out : PSt L bs A ow m mu lv s W0).rdom k hk) HNR.out HLE.out.1 y3 yr l1 l2 l3 HL6.out l7 ((Kept.refl NoBlk W0).drew.trans' HPB1.out.2) HPB1.out.1 ((Kept.refl NoBlk w1).alloc _) HROW5.out.2 HROW5.out.1 HK65.out.drew HK7.out hk8 hm8 (by rw [hb8]; rfl)
  exact ⟨⟨_, z1.congr rfl rfl rfl rfl rfl rfl, fun k hk => giveAll_agree ow W0 _ _ k (Nat.lt_of_lt_of_le hk HK0.out.size)⟩, (HK0.out.mono (fun _ x => x.elim)).trans' z2⟩
 have hn12 : (s.tx i).next ≤ 12 := HLE.out.2.1
 clear hb7 hb8 k1 k3 hrun8
 generalize (s.tx i).next = nx at *
 go_wp2_with fail
 go_end0
 exact ⟨rfl, HF.out⟩
theorem pdo {L : Lay} {bs : Nat → Nat} {A : List Nat} {ow : Ow} {m : Nat} {mu lv : Int} {s : St} {w : World} (h : PSt L bs A ow m mu lv s w) (i : Nat) (hi : i ∈ A) (hst : (s.tx i).state = 0) (hnx : (s.tx i).next < (s.tx i).ops.length) (o : Op4) (ho : OpWf o) (hmm : m + 1000 ≤ 1099511627776) :
  Calls Tryz.prog 97 #[.pointer (some ⟨L.p, 0, none⟩), .pointer (some ⟨bs i, 0, none⟩), .agg #[.int .i64 o.k, .int .i64 o.a, .int .i64 o.b, .int .i64 o.c]] w fun e w' => e = .returned (.tuple #[]) ∧ (∃ ow', PSt L bs A ow' (m + 1) mu lv (s.doOp i o) w' ∧ AgreeP w ow ow') ∧ Kept (OwnP ow) w w' := by
 have hin := h.among i hi
 have h12 : (s.tx i).ops.length ≤ 12 := by
  obtain ⟨_, _, _, _, _, _, _, y5⟩ := h.txs i hin.1 hin.2
  exact (y5 hst).2.2.1
 obtain ⟨ha, _, _, hok⟩ := ho
 have hok' : opB o.k o.a o.b = true := hok
 obtain ⟨k, a, b, c⟩ := o
 rcases opB_cases k a b with ⟨rfl, e⟩ | ⟨rfl, e⟩ | ⟨rfl, e⟩ | ⟨rfl, e⟩ | ⟨rfl, e⟩ | ⟨_, _, _, _, _, e⟩
 ·simp only [e] at hok'
  obtain ⟨b, rfl, hb⟩ := reg_nat hok'
  exact pdo_read h i hi hst hnx h12 a c b ha hb
 ·simp only [e] at hok'
  obtain ⟨b, rfl, hb⟩ := reg_nat hok'
  exact pdo_write h i hi hst hnx a c b ha hb hmm
 ·exact pdo_delete h i hi hst hnx a b c ha
 ·exact pdo_add h i hi hst hnx h12 ⟨4, a, b, c⟩ hok rfl
 ·exact pdo_stop h i hi hst hnx h12 ⟨5, a, b, c⟩ rfl
 ·simp only [e] at hok'; cases hok'
end Go.Proofs.YtmcajfefagdbnaaGreat
namespace Go.Proofs.YtmcajfefagdbnaaGreat
open Go Go.RowKit Go.Sort Go.Lib
theorem PSt.flags {L : Lay} {bs : Nat → Nat} {A : List Nat} {ow : Ow} {m : Nat} {mu lv : Int} {s : St} {w : World} (h : PSt L bs A ow m mu lv s w) {i : Nat} (hin : 1 ≤ i ∧ i ≤ s.n) :
  w.cell? ⟨bs i, 0, none⟩ = some (.int .i64 (i : Int)) ∧ w.cell? ⟨bs i, 6, none⟩ = some (.bool (s.tx i).wounded) ∧ w.cell? ⟨bs i, 7, none⟩ = some (.bool (s.tx i).waits.isSome) := by
 obtain ⟨ov, rv, dv, h1, _⟩ := h.txs i hin.1 hin.2
 refine ⟨?_, ?_, ?_⟩ <;> (rw [cell_at h1]; rfl)
set_option maxRecDepth 20000 in
set_option maxHeartbeats 1600000 in
theorem pstep_again {L : Lay} {bs : Nat → Nat} {A : List Nat} {ow : Ow} {m : Nat} {mu lv : Int} {s : St} {w : World} (h : PSt L bs A ow m mu lv s w) (hI : Inv s) (i : Nat) (hi : i ∈ A) (hst : (s.tx i).state = 0) (hact : s.act.length ≤ 16) (hmm : m + 1000 ≤ 1099511627776) (hag : 0 ≤ (s.tx i).agains ∧ (s.tx i).agains ≤ 1152921504606846976) (hw : (s.tx i).wounded = true) :
  Calls Tryz.prog 62 #[.pointer (some ⟨L.p, 0, none⟩), .pointer (some ⟨bs i, 0, none⟩)] w fun e w' => e = .returned (.int .i64 3) ∧ PSt L bs A ow (m + 400) mu lv (s.again i) w' ∧ Kept (OwnP ow) w w' := by
 have hin := h.among i hi
 have hcon := pbeginAgain h hI i hi hst hact hmm hag
 obtain ⟨c0, c6, c7⟩ := h.flags hin
 rw [hw] at c6
 clear h hI hin hst hact hmm hag hw
 go_enter Tryz.func62, Tryz.ntmps62
 go_wp2_with fail
 refine hcon.mono ?_
 rintro e w1 ⟨rfl, h1, hk1⟩
 have H1 : Hid (PSt L bs A ow (m + 400) mu lv (s.again i) w1) := h1
 have HK1 : Hid (Kept (OwnP ow) w w1) := hk1
 clear h1 hk1 hcon c0 c6 c7
 go_wp2_with fail
 go_ret
 exact ⟨rfl, H1.out, HK1.out⟩
set_option maxRecDepth 20000 in
set_option maxHeartbeats 1600000 in
theorem pstep_waits {L : Lay} {bs : Nat → Nat} {A : List Nat} {ow : Ow} {m : Nat} {mu lv : Int} {s : St} {w : World} (h : PSt L bs A ow m mu lv s w) (i : Nat) (hi : i ∈ A) (hw : (s.tx i).wounded = false) (hwt : (s.tx i).waits.isSome = true) :
  Calls Tryz.prog 62 #[.pointer (some ⟨L.p, 0, none⟩), .pointer (some ⟨bs i, 0, none⟩)] w fun e w' => e = .returned (.int .i64 2) ∧ w' = w := by
 have hin := h.among i hi
 obtain ⟨c0, c6, c7⟩ := h.flags hin
 rw [hw] at c6
 rw [hwt] at c7
 clear h hin hw hwt
 go_enter Tryz.func62, Tryz.ntmps62
 go_wp2_with fail
 go_ret
 exact ⟨rfl, rfl⟩
set_option maxRecDepth 20000 in
set_option maxHeartbeats 1600000 in
theorem pstep_commit {L : Lay} {bs : Nat → Nat} {A : List Nat} {ow : Ow} {m : Nat} {mu lv : Int} {s : St} {w : World} (h : PSt L bs A ow m mu lv s w) (hI : Inv s) (i : Nat) (hi : i ∈ A) (hst : (s.tx i).state = 0) (hact : s.act.length ≤ 16) (hmm : m + 1000 ≤ 1099511627776) (hlv : 1 ≤ lv ∧ lv ≤ 12) (hws : s.wins.length ≤ 1099511627776) (hw : (s.tx i).wounded = false) (hwt : (s.tx i).waits = none) (hnx : (s.tx i).next = (s.tx i).ops.length) :
  Calls Tryz.prog 62 #[.pointer (some ⟨L.p, 0, none⟩), .pointer (some ⟨bs i, 0, none⟩)] w fun e w' => e = .returned (.int .i64 6) ∧ (∃ ow', PSt L bs A ow' (m + 400) mu (lv - 1) (s.commit i) w' ∧ AgreeP w ow ow') ∧ Kept (OwnP ow) w w' := by
 have hin := h.among i hi
 have hcon : ∀ W : World, W.heap = w.heap → Kept NoBlk w W → Calls Tryz.prog 90 #[.pointer (some ⟨L.p, 0, none⟩), .pointer (some ⟨bs i, 0, none⟩)] W fun e w' => e = .returned (.tuple #[]) ∧ (∃ ow', PSt L bs A ow' (m + 400) mu (lv - 1) (s.commit i) w' ∧ AgreeP w ow ow') ∧ Kept (OwnP ow) w w' := by
  intro W hW hk
  refine (pcommit (h.kept0 hk) hI i hi hwt hact hmm hlv hws).mono ?_
  rintro e w' ⟨rfl, ⟨ow', h1, h2⟩, h3⟩
  exact ⟨rfl, ⟨ow', h1, fun k hk' => h2 k (by rw [hW]; exact hk')⟩, (hk.mono (fun _ x => x.elim)).trans' h3⟩
 obtain ⟨c0, c6, c7⟩ := h.flags hin
 obtain ⟨ov, rv, dv, y1, y2, y3, y4, y5⟩ := h.txs i hin.1 hin.2
 obtain ⟨yr, l1, l2, _⟩ := y5 hst
 obtain ⟨ao, cap, rfl, _, _⟩ := l1.1.form
 have c1 : w.cell? ⟨bs i, 1, none⟩ = some (.slice ao (s.tx i).ops.length cap) := by rw [cell_at y1]; rfl
 have c5 : w.cell? ⟨bs i, 5, none⟩ = some (.int .i64 ((s.tx i).ops.length : Int)) := by rw [cell_at y1, ← hnx]; rfl
 rw [hw] at c6
 have hwt' : (s.tx i).waits.isSome = false := by rw [hwt]; rfl
 rw [hwt'] at c7
 have HC : Hid (∀ W : World, W.heap = w.heap → Kept NoBlk w W → Calls Tryz.prog 90 #[.pointer (some ⟨L.p, 0, none⟩), .pointer (some ⟨bs i, 0, none⟩)] W fun e w' => e = .returned (.tuple #[]) ∧ (∃ ow', PSt L bs A ow' (m + 400) mu (lv - 1) (s.commit i) w' ∧ AgreeP w ow ow') ∧ Kept (OwnP ow) w w') := hcon
 generalize (s.tx i).ops.length = no at *
 clear h hI hin hst hact hmm hlv hws hw hwt hwt' hnx hcon y1 y2 y3 y4 y5 yr l1
 go_enter Tryz.func62, Tryz.ntmps62
 go_wp2_with fail
 go_quiet (fail)
 go_wp2_with fail
 refine (HC.out (w.drewN nq) rfl ((Kept.refl _ _).drewN nq)).mono ?_
 rintro e w1 ⟨rfl, h1, hk1⟩
 have H1 : Hid ((∃ ow', PSt L bs A ow' (m + 400) mu (lv - 1) (s.commit i) w1 ∧ AgreeP w ow ow') ∧ Kept (OwnP ow) w w1) := ⟨h1, hk1⟩
 clear h1 hk1 c0 c1 c5 c6 c7
 go_wp2_with fail
 go_ret
 exact ⟨rfl, H1.out⟩
end Go.Proofs.YtmcajfefagdbnaaGreat
namespace Go.Proofs.YtmcajfefagdbnaaGreat
open Go Go.RowKit Go.Sort Go.Lib
theorem held_getD (lk : Int → Lk) (k : Int) (i : Nat) : (holdF lk (k, (i : Int))).getD 0 = (lk k).h i := by
 unfold holdF
 split
 ·simp
 ·rename_i h
  simp only [Int.toNat_natCast, ne_eq, not_and, Classical.not_not] at h
  simp [h (by omega)]
theorem go_again {s : St} {i : Nat} (hw : (s.tx i).wounded = true) : s.go i = (s.again i, 3) := by unfold St.go; rw [if_pos hw]
theorem go_waits {s : St} {i : Nat} (hw : (s.tx i).wounded = false) (h : (s.tx i).waits.isSome = true) : s.go i = (s, 2) := by unfold St.go; rw [if_neg (by simp [hw]), if_pos h]
theorem go_commit {s : St} {i : Nat} (hw : (s.tx i).wounded = false) (h : (s.tx i).waits = none) (hn : (s.tx i).next = (s.tx i).ops.length) : s.go i = (s.commit i, 6) := by
 unfold St.go; rw [if_neg (by simp [hw]), if_neg (by simp [h]), if_pos hn]
theorem go_op {s : St} {i : Nat} (hw : (s.tx i).wounded = false) (h : (s.tx i).waits = none) (hn : (s.tx i).next < (s.tx i).ops.length) :
  s.go i = if 0 < modeOf (s.tx i).op ∧ (s.lk (s.tx i).op.a).h i < modeOf (s.tx i).op then
   if s.crowded (s.tx i).op.a then (s.fell i 3, 5)
   else if (s.lk (s.tx i).op.a).q.isEmpty && !hind s.n (s.lk (s.tx i).op.a).h i (modeOf (s.tx i).op) then (s.grant i (s.tx i).op.a (modeOf (s.tx i).op)).actOn i (s.tx i).op
   else (s.enq i (s.tx i).op.a (modeOf (s.tx i).op), 2)
  else s.actOn i (s.tx i).op := by
 unfold St.go
 rw [if_neg (by simp [hw]), if_neg (by simp [h]), if_neg (by omega)]
theorem op_mem {t : Tx} (h : t.next < t.ops.length) : t.op ∈ t.ops := by
 unfold Tx.op
 rw [List.getD_eq_getElem?_getD, List.getElem?_eq_getElem h]
 exact List.getElem_mem h
end Go.Proofs.YtmcajfefagdbnaaGreat
namespace Go.Proofs.YtmcajfefagdbnaaGreat
open Go Go.RowKit Go.Sort Go.Lib
def GoP (L : Lay) (bs : Nat → Nat) (A : List Nat) (ow : Ow) (m : Nat) (mu lv : Int) (w : World) (r : St × Int) (w' : World) : Prop :=
 (∃ ow', PSt L bs A ow' (m + 500) mu (if 4 ≤ r.2 then lv - 1 else lv) r.1 w' ∧ AgreeP w ow ow') ∧ Kept (OwnP ow) w w'
theorem GoP.fell {L : Lay} {bs : Nat → Nat} {A : List Nat} {ow : Ow} {m m1 : Nat} {mu lv : Int} {s : St} {w W : World} (h : PSt L bs A ow m1 mu lv s W) (hk : Kept (OwnP ow) w W) (hm1 : m1 ≤ m + 1) (hI : Inv s) (i : Nat) (hi : i ∈ A) (hst : (s.tx i).state = 0) (hact : s.act.length ≤ 16) (hmm : m + 1001 ≤ 1099511627776) (z a : Int) (hz : z ≠ 0) (ha : 4 ≤ a) (hlv : 1 ≤ lv ∧ lv ≤ 12) :
  Calls Tryz.prog 72 #[.pointer (some ⟨L.p, 0, none⟩), .pointer (some ⟨bs i, 0, none⟩), .int .i64 z] W fun e w' => e = .returned (.tuple #[]) ∧ GoP L bs A ow m mu lv w (s.fell i z, a) w' := by
 refine (pfail h hI i hi hst hact (by omega) z hz hlv).mono ?_
 rintro e w' ⟨rfl, h1, h2⟩
 refine ⟨rfl, ⟨ow, ?_, AgreeP.refl _ _⟩, hk.trans' h2⟩
 rw [if_pos (show 4 ≤ (s.fell i z, a).2 from ha)]
 exact h1.mono (by omega)
theorem GoP.does {L : Lay} {bs : Nat → Nat} {A : List Nat} {ow : Ow} {m m1 : Nat} {mu lv : Int} {s : St} {w W : World} (h : PSt L bs A ow m1 mu lv s W) (hk : Kept (OwnP ow) w W) (hm1 : m1 ≤ m + 1) (i : Nat) (hi : i ∈ A) (hst : (s.tx i).state = 0) (hnx : (s.tx i).next < (s.tx i).ops.length) (hmm : m + 1001 ≤ 1099511627776) (o : Op4) (ho : OpWf o) :
  Calls Tryz.prog 97 #[.pointer (some ⟨L.p, 0, none⟩), .pointer (some ⟨bs i, 0, none⟩), .agg #[.int .i64 o.k, .int .i64 o.a, .int .i64 o.b, .int .i64 o.c]] W fun e w' => e = .returned (.tuple #[]) ∧ GoP L bs A ow m mu lv w (s.doOp i o, 1) w' := by
 refine (pdo h i hi hst hnx o ho (by omega)).mono ?_
 rintro e w' ⟨rfl, ⟨ow', h1, h3⟩, h2⟩
 refine ⟨rfl, ⟨ow', ?_, fun k hk' => h3 k (Nat.lt_of_lt_of_le hk' hk.size)⟩, hk.trans' h2⟩
 rw [if_neg (show ¬ 4 ≤ (s.doOp i o, (1 : Int)).2 from (by show ¬ (4 : Int) ≤ 1; omega))]
 exact h1.mono (by omega)
def Ready (L : Lay) (bs : Nat → Nat) (A : List Nat) (ow : Ow) (m : Nat) (mu lv : Int) (w : World) (s1 : St) (i : Nat) (o : Op4) (W1 : World) : Prop := ∀ W : World, Kept NoBlk W1 W →
 (Calls Tryz.prog 72 #[.pointer (some ⟨L.p, 0, none⟩), .pointer (some ⟨bs i, 0, none⟩), .int .i64 2] W fun e w' => e = .returned (.tuple #[]) ∧ GoP L bs A ow m mu lv w (s1.fell i 2, 4) w') ∧
 Calls Tryz.prog 97 #[.pointer (some ⟨L.p, 0, none⟩), .pointer (some ⟨bs i, 0, none⟩), .agg #[.int .i64 o.k, .int .i64 o.a, .int .i64 o.b, .int .i64 o.c]] W fun e w' => e = .returned (.tuple #[]) ∧ GoP L bs A ow m mu lv w (s1.doOp i o, 1) w'
theorem Ready.of {L : Lay} {bs : Nat → Nat} {A : List Nat} {ow : Ow} {m m1 : Nat} {mu lv : Int} {s : St} {w W1 : World} (h : PSt L bs A ow m1 mu lv s W1) (hk : Kept (OwnP ow) w W1) (hm1 : m1 ≤ m + 1) (hI : Inv s) (i : Nat) (hi : i ∈ A) (hst : (s.tx i).state = 0) (hnx : (s.tx i).next < (s.tx i).ops.length) (hact : s.act.length ≤ 16) (hmm : m + 1001 ≤ 1099511627776) (hlv : 1 ≤ lv ∧ lv ≤ 12) (o : Op4) (ho : OpWf o) : Ready L bs A ow m mu lv w s i o W1 := fun W hW =>
 ⟨GoP.fell (h.kept0 hW) (hk.trans' (hW.mono (fun _ x => x.elim))) hm1 hI i hi hst hact hmm 2 4 (by omega) (by omega) hlv, GoP.does (h.kept0 hW) (hk.trans' (hW.mono (fun _ x => x.elim))) hm1 i hi hst hnx hmm o ho⟩
structure Calleds (L : Lay) (bs : Nat → Nat) (A : List Nat) (ow : Ow) (m : Nat) (mu lv : Int) (w : World) (s : St) (i : Nat) (o : Op4) : Prop where
 good : ∀ W : World, Kept NoBlk w W → Calls Tryz.prog 92 #[.pointer (some ⟨L.p, 0, none⟩), .int .i64 o.a, .agg #[.int .i64 (i : Int), .int .i64 (modeOf o)]] W fun e w' => e = .returned (.bool (decide (modeOf o ≤ (s.lk o.a).h i))) ∧ Kept NoBlk W w'
 crowd : ∀ W : World, Kept NoBlk w W → Calls Tryz.prog 93 #[.pointer (some ⟨L.p, 0, none⟩), .int .i64 o.a] W fun e w' => e = .returned (.bool (s.crowded o.a)) ∧ Kept NoBlk W w'
 free : ∀ W : World, Kept NoBlk w W → Calls Tryz.prog 94 #[.pointer (some ⟨L.p, 0, none⟩), .int .i64 o.a, .agg #[.int .i64 (i : Int), .int .i64 (modeOf o)]] W fun e w' => e = .returned (.bool ((s.lk o.a).q.isEmpty && !hind s.n (s.lk o.a).h i (modeOf o))) ∧ Kept NoBlk W w'
 fell : ∀ W : World, Kept NoBlk w W → Calls Tryz.prog 72 #[.pointer (some ⟨L.p, 0, none⟩), .pointer (some ⟨bs i, 0, none⟩), .int .i64 3] W fun e w' => e = .returned (.tuple #[]) ∧ GoP L bs A ow m mu lv w (s.fell i 3, 5) w'
 wait : ∀ W : World, Kept NoBlk w W → Calls Tryz.prog 95 #[.pointer (some ⟨L.p, 0, none⟩), .int .i64 o.a, .agg #[.int .i64 (i : Int), .int .i64 (modeOf o)]] W fun e w' => e = .returned (.tuple #[]) ∧ GoP L bs A ow m mu lv w (s.enq i o.a (modeOf o), 2) w'
 take : 0 < modeOf o → s.crowded o.a = false → (s.lk o.a).q.isEmpty && !hind s.n (s.lk o.a).h i (modeOf o) → ∀ W : World, Kept NoBlk w W → Calls Tryz.prog 96 #[.pointer (some ⟨L.p, 0, none⟩), .int .i64 o.a, .agg #[.int .i64 (i : Int), .int .i64 (modeOf o)]] W fun e w' => e = .returned (.tuple #[]) ∧ Ready L bs A ow m mu lv w (s.grant i o.a (modeOf o)) i o w' ∧ Kept (Blk L.hb) W w'
 now : Ready L bs A ow m mu lv w s i o w
theorem PSt.calleds {L : Lay} {bs : Nat → Nat} {A : List Nat} {ow : Ow} {m : Nat} {mu lv : Int} {s : St} {w : World} (h : PSt L bs A ow m mu lv s w) (hI : Inv s) (i : Nat) (hi : i ∈ A) (hst : (s.tx i).state = 0) (hact : s.act.length ≤ 16) (hmm : m + 1001 ≤ 1099511627776) (hlv : 1 ≤ lv ∧ lv ≤ 12) (hnx : (s.tx i).next < (s.tx i).ops.length) (o : Op4) (ho : OpWf o) : Calleds L bs A ow m mu lv w s i o := by
 have hin := h.among i hi
 have hnm := h.nmax
 have hii : inI (i : Int) := ⟨by omega, by omega⟩
 have no : ∀ {W : World}, Kept NoBlk w W → Kept (OwnP ow) w W := fun k => k.mono (fun _ x => x.elim)
 refine ⟨fun W hW => ?_, fun W hW => ?_, fun W hW => ?_, fun W hW => ?_, fun W hW => ?_, fun hm hc hf W hW => ?_, ?_⟩
 ·obtain ⟨u, tv, wv, b1, c3, c6, c7, c4, b2⟩ := (h.kept0 hW).cells
  have := holdsAsGood_any L.p L.hb m o.a ((i : Int), modeOf o) (holdF s.lk) W c6 (h.kept0 hW).hold ho.1 hii
  rw [held_getD] at this
  exact this
 ·exact pcrowded (h.kept0 hW) hI o.a (by omega)
 ·exact pfree (h.kept0 hW) o.a ho.1 i (modeOf o) (hI.row o.a).once
 ·exact GoP.fell (h.kept0 hW) (no hW) (by omega) hI i hi hst hact hmm 3 5 (by omega) (by omega) hlv
 ·refine (pwait (h.kept0 hW) o.a ho.1 i hi (modeOf o) (hI.row o.a).once (by omega)).mono ?_
  rintro e w' ⟨rfl, ⟨ow', h1, h3⟩, h2⟩
  refine ⟨rfl, ⟨ow', ?_, fun k hk' => h3 k (Nat.lt_of_lt_of_le hk' hW.size)⟩, (no hW).trans' h2⟩
  rw [if_neg (show ¬ 4 ≤ (s.enq i o.a (modeOf o), (2 : Int)).2 from (by show ¬ (4 : Int) ≤ 2; omega))]
  exact h1.mono (by omega)
 ·refine (ptake (h.kept0 hW) o.a i (modeOf o) ho.1 hi (by omega) (by unfold maxLen; omega)).mono ?_
  rintro e w' ⟨rfl, h1, h2⟩
  simp only [Bool.and_eq_true, List.isEmpty_iff, Bool.not_eq_true'] at hf
  refine ⟨rfl, Ready.of (h1.congr (s' := s.grant i o.a (modeOf o)) rfl rfl rfl rfl rfl rfl) ((no hW).trans' (h2.mono (fun k e => ?_))) (by omega) (hI.grant hin hst (modeOf_pos hm) hf.1 hf.2) i hi hst hnx (addKey_len hc hact) hmm hlv o ho, h2⟩
  unfold Blk at e
  subst e
  unfold OwnP
  rw [h.tags.2.2.1]
  exact tagNe (by omega)
 ·exact Ready.of h (Kept.refl _ _) (by omega) hI i hi hst hnx hact hmm hlv o ho
end Go.Proofs.YtmcajfefagdbnaaGreat
