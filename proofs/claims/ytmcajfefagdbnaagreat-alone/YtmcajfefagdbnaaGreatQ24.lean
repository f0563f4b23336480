import Derived.Test.YtmcajfefagdbnaaGreatQ23
import Derived.Test.YtmcajfefagdbnaaGreatQ18
namespace Go.Proofs.YtmcajfefagdbnaaGreat
open Go Go.RowKit Go.Sort Go.Lib
set_option maxRecDepth 20000 in
set_option maxHeartbeats 3200000 in
theorem pstep_op {L : Lay} {bs : Nat → Nat} {A : List Nat} {ow : Ow} {m : Nat} {mu lv : Int} {s : St} {w : World} (h : PSt L bs A ow m mu lv s w) (hI : Inv s) (i : Nat) (hi : i ∈ A) (hst : (s.tx i).state = 0) (hact : s.act.length ≤ 16) (hmm : m + 1001 ≤ 1099511627776) (hlv : 1 ≤ lv ∧ lv ≤ 12) (hw : (s.tx i).wounded = false) (hwt : (s.tx i).waits = none) (hnx : (s.tx i).next < (s.tx i).ops.length) :
  Calls Tryz.prog 62 #[.pointer (some ⟨L.p, 0, none⟩), .pointer (some ⟨bs i, 0, none⟩)] w fun e w' => e = .returned (.int .i64 (s.go i).2) ∧ GoP L bs A ow m mu lv w (s.go i) w' := by
 have hgo := go_op hw hwt hnx
 have hin := h.among i hi
 obtain ⟨c0, c6, c7⟩ := h.flags hin
 obtain ⟨_, creg, _⟩ := h.tcells hin
 obtain ⟨ov, rv, dv, y1, y2, y3, y4, y5⟩ := h.txs i hin.1 hin.2
 obtain ⟨yr, l1, l2, l3, _⟩ := y5 hst
 have hwf := l3 _ (op_mem hnx)
 have hcal := h.calleds hI i hi hst hact hmm hlv hnx _ hwf
 have hhb : L.hb ≠ bs i := fun e => by have := h.tags.2.2.1; rw [e, y2] at this; exact tagNe (by omega) this
 have hhl : L.hb < w.heap.size := h.lt _ (by rw [h.tags.2.2.1]; exact tagNe (by omega))
 obtain ⟨ao, cap, rfl, hcap, hcm⟩ := l1.1.form
 have c1 : w.cell? ⟨bs i, 1, none⟩ = some (.slice ao (s.tx i).ops.length cap) := by rw [cell_at y1]; rfl
 have c5 : w.cell? ⟨bs i, 5, none⟩ = some (.int .i64 ((s.tx i).next : Int)) := by rw [cell_at y1]; rfl
 obtain ⟨g, off, rfl⟩ : ∃ g off, ao = some ⟨g, off, none⟩ := by
  rcases l1.1.2 with ⟨h0, h1⟩ | ⟨g, off, cap', cur, h0, _⟩
  ·omega
  ·simp only [Value.slice.injEq] at h0; exact ⟨g, off, h0.1⟩
 obtain ⟨o0, o1, o2, o3⟩ := opCells_at (s.tx i).ops (s.tx i).next hnx
 have e0 := l1.1.cell _ o0
 have e1 := l1.1.cell _ o1
 have e2 := l1.1.cell _ o2
 have e3 := l1.1.cell _ o3
 rw [hw] at c6
 have hwt' : (s.tx i).waits.isSome = false := by rw [hwt]; rfl
 rw [hwt'] at c7
 have hne : (((s.tx i).next : Int) == ((s.tx i).ops.length : Int)) = false := by rw [beq_eq_false_iff_ne]; omega
 change w.cell? ⟨g, off + (s.tx i).next * 4, none⟩ = some (.int .i64 (s.tx i).op.k) at e0
 change w.cell? ⟨g, off + ((s.tx i).next * 4 + 1), none⟩ = some (.int .i64 (s.tx i).op.a) at e1
 change w.cell? ⟨g, off + ((s.tx i).next * 4 + 2), none⟩ = some (.int .i64 (s.tx i).op.b) at e2
 change w.cell? ⟨g, off + ((s.tx i).next * 4 + 3), none⟩ = some (.int .i64 (s.tx i).op.c) at e3
 have HCAL : Hid (Calleds L bs A ow m mu lv w s i (s.tx i).op) := hcal
 have HGO : Hid (s.go i = if 0 < modeOf (s.tx i).op ∧ (s.lk (s.tx i).op.a).h i < modeOf (s.tx i).op then
   if s.crowded (s.tx i).op.a then (s.fell i 3, 5)
   else if (s.lk (s.tx i).op.a).q.isEmpty && !hind s.n (s.lk (s.tx i).op.a).h i (modeOf (s.tx i).op) then (s.grant i (s.tx i).op.a (modeOf (s.tx i).op)).actOn i (s.tx i).op
   else (s.enq i (s.tx i).op.a (modeOf (s.tx i).op), 2)
  else s.actOn i (s.tx i).op) := hgo
 have HRG : Hid (∀ a : Nat, a < 4 → w.cell? ⟨bs i, 8 + a, none⟩ = some (.int .i64 ((s.tx i).regs (a : Int)))) := creg
 have HHB : Hid (L.hb ≠ bs i ∧ L.hb < w.heap.size) := ⟨hhb, hhl⟩
 have HLH : Hid (0 ≤ (s.lk (s.tx i).op.a).h i) := by
  unfold Hid
  by_cases e : (s.lk (s.tx i).op.a).h i = 0
  ·omega
  ·have := (hI.row (s.tx i).op.a).mode i
   omega
 have hok := hwf.2.2.2
 generalize (s.tx i).op = o at *
 generalize (s.tx i).ops.length = no at *
 generalize (s.tx i).next = nx at *
 clear h hI hin hst hact hmm hlv hw hwt hwt' hgo creg hwf hcal hhb hhl y1 y2 y3 y4 y5 yr l1 l2 l3 o0 o1 o2 o3
 go_enter Tryz.func62, Tryz.ntmps62
 go_wp2_with fail
 go_quiet (fail)
 go_wp2_with fail
 have HW : Hid ((w.drewN nq).heap = w.heap ∧ Kept NoBlk w (w.drewN nq)) := ⟨rfl, (Kept.refl _ _).drewN nq⟩
 have d0 : (w.drewN nq).cell? ⟨bs i, 0, none⟩ = some (.int .i64 (i : Int)) := c0
 have d1 : (w.drewN nq).cell? ⟨bs i, 1, none⟩ = some (.slice (some ⟨g, off, none⟩) no cap) := c1
 have d5 : (w.drewN nq).cell? ⟨bs i, 5, none⟩ = some (.int .i64 (nx : Int)) := c5
 have f0 : (w.drewN nq).cell? ⟨g, off + nx * 4, none⟩ = some (.int .i64 o.k) := e0
 have f1 : (w.drewN nq).cell? ⟨g, off + nx * 4 + 1, none⟩ = some (.int .i64 o.a) := by rw [Nat.add_assoc]; exact e1
 have f2 : (w.drewN nq).cell? ⟨g, off + nx * 4 + 2, none⟩ = some (.int .i64 o.b) := by rw [Nat.add_assoc]; exact e2
 have f3 : (w.drewN nq).cell? ⟨g, off + nx * 4 + 3, none⟩ = some (.int .i64 o.c) := by rw [Nat.add_assoc]; exact e3
 clear c0 c1 c5 c6 c7 e0 e1 e2 e3
 generalize w.drewN nq = W at *
 have d1' : ∀ o, (W.alloc o).cell? ⟨bs i, 1, none⟩ = some (.slice (some ⟨g, off, none⟩) no cap) := fun o => ((Kept.refl NoBlk W).alloc o).cell0 d1
 have d5' : ∀ o, (W.alloc o).cell? ⟨bs i, 5, none⟩ = some (.int .i64 (nx : Int)) := fun o => ((Kept.refl NoBlk W).alloc o).cell0 d5
 have f0' : ∀ x, (W.alloc x).cell? ⟨g, off + nx * 4, none⟩ = some (.int .i64 o.k) := fun x => ((Kept.refl NoBlk W).alloc x).cell0 f0
 have f1' : ∀ x, (W.alloc x).cell? ⟨g, off + nx * 4 + 1, none⟩ = some (.int .i64 o.a) := fun x => ((Kept.refl NoBlk W).alloc x).cell0 f1
 have f2' : ∀ x, (W.alloc x).cell? ⟨g, off + nx * 4 + 2, none⟩ = some (.int .i64 o.b) := fun x => ((Kept.refl NoBlk W).alloc x).cell0 f2
 have f3' : ∀ x, (W.alloc x).cell? ⟨g, off + nx * 4 + 3, none⟩ = some (.int .i64 o.c) := fun x => ((Kept.refl NoBlk W).alloc x).cell0 f3
 have hbl := World.block_lt_of_cell? _ _ d1
 have hgl := World.block_lt_of_cell? _ _ f0
 go_region
 have hbx := block_alloc_new W (.cells #[.int .i64 o.k, .int .i64 o.a, .int .i64 o.b, .int .i64 o.c] 114)
 have HBX : Hid ((W.alloc (.cells #[.int .i64 o.k, .int .i64 o.a, .int .i64 o.b, .int .i64 o.c] 114)).drew.heap[W.heap.size]? = some (.cells #[.int .i64 o.k, .int .i64 o.a, .int .i64 o.b, .int .i64 o.c] 114 (0, 0))) := hbx
 have HK1 : Hid (Kept NoBlk W (W.alloc (.cells #[.int .i64 o.k, .int .i64 o.a, .int .i64 o.b, .int .i64 o.c] 114)).drew) := ((Kept.refl _ _).alloc _).drew
 have g0 : (W.alloc (.cells #[.int .i64 o.k, .int .i64 o.a, .int .i64 o.b, .int .i64 o.c] 114)).drew.cell? ⟨bs i, 0, none⟩ = some (.int .i64 (i : Int)) := HK1.out.cell0 d0
 clear hbx d0 d1 d5 f0 f1 f2 f3 d1' d5' f0' f1' f2' f3' hgl
 generalize (W.alloc (.cells #[.int .i64 o.k, .int .i64 o.a, .int .i64 o.b, .int .i64 o.c] 114)).drew = W1 at *
 have b0 : W1.cell? ⟨W.heap.size, 0, none⟩ = some (.int .i64 o.k) := by rw [cell_at HBX.out]; rfl
 have b1 : W1.cell? ⟨W.heap.size, 1, none⟩ = some (.int .i64 o.a) := by rw [cell_at HBX.out]; rfl
 have b2 : W1.cell? ⟨W.heap.size, 2, none⟩ = some (.int .i64 o.b) := by rw [cell_at HBX.out]; rfl
 have b3 : W1.cell? ⟨W.heap.size, 3, none⟩ = some (.int .i64 o.c) := by rw [cell_at HBX.out]; rfl
 have g0' : ∀ x, (W1.alloc x).cell? ⟨bs i, 0, none⟩ = some (.int .i64 (i : Int)) := fun x => ((Kept.refl NoBlk W1).alloc x).cell0 g0
 have b0' : ∀ x, (W1.alloc x).cell? ⟨W.heap.size, 0, none⟩ = some (.int .i64 o.k) := fun x => ((Kept.refl NoBlk W1).alloc x).cell0 b0
 have b1' : ∀ x, (W1.alloc x).cell? ⟨W.heap.size, 1, none⟩ = some (.int .i64 o.a) := fun x => ((Kept.refl NoBlk W1).alloc x).cell0 b1
 have b2' : ∀ x, (W1.alloc x).cell? ⟨W.heap.size, 2, none⟩ = some (.int .i64 o.b) := fun x => ((Kept.refl NoBlk W1).alloc x).cell0 b2
 have b3' : ∀ x, (W1.alloc x).cell? ⟨W.heap.size, 3, none⟩ = some (.int .i64 o.c) := fun x => ((Kept.refl NoBlk W1).alloc x).cell0 b3
 go_wp2_with fail
 refine' cut1 (X := Nat) _ (fun bx w3 => W1.heap.size ≤ bx ∧ w3.heap[bx]? = some (.cells #[.int .i64 (i : Int), .int .i64 (modeOf o)] 107 (0, 0)) ∧ Kept NoBlk W1 w3) ?_ ?_
 rotate_left
 ·go_region_law (go_simp; go_at_call 91; refine (modeOf_ok o _).mono ?_; rintro e w2 ⟨rfl, hk2⟩; have h0 := hk2.cell0 (by first | exact g0' _ | exact g0); have h0' : ∀ x, (w2.alloc x).cell? ⟨bs i, 0, none⟩ = some (.int .i64 (i : Int)) := (fun x => ((Kept.refl NoBlk w2).alloc x).cell0 h0); try (have hz : w2.heap[W1.heap.size]? = some (.cells #[.int .i64 0, .int .i64 0] 107 (0, 0)) := hk2.heap (show (W1.alloc (.cells #[.int .i64 0, .int .i64 0] 107)).drew.heap[W1.heap.size]? = some (.cells #[.int .i64 0, .int .i64 0] 107 (0, 0)) from block_alloc_new W1 _) (fun x => x); have q0 : w2.cell? ⟨W1.heap.size, 0, none⟩ = some (.int .i64 0) := (by rw [cell_at hz]; rfl); have q1 : w2.cell? ⟨W1.heap.size, 1, none⟩ = some (.int .i64 0) := (by rw [cell_at hz]; rfl); have qf0 : w2.frozen? ⟨W1.heap.size, 0, none⟩ = false := frozen_at hz 0; have qf1 : w2.frozen? ⟨W1.heap.size, 1, none⟩ = false := frozen_at hz 1))
  all_goals first
   | (refine ⟨W1.heap.size, ?_, Nat.le_refl _, block_setCell (block_setCell hz (.int .i64 (i : Int))) (.int .i64 (modeOf o)), ((((Kept.refl NoBlk W1).alloc _).drew).trans' hk2).trans ((Kept.set1 w2 W1.heap.size 0 _).trans' (Kept.set1 _ W1.heap.size 1 _)) (fun k e => .inr (by unfold Blk at e; omega))⟩; generalize W1.heap.size = bx; exact rfl)
   | (refine ⟨w2.heap.size, ?_, hk2.size, block_alloc_new w2 _, ((Kept.refl NoBlk W1).drew.trans' hk2).trans' ((Kept.refl NoBlk w2).alloc _)⟩; generalize w2.heap.size = bx; exact rfl)
 rintro bx w3 ⟨hbx1, hbx2, hk3⟩
 have HBO : Hid (w3.heap[W.heap.size]? = some (.cells #[.int .i64 o.k, .int .i64 o.a, .int .i64 o.b, .int .i64 o.c] 114 (0, 0))) := hk3.heap HBX.out (fun x => x)
 have HBW : Hid (w3.heap[bx]? = some (.cells #[.int .i64 (i : Int), .int .i64 (modeOf o)] 107 (0, 0))) := hbx2
 have HK3 : Hid (Kept NoBlk w w3) := (HW.out.2.trans' HK1.out).trans' hk3
 have v1 : w3.cell? ⟨W.heap.size, 1, none⟩ = some (.int .i64 o.a) := by rw [cell_at HBO.out]; rfl
 have u0 : w3.cell? ⟨bx, 0, none⟩ = some (.int .i64 (i : Int)) := by rw [cell_at HBW.out]; rfl
 have u1 : w3.cell? ⟨bx, 1, none⟩ = some (.int .i64 (modeOf o)) := by rw [cell_at HBW.out]; rfl
 have HBL : Hid (w.heap.size ≤ W.heap.size ∧ W.heap.size ≤ bx) := ⟨HW.out.2.size, Nat.le_trans HK1.out.size hbx1⟩
 clear hbx1 hbx2 hk3 b0 b1 b2 b3 b0' b1' b2' b3' g0 g0'
 go_wp2_with fail
 refine (HCAL.out.good w3 HK3.out).mono ?_
 rintro e w4 ⟨rfl, hk4⟩
 have HK4 : Hid (Kept NoBlk w w4) := HK3.out.trans' hk4
 have v0 : w4.cell? ⟨W.heap.size, 0, none⟩ = some (.int .i64 o.k) := by rw [cell_at (hk4.heap HBO.out (fun x => x))]; rfl
 have v1' := hk4.cell0 v1
 have HKW4 : Hid (Kept NoBlk w3 w4) := hk4
 have u0' := hk4.cell0 u0
 have u1' := hk4.cell0 u1
 have HB4 : Hid (w4.heap[W.heap.size]? = some (.cells #[.int .i64 o.k, .int .i64 o.a, .int .i64 o.b, .int .i64 o.c] 114 (0, 0))) := hk4.heap HBO.out (fun x => x)
 clear v1 u0 u1 hk4
 by_cases hg : modeOf o ≤ (s.lk o.a).h i
 ·rw [decide_eq_true hg]
  have HG1 : Hid (s.go i = s.actOn i o) := by
   unfold Hid
   rw [HGO.out, if_neg (fun x => by omega)]
  by_cases h5 : o.k = 5
  ·have hreg : regB o.a = true := by
    unfold Op4.ok opB at hok
    rw [h5] at hok
    simpa using hok
   obtain ⟨b, hb, hb4⟩ := reg_nat hreg
   have cr := HK4.out.cell0 (HRG.out b hb4)
   have v0' : w4.cell? ⟨W.heap.size, 0, none⟩ = some (.int .i64 5) := by rw [← h5]; exact v0
   have v1'' : w4.cell? ⟨W.heap.size, 1, none⟩ = some (.int .i64 (b : Int)) := by rw [← hb]; exact v1'
   clear v0 v1'
   have HRB : Hid (o.k = 5 ∧ o.a = (b : Int)) := ⟨h5, hb⟩
   clear h5 hb
   by_cases hz : (s.tx i).regs (b : Int) = 0
   ·rw [hz] at cr
    have HZ : Hid ((s.tx i).regs (b : Int) = 0) := hz
    clear hz
    go_wp2_with fail
    go_quiet (fail)
    go_wp2_with fail
    refine (HCAL.out.now _ (HK4.out.drewN nq)).1.mono ?_
    rintro e w6 ⟨rfl, h6⟩
    have H6 : Hid (GoP L bs A ow m mu lv w (s.fell i 2, 4) w6) := h6
    clear h6
    go_wp2_with fail
    go_ret
    have hfin : s.go i = (s.fell i 2, 4) := by
     rw [HG1.out]
     unfold St.actOn
     rw [if_pos ⟨HRB.out.1, by rw [HRB.out.2]; exact HZ.out⟩]
    rw [hfin]
    exact ⟨rfl, H6.out⟩
   ·have hz' : ((s.tx i).regs (b : Int) == 0) = false := by rw [beq_eq_false_iff_ne]; exact hz
    have HZ : Hid (¬ (s.tx i).regs (b : Int) = 0) := hz
    clear hz
    go_wp2_with fail
    go_quiet (fail)
    have hb8 : (w4.drewN nq).heap[W.heap.size]? = some (.cells #[.int .i64 o.k, .int .i64 o.a, .int .i64 o.b, .int .i64 o.c] 114 (0, 0)) := HB4.out
    have x0 : (w4.drewN nq).cell? ⟨W.heap.size, 0, none⟩ = some (.int .i64 o.k) := by rw [cell_at hb8]; rfl
    have x1 : (w4.drewN nq).cell? ⟨W.heap.size, 1, none⟩ = some (.int .i64 o.a) := by rw [cell_at hb8]; rfl
    have x2 : (w4.drewN nq).cell? ⟨W.heap.size, 2, none⟩ = some (.int .i64 o.b) := by rw [cell_at hb8]; rfl
    have x3 : (w4.drewN nq).cell? ⟨W.heap.size, 3, none⟩ = some (.int .i64 o.c) := by rw [cell_at hb8]; rfl
    have HD : Hid (Calls Tryz.prog 97 #[.pointer (some ⟨L.p, 0, none⟩), .pointer (some ⟨bs i, 0, none⟩), .agg #[.int .i64 o.k, .int .i64 o.a, .int .i64 o.b, .int .i64 o.c]] (w4.drewN nq) fun e w' => e = .returned (.tuple #[]) ∧ GoP L bs A ow m mu lv w (s.doOp i o, 1) w') := (HCAL.out.now (w4.drewN nq) (HK4.out.drewN nq)).2
    clear hb8
    generalize w4.drewN nq = W5 at *
    go_wp2_with fail
    refine HD.out.mono ?_
    rintro e w6 ⟨rfl, h6⟩
    have H6 : Hid (GoP L bs A ow m mu lv w (s.doOp i o, 1) w6) := h6
    clear h6
    go_wp2_with fail
    go_ret
    have hfin : s.go i = (s.doOp i o, 1) := by
     rw [HG1.out]
     unfold St.actOn
     rw [if_neg (fun x => HZ.out (by rw [← HRB.out.2]; exact x.2))]
    rw [hfin]
    exact ⟨rfl, H6.out⟩
  ·have h5' : (o.k == 5) = false := by rw [beq_eq_false_iff_ne]; exact h5
   have H5 : Hid (¬ o.k = 5) := h5
   clear h5
   go_wp2_with fail
   go_quiet (fail)
   have hb8 : (w4.drewN nq).heap[W.heap.size]? = some (.cells #[.int .i64 o.k, .int .i64 o.a, .int .i64 o.b, .int .i64 o.c] 114 (0, 0)) := HB4.out
   have x0 : (w4.drewN nq).cell? ⟨W.heap.size, 0, none⟩ = some (.int .i64 o.k) := by rw [cell_at hb8]; rfl
   have x1 : (w4.drewN nq).cell? ⟨W.heap.size, 1, none⟩ = some (.int .i64 o.a) := by rw [cell_at hb8]; rfl
   have x2 : (w4.drewN nq).cell? ⟨W.heap.size, 2, none⟩ = some (.int .i64 o.b) := by rw [cell_at hb8]; rfl
   have x3 : (w4.drewN nq).cell? ⟨W.heap.size, 3, none⟩ = some (.int .i64 o.c) := by rw [cell_at hb8]; rfl
   have HD : Hid (Calls Tryz.prog 97 #[.pointer (some ⟨L.p, 0, none⟩), .pointer (some ⟨bs i, 0, none⟩), .agg #[.int .i64 o.k, .int .i64 o.a, .int .i64 o.b, .int .i64 o.c]] (w4.drewN nq) fun e w' => e = .returned (.tuple #[]) ∧ GoP L bs A ow m mu lv w (s.doOp i o, 1) w') := (HCAL.out.now (w4.drewN nq) (HK4.out.drewN nq)).2
   clear hb8
   generalize w4.drewN nq = W5 at *
   go_wp2_with fail
   refine HD.out.mono ?_
   rintro e w6 ⟨rfl, h6⟩
   have H6 : Hid (GoP L bs A ow m mu lv w (s.doOp i o, 1) w6) := h6
   clear h6
   go_wp2_with fail
   go_ret
   have hfin : s.go i = (s.doOp i o, 1) := by
    rw [HG1.out]
    unfold St.actOn
    rw [if_neg (fun x => H5.out x.1)]
   rw [hfin]
   exact ⟨rfl, H6.out⟩
 ·rw [decide_eq_false hg]
  have hmd : 0 < modeOf o := by have := HLH.out; omega
  have HM : Hid (0 < modeOf o ∧ ¬ o.k = 5) := ⟨hmd, fun e => by unfold modeOf at hmd; rw [e] at hmd; simp at hmd⟩
  have HG1 : Hid (s.go i = if s.crowded o.a then (s.fell i 3, 5) else if (s.lk o.a).q.isEmpty && !hind s.n (s.lk o.a).h i (modeOf o) then (s.grant i o.a (modeOf o)).actOn i o else (s.enq i o.a (modeOf o), 2)) := by
   unfold Hid
   rw [HGO.out, if_pos ⟨hmd, by omega⟩]
  have HBW4 : Hid (w4.heap[bx]? = some (.cells #[.int .i64 (i : Int), .int .i64 (modeOf o)] 107 (0, 0))) := HKW4.out.heap HBW.out (fun x => x)
  clear hg hmd
  go_wp2_with fail
  refine (HCAL.out.crowd w4 HK4.out).mono ?_
  rintro e w5 ⟨rfl, hk5⟩
  have HK5 : Hid (Kept NoBlk w w5) := HK4.out.trans' hk5
  have HB5 : Hid (w5.heap[W.heap.size]? = some (.cells #[.int .i64 o.k, .int .i64 o.a, .int .i64 o.b, .int .i64 o.c] 114 (0, 0))) := hk5.heap HB4.out (fun x => x)
  have HBW5 : Hid (w5.heap[bx]? = some (.cells #[.int .i64 (i : Int), .int .i64 (modeOf o)] 107 (0, 0))) := hk5.heap HBW4.out (fun x => x)
  have a1 : w5.cell? ⟨W.heap.size, 1, none⟩ = some (.int .i64 o.a) := by rw [cell_at HB5.out]; rfl
  have a2 : w5.cell? ⟨bx, 0, none⟩ = some (.int .i64 (i : Int)) := by rw [cell_at HBW5.out]; rfl
  have a3 : w5.cell? ⟨bx, 1, none⟩ = some (.int .i64 (modeOf o)) := by rw [cell_at HBW5.out]; rfl
  clear hk5 v0 v1' u0' u1'
  cases hc : s.crowded o.a
  ·have HC : Hid (s.crowded o.a = false) := hc
   have HG3 : Hid (s.go i = if (s.lk o.a).q.isEmpty && !hind s.n (s.lk o.a).h i (modeOf o) then (s.grant i o.a (modeOf o)).actOn i o else (s.enq i o.a (modeOf o), 2)) := by
    unfold Hid
    rw [HG1.out, if_neg (by rw [hc]; simp)]
   clear hc
   go_wp2_with fail
   refine (HCAL.out.free w5 HK5.out).mono ?_
   rintro e w6 ⟨rfl, hk6⟩
   have HK6 : Hid (Kept NoBlk w w6) := HK5.out.trans' hk6
   have HB6 : Hid (w6.heap[W.heap.size]? = some (.cells #[.int .i64 o.k, .int .i64 o.a, .int .i64 o.b, .int .i64 o.c] 114 (0, 0))) := hk6.heap HB5.out (fun x => x)
   have HBW6 : Hid (w6.heap[bx]? = some (.cells #[.int .i64 (i : Int), .int .i64 (modeOf o)] 107 (0, 0))) := hk6.heap HBW5.out (fun x => x)
   have b1 : w6.cell? ⟨W.heap.size, 1, none⟩ = some (.int .i64 o.a) := by rw [cell_at HB6.out]; rfl
   have b2 : w6.cell? ⟨bx, 0, none⟩ = some (.int .i64 (i : Int)) := by rw [cell_at HBW6.out]; rfl
   have b3 : w6.cell? ⟨bx, 1, none⟩ = some (.int .i64 (modeOf o)) := by rw [cell_at HBW6.out]; rfl
   clear hk6 a1 a2 a3
   cases hf : ((s.lk o.a).q.isEmpty && !hind s.n (s.lk o.a).h i (modeOf o))
   ·have HG2 : Hid (s.go i = (s.enq i o.a (modeOf o), 2)) := by
     unfold Hid
     rw [HG3.out, if_neg (by rw [hf]; simp)]
    clear hf
    go_wp2_with fail
    refine (HCAL.out.wait w6 HK6.out).mono ?_
    rintro e w9 ⟨rfl, h9⟩
    have H9 : Hid (GoP L bs A ow m mu lv w (s.enq i o.a (modeOf o), 2) w9) := h9
    clear h9
    go_wp2_with fail
    go_ret
    rw [HG2.out]
    exact ⟨rfl, H9.out⟩
   ·have HF : Hid (((s.lk o.a).q.isEmpty && !hind s.n (s.lk o.a).h i (modeOf o)) = true) := hf
    have HG1 : Hid (s.go i = (s.grant i o.a (modeOf o)).actOn i o) := by
     unfold Hid
     rw [HG3.out, if_pos hf]
    clear hf
    go_wp2_with fail
    refine (HCAL.out.take HM.out.1 HC.out HF.out w6 HK6.out).mono ?_
    rintro e w7 ⟨rfl, hr7, hk7⟩
    have HR7 : Hid (Ready L bs A ow m mu lv w (s.grant i o.a (modeOf o)) i o w7) := hr7
    have HB4 : Hid (w7.heap[W.heap.size]? = some (.cells #[.int .i64 o.k, .int .i64 o.a, .int .i64 o.b, .int .i64 o.c] 114 (0, 0))) := hk7.heap HB6.out (fun e => by unfold Blk at e; have h1 := HBL.out; have h2 := HHB.out; omega)
    have y0 : w7.cell? ⟨W.heap.size, 0, none⟩ = some (.int .i64 o.k) := by rw [cell_at HB4.out]; rfl
    have h5' : (o.k == 5) = false := by rw [beq_eq_false_iff_ne]; exact HM.out.2
    clear hr7 hk7 b1 b2 b3
    go_wp2_with fail
    go_quiet (fail)
    have hb8 : (w7.drewN nq).heap[W.heap.size]? = some (.cells #[.int .i64 o.k, .int .i64 o.a, .int .i64 o.b, .int .i64 o.c] 114 (0, 0)) := HB4.out
    have x0 : (w7.drewN nq).cell? ⟨W.heap.size, 0, none⟩ = some (.int .i64 o.k) := by rw [cell_at hb8]; rfl
    have x1 : (w7.drewN nq).cell? ⟨W.heap.size, 1, none⟩ = some (.int .i64 o.a) := by rw [cell_at hb8]; rfl
    have x2 : (w7.drewN nq).cell? ⟨W.heap.size, 2, none⟩ = some (.int .i64 o.b) := by rw [cell_at hb8]; rfl
    have x3 : (w7.drewN nq).cell? ⟨W.heap.size, 3, none⟩ = some (.int .i64 o.c) := by rw [cell_at hb8]; rfl
    have HD : Hid (Calls Tryz.prog 97 #[.pointer (some ⟨L.p, 0, none⟩), .pointer (some ⟨bs i, 0, none⟩), .agg #[.int .i64 o.k, .int .i64 o.a, .int .i64 o.b, .int .i64 o.c]] (w7.drewN nq) fun e w' => e = .returned (.tuple #[]) ∧ GoP L bs A ow m mu lv w ((s.grant i o.a (modeOf o)).doOp i o, 1) w') := (HR7.out (w7.drewN nq) ((Kept.refl _ _).drewN nq)).2
    clear hb8
    generalize w7.drewN nq = W5 at *
    go_wp2_with fail
    refine HD.out.mono ?_
    rintro e w6 ⟨rfl, h6⟩
    have H6 : Hid (GoP L bs A ow m mu lv w ((s.grant i o.a (modeOf o)).doOp i o, 1) w6) := h6
    clear h6
    go_wp2_with fail
    go_ret
    have hfin : s.go i = ((s.grant i o.a (modeOf o)).doOp i o, 1) := by
     rw [HG1.out]
     unfold St.actOn
     rw [if_neg (fun x => HM.out.2 x.1)]
    rw [hfin]
    exact ⟨rfl, H6.out⟩
  ·have HG2 : Hid (s.go i = (s.fell i 3, 5)) := by
    unfold Hid
    rw [HG1.out, if_pos hc]
   clear hc
   go_wp2_with fail
   refine (HCAL.out.fell w5 HK5.out).mono ?_
   rintro e w9 ⟨rfl, h9⟩
   have H9 : Hid (GoP L bs A ow m mu lv w (s.fell i 3, 5) w9) := h9
   clear h9
   go_wp2_with fail
   go_ret
   rw [HG2.out]
   exact ⟨rfl, H9.out⟩
end Go.Proofs.YtmcajfefagdbnaaGreat
namespace Go.Proofs.YtmcajfefagdbnaaGreat
open Go Go.RowKit Go.Sort Go.Lib
open Go.MuLone
theorem pstep {L : Lay} {bs : Nat → Nat} {A : List Nat} {ow : Ow} {m : Nat} {mu lv : Int} {s : St} {w : World} (h : PSt L bs A ow m mu lv s w) (hI : Inv s) (i : Nat) (hi : i ∈ A) (hst : (s.tx i).state = 0) (hact : s.act.length ≤ 16) (hmm : m + 1001 ≤ 1099511627776) (hlv : 1 ≤ lv ∧ lv ≤ 12) (hag : 0 ≤ (s.tx i).agains ∧ (s.tx i).agains ≤ 1152921504606846976) (hws : s.wins.length ≤ 1099511627776) :
  Calls Tryz.prog 62 #[.pointer (some ⟨L.p, 0, none⟩), .pointer (some ⟨bs i, 0, none⟩)] w fun e w' => e = .returned (.int .i64 (s.go i).2) ∧ GoP L bs A ow m mu lv w (s.go i) w' := by
 have hin := h.among i hi
 cases hw : (s.tx i).wounded with
 | true =>
  rw [go_again hw]
  refine (pstep_again h hI i hi hst hact (by omega) hag hw).mono ?_
  rintro e w' ⟨rfl, h1, h2⟩
  refine ⟨rfl, ⟨ow, ?_, AgreeP.refl _ _⟩, h2⟩
  rw [if_neg (show ¬ 4 ≤ (s.again i, (3 : Int)).2 from (by show ¬ (4 : Int) ≤ 3; omega))]
  exact h1.mono (by omega)
 | false =>
  cases hwt : (s.tx i).waits with
  | some k =>
   have hwt' : (s.tx i).waits.isSome = true := by rw [hwt]; rfl
   rw [go_waits hw hwt']
   refine (pstep_waits h i hi hw hwt').mono ?_
   rintro e w' ⟨rfl, rfl⟩
   refine ⟨rfl, ⟨ow, ?_, AgreeP.refl _ _⟩, Kept.refl _ _⟩
   rw [if_neg (show ¬ 4 ≤ (s, (2 : Int)).2 from (by show ¬ (4 : Int) ≤ 2; omega))]
   exact h.mono (by omega)
  | none =>
   by_cases hnx : (s.tx i).next = (s.tx i).ops.length
   ·rw [go_commit hw hwt hnx]
    refine (pstep_commit h hI i hi hst hact (by omega) hlv hws hw hwt hnx).mono ?_
    rintro e w' ⟨rfl, ⟨ow', h1, h3⟩, h2⟩
    refine ⟨rfl, ⟨ow', ?_, h3⟩, h2⟩
    rw [if_pos (show 4 ≤ (s.commit i, (6 : Int)).2 from (by show (4 : Int) ≤ 6; omega))]
    exact h1.mono (by omega)
   ·obtain ⟨ov, rv, dv, y1, y2, y3, y4, y5⟩ := h.txs i hin.1 hin.2
    obtain ⟨yr, l1, l2, l3, l4, _⟩ := y5 hst
    exact pstep_op h hI i hi hst hact hmm hlv hw hwt (by omega)
def lvAft (a lv : Int) : Int := if 4 ≤ a then lv - 1 else lv
def CallP (L : Lay) (bs : Nat → Nat) (A : List Nat) (ow : Ow) (m : Nat) (lv : Int) (w : World) (s' : St) (w' : World) : Prop :=
 (∃ ow', PSt L bs A ow' m 0 lv s' w' ∧ AgreeP w ow ow') ∧ Kept (OwnP ow) w w'
set_option maxRecDepth 20000 in
set_option maxHeartbeats 1600000 in
theorem pStep {L : Lay} {bs : Nat → Nat} {A : List Nat} {ow : Ow} {m : Nat} {lv : Int} {s : St} {w : World} (h : PSt L bs A ow m 0 lv s w) (hI : Inv s) (id : Int) (hA : ∀ i, 1 ≤ i → i ≤ s.n → (s.tx i).state = 0 → i ∈ A) (hact : s.act.length ≤ 16) (hmm : m + 1001 ≤ 1099511627776)
  (hlv : ∀ i, 1 ≤ i → i ≤ s.n → (s.tx i).state = 0 → 1 ≤ lv ∧ lv ≤ 12) (hag : ∀ i, 0 ≤ (s.tx i).agains ∧ (s.tx i).agains ≤ 1152921504606846976) (hws : s.wins.length ≤ 1099511627776) :
  Calls Tryz.prog 22 #[.pointer (some ⟨L.p, 0, none⟩), .int .i64 id] w fun e w' => e = .returned (.tuple #[.int .i64 (s.step id).2.1, .int .i64 (s.step id).2.2]) ∧ CallP L bs A ow (m + 500) (lvAft (s.step id).2.1 lv) w (s.step id).1 w' := by
 have h1 := h.locked 1
 have hk1 : Kept (OwnP ow) w (w.setCell ⟨L.p, 0, none⟩ (.int .i32 1)) := h.keptP _
 obtain ⟨c0, f0⟩ := h.mucell
 have HK1 : Hid (Kept (OwnP ow) w (w.setCell ⟨L.p, 0, none⟩ (.int .i32 1))) := hk1
 have H1 : Hid (PSt L bs A ow m 1 lv s (w.setCell ⟨L.p, 0, none⟩ (.int .i32 1))) := h1
 have HKP : Hid (∀ (W : World) (v : Value), Kept (OwnP ow) W (W.setCell ⟨L.p, 0, none⟩ v)) := fun W v => h.keptP v
 by_cases hid : id < 1 ∨ (s.n : Int) < id
 ·have e1 : s.step id = (s, 0, 5) := by unfold St.step St.there; rw [if_pos (show id < 1 ∨ id > (s.n : Int) from hid)]; rfl
  rw [e1]
  have HF : Hid (Calls Tryz.prog 61 #[.pointer (some ⟨L.p, 0, none⟩), .int .i64 id] (w.setCell ⟨L.p, 0, none⟩ (.int .i32 1)) fun e w' => e = .returned (.tuple #[.pointer none, .int .i64 5]) ∧ w' = w.setCell ⟨L.p, 0, none⟩ (.int .i32 1)) := findLiving_none h1 id hid
  clear h h1 hk1 hI hA hact hlv hag hws hid e1
  go_enter_defers Tryz.func22, Tryz.ntmps22
  go_wp2_with fail
  refine (lock_free Tryz.muLib ⟨L.p, 0, none⟩ _ c0 f0).mono ?_
  rintro e w1 ⟨rfl, rfl⟩
  generalize w.setCell ⟨L.p, 0, none⟩ (.int .i32 1) = W1 at *
  go_wp2_with fail
  refine HF.out.mono ?_
  rintro e w2 ⟨rfl, rfl⟩
  go_wp2_with fail
  refine leaves_cons (f := 60) (args := #[.pointer (some ⟨L.p, 0, none⟩)]) (by simp) (by simp [go_sem]) ?_
  refine (unlock_deferred Tryz.muLib ⟨L.p, 0, none⟩ .returning _ H1.out.mucell.1 H1.out.mucell.2).mono ?_
  rintro e u' w'' ⟨rfl, rfl, rfl⟩
  refine ⟨_, results_tmp2 rfl _ _ _, ?_, ⟨ow, ?_, AgreeP.refl _ _⟩, HK1.out.trans' (HKP.out _ _)⟩
  ·first | rfl | (simp; done)
  ·exact (H1.out.locked 0).mono (by omega)
 ·obtain ⟨i, rfl⟩ : ∃ i : Nat, id = (i : Int) := ⟨id.toNat, by omega⟩
  have hin : 1 ≤ i ∧ i ≤ s.n := by omega
  by_cases hst : (s.tx i).state = 0
  ·have e1 : s.step (i : Int) = ((s.go i).1, (s.go i).2, 0) := by
    have e0 : s.there (i : Int) = 0 := by unfold St.there; rw [if_neg (show ¬ ((i : Int) < 1 ∨ (i : Int) > (s.n : Int)) from hid), Int.toNat_natCast, if_neg (by simpa using hst)]
    unfold St.step; rw [e0]; rfl
   rw [e1]
   have hf := findLiving_some h1 i hin
   rw [if_pos hst] at hf
   have HF : Hid (Calls Tryz.prog 61 #[.pointer (some ⟨L.p, 0, none⟩), .int .i64 (i : Int)] (w.setCell ⟨L.p, 0, none⟩ (.int .i32 1)) fun e w' => e = .returned (.tuple #[.pointer (some ⟨bs i, 0, none⟩), .int .i64 0]) ∧ w' = w.setCell ⟨L.p, 0, none⟩ (.int .i32 1)) := hf
   have HS : Hid (Calls Tryz.prog 62 #[.pointer (some ⟨L.p, 0, none⟩), .pointer (some ⟨bs i, 0, none⟩)] (w.setCell ⟨L.p, 0, none⟩ (.int .i32 1)) fun e w' => e = .returned (.int .i64 (s.go i).2) ∧ GoP L bs A ow m 1 lv (w.setCell ⟨L.p, 0, none⟩ (.int .i32 1)) (s.go i) w') := pstep h1 hI i (hA i hin.1 hin.2 hst) hst hact hmm (hlv i hin.1 hin.2 hst) (hag i) hws
   have HSZ : Hid (w.heap.size ≤ (w.setCell ⟨L.p, 0, none⟩ (.int .i32 1)).heap.size) := hk1.size
   clear h h1 hk1 hI hA hact hlv hag hws hid e1 hf hin hst
   generalize s.go i = r at *
   go_enter_defers Tryz.func22, Tryz.ntmps22
   go_wp2_with fail
   refine (lock_free Tryz.muLib ⟨L.p, 0, none⟩ _ c0 f0).mono ?_
   rintro e w1 ⟨rfl, rfl⟩
   generalize w.setCell ⟨L.p, 0, none⟩ (.int .i32 1) = W1 at *
   go_wp2_with fail
   refine HF.out.mono ?_
   rintro e w2 ⟨rfl, rfl⟩
   go_wp2_with fail
   refine HS.out.mono ?_
   rintro e w3 ⟨rfl, ⟨ow', h3, ha3⟩, hk3⟩
   have H3 : Hid (PSt L bs A ow' (m + 500) 1 (lvAft r.2 lv) r.1 w3 ∧ AgreeP w2 ow ow' ∧ Kept (OwnP ow) w2 w3) := ⟨h3, ha3, hk3⟩
   clear h3 ha3 hk3
   go_wp2_with fail
   refine leaves_cons (f := 60) (args := #[.pointer (some ⟨L.p, 0, none⟩)]) (by simp) (by simp [go_sem]) ?_
   refine (unlock_deferred Tryz.muLib ⟨L.p, 0, none⟩ .returning _ H3.out.1.mucell.1 H3.out.1.mucell.2).mono ?_
   rintro e u' w'' ⟨rfl, rfl, rfl⟩
   refine ⟨_, results_tmp2 rfl _ _ _, ?_, ⟨ow', H3.out.1.locked 0, fun k hk => H3.out.2.1 k (Nat.lt_of_lt_of_le hk HSZ.out)⟩, (HK1.out.trans' H3.out.2.2).trans' (HKP.out _ _)⟩
   first | rfl | (simp; done)
  ·have e1 : s.step (i : Int) = (s, 0, 6) := by
    have e0 : s.there (i : Int) = 6 := by unfold St.there; rw [if_neg (show ¬ ((i : Int) < 1 ∨ (i : Int) > (s.n : Int)) from hid), Int.toNat_natCast, if_pos (by simpa using hst)]
    unfold St.step; rw [e0]; rfl
   rw [e1]
   have hf := findLiving_some h1 i hin
   rw [if_neg hst] at hf
   have HF : Hid (Calls Tryz.prog 61 #[.pointer (some ⟨L.p, 0, none⟩), .int .i64 (i : Int)] (w.setCell ⟨L.p, 0, none⟩ (.int .i32 1)) fun e w' => e = .returned (.tuple #[.pointer none, .int .i64 6]) ∧ w' = w.setCell ⟨L.p, 0, none⟩ (.int .i32 1)) := hf
   clear h h1 hk1 hI hA hact hlv hag hws hid e1 hf hin hst
   go_enter_defers Tryz.func22, Tryz.ntmps22
   go_wp2_with fail
   refine (lock_free Tryz.muLib ⟨L.p, 0, none⟩ _ c0 f0).mono ?_
   rintro e w1 ⟨rfl, rfl⟩
   generalize w.setCell ⟨L.p, 0, none⟩ (.int .i32 1) = W1 at *
   go_wp2_with fail
   refine HF.out.mono ?_
   rintro e w2 ⟨rfl, rfl⟩
   go_wp2_with fail
   refine leaves_cons (f := 60) (args := #[.pointer (some ⟨L.p, 0, none⟩)]) (by simp) (by simp [go_sem]) ?_
   refine (unlock_deferred Tryz.muLib ⟨L.p, 0, none⟩ .returning _ H1.out.mucell.1 H1.out.mucell.2).mono ?_
   rintro e u' w'' ⟨rfl, rfl, rfl⟩
   refine ⟨_, results_tmp2 rfl _ _ _, ?_, ⟨ow, ?_, AgreeP.refl _ _⟩, HK1.out.trans' (HKP.out _ _)⟩
   ·first | rfl | (simp; done)
   ·exact (H1.out.locked 0).mono (by omega)
end Go.Proofs.YtmcajfefagdbnaaGreat
