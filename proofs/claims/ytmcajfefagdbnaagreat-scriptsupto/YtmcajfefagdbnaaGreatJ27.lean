import Derived.Test.YtmcajfefagdbnaaGreatJ25
import Derived.Test.YtmcajfefagdbnaaGreatJ17
import Derived.Test.YtmcajfefagdbnaaGreatJ26
namespace Go.Proofs.YtmcajfefagdbnaaGreat
open Go Go.RowKit Go.Sort Go.Lib
theorem TxnAt.cells {ow : Ow} {p : Nat} {w : World} {i b : Nat} {t : Tx} (h : TxnAt ow p w i b t) : ∃ ov rv dv, w.heap[b]? = some (.cells #[.int .i64 (i : Int), ov, .int .i64 t.stamp, .int .i64 t.state, .int .i64 t.agains, .int .i64 (t.next : Int), .bool t.wounded, .bool t.waits.isSome, .int .i64 (t.regs 0), .int .i64 (t.regs 1), .int .i64 (t.regs 2), .int .i64 (t.regs 3), rv, dv] 146 (0, 0)) ∧ w.cell? ⟨b, 0, none⟩ = some (.int .i64 (i : Int)) ∧ w.cell? ⟨b, 1, none⟩ = some ov ∧ w.cell? ⟨b, 5, none⟩ = some (.int .i64 (t.next : Int)) ∧ (t.state = 0 → LiveAt ow p w i t ov dv) := by
 obtain ⟨ov, rv, dv, h1, h2, h3, h4, h5⟩ := h
 exact ⟨ov, rv, dv, h1, by rw [cell_at h1]; rfl, by rw [cell_at h1]; rfl, by rw [cell_at h1]; rfl, fun h0 => (h5 h0).2⟩
theorem opCells_at (l : List Op4) : ∀ k, k < l.length → (opCells l)[k * 4]? = some (.int .i64 (l.getD k Op4.z).k) ∧ (opCells l)[k * 4 + 1]? = some (.int .i64 (l.getD k Op4.z).a) ∧ (opCells l)[k * 4 + 2]? = some (.int .i64 (l.getD k Op4.z).b) ∧ (opCells l)[k * 4 + 3]? = some (.int .i64 (l.getD k Op4.z).c) := by
 induction l with
 | nil => intro k hk; simp at hk
 | cons o l ih =>
  intro k hk
  cases k with
  | zero => simp [opCells, Op4.cells]
  | succ k =>
   have := ih k (by simpa using hk)
   rw [show (k + 1) * 4 = k * 4 + 4 from by omega]
   simpa [opCells, Op4.cells] using this
theorem RowAt.op {w : World} {n : Nat} {v : Value} {l : List Op4} (h : RowAt w 114 4 v n (opCells l)) (k : Nat) (hk : k < l.length) : ∃ g off c, v = .slice (some ⟨g, off, none⟩) n c ∧ l.length = n ∧ w.cell? ⟨g, off + k * 4, none⟩ = some (.int .i64 (l.getD k Op4.z).k) ∧ w.cell? ⟨g, off + k * 4 + 1, none⟩ = some (.int .i64 (l.getD k Op4.z).a) ∧
  w.cell? ⟨g, off + k * 4 + 2, none⟩ = some (.int .i64 (l.getD k Op4.z).b) ∧ w.cell? ⟨g, off + k * 4 + 3, none⟩ = some (.int .i64 (l.getD k Op4.z).c) := by
 have hl := h.1
 rw [opCells_len] at hl
 rcases h.2 with ⟨_, h1⟩ | ⟨g, off, cap, cur, h0, _⟩
 ·omega
 ·obtain rfl := h0
  obtain ⟨e0, e1, e2, e3⟩ := opCells_at l k hk
  refine ⟨g, off, cap, rfl, by omega, h.cell _ e0, ?_, ?_, ?_⟩ <;> (rw [Nat.add_assoc]; first | exact h.cell _ e1 | exact h.cell _ e2 | exact h.cell _ e3)
theorem qcast_filter (q : List (Nat × Int)) (i : Nat) : (qcast q).filter (fun x => x.1 != (i : Int)) = qcast (q.filter (fun x => x.1 != i)) := by
 unfold qcast
 rw [List.filter_map]
 congr 1
 apply List.filter_congr
 intro x _
 simp only [Function.comp]
 by_cases e : x.1 = i
 ·simp [e]
 ·have : (x.1 : Int) ≠ (i : Int) := by omega
  rw [bne_iff_ne.2 e, bne_iff_ne.2 this]
theorem PSt.restoreQ {L : Lay} {bs : Nat → Nat} {A : List Nat} {ow : Ow} {m : Nat} {mu lv : Int} {s : St} {W w1 : World} (h : PSt L bs A ow m mu lv s W) (row : Int) (hr : inI row) {g off c k : Nat} {r : List (Nat × Int)} (hg : ow g = (7, row)) (hk1 : Kept (Blk g) W w1) (hrow : RowAt w1 107 2 (.slice (some ⟨g, off, none⟩) k c) k (lkc (qcast r)))
  (hd : ∀ x ∈ r, x.1 ∈ A) (hm : m < maxLen) :
  ∃ w2, (Instr.mapUpdate 125 (.map (some L.qb)) (.int .i64 row) (.slice (some ⟨g, off, none⟩) k c)).run Tryz.prog w1 = .ok () w2 ∧ PSt L bs A ow (m + 1) mu lv (s.withLk (upd s.lk row ⟨(s.lk row).h, r⟩)) w2 ∧ Kept (fun b => ow b = (4, 0) ∨ ow b = (7, row)) W w2 := by
 obtain ⟨qf, q1, q2⟩ := h.que
 have t4 := h.tags.2.2.2
 have hqg : L.qb ≠ g := fun e => by rw [← e, t4] at hg; exact tagNe (by omega) hg
 obtain ⟨w2, hrun, hm', hk, _⟩ := (q1.kept hk1 hqg).store Tryz.underlying125 hm (a := row) hr (.slice (some ⟨g, off, none⟩) k c)
 have hkk : Kept (fun b => ow b = (4, 0) ∨ ow b = (7, row)) W w2 := (hk1.mono (fun b e => by cases e; exact .inr hg)).trans hk (fun b e => .inl (by cases e; exact .inl t4))
 have hlen : r.length = k := by have := hrow.1; rw [lkc_len] at this; simp [qcast] at this; omega
 refine ⟨w2, hrun, h.turnQueue row hkk (AgreeP.refl _ _) (fun b hb => Nat.lt_of_lt_of_le (h.lt b hb) hkk.size) (Nat.le_succ _) ⟨put qf row (some (.slice (some ⟨g, off, none⟩) k c)), hm', fun k' => ?_⟩ (fun k' => ?_) (fun k' x hx => ?_), hkk⟩
 ·by_cases e : k' = row
  ·subst e
   rw [upd_same]
   simp only [put, if_true]
   show RowT ow (7, k') w2 _ 2 _ r.length (lkc (qcast r))
   rw [hlen]
   refine ⟨hrow.kept hk (fun b hb e => ?_), fun b hb => by simp [Value.ownBlock] at hb; subst hb; exact hg⟩
   simp [Value.ownBlock] at hb
   subst hb
   exact hqg e.symm
  ·rw [upd_other _ _ _ _ e]
   simp only [put, if_neg e]
   refine (q2 k').kept (AgreeP.refl _ _) (fun j hj ej => hkk.block j hj (fun x => ?_))
   rcases x with x | x
   ·rw [ej] at x; exact tagNe (by omega) x
   ·rw [ej] at x; simp only [Prod.mk.injEq, true_and] at x; exact e x
 ·by_cases e : k' = row
  ·subst e; rw [upd_same]
  ·rw [upd_other _ _ _ _ e]
 ·by_cases e : k' = row
  ·subst e; rw [upd_same] at hx; exact ⟨hr, hd x hx⟩
  ·rw [upd_other _ _ _ _ e] at hx; exact h.qdom k' x hx
set_option maxRecDepth 20000 in
set_option maxHeartbeats 6400000 in
theorem pleaveQueue {L : Lay} {bs : Nat → Nat} {A : List Nat} {ow : Ow} {m : Nat} {mu lv : Int} {s : St} {w : World} (h : PSt L bs A ow m mu lv s w) (i : Nat) (hi : i ∈ A) (row md : Int) (hst : (s.tx i).state = 0) (hnx : (s.tx i).next < (s.tx i).ops.length) (hop : (s.tx i).op.a = row) (hq : (i, md) ∈ (s.lk row).q) (honce : ((s.lk row).q.map (·.1)).Nodup)
  (hmode : ∀ x ∈ (s.lk row).q, x.2 ≠ 0) (hmm : m + 400 ≤ 1099511627776) :
  Calls Tryz.prog 140 #[.pointer (some ⟨L.p, 0, none⟩), .pointer (some ⟨bs i, 0, none⟩)] w fun e w' => ∃ pre, e = .returned (.tuple #[]) ∧ (s.lk row).q.filter (fun x => x.1 != i) = pre ++ (settle s.n (s.lk row).h ((s.lk row).q.filter (fun x => x.1 != i))).q ∧
   PSt L bs A ow (m + 21) mu lv ((s.withLk (upd s.lk row (settle s.n (s.lk row).h ((s.lk row).q.filter (fun x => x.1 != i))))).withTx (clr pre (upd s.tx i { s.tx i with waits := none }))) w' ∧ Kept (OwnP ow) w w' := by
 have hin := h.among i hi
 have hr : inI row := (h.qdom row _ hq).1
 obtain ⟨ov, rv, dv, b1, c0, c1, c5, hlive⟩ := (h.txs i hin.1 hin.2).cells
 obtain ⟨l1, l2, l3, l4, l5, cs, l6, l7⟩ := hlive hst
 obtain ⟨og, oo, oc, rfl, _, o0, o1, _, _⟩ := l1.1.op (s.tx i).next hnx
 have hopa : ((s.tx i).ops.getD (s.tx i).next Op4.z).a = row := hop
 rw [hopa] at o1
 obtain ⟨u, tv, wv, p1, c3, c6, c7, c4, p2⟩ := h.cells
 generalize hw0 : w.alloc (.cells #[.pointer (some ⟨bs i, 0, none⟩)] 128) = w0
 have hk0 : Kept NoBlk w w0 := by rw [← hw0]; exact (Kept.refl _ _).alloc _
 have h0 := h.kept0 hk0
 have hbox : w0.cell? ⟨w.heap.size, 0, none⟩ = some (.pointer (some ⟨bs i, 0, none⟩)) := by rw [← hw0, cell_at (block_alloc_new w _)]; rfl
 have hwl : w.heap.size < w0.heap.size := World.block_lt_of_cell? _ _ hbox
 obtain ⟨v, hlook, hrow⟩ := h0.queueAt row hr
 obtain ⟨qg, qo, qc, rfl⟩ : ∃ g off c, v = .slice (some ⟨g, off, none⟩) (s.lk row).q.length c := by
  rcases hrow.1.2 with ⟨_, e⟩ | ⟨g, off, c, _, e, _⟩
  ·have := List.length_pos_of_mem hq; omega
  ·exact ⟨g, off, c, e⟩
 have hqt : ow qg = (7, row) := hrow.2 qg rfl
 have d1 := hk0.cell0 c1
 have d5 := hk0.cell0 c5
 have e1 := hk0.cell0 o1
 have d7 := hk0.cell0 c7
 have hbt : ow (bs i) = (8, (i : Int)) := by obtain ⟨_, _, _, _, x, _⟩ := h.txs i hin.1 hin.2; exact x
 have hwt : ow w.heap.size = (0, 0) := by
  by_cases e : ow w.heap.size = (0, 0)
  ·exact e
  ·have := h.lt _ e; omega
 have hq12 := h.queueLen row honce
 have HDEL : Hid (∀ W, W.heap = w0.heap → Calls Tryz.prog 169 #[.slice (some ⟨qg, qo, none⟩) (s.lk row).q.length qc, .func (.func 170) #[] #[.pointer (some ⟨w.heap.size, 0, none⟩)]] W fun e w' => ∃ k, e = .returned (.slice (some ⟨qg, qo, none⟩) k qc) ∧ RowAt w' 107 2 (.slice (some ⟨qg, qo, none⟩) k qc) k (lkc ((qcast (s.lk row).q).filter fun x => x.1 != (i : Int))) ∧ Kept (Blk qg) W w') := by
  intro W hW
  have hb1 : W.cell? ⟨w.heap.size, 0, none⟩ = some (.pointer (some ⟨bs i, 0, none⟩)) := by rw [← hbox]; simp only [World.cell?, hW]
  have hb2 : W.cell? ⟨bs i, 0, none⟩ = some (.int .i64 (i : Int)) := by have := hk0.cell0 c0; rw [← this]; simp only [World.cell?, hW]
  refine deleteFunc_any qg qo _ qc w.heap.size (bs i) (i : Int) (qcast (s.lk row).q) W (hrow.1.of_block (fun _ _ => by rw [hW])) (by omega) ⟨hb1, hb2⟩ ?_ ?_ ?_
  ·intro e; rw [← e, hwt] at hqt; exact tagNe (by omega) hqt
  ·intro e; rw [← e, hbt] at hqt; exact tagNe (by omega) hqt
  ·exact ⟨((i : Int), md), by unfold qcast; exact List.mem_map.2 ⟨(i, md), hq, rfl⟩, rfl⟩
 have HLK : Hid (∀ W : World, W.heap = w0.heap → (Instr.lookup 125 (.map (some L.qb)) (.int .i64 row) false).run Tryz.prog W = .ok (.slice (some ⟨qg, qo, none⟩) (s.lk row).q.length qc) W) := hlook
 have hblb : bs i < w0.heap.size := World.block_lt_of_cell? _ _ d1
 have hblo := World.block_lt_of_cell? _ _ e1
 have hblp := World.block_lt_of_cell? _ _ d7
 have HH : Hid (PSt L bs A ow m mu lv s w) := h
 have HH0 : Hid (PSt L bs A ow m mu lv s w0) := h0
 have HQ : Hid ((i, md) ∈ (s.lk row).q ∧ ((s.lk row).q.map (·.1)).Nodup ∧ ∀ x ∈ (s.lk row).q, x.2 ≠ 0) := ⟨hq, honce, hmode⟩
 have HK0 : Hid (Kept NoBlk w w0) := hk0
 have HT : Hid (ow qg = (7, row) ∧ ow (bs i) = (8, (i : Int)) ∧ ow w.heap.size = (0, 0)) := ⟨hqt, hbt, hwt⟩
 have HIN : Hid (1 ≤ i ∧ i ≤ s.n) := hin
 have HOP : Hid (inI row) := hr
 generalize (s.tx i).next = nx at *
 generalize (s.tx i).ops.length = no at *
 clear hlive l1 l3 l6 l7 cs hopa b1 p1 p2 c3 c6 c4 o0 l5 hlook hrow h h0 hq honce hmode hk0 hqt hbt hwt hin hr c0 c1 c5 o1 c7
 go_enter Tryz.func140, Tryz.ntmps140
 go_wp2_with fail
 clear hw0
 go_quiet (fail)
 go_wp2_with fail
 have hl1 := HLK.out (w0.drewN nq).drew rfl
 have hd1 := HDEL.out (w0.drewN nq).drew rfl
 have hd7 : (w0.drewN nq).cell? ⟨L.p, 7, none⟩ = some (.map (some L.qb)) := d7
 have hdb : (w0.drewN nq).cell? ⟨w.heap.size, 0, none⟩ = some (.pointer (some ⟨bs i, 0, none⟩)) := hbox
 have HW : Hid ((w0.drewN nq).heap = w0.heap) := rfl
 have hsz : (w0.drewN nq).heap.size = w0.heap.size := rfl
 have HST0 : Hid (PSt L bs A ow m mu lv s (w0.drewN nq).drew) := (HH0.out : PSt L bs A ow m mu lv s w0).of_same (Nat.le_refl _) (fun _ _ => rfl)
 have HKD : Hid (Kept NoBlk w (w0.drewN nq).drew) := (HK0.out.drewN nq).drew
 have HMM : Hid (m < maxLen) := by unfold Hid maxLen; omega
 have HPG : Hid (¬ Blk qg L.p) := fun e => by have t1 := (HH.out : PSt L bs A ow m mu lv s w).tags.1; have t2 := HT.out.1; unfold Blk at e; rw [← e, t1] at t2; exact tagNe (by omega) t2
 have HD7 : Hid ((w0.drewN nq).drew.cell? ⟨L.p, 7, none⟩ = some (.map (some L.qb))) := d7
 generalize w0.drewN nq = W at *
 go_region_law (go_simp; go_at_call 169; refine hd1.mono ?_; rintro e w1 ⟨k, rfl, hrow1, hk1⟩; rw [qcast_filter] at hrow1; obtain ⟨w2, hrun2, hst2, hk2⟩ := PSt.restoreQ HST0.out row HOP.out HT.out.1 hk1 hrow1 (fun x hx => ((HH.out : PSt L bs A ow m mu lv s w).qdom row x (List.mem_filter.1 hx).1).2) HMM.out; have p7 := hk1.cell HD7.out HPG.out)
 all_goals
  have hbx2 : w2.cell? ⟨w.heap.size, 0, none⟩ = some (.pointer (some ⟨bs i, 0, none⟩)) := hk2.cell (show W.drew.cell? _ = _ from hdb) (fun x => by have t := HT.out.2.2; rcases x with x | x <;> (rw [t] at x; exact tagNe (by omega) x))
  obtain ⟨tx', x7, xf, xk⟩ := (hst2.txs i HIN.out.1 HIN.out.2).unwait
  have HP3 : Hid (PSt L bs A ow (m + 1) mu lv ((s.withLk (upd s.lk row ⟨(s.lk row).h, (s.lk row).q.filter (fun x => x.1 != i)⟩)).withTx (upd s.tx i { s.tx i with waits := none })) (w2.setCell ⟨bs i, 7, none⟩ (.bool false))) := hst2.turnTx i _ xk (AgreeP.refl _ _) (fun b hb => Nat.lt_of_lt_of_le (hst2.lt b hb) xk.size) (fun _ _ => tx')
  have HK3 : Hid (Kept (OwnP ow) w (w2.setCell ⟨bs i, 7, none⟩ (.bool false))) := ((HKD.out.mono (fun _ x => x.elim)).trans hk2 (fun b e => .inl (by unfold OwnP; rcases e with e | e <;> (rw [e]; exact tagNe (by omega))))).trans xk (fun b e => .inl (by unfold OwnP; rcases e with e | e <;> (rw [e]; exact tagNe (by omega))))
  clear hst2 hk2 tx' xk hrow1 hk1 p7 hrun2 hd7 hdb hl1 hd1
  go_wp2_with fail
  have hp3 : PSt L bs A ow (m + 1) mu lv ((s.withLk (upd s.lk row ⟨(s.lk row).h, (s.lk row).q.filter (fun x => x.1 != i)⟩)).withTx (upd s.tx i { s.tx i with waits := none })) (w2.setCell ⟨bs i, 7, none⟩ (.bool false)) := HP3.out
  have elk : ((s.withLk (upd s.lk row ⟨(s.lk row).h, (s.lk row).q.filter (fun x => x.1 != i)⟩)).withTx (upd s.tx i { s.tx i with waits := none })).lk row = ⟨(s.lk row).h, (s.lk row).q.filter (fun x => x.1 != i)⟩ := by show upd s.lk row _ row = _; rw [upd_same]
  have hfn : (((s.lk row).q.filter (fun x => x.1 != i)).map (·.1)).Nodup := List.Sublist.nodup (List.Sublist.map _ List.filter_sublist) HQ.out.2.1
  have hql := hp3.queueLen row (by rw [elk]; exact hfn)
  refine (pgrant hp3 row HOP.out hql (by rw [elk]; exact fun x hx => HQ.out.2.2 x (List.mem_filter.1 hx).1) (by unfold maxLen; omega)).mono ?_
  rintro e w3 ⟨pre, rfl, hpre, hst4, hk4⟩
  rw [elk] at hpre hst4
  have e4 : ((((s.withLk (upd s.lk row ⟨(s.lk row).h, (s.lk row).q.filter (fun x => x.1 != i)⟩)).withTx (upd s.tx i { s.tx i with waits := none })).withLk (upd ((s.withLk (upd s.lk row ⟨(s.lk row).h, (s.lk row).q.filter (fun x => x.1 != i)⟩)).withTx (upd s.tx i { s.tx i with waits := none })).lk row (settle ((s.withLk (upd s.lk row ⟨(s.lk row).h, (s.lk row).q.filter (fun x => x.1 != i)⟩)).withTx (upd s.tx i { s.tx i with waits := none })).n (s.lk row).h ((s.lk row).q.filter (fun x => x.1 != i))))).withTx (clr pre ((s.withLk (upd s.lk row ⟨(s.lk row).h, (s.lk row).q.filter (fun x => x.1 != i)⟩)).withTx (upd s.tx i { s.tx i with waits := none })).tx))
    = (s.withLk (upd s.lk row (settle s.n (s.lk row).h ((s.lk row).q.filter (fun x => x.1 != i))))).withTx (clr pre (upd s.tx i { s.tx i with waits := none })) := by
   show (s.withLk (upd (upd s.lk row ⟨(s.lk row).h, (s.lk row).q.filter (fun x => x.1 != i)⟩) row (settle s.n (s.lk row).h ((s.lk row).q.filter (fun x => x.1 != i))))).withTx (clr pre (upd s.tx i { s.tx i with waits := none })) = _
   rw [upd_upd]
  rw [e4] at hst4
  have HE : Hid (PSt L bs A ow (m + 21) mu lv ((s.withLk (upd s.lk row (settle s.n (s.lk row).h ((s.lk row).q.filter (fun x => x.1 != i))))).withTx (clr pre (upd s.tx i { s.tx i with waits := none }))) w3) := hst4.mono (by omega)
  have HPR : Hid ((s.lk row).q.filter (fun x => x.1 != i) = pre ++ (settle s.n (s.lk row).h ((s.lk row).q.filter (fun x => x.1 != i))).q) := hpre
  have HK4 : Hid (Kept (OwnP ow) w w3) := HK3.out.trans' hk4
  clear hp3 elk hfn hql hpre hst4 hk4 e4
  go_wp2_with fail
  go_end0
  exact ⟨pre, rfl, HPR.out, HE.out, HK4.out⟩
end Go.Proofs.YtmcajfefagdbnaaGreat
namespace Go.Proofs.YtmcajfefagdbnaaGreat
open Go Go.RowKit
theorem infoIntW : (Tryz.prog.info? 3).map (fun i => (i.zero, i.size, i.bytes)) = some (some (.int .i64 0), 1, 8) := by kernel_rfl
theorem keysC_take (cl : List Cl) (k : Nat) (h : k < cl.length) : keysC (cl.take (k + 1)) = keyStep (keysC (cl.take k)) (cl.getD k Cl.z) := by
 unfold keysC
 rw [List.take_add_one, List.getElem?_eq_getElem h, List.foldl_append, List.getD_eq_getElem?_getD, List.getElem?_eq_getElem h]
 rfl
theorem contains_take (l : List Int) (x : Int) (j : Nat) (h : j < l.length) : (l.take (j + 1)).contains x = ((l.take j).contains x || (l.getD j 0 == x)) := by
 rw [List.take_add_one, List.getElem?_eq_getElem h, List.getD_eq_getElem?_getD, List.getElem?_eq_getElem h]
 rw [Bool.eq_iff_iff, List.contains_iff_mem, Bool.or_eq_true, List.contains_iff_mem, List.mem_append]
 constructor
 ·rintro (h1 | h1)
  ·exact .inl h1
  ·right
   have : x = l[j] := by simpa using h1
   simp [this]
 ·rintro (h1 | h1)
  ·exact .inl h1
  ·right
   have : l[j] = x := by simpa using h1
   simp [this]
def icsW (l : List Int) : List Value := l.map fun x => Value.int .i64 x
structure KeysI (w : World) (ks : List Int) (v : Value) (wr : World) : Prop where
 own : wr.ownsRow 0 3 1 v ks.length (icsW ks)
 new : ∀ b, v.ownBlock = some b → w.heap.size ≤ b
 kept : Kept NoBlk w wr
theorem KeysI.push {w : World} {ks : List Int} {v v' : Value} {wr W : World} (h : KeysI w ks v wr) (x : Int) {m : Nat} (hm : m = ks.length + 1) (hown : W.ownsRow 0 3 1 v' m (icsW ks ++ [.int .i64 x])) (hmv : Moved (wr.alloc (.cells #[.int .i64 x] 3)) W v v' m) : KeysI w (ks ++ [x]) v' W := by
 have hk := hmv.keptOf
 refine ⟨?_, fun b hb => ?_, (h.kept.alloc _).trans hk (fun k e => .inr (h.new k e))⟩
 ·subst hm
  simpa [icsW] using hown
 ·rcases hmv.fresh b hb with e | e
  ·exact h.new b e
  ·have := (h.kept.alloc (.cells #[.int .i64 x] 3)).size
   omega
set_option maxRecDepth 20000 in
set_option maxHeartbeats 3200000 in
theorem wcrowded (p : Nat) (cl : List Cl) (v : Value) (key : Int) (w : World) (hp : w.cell? ⟨p, 2, none⟩ = some v) (h : ClsSrc w v cl) (hn : cl.length ≤ 1099511627776) :
  Calls Tryz.prog 83 #[.pointer (some ⟨p, 0, none⟩), .int .i64 key] w fun e w' => e = .returned (.bool (crowdC cl key)) ∧ Kept NoBlk w w' := by
 have HS : Hid (ClsSrc w v cl) := h
 obtain ⟨ao, cp, rfl, _⟩ := h
 generalize hn' : cl.length = n at *
 have HN : Hid (cl.length = n) := hn'
 have HP : Hid (w.cell? ⟨p, 2, none⟩ = some (.slice ao n cp)) := hp
 obtain ⟨i1, hi1, hy0, hy1, hy2⟩ := info_parts infoIntW
 have HI : Hid (Tryz.prog.info? 3 = some i1 ∧ i1.zero = some (.int .i64 0) ∧ i1.size = 1 ∧ i1.bytes = 8) := ⟨hi1, hy0, hy1, hy2⟩
 clear hn' hp hi1 hy0 hy1 hy2
 go_enter Tryz.func83, Tryz.ntmps83
 go_wp2_with fail
 go_loopw [5, 6] (fun kv i wr => ∃ (k : Nat) (oa : Option Addr) (oc : Nat), k ≤ n ∧ i = .int .i64 k ∧ kv = .slice oa (keysC (cl.take k)).length oc ∧ (∀ c ∈ cl.take k, c.key ≠ key) ∧ KeysI w (keysC (cl.take k)) (.slice oa (keysC (cl.take k)).length oc) wr) (fun _ i _ => n - (intOf i).toNat)
 case atStart => exact ⟨0, none, 0, Nat.zero_le _, rfl, rfl, (fun c hc => by rw [List.take_zero] at hc; cases hc), World.ownsRow_nil _ _ _ _, (fun b hb => by simp [Value.ownBlock] at hb), Kept.refl _ _⟩
 case round =>
  obtain ⟨k, oa, oc, hk, rfl, rfl, hno, hw⟩ := hrel
  have c2 : wr.cell? ⟨p, 2, none⟩ = some (.slice ao n cp) := hw.kept.cell0 HP.out
  have HNO : Hid (∀ c ∈ cl.take k, c.key ≠ key) := hno
  have HW : Hid (KeysI w (keysC (cl.take k)) (.slice oa (keysC (cl.take k)).length oc) wr) := hw
  have hks : (keysC (cl.take k)).length ≤ k := by
   have := keyStep_len (cl.take k) []
   simp only [List.length_nil, List.length_take] at this
   unfold keysC
   omega
  clear hw hno
  by_cases hlt : k < n
  ·obtain ⟨ao', cp', hv, hss⟩ := HS.out.kept HW.out.kept (fun _ _ x => x)
   obtain ⟨b, off, hb, hat⟩ := hss (by rw [HN.out]; omega)
   simp only [Value.slice.injEq] at hv
   obtain ⟨rfl, hxx, rfl⟩ := hv
   clear hxx
   subst hb
   have g0 := (hat k (by rw [HN.out]; exact hlt)).1
   have HKT : Hid (keysC (cl.take (k + 1)) = keyStep (keysC (cl.take k)) (cl.getD k Cl.z)) := keysC_take cl k (by rw [HN.out]; exact hlt)
   have HMM : Hid (∀ c, c ∈ cl.take (k + 1) → c ∈ cl.take k ∨ c = cl.getD k Cl.z) := fun c hc => by
    rw [List.take_add_one, List.getElem?_eq_getElem (by rw [HN.out]; exact hlt)] at hc
    rcases List.mem_append.1 hc with h1 | h1
    ·exact .inl h1
    ·refine .inr ?_
     rw [List.getD_eq_getElem?_getD, List.getElem?_eq_getElem (by rw [HN.out]; exact hlt)]
     simpa using h1
   have HIN : Hid (cl.getD k Cl.z ∈ cl) := by
    unfold Hid
    rw [List.getD_eq_getElem?_getD, List.getElem?_eq_getElem (by rw [HN.out]; exact hlt)]
    exact List.getElem_mem _
   clear hss hat
   generalize hcc : cl.getD k Cl.z = cc at *
   clear hcc
   generalize hkc : keysC (cl.take k) = ks at *
   clear hkc
   generalize hkl : ks.length = kl at *
   have HKL : Hid (ks.length = kl) := hkl
   clear hkl
   have j0 : (0 : Int) ≤ (k : Int) := by omega
   have j1 : (k : Int) < (n : Int) := by omega
   by_cases hkey : cc.key = key
   ·have he : (cc.key == key) = true := by simpa using hkey
    go_wp2_with fail
    go_ret
    refine ⟨?_, HW.out.kept⟩
    unfold crowdC
    rw [if_pos (List.any_eq_true.2 ⟨cc, HIN.out, by simpa using hkey⟩)]
    rfl
   ·have he : (cc.key == key) = false := by simpa using hkey
    have HNX : Hid (∀ c ∈ cl.take (k + 1), c.key ≠ key) := fun c hc => by
     rcases HMM.out c hc with h1 | h1
     ·exact HNO.out c h1
     ·rw [h1]; exact hkey
    clear hkey
    go_wp2_with fail
    go_loopw [8, 9] (fun kn jv wr2 => ∃ jn : Nat, jn ≤ kl ∧ jv = .int .i64 jn ∧ kn = .bool ((ks.take jn).contains cc.key) ∧ wr2 = wr) (fun _ jv _ => kl - (intOf jv).toNat)
    case atStart => exact ⟨0, by omega, rfl, by simp, rfl⟩
    case round =>
     obtain ⟨jn, hjn, rfl, rfl, rfl⟩ := hrel
     by_cases hj : jn < kl
     ·obtain ⟨g, gc, hform, _, _⟩ := HW.out.own.form (by rw [HKL.out]; omega)
      rw [HKL.out] at hform
      simp only [Value.slice.injEq] at hform
      obtain ⟨rfl, hxx, rfl⟩ := hform
      clear hxx
      have gk : wr.cell? ⟨g, jn, none⟩ = some (.int .i64 (ks.getD jn 0)) := by
       have h1 := HW.out.own
       rw [HKL.out] at h1
       rw [h1.cellAt jn (by omega)]
       unfold icsW
       rw [List.getElem?_map, List.getD_eq_getElem?_getD, List.getElem?_eq_getElem (by rw [HKL.out]; exact hj)]
       rfl
      have HCT : Hid ((ks.take (jn + 1)).contains cc.key = ((ks.take jn).contains cc.key || (ks.getD jn 0 == cc.key))) := contains_take ks cc.key jn (by rw [HKL.out]; exact hj)
      generalize (ks.take jn).contains cc.key = kn at *
      generalize ks.getD jn 0 = kj at *
      have j2 : (0 : Int) ≤ (jn : Int) := by omega
      have j3 : (jn : Int) < (kl : Int) := by omega
      cases kn
      ·go_wp2_with fail
       go_roundw
       case rel => exact ⟨jn + 1, by omega, by go_num, by rw [HCT.out]; simp, trivial⟩
       case measure => simp [intOf]; omega
      ·go_wp2_with fail
       go_roundw
       case rel => exact ⟨jn + 1, by omega, by go_num, by rw [HCT.out]; simp, trivial⟩
       case measure => simp [intOf]; omega
     ·have hjk : jn = kl := by omega
      have hce : (ks.take jn).contains cc.key = ks.contains cc.key := by rw [hjk, ← HKL.out, List.take_length]
      rw [hce]
      clear hjk hce
      cases hkn : ks.contains cc.key
      ·have HFR : Hid ((wr.alloc (.cells #[.int .i64 cc.key] 3)).ownsRow 0 3 1 (.slice oa kl oc) kl (icsW ks) ∧ FromMem (wr.alloc (.cells #[.int .i64 cc.key] 3)) 1 (.slice (some ⟨wr.heap.size, 0, none⟩) 1 1) 1 [.int .i64 cc.key]) := by
        have h1 := HW.out.own
        rw [HKL.out] at h1
        exact ⟨ownsRow_kept h1 ((Kept.refl NoBlk wr).alloc _) (fun _ _ x => x), from_new wr [.int .i64 cc.key] _ 1 1 (by rfl) (by simp [Value.oneCell'])⟩
       have HB1 : Hid (kl + 1 ≤ maxLen ∧ (kl + 1) * 8 ≤ 140737488355328) := by unfold Hid maxLen; omega
       have HKN : Hid (ks.contains cc.key = false) := hkn
       clear hkn
       go_wp2_with (at_builtin; refine wpList_append_at (by rfl) _ _ 45 (by rfl) 3 i1 _ 1 8 Tryz.underlying45 HI.out.1 HI.out.2.1 HI.out.2.2.1 HI.out.2.2.2 (by rfl) (.slice oa kl oc) kl (icsW ks) (by rfl) HFR.out.1 (.slice (some ⟨wr.heap.size, 0, none⟩) 1 1) 1 [.int .i64 cc.key] (by rfl) HFR.out.2 HB1.out.1 HB1.out.2 ?_)
       intro a1 c1 W1 hown1 hmv1
       have HW1 : Hid (KeysI w (ks ++ [cc.key]) (.slice a1 (kl + 1) c1) W1) := HW.out.push cc.key (by rw [HKL.out]) hown1 hmv1
       clear hown1 hmv1 HFR
       go_wp2_with fail
       go_roundw
       case rel =>
        have e1 : keysC (cl.take (k + 1)) = ks ++ [cc.key] := by rw [HKT.out]; unfold keyStep; rw [HKN.out]; rfl
        have e2 : (ks ++ [cc.key]).length = kl + 1 := by simp only [List.length_append, List.length_cons, List.length_nil, Nat.zero_add, HKL.out]
        exact ⟨k + 1, a1, c1, by omega, by go_num, by rw [e1, e2], HNX.out, by rw [e1, e2]; exact HW1.out⟩
       case measure => simp [intOf]; omega
      ·have HKN : Hid (ks.contains cc.key = true) := hkn
       clear hkn
       go_wp2_with fail
       go_roundw
       case rel =>
        have e1 : keysC (cl.take (k + 1)) = ks := by rw [HKT.out]; unfold keyStep; rw [HKN.out]; rfl
        exact ⟨k + 1, oa, oc, by omega, by go_num, by rw [e1, HKL.out], HNX.out, by rw [e1, HKL.out]; exact HW.out⟩
       case measure => simp [intOf]; omega
  ·have hkn : k = cl.length := by rw [HN.out]; omega
   have HE : Hid (crowdC cl key = decide (16 ≤ (keysC (cl.take k)).length)) := by
    have h1 := HNO.out
    unfold Hid crowdC
    rw [hkn, List.take_length] at h1 ⊢
    rw [if_neg (fun x => by
     obtain ⟨c, a1, a2⟩ := List.any_eq_true.1 x
     exact h1 c a1 (by simpa using a2))]
   have HK : Hid (Kept NoBlk w wr) := HW.out.kept
   clear hkn HW
   generalize (keysC (cl.take k)).length = kl at *
   go_wp2_with fail
   go_ret
   refine ⟨?_, HK.out⟩
   rw [HE.out]
   simp
   omega
end Go.Proofs.YtmcajfefagdbnaaGreat
