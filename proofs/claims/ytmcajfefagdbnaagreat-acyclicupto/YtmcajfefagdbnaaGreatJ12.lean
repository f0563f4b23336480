import Derived.Test.YtmcajfefagdbnaaGreatJ11
import Derived.Test.YtmcajfefagdbnaaGreatJ02
namespace Go.Proofs.YtmcajfefagdbnaaGreat
open Go Go.RowKit Go.Sort Go.Lib

/-- What a transaction's cells tell. -/
theorem TxnAt.cells {ow : Ow} {p : Nat} {w : World} {i b : Nat} {t : Tx} (h : TxnAt ow p w i b t) : ∃ ov rv dv, w.heap[b]? = some (.cells #[.int .i64 (i : Int), ov, .int .i64 t.stamp, .int .i64 t.state, .int .i64 t.agains, .int .i64 (t.next : Int), .bool t.wounded, .bool t.waits.isSome, .int .i64 (t.regs 0), .int .i64 (t.regs 1), .int .i64 (t.regs 2), .int .i64 (t.regs 3), rv, dv] 146 (0, 0)) ∧ w.cell? ⟨b, 0, none⟩ = some (.int .i64 (i : Int)) ∧ w.cell? ⟨b, 1, none⟩ = some ov ∧ w.cell? ⟨b, 5, none⟩ = some (.int .i64 (t.next : Int)) ∧ (t.state = 0 → LiveAt ow p w i t ov dv) := by
  obtain ⟨ov, rv, dv, h1, h2, h3, h4, h5⟩ := h
  exact ⟨ov, rv, dv, h1, by rw [cell_at h1]; rfl, by rw [cell_at h1]; rfl, by rw [cell_at h1]; rfl, fun h0 => (h5 h0).2⟩

theorem opCells_at (l : List Op4) : ∀ k, k < l.length → (opCells l)[k * 4]? = some (.int .i64 (l.getD k Op4.z).k) ∧ (opCells l)[k * 4 + 1]? = some (.int .i64 (l.getD k Op4.z).a) ∧ (opCells l)[k * 4 + 2]? = some (.int .i64 (l.getD k Op4.z).b) ∧ (opCells l)[k * 4 + 3]? = some (.int .i64 (l.getD k Op4.z).c) := by
  induction l with
  | nil => intro k hk; simp at hk
  | cons o l ih =>
    intro k hk
    cases k with
    | zero => simp [opCells, Op4.cells]
    | succ k =>
      have := ih k (by simpa using hk)
      rw [show (k + 1) * 4 = k * 4 + 4 from by omega]
      simpa [opCells, Op4.cells] using this

/-- The operation at a place. -/
theorem RowAt.op {w : World} {n : Nat} {v : Value} {l : List Op4} (h : RowAt w 114 4 v n (opCells l)) (k : Nat) (hk : k < l.length) : ∃ g off c, v = .slice (some ⟨g, off, none⟩) n c ∧ l.length = n ∧ w.cell? ⟨g, off + k * 4, none⟩ = some (.int .i64 (l.getD k Op4.z).k) ∧ w.cell? ⟨g, off + k * 4 + 1, none⟩ = some (.int .i64 (l.getD k Op4.z).a) ∧
    w.cell? ⟨g, off + k * 4 + 2, none⟩ = some (.int .i64 (l.getD k Op4.z).b) ∧ w.cell? ⟨g, off + k * 4 + 3, none⟩ = some (.int .i64 (l.getD k Op4.z).c) := by
  have hl := h.1
  rw [opCells_len] at hl
  rcases h.2 with ⟨_, h1⟩ | ⟨g, off, cap, cur, h0, _⟩
  · omega
  · obtain rfl := h0
    obtain ⟨e0, e1, e2, e3⟩ := opCells_at l k hk
    refine ⟨g, off, cap, rfl, by omega, h.cell _ e0, ?_, ?_, ?_⟩ <;> (rw [Nat.add_assoc]; first | exact h.cell _ e1 | exact h.cell _ e2 | exact h.cell _ e3)

theorem qcast_filter (q : List (Nat × Int)) (i : Nat) : (qcast q).filter (fun x => x.1 != (i : Int)) = qcast (q.filter (fun x => x.1 != i)) := by
  unfold qcast
  rw [List.filter_map]
  congr 1
  apply List.filter_congr
  intro x _
  simp only [Function.comp]
  by_cases e : x.1 = i
  · simp [e]
  · have : (x.1 : Int) ≠ (i : Int) := by omega
    rw [bne_iff_ne.2 e, bne_iff_ne.2 this]

/-- A queue whose own block has turned is laid anew. -/
theorem PSt.restoreQ {L : Lay} {bs : Nat → Nat} {A : List Nat} {ow : Ow} {m : Nat} {mu lv : Int} {s : St} {W w1 : World} (h : PSt L bs A ow m mu lv s W) (row : Int) (hr : inI row) {g off c k : Nat} {r : List (Nat × Int)} (hg : ow g = (7, row)) (hk1 : Kept (Blk g) W w1) (hrow : RowAt w1 107 2 (.slice (some ⟨g, off, none⟩) k c) k (lkc (qcast r)))
    (hd : ∀ x ∈ r, x.1 ∈ A) (hm : m < maxLen) :
    ∃ w2, (Instr.mapUpdate 125 (.map (some L.qb)) (.int .i64 row) (.slice (some ⟨g, off, none⟩) k c)).run Tryz.prog w1 = .ok () w2 ∧ PSt L bs A ow (m + 1) mu lv (s.withLk (upd s.lk row ⟨(s.lk row).h, r⟩)) w2 ∧ Kept (fun b => ow b = (4, 0) ∨ ow b = (7, row)) W w2 := by
  obtain ⟨qf, q1, q2⟩ := h.que
  have t4 := h.tags.2.2.2
  have hqg : L.qb ≠ g := fun e => by rw [← e, t4] at hg; exact tagNe (by omega) hg
  obtain ⟨w2, hrun, hm', hk, _⟩ := (q1.kept hk1 hqg).store Tryz.underlying125 hm (a := row) hr (.slice (some ⟨g, off, none⟩) k c)
  have hkk : Kept (fun b => ow b = (4, 0) ∨ ow b = (7, row)) W w2 := (hk1.mono (fun b e => by cases e; exact .inr hg)).trans hk (fun b e => .inl (by cases e; exact .inl t4))
  have hlen : r.length = k := by have := hrow.1; rw [lkc_len] at this; simp [qcast] at this; omega
  refine ⟨w2, hrun, h.turnQueue row hkk (AgreeP.refl _ _) (fun b hb => Nat.lt_of_lt_of_le (h.lt b hb) hkk.size) (Nat.le_succ _) ⟨put qf row (some (.slice (some ⟨g, off, none⟩) k c)), hm', fun k' => ?_⟩ (fun k' => ?_) (fun k' x hx => ?_), hkk⟩
  · by_cases e : k' = row
    · subst e
      rw [upd_same]
      simp only [put, if_true]
      show RowT ow (7, k') w2 _ 2 _ r.length (lkc (qcast r))
      rw [hlen]
      refine ⟨hrow.kept hk (fun b hb e => ?_), fun b hb => by simp [Value.ownBlock] at hb; subst hb; exact hg⟩
      simp [Value.ownBlock] at hb
      subst hb
      exact hqg e.symm
    · rw [upd_other _ _ _ _ e]
      simp only [put, if_neg e]
      refine (q2 k').kept (AgreeP.refl _ _) (fun j hj ej => hkk.block j hj (fun x => ?_))
      rcases x with x | x
      · rw [ej] at x; exact tagNe (by omega) x
      · rw [ej] at x; simp only [Prod.mk.injEq, true_and] at x; exact e x
  · by_cases e : k' = row
    · subst e; rw [upd_same]
    · rw [upd_other _ _ _ _ e]
  · by_cases e : k' = row
    · subst e; rw [upd_same] at hx; exact ⟨hr, hd x hx⟩
    · rw [upd_other _ _ _ _ e] at hx; exact h.qdom k' x hx

set_option maxRecDepth 20000 in
set_option maxHeartbeats 6400000 in
theorem pleaveQueue {L : Lay} {bs : Nat → Nat} {A : List Nat} {ow : Ow} {m : Nat} {mu lv : Int} {s : St} {w : World} (h : PSt L bs A ow m mu lv s w) (i : Nat) (hi : i ∈ A) (row md : Int) (hst : (s.tx i).state = 0) (hnx : (s.tx i).next < (s.tx i).ops.length) (hop : (s.tx i).op.a = row) (hq : (i, md) ∈ (s.lk row).q) (honce : ((s.lk row).q.map (·.1)).Nodup)
    (hmode : ∀ x ∈ (s.lk row).q, x.2 ≠ 0) (hmm : m + 400 ≤ 1099511627776) :
    Calls Tryz.prog 140 #[.pointer (some ⟨L.p, 0, none⟩), .pointer (some ⟨bs i, 0, none⟩)] w fun e w' => ∃ pre, e = .returned (.tuple #[]) ∧ (s.lk row).q.filter (fun x => x.1 != i) = pre ++ (settle s.n (s.lk row).h ((s.lk row).q.filter (fun x => x.1 != i))).q ∧
      PSt L bs A ow (m + 21) mu lv ((s.withLk (upd s.lk row (settle s.n (s.lk row).h ((s.lk row).q.filter (fun x => x.1 != i))))).withTx (clr pre (upd s.tx i { s.tx i with waits := none }))) w' ∧ Kept (OwnP ow) w w' := by
  have hin := h.among i hi
  have hr : inI row := (h.qdom row _ hq).1
  obtain ⟨ov, rv, dv, b1, c0, c1, c5, hlive⟩ := (h.txs i hin.1 hin.2).cells
  obtain ⟨l1, l2, l3, l4, l5, cs, l6, l7⟩ := hlive hst
  obtain ⟨og, oo, oc, rfl, _, o0, o1, _, _⟩ := l1.1.op (s.tx i).next hnx
  have hopa : ((s.tx i).ops.getD (s.tx i).next Op4.z).a = row := hop
  rw [hopa] at o1
  obtain ⟨u, tv, wv, p1, c3, c6, c7, c4, p2⟩ := h.cells
  generalize hw0 : w.alloc (.cells #[.pointer (some ⟨bs i, 0, none⟩)] 128) = w0
  have hk0 : Kept NoBlk w w0 := by rw [← hw0]; exact (Kept.refl _ _).alloc _
  have h0 := h.kept0 hk0
  have hbox : w0.cell? ⟨w.heap.size, 0, none⟩ = some (.pointer (some ⟨bs i, 0, none⟩)) := by rw [← hw0, cell_at (block_alloc_new w _)]; rfl
  have hwl : w.heap.size < w0.heap.size := World.block_lt_of_cell? _ _ hbox
  obtain ⟨v, hlook, hrow⟩ := h0.queueAt row hr
  obtain ⟨qg, qo, qc, rfl⟩ : ∃ g off c, v = .slice (some ⟨g, off, none⟩) (s.lk row).q.length c := by
    rcases hrow.1.2 with ⟨_, e⟩ | ⟨g, off, c, _, e, _⟩
    · have := List.length_pos_of_mem hq; omega
    · exact ⟨g, off, c, e⟩
  have hqt : ow qg = (7, row) := hrow.2 qg rfl
  have d1 := hk0.cell0 c1
  have d5 := hk0.cell0 c5
  have e1 := hk0.cell0 o1
  have d7 := hk0.cell0 c7
  have hbt : ow (bs i) = (8, (i : Int)) := by obtain ⟨_, _, _, _, x, _⟩ := h.txs i hin.1 hin.2; exact x
  have hwt : ow w.heap.size = (0, 0) := by
    by_cases e : ow w.heap.size = (0, 0)
    · exact e
    · have := h.lt _ e; omega
  have hq12 := h.queueLen row honce
  have HDEL : Hid (∀ W, W.heap = w0.heap → Calls Tryz.prog 169 #[.slice (some ⟨qg, qo, none⟩) (s.lk row).q.length qc, .func (.func 170) #[] #[.pointer (some ⟨w.heap.size, 0, none⟩)]] W fun e w' => ∃ k, e = .returned (.slice (some ⟨qg, qo, none⟩) k qc) ∧ RowAt w' 107 2 (.slice (some ⟨qg, qo, none⟩) k qc) k (lkc ((qcast (s.lk row).q).filter fun x => x.1 != (i : Int))) ∧ Kept (Blk qg) W w') := by
    intro W hW
    have hb1 : W.cell? ⟨w.heap.size, 0, none⟩ = some (.pointer (some ⟨bs i, 0, none⟩)) := by rw [← hbox]; simp only [World.cell?, hW]
    have hb2 : W.cell? ⟨bs i, 0, none⟩ = some (.int .i64 (i : Int)) := by have := hk0.cell0 c0; rw [← this]; simp only [World.cell?, hW]
    refine deleteFunc_any qg qo _ qc w.heap.size (bs i) (i : Int) (qcast (s.lk row).q) W (hrow.1.of_block (fun _ _ => by rw [hW])) (by omega) ⟨hb1, hb2⟩ ?_ ?_ ?_
    · intro e; rw [← e, hwt] at hqt; exact tagNe (by omega) hqt
    · intro e; rw [← e, hbt] at hqt; exact tagNe (by omega) hqt
    · exact ⟨((i : Int), md), by unfold qcast; exact List.mem_map.2 ⟨(i, md), hq, rfl⟩, rfl⟩
  have HLK : Hid (∀ W : World, W.heap = w0.heap → (Instr.lookup 125 (.map (some L.qb)) (.int .i64 row) false).run Tryz.prog W = .ok (.slice (some ⟨qg, qo, none⟩) (s.lk row).q.length qc) W) := hlook
  have hblb : bs i < w0.heap.size := World.block_lt_of_cell? _ _ d1
  have hblo := World.block_lt_of_cell? _ _ e1
  have hblp := World.block_lt_of_cell? _ _ d7
  have HH : Hid (PSt L bs A ow m mu lv s w) := h
  have HH0 : Hid (PSt L bs A ow m mu lv s w0) := h0
  have HQ : Hid ((i, md) ∈ (s.lk row).q ∧ ((s.lk row).q.map (·.1)).Nodup ∧ ∀ x ∈ (s.lk row).q, x.2 ≠ 0) := ⟨hq, honce, hmode⟩
  have HK0 : Hid (Kept NoBlk w w0) := hk0
  have HT : Hid (ow qg = (7, row) ∧ ow (bs i) = (8, (i : Int)) ∧ ow w.heap.size = (0, 0)) := ⟨hqt, hbt, hwt⟩
  have HIN : Hid (1 ≤ i ∧ i ≤ s.n) := hin
  have HOP : Hid (inI row) := hr
  generalize (s.tx i).next = nx at *
  generalize (s.tx i).ops.length = no at *
  clear hlive l1 l3 l6 l7 cs hopa b1 p1 p2 c3 c6 c4 o0 l5 hlook hrow h h0 hq honce hmode hk0 hqt hbt hwt hin hr c0 c1 c5 o1 c7
  go_enter Tryz.func140, Tryz.ntmps140
  go_wp2_with fail
  clear hw0
  go_quiet (fail)
  go_wp2_with fail
  have hl1 := HLK.out (w0.drewN nq).drew rfl
  have hd1 := HDEL.out (w0.drewN nq).drew rfl
  have hd7 : (w0.drewN nq).cell? ⟨L.p, 7, none⟩ = some (.map (some L.qb)) := d7
  have hdb : (w0.drewN nq).cell? ⟨w.heap.size, 0, none⟩ = some (.pointer (some ⟨bs i, 0, none⟩)) := hbox
  have HW : Hid ((w0.drewN nq).heap = w0.heap) := rfl
  have hsz : (w0.drewN nq).heap.size = w0.heap.size := rfl
  have HST0 : Hid (PSt L bs A ow m mu lv s (w0.drewN nq).drew) := (HH0.out : PSt L bs A ow m mu lv s w0).of_same (Nat.le_refl _) (fun _ _ => rfl)
  have HKD : Hid (Kept NoBlk w (w0.drewN nq).drew) := (HK0.out.drewN nq).drew
  have HMM : Hid (m < maxLen) := by unfold Hid maxLen; omega
  have HPG : Hid (¬ Blk qg L.p) := fun e => by have t1 := (HH.out : PSt L bs A ow m mu lv s w).tags.1; have t2 := HT.out.1; unfold Blk at e; rw [← e, t1] at t2; exact tagNe (by omega) t2
  have HD7 : Hid ((w0.drewN nq).drew.cell? ⟨L.p, 7, none⟩ = some (.map (some L.qb))) := d7
  generalize w0.drewN nq = W at *
  go_region_law (go_simp; go_at_call 169; refine hd1.mono ?_; rintro e w1 ⟨k, rfl, hrow1, hk1⟩; rw [qcast_filter] at hrow1; obtain ⟨w2, hrun2, hst2, hk2⟩ := PSt.restoreQ HST0.out row HOP.out HT.out.1 hk1 hrow1 (fun x hx => ((HH.out : PSt L bs A ow m mu lv s w).qdom row x (List.mem_filter.1 hx).1).2) HMM.out; have p7 := hk1.cell HD7.out HPG.out)
  all_goals
    have hbx2 : w2.cell? ⟨w.heap.size, 0, none⟩ = some (.pointer (some ⟨bs i, 0, none⟩)) := hk2.cell (show W.drew.cell? _ = _ from hdb) (fun x => by have t := HT.out.2.2; rcases x with x | x <;> (rw [t] at x; exact tagNe (by omega) x))
    obtain ⟨tx', x7, xf, xk⟩ := (hst2.txs i HIN.out.1 HIN.out.2).unwait
    have HP3 : Hid (PSt L bs A ow (m + 1) mu lv ((s.withLk (upd s.lk row ⟨(s.lk row).h, (s.lk row).q.filter (fun x => x.1 != i)⟩)).withTx (upd s.tx i { s.tx i with waits := none })) (w2.setCell ⟨bs i, 7, none⟩ (.bool false))) := hst2.turnTx i _ xk (AgreeP.refl _ _) (fun b hb => Nat.lt_of_lt_of_le (hst2.lt b hb) xk.size) (fun _ _ => tx')
    have HK3 : Hid (Kept (OwnP ow) w (w2.setCell ⟨bs i, 7, none⟩ (.bool false))) := ((HKD.out.mono (fun _ x => x.elim)).trans hk2 (fun b e => .inl (by unfold OwnP; rcases e with e | e <;> (rw [e]; exact tagNe (by omega))))).trans xk (fun b e => .inl (by unfold OwnP; rcases e with e | e <;> (rw [e]; exact tagNe (by omega))))
    clear hst2 hk2 tx' xk hrow1 hk1 p7 hrun2 hd7 hdb hl1 hd1
    go_wp2_with fail
    have hp3 : PSt L bs A ow (m + 1) mu lv ((s.withLk (upd s.lk row ⟨(s.lk row).h, (s.lk row).q.filter (fun x => x.1 != i)⟩)).withTx (upd s.tx i { s.tx i with waits := none })) (w2.setCell ⟨bs i, 7, none⟩ (.bool false)) := HP3.out
    have elk : ((s.withLk (upd s.lk row ⟨(s.lk row).h, (s.lk row).q.filter (fun x => x.1 != i)⟩)).withTx (upd s.tx i { s.tx i with waits := none })).lk row = ⟨(s.lk row).h, (s.lk row).q.filter (fun x => x.1 != i)⟩ := by show upd s.lk row _ row = _; rw [upd_same]
    have hfn : (((s.lk row).q.filter (fun x => x.1 != i)).map (·.1)).Nodup := List.Sublist.nodup (List.Sublist.map _ List.filter_sublist) HQ.out.2.1
    have hql := hp3.queueLen row (by rw [elk]; exact hfn)
    refine (pgrant hp3 row HOP.out hql (by rw [elk]; exact fun x hx => HQ.out.2.2 x (List.mem_filter.1 hx).1) (by unfold maxLen; omega)).mono ?_
    rintro e w3 ⟨pre, rfl, hpre, hst4, hk4⟩
    rw [elk] at hpre hst4
    have e4 : ((((s.withLk (upd s.lk row ⟨(s.lk row).h, (s.lk row).q.filter (fun x => x.1 != i)⟩)).withTx (upd s.tx i { s.tx i with waits := none })).withLk (upd ((s.withLk (upd s.lk row ⟨(s.lk row).h, (s.lk row).q.filter (fun x => x.1 != i)⟩)).withTx (upd s.tx i { s.tx i with waits := none })).lk row (settle ((s.withLk (upd s.lk row ⟨(s.lk row).h, (s.lk row).q.filter (fun x => x.1 != i)⟩)).withTx (upd s.tx i { s.tx i with waits := none })).n (s.lk row).h ((s.lk row).q.filter (fun x => x.1 != i))))).withTx (clr pre ((s.withLk (upd s.lk row ⟨(s.lk row).h, (s.lk row).q.filter (fun x => x.1 != i)⟩)).withTx (upd s.tx i { s.tx i with waits := none })).tx))
        = (s.withLk (upd s.lk row (settle s.n (s.lk row).h ((s.lk row).q.filter (fun x => x.1 != i))))).withTx (clr pre (upd s.tx i { s.tx i with waits := none })) := by
      show (s.withLk (upd (upd s.lk row ⟨(s.lk row).h, (s.lk row).q.filter (fun x => x.1 != i)⟩) row (settle s.n (s.lk row).h ((s.lk row).q.filter (fun x => x.1 != i))))).withTx (clr pre (upd s.tx i { s.tx i with waits := none })) = _
      rw [upd_upd]
    rw [e4] at hst4
    have HE : Hid (PSt L bs A ow (m + 21) mu lv ((s.withLk (upd s.lk row (settle s.n (s.lk row).h ((s.lk row).q.filter (fun x => x.1 != i))))).withTx (clr pre (upd s.tx i { s.tx i with waits := none }))) w3) := hst4.mono (by omega)
    have HPR : Hid ((s.lk row).q.filter (fun x => x.1 != i) = pre ++ (settle s.n (s.lk row).h ((s.lk row).q.filter (fun x => x.1 != i))).q) := hpre
    have HK4 : Hid (Kept (OwnP ow) w w3) := HK3.out.trans' hk4
    clear hp3 elk hfn hql hpre hst4 hk4 e4
    go_wp2_with fail
    go_end0
    exact ⟨pre, rfl, HPR.out, HE.out, HK4.out⟩

end Go.Proofs.YtmcajfefagdbnaaGreat

namespace Go.Proofs.YtmcajfefagdbnaaGreat
open Go Go.RowKit Go.Sort Go.Lib

def St.withRows (s : St) (r : Int → Option Int) : St := { s with rows := r }

theorem PSt.congr {L : Lay} {bs : Nat → Nat} {A : List Nat} {ow : Ow} {m : Nat} {mu lv : Int} {s s' : St} {w : World} (h : PSt L bs A ow m mu lv s w) (e1 : s'.clock = s.clock) (e2 : s'.rows = s.rows) (e3 : s'.n = s.n) (e4 : s'.lk = s.lk) (e5 : s'.tx = s.tx) (e6 : s'.wins = s.wins) : PSt L bs A ow m mu lv s' w := by
  obtain ⟨c, r, n, t, l, a, ws⟩ := s
  obtain ⟨c', r', n', t', l', a', ws'⟩ := s'
  simp only at e1 e2 e3 e4 e5 e6
  subst e1 e2 e3 e4 e5 e6
  exact ⟨h.lt, h.tags, h.body, h.vals, h.hold, h.que, h.txs, h.few, h.among, h.hdom, h.qdom, h.rdom, h.nmax⟩

/-- The rows have turned. -/
theorem PSt.turnVals {L : Lay} {bs : Nat → Nat} {A : List Nat} {ow : Ow} {m m' : Nat} {mu lv : Int} {s : St} {w w' : World} (h : PSt L bs A ow m mu lv s w) {r : Int → Option Int} (hk : Kept (Blk L.vb) w w') (hmm : m ≤ m') (hm : MapAt keyI w' L.vb m' (ivals r)) (hd : ∀ k, r k ≠ none → inI k) : PSt L bs A ow m' mu lv (s.withRows r) w' := by
  obtain ⟨t1, t2, t3, t4⟩ := h.tags
  have hb : ∀ {t : Nat × Int}, t.1 ≠ 2 → ∀ k, k < w.heap.size → ow k = t → w'.heap[k]? = w.heap[k]? := fun n1 k hk1 e => hk.block k hk1 (fun x => n1 (by cases x; rw [← e, t2]))
  obtain ⟨u, tv, wv, b1, b2, b3⟩ := h.body
  obtain ⟨qf, q1, q2⟩ := h.que
  exact ⟨fun k hk0 => Nat.lt_of_lt_of_le (h.lt k hk0) hk.size, h.tags, ⟨u, tv, wv, by rw [hb (by simp) _ (lt_of_block b1) t1]; exact b1, b2.kept (AgreeP.refl _ _) (hb (by simp)), b3.kept (AgreeP.refl _ _) (hb (by simp))⟩,
    hm, (h.hold.of_same (hb (by simp) _ h.hold.lt t3)).mono hmm, ⟨qf, (q1.of_same (hb (by simp) _ q1.lt t4)).mono hmm, fun k => (q2 k).kept (AgreeP.refl _ _) (hb (by simp))⟩,
    fun i hi hn => (h.txs i hi hn).kept (AgreeP.refl _ _) (fun k hk1 e => e.elim (fun e => hb (by simp) k hk1 e) (fun e => hb (by simp) k hk1 e)), h.few, h.among, h.hdom, h.qdom, hd, h.nmax⟩

theorem back_dom (us : List Saw) : ∀ {f : Int → Option Int}, (∀ k, f k ≠ none → inI k) → (∀ b ∈ us, inI b.key) → ∀ k, back f us k ≠ none → inI k := by
  induction us with
  | nil => intro f hf _ k hk; exact hf k hk
  | cons b us ih =>
    intro f hf hb k hk
    refine ih (f := upd f b.key b.old) (fun k' hk' => ?_) (fun x hx => hb x (by simp [hx])) k hk
    by_cases e : k' = b.key
    · subst e; exact hb b (by simp)
    · rw [upd_other _ _ _ _ e] at hk'; exact hf k' hk'

theorem Backs.keys {w : World} {T : Nat → Prop} {p : Nat} : ∀ {us : List Saw} {xs : List (FuncId × Array Value)}, Backs w T p us xs → ∀ b ∈ us, inI b.key
  | [], [], _, b, hb => by cases hb
  | x :: us, _ :: _, h, b, hb => by
    rcases List.mem_cons.1 hb with rfl | hb
    · exact h.2.1
    · exact Backs.keys h.2.2 b hb
  | [], _ :: _, h, _, _ => h.elim
  | _ :: _, [], h, _, _ => h.elim

theorem prunDeferred {L : Lay} {bs : Nat → Nat} {A : List Nat} {ow : Ow} {m : Nat} {mu lv : Int} {s : St} {w : World} (h : PSt L bs A ow m mu lv s w) (i : Nat) (hi : i ∈ A) (hst : (s.tx i).state = 0) (hmm : m + 400 ≤ 1099511627776) :
    Calls Tryz.prog 139 #[.pointer (some ⟨bs i, 5, none⟩)] w fun e w' => e = .returned (.tuple #[]) ∧ PSt L bs A ow (m + 12) mu lv (s.withRows (back s.rows (s.tx i).undo)) w' ∧ Kept (OwnP ow) w w' := by
  have hin := h.among i hi
  obtain ⟨ov, rv, dv, h1, h2, h3, h4, h5⟩ := h.txs i hin.1 hin.2
  obtain ⟨_, l1, l2, l3, l4, l5, cs, l6, l7⟩ := h5 hst
  obtain ⟨u, tv, wv, b1, c3, c6, c7, c4, b2⟩ := h.cells
  obtain ⟨t1, t2, t3, t4⟩ := h.tags
  have hpv : L.p ≠ L.vb := fun e => by rw [e, t2] at t1; exact tagNe (by omega) t1
  refine (runDeferred_ok (bs i) L.p L.vb m (s.tx i).undo.length dv (s.tx i).undo cs s.rows (fun k => ow k = (9, (i : Int))) w (by rw [cell_at h1]; rfl) l6.1 (by omega) l7 (fun e => by rw [t2] at e; exact tagNe (by omega) e) hpv c3 h.vals (by unfold maxLen; omega)).mono ?_
  rintro e w' ⟨rfl, hm', hk⟩
  refine ⟨rfl, h.turnVals hk (by omega) hm' (back_dom _ h.rdom l7.keys), hk.mono (fun k e => by cases e; unfold OwnP; rw [t2]; exact tagNe (by omega))⟩

/-- A transaction begins anew. -/
theorem TxnAt.anew {ow : Ow} {p : Nat} {w w' : World} {i b : Nat} {t : Tx} (h : TxnAt ow p w i b t) (hk : Kept (Blk b) w w')
    (hb : ∀ ov rv dv, w.heap[b]? = some (.cells #[.int .i64 (i : Int), ov, .int .i64 t.stamp, .int .i64 t.state, .int .i64 t.agains, .int .i64 (t.next : Int), .bool t.wounded, .bool t.waits.isSome, .int .i64 (t.regs 0), .int .i64 (t.regs 1), .int .i64 (t.regs 2), .int .i64 (t.regs 3), rv, dv] 146 (0, 0)) →
      w'.heap[b]? = some (.cells #[.int .i64 (i : Int), ov, .int .i64 t.stamp, .int .i64 t.state, .int .i64 t.agains, .int .i64 0, .bool false, .bool false, .int .i64 0, .int .i64 0, .int .i64 0, .int .i64 0, .slice none 0 0, .slice none 0 0] 146 (0, 0))) : TxnAt ow p w' i b t.anew := by
  obtain ⟨ov, rv, dv, h1, h2, h3, h4, h5⟩ := h
  have hne : ∀ k, ow k = (9, (i : Int)) → k ≠ b := fun k e e' => by rw [e', h2] at e; simp at e
  have hs : ∀ k, k < w.heap.size → ow k = (9, (i : Int)) → w'.heap[k]? = w.heap[k]? := fun k hk1 e => hk.block k hk1 (hne k e)
  refine ⟨ov, .slice none 0 0, .slice none 0 0, hb ov rv dv h1, h2, RowT.nil _ _ _ _ _, Nat.zero_le _, fun h0 => ⟨Nat.le_refl _, ?_⟩⟩
  obtain ⟨_, l1, l2, l3, l4, l5, cs, l6, l7⟩ := h5 h0
  exact ⟨l1.kept (AgreeP.refl _ _) hs, l2, l3, Nat.zero_le _, Nat.le_refl _, [], RowT.nil _ _ _ _ _, trivial⟩

/-- All that begins anew is laid anew. -/
def clearW (w : World) (b : Nat) : World :=
  (((((((((w.setCell ⟨b, 5, none⟩ (Value.int IntKind.i64 0)).setCell ⟨b, 6, none⟩ (Value.bool false)).setCell ⟨b, 7, none⟩ (Value.bool false)).setCell ⟨b, 8, none⟩ (Value.int IntKind.i64 0)).setCell ⟨b, 9, none⟩ (Value.int IntKind.i64 0)).setCell
    ⟨b, 10, none⟩ (Value.int IntKind.i64 0)).setCell ⟨b, 11, none⟩ (Value.int IntKind.i64 0)).setCell ⟨b, 12, none⟩ (Value.slice none 0 0)).setCell ⟨b, 13, none⟩ (Value.slice none 0 0))

theorem clearW_kept (w : World) (b : Nat) : Kept (Blk b) w (clearW w b) :=
  ((((((((Kept.set1 w b 5 _).trans' (Kept.set1 _ b 6 _)).trans' (Kept.set1 _ b 7 _)).trans' (Kept.set1 _ b 8 _)).trans' (Kept.set1 _ b 9 _)).trans' (Kept.set1 _ b 10 _)).trans' (Kept.set1 _ b 11 _)).trans' (Kept.set1 _ b 12 _)).trans' (Kept.set1 _ b 13 _)

theorem clearW_block {w : World} {b : Nat} {x0 x1 x2 x3 x4 x5 x6 x7 x8 x9 x10 x11 x12 x13 : Value} (h : w.heap[b]? = some (.cells #[x0, x1, x2, x3, x4, x5, x6, x7, x8, x9, x10, x11, x12, x13] 146 (0, 0))) : (clearW w b).heap[b]? = some (.cells #[x0, x1, x2, x3, x4, .int .i64 0, .bool false, .bool false, .int .i64 0, .int .i64 0, .int .i64 0, .int .i64 0, .slice none 0 0, .slice none 0 0] 146 (0, 0)) := by
  have e5 : (w.setCell ⟨b, 5, none⟩ (.int .i64 0)).heap[b]? = some (.cells #[x0, x1, x2, x3, x4, .int .i64 0, x6, x7, x8, x9, x10, x11, x12, x13] 146 (0, 0)) := block_setCell h _
  have e6 : ((w.setCell ⟨b, 5, none⟩ (.int .i64 0)).setCell ⟨b, 6, none⟩ (.bool false)).heap[b]? = some (.cells #[x0, x1, x2, x3, x4, .int .i64 0, .bool false, x7, x8, x9, x10, x11, x12, x13] 146 (0, 0)) := block_setCell e5 _
  have e7 : (((w.setCell ⟨b, 5, none⟩ (.int .i64 0)).setCell ⟨b, 6, none⟩ (.bool false)).setCell ⟨b, 7, none⟩ (.bool false)).heap[b]? = some (.cells #[x0, x1, x2, x3, x4, .int .i64 0, .bool false, .bool false, x8, x9, x10, x11, x12, x13] 146 (0, 0)) := block_setCell e6 _
  have e8 : ((((w.setCell ⟨b, 5, none⟩ (.int .i64 0)).setCell ⟨b, 6, none⟩ (.bool false)).setCell ⟨b, 7, none⟩ (.bool false)).setCell ⟨b, 8, none⟩ (.int .i64 0)).heap[b]? = some (.cells #[x0, x1, x2, x3, x4, .int .i64 0, .bool false, .bool false, .int .i64 0, x9, x10, x11, x12, x13] 146 (0, 0)) := block_setCell e7 _
  have e9 : (((((w.setCell ⟨b, 5, none⟩ (.int .i64 0)).setCell ⟨b, 6, none⟩ (.bool false)).setCell ⟨b, 7, none⟩ (.bool false)).setCell ⟨b, 8, none⟩ (.int .i64 0)).setCell ⟨b, 9, none⟩ (.int .i64 0)).heap[b]? = some (.cells #[x0, x1, x2, x3, x4, .int .i64 0, .bool false, .bool false, .int .i64 0, .int .i64 0, x10, x11, x12, x13] 146 (0, 0)) := block_setCell e8 _
  have e10 : ((((((w.setCell ⟨b, 5, none⟩ (.int .i64 0)).setCell ⟨b, 6, none⟩ (.bool false)).setCell ⟨b, 7, none⟩ (.bool false)).setCell ⟨b, 8, none⟩ (.int .i64 0)).setCell ⟨b, 9, none⟩ (.int .i64 0)).setCell ⟨b, 10, none⟩ (.int .i64 0)).heap[b]? = some (.cells #[x0, x1, x2, x3, x4, .int .i64 0, .bool false, .bool false, .int .i64 0, .int .i64 0, .int .i64 0, x11, x12, x13] 146 (0, 0)) := block_setCell e9 _
  have e11 : (((((((w.setCell ⟨b, 5, none⟩ (.int .i64 0)).setCell ⟨b, 6, none⟩ (.bool false)).setCell ⟨b, 7, none⟩ (.bool false)).setCell ⟨b, 8, none⟩ (.int .i64 0)).setCell ⟨b, 9, none⟩ (.int .i64 0)).setCell ⟨b, 10, none⟩ (.int .i64 0)).setCell ⟨b, 11, none⟩ (.int .i64 0)).heap[b]? = some (.cells #[x0, x1, x2, x3, x4, .int .i64 0, .bool false, .bool false, .int .i64 0, .int .i64 0, .int .i64 0, .int .i64 0, x12, x13] 146 (0, 0)) := block_setCell e10 _
  have e12 : ((((((((w.setCell ⟨b, 5, none⟩ (.int .i64 0)).setCell ⟨b, 6, none⟩ (.bool false)).setCell ⟨b, 7, none⟩ (.bool false)).setCell ⟨b, 8, none⟩ (.int .i64 0)).setCell ⟨b, 9, none⟩ (.int .i64 0)).setCell ⟨b, 10, none⟩ (.int .i64 0)).setCell ⟨b, 11, none⟩ (.int .i64 0)).setCell ⟨b, 12, none⟩ (.slice none 0 0)).heap[b]? = some (.cells #[x0, x1, x2, x3, x4, .int .i64 0, .bool false, .bool false, .int .i64 0, .int .i64 0, .int .i64 0, .int .i64 0, .slice none 0 0, x13] 146 (0, 0)) := block_setCell e11 _
  have e13 : (((((((((w.setCell ⟨b, 5, none⟩ (.int .i64 0)).setCell ⟨b, 6, none⟩ (.bool false)).setCell ⟨b, 7, none⟩ (.bool false)).setCell ⟨b, 8, none⟩ (.int .i64 0)).setCell ⟨b, 9, none⟩ (.int .i64 0)).setCell ⟨b, 10, none⟩ (.int .i64 0)).setCell ⟨b, 11, none⟩ (.int .i64 0)).setCell ⟨b, 12, none⟩ (.slice none 0 0)).setCell ⟨b, 13, none⟩ (.slice none 0 0)).heap[b]? = some (.cells #[x0, x1, x2, x3, x4, .int .i64 0, .bool false, .bool false, .int .i64 0, .int .i64 0, .int .i64 0, .int .i64 0, .slice none 0 0, .slice none 0 0] 146 (0, 0)) := block_setCell e12 _
  exact e13

theorem PSt.cleared {L : Lay} {bs : Nat → Nat} {A : List Nat} {ow : Ow} {m : Nat} {mu lv : Int} {s : St} {w : World} (h : PSt L bs A ow m mu lv s w) (i : Nat) (hin : 1 ≤ i ∧ i ≤ s.n) : PSt L bs A ow m mu lv (s.withTx (upd s.tx i (s.tx i).anew)) (clearW w (bs i)) ∧ Kept (OwnP ow) w (clearW w (bs i)) := by
  have ht := h.txs i hin.1 hin.2
  have hk := clearW_kept w (bs i)
  have hbt : ow (bs i) = (8, (i : Int)) := by obtain ⟨_, _, _, _, x, _⟩ := ht; exact x
  have hk2 : Kept (fun k => ow k = (8, (i : Int)) ∨ ow k = (9, (i : Int))) w (clearW w (bs i)) := hk.mono (fun k e => by cases e; exact .inl hbt)
  refine ⟨h.turnTx i _ hk2 (AgreeP.refl _ _) (fun k hk0 => Nat.lt_of_lt_of_le (h.lt k hk0) hk.size) (fun _ _ => ht.anew hk (fun ov rv dv e => ?_)), hk.mono (fun k e => by cases e; unfold OwnP; rw [hbt]; exact tagNe (by omega))⟩
  exact clearW_block e

def unwaited (s : St) (i : Nat) : Nat → Tx := upd s.tx i { s.tx i with waits := none }

theorem unwaited_wtx {s : St} (hI : Inv s) (i : Nat) : WTx (unwaited s i) s.lk i := by
  refine ⟨fun k j m hj hm => ?_, fun j k hj hw => ?_⟩
  · unfold unwaited; rw [upd_other _ _ _ _ hj]; exact (hI.queue k j m hm).2
  · unfold unwaited at hw; rw [upd_other _ _ _ _ hj] at hw; exact hI.waits j k hw

theorem unwaited_none {s : St} {i : Nat} (h : (s.tx i).waits = none) : unwaited s i = s.tx := by
  unfold unwaited
  funext j
  by_cases e : j = i
  · subst e; rw [upd_same, ← h]
  · rw [upd_other _ _ _ _ e]

theorem undone_eq {s : St} {i : Nat} {lk' : Int → Lk} {tx' : Nat → Tx} (h1 : lk' = fun k => (s.lk k).freed s.n i) (h2 : tx' = fun j => (unwaited s i j).look (fun k => (s.lk k).freed s.n i) j) :
    (s.undone i).lk = lk' ∧ (s.undone i).tx = upd tx' i (tx' i).anew ∧ (s.undone i).rows = back s.rows (s.tx i).undo := by
  refine ⟨h1.symm, ?_, rfl⟩
  subst h2
  show (fun j => ((upd s.tx i (s.tx i).anew) j).look (fun k => (s.lk k).freed s.n i) j) = _
  funext j
  by_cases e : j = i
  · subst e
    simp only [unwaited, upd_same]
    rfl
  · rw [upd_other _ _ _ _ e]
    simp only [unwaited, upd_other _ _ _ _ e]

/-- How many rows a transaction holds. -/
theorem held_few {s : St} (hI : Inv s) (hact : s.act.length ≤ 16) (i : Nat) (l : List Int) (hn : l.Nodup) (hl : ∀ k ∈ l, (s.lk k).h i ≠ 0) : l.length ≤ 16 := by
  have := nodup_len l s.act hn (fun k hk => by
    rw [hI.act k, live_iff]
    exact .inr ⟨i, ((hI.row k).hold i (hl k hk)).2, hl k hk⟩)
  omega

set_option maxRecDepth 20000 in
set_option maxHeartbeats 6400000 in
theorem pundo {L : Lay} {bs : Nat → Nat} {A : List Nat} {ow : Ow} {m : Nat} {mu lv : Int} {s : St} {w : World} (h : PSt L bs A ow m mu lv s w) (hI : Inv s) (i : Nat) (hi : i ∈ A) (hst : (s.tx i).state = 0) (hact : s.act.length ≤ 16) (hmm : m + 1000 ≤ 1099511627776) :
    Calls Tryz.prog 104 #[.pointer (some ⟨L.p, 0, none⟩), .pointer (some ⟨bs i, 0, none⟩)] w fun e w' => e = .returned (.tuple #[]) ∧ PSt L bs A ow (m + 400) mu lv (s.undone i) w' ∧ Kept (OwnP ow) w w' := by
  have hin := h.among i hi
  have hrd := prunDeferred h i hi hst (by omega)
  have HH : Hid (PSt L bs A ow m mu lv s w) := h
  have HI : Hid (Inv s) := hI
  have HIN : Hid (1 ≤ i ∧ i ≤ s.n) := hin
  clear h hI hin
  go_enter Tryz.func104, Tryz.ntmps104
  go_wp2_with fail
  refine hrd.mono ?_
  rintro e w1 ⟨rfl, hst1, hk1⟩
  have hI' : Inv s := HI.out
  -- the part from the flag on, once the queue is left
  have rest : ∀ (w2 : World) (lk1 : Int → Lk) (tx1 : Nat → Tx), PSt L bs A ow (m + 40) mu lv (((s.withRows (back s.rows (s.tx i).undo)).withLk lk1).withTx tx1) w2 → FrM s.n (unwaited s i) s.lk i lk1 tx1 → (∀ k, (lk1 k).h i ≠ 0 → (s.lk k).h i ≠ 0) → (∀ k x, x ∈ (lk1 k).q → x.2 ≠ 0) → Kept (OwnP ow) w w2 →
      Calls Tryz.prog 127 #[.pointer (some ⟨L.p, 0, none⟩), .pointer (some ⟨bs i, 0, none⟩)] w2 fun e w3 => e = .returned (.tuple #[]) ∧ ∃ lk' tx', PSt L bs A ow (m + 400) mu lv (((s.withRows (back s.rows (s.tx i).undo)).withLk lk').withTx tx') w3 ∧ (s.undone i).lk = lk' ∧ (s.undone i).tx = upd tx' i (tx' i).anew ∧ Kept (OwnP ow) w w3 := by
    intro w2 lk1 tx1 hp hF hh hmd hkk
    refine (pletAllGo hp i hi (unwaited s i) s.lk hF (fun l hn hl => held_few hI' hact i l hn (fun k hk => hh k (hl k hk))) hmd (by omega)).mono ?_
    rintro e w3 ⟨lk', tx', rfl, hp3, hF3, h0, hk3⟩
    obtain ⟨e1, e2⟩ := hF3.last (by show (unwaited s i i).waits = none; simp [unwaited]) h0
    obtain ⟨q1, q2, _⟩ := undone_eq e1 e2
    exact ⟨rfl, lk', tx', hp3.mono (by omega), q1, q2, hkk.trans' hk3⟩
  have HREST : Hid _ := rest
  obtain ⟨ov, rv, dv, x1, x2, x3⟩ := hst1.txs i HIN.out.1 HIN.out.2
  have x7 : w1.cell? ⟨bs i, 7, none⟩ = some (.bool (s.tx i).waits.isSome) := by rw [cell_at x1]; rfl
  have HST1 : Hid (PSt L bs A ow (m + 12) mu lv (s.withRows (back s.rows (s.tx i).undo)) w1) := hst1
  have HK1 : Hid (Kept (OwnP ow) w w1) := hk1
  clear rest hrd hst1 hk1 x1 x2 x3 ov rv dv
  cases hw : (s.tx i).waits with
  | none =>
    rw [hw] at x7
    have hlg := HREST.out w1 s.lk s.tx (PSt.mono HST1.out (by omega)) (by
      have := FrM.start (unwaited_wtx hI' i) hI'.still (fun k => (hI'.row k).once) (fun k md => hI'.not_waiting hw k md)
      rw [unwaited_none hw] at this ⊢
      exact this) (fun _ h => h) (fun k x hx => by have := ((hI'.row k).qmode x hx).2; omega) HK1.out
    go_wp2_with fail
    refine hlg.mono ?_
    rintro e w3 ⟨rfl, lk', tx', hp3, q1, q2, hk3⟩
    obtain ⟨ov, rv, dv, y1, y2, y3⟩ := hp3.txs i HIN.out.1 HIN.out.2
    have c5 : w3.cell? ⟨bs i, 5, none⟩ = some (.int .i64 ((tx' i).next : Int)) := by rw [cell_at y1]; rfl
    have c6 : w3.cell? ⟨bs i, 6, none⟩ = some (.bool (tx' i).wounded) := by rw [cell_at y1]; rfl
    have c7 : w3.cell? ⟨bs i, 7, none⟩ = some (.bool (tx' i).waits.isSome) := by rw [cell_at y1]; rfl
    have c8 : w3.cell? ⟨bs i, 8, none⟩ = some (.int .i64 ((tx' i).regs 0)) := by rw [cell_at y1]; rfl
    have c9 : w3.cell? ⟨bs i, 9, none⟩ = some (.int .i64 ((tx' i).regs 1)) := by rw [cell_at y1]; rfl
    have c10 : w3.cell? ⟨bs i, 10, none⟩ = some (.int .i64 ((tx' i).regs 2)) := by rw [cell_at y1]; rfl
    have c11 : w3.cell? ⟨bs i, 11, none⟩ = some (.int .i64 ((tx' i).regs 3)) := by rw [cell_at y1]; rfl
    have c12 : w3.cell? ⟨bs i, 12, none⟩ = some rv := by rw [cell_at y1]; rfl
    have c13 : w3.cell? ⟨bs i, 13, none⟩ = some dv := by rw [cell_at y1]; rfl
    have fr : ∀ o, w3.frozen? ⟨bs i, o, none⟩ = false := fun o => frozen_at y1 o
    have HF : Hid (PSt L bs A ow (m + 400) mu lv (s.undone i) (clearW w3 (bs i)) ∧ Kept (OwnP ow) w (clearW w3 (bs i))) := by
      obtain ⟨z1, z2⟩ := hp3.cleared i HIN.out
      exact ⟨z1.congr rfl rfl rfl q1 q2 rfl, hk3.trans' z2⟩
    clear hp3 q1 q2 hk3 y1 y2 y3 hlg
    go_wp2_with fail
    go_end0
    exact ⟨rfl, HF.out.1, HF.out.2⟩
  | some row =>
    rw [hw] at x7
    obtain ⟨md, hmd⟩ := hI'.waits i row hw
    obtain ⟨a1, a2, _⟩ := hI'.asks row i md hmd
    have hlq := pleaveQueue (show PSt L bs A ow (m + 12) mu lv (s.withRows (back s.rows (s.tx i).undo)) w1 from HST1.out) i hi row md hst a1 a2 hmd (hI'.row row).once (fun x hx => by have := ((hI'.row row).qmode x hx).2; omega) (by omega)
    go_wp2_with fail
    refine hlq.mono ?_
    rintro e w2 ⟨pre, rfl, hpre, hp2, hk2⟩
    have hlg := HREST.out w2 _ _ (hp2.mono (by omega)) (FrM.first (unwaited_wtx hI' i) hI'.still (fun k => (hI'.row k).once) (fun k k' m1 m2 h1 h2 => by
        have e1 := (hI'.queue k i m1 h1).2
        have e2 := (hI'.queue k' i m2 h2).2
        rw [e1] at e2
        exact Option.some.inj e2) hmd hpre) (fun k hk => by
        show (s.lk k).h i ≠ 0
        by_cases e : k = row
        · subst e
          have e3 : (settle s.n (s.lk k).h ((s.lk k).q.filter (fun x => x.1 != i))).h i = (s.lk k).h i := settle_h_out (fun m hm => by simp at hm)
          have hk' : ((upd s.lk k (settle s.n (s.lk k).h ((s.lk k).q.filter (fun x => x.1 != i)))) k).h i ≠ 0 := hk
          rw [upd_same, e3] at hk'
          exact hk'
        · have hk' : ((upd s.lk row (settle s.n (s.lk row).h ((s.lk row).q.filter (fun x => x.1 != i)))) k).h i ≠ 0 := hk
          rw [upd_other _ _ _ _ e] at hk'
          exact hk') (fun k x hx => by
        have hx' : x ∈ ((upd s.lk row (settle s.n (s.lk row).h ((s.lk row).q.filter (fun x => x.1 != i)))) k).q := hx
        by_cases e : k = row
        · subst e
          rw [upd_same] at hx'
          have := ((hI'.row k).qmode x (List.mem_filter.1 (settle_mem hx')).1).2
          omega
        · rw [upd_other _ _ _ _ e] at hx'
          have := ((hI'.row k).qmode x hx').2
          omega) (HK1.out.trans' hk2)
    clear hp2 hk2 hpre hlq hmd a1 a2
    go_wp2_with fail
    refine hlg.mono ?_
    rintro e w3 ⟨rfl, lk', tx', hp3, q1, q2, hk3⟩
    obtain ⟨ov, rv, dv, y1, y2, y3⟩ := hp3.txs i HIN.out.1 HIN.out.2
    have c5 : w3.cell? ⟨bs i, 5, none⟩ = some (.int .i64 ((tx' i).next : Int)) := by rw [cell_at y1]; rfl
    have c6 : w3.cell? ⟨bs i, 6, none⟩ = some (.bool (tx' i).wounded) := by rw [cell_at y1]; rfl
    have c7 : w3.cell? ⟨bs i, 7, none⟩ = some (.bool (tx' i).waits.isSome) := by rw [cell_at y1]; rfl
    have c8 : w3.cell? ⟨bs i, 8, none⟩ = some (.int .i64 ((tx' i).regs 0)) := by rw [cell_at y1]; rfl
    have c9 : w3.cell? ⟨bs i, 9, none⟩ = some (.int .i64 ((tx' i).regs 1)) := by rw [cell_at y1]; rfl
    have c10 : w3.cell? ⟨bs i, 10, none⟩ = some (.int .i64 ((tx' i).regs 2)) := by rw [cell_at y1]; rfl
    have c11 : w3.cell? ⟨bs i, 11, none⟩ = some (.int .i64 ((tx' i).regs 3)) := by rw [cell_at y1]; rfl
    have c12 : w3.cell? ⟨bs i, 12, none⟩ = some rv := by rw [cell_at y1]; rfl
    have c13 : w3.cell? ⟨bs i, 13, none⟩ = some dv := by rw [cell_at y1]; rfl
    have fr : ∀ o, w3.frozen? ⟨bs i, o, none⟩ = false := fun o => frozen_at y1 o
    have HF : Hid (PSt L bs A ow (m + 400) mu lv (s.undone i) (clearW w3 (bs i)) ∧ Kept (OwnP ow) w (clearW w3 (bs i))) := by
      obtain ⟨z1, z2⟩ := hp3.cleared i HIN.out
      exact ⟨z1.congr rfl rfl rfl q1 q2 rfl, hk3.trans' z2⟩
    clear hp3 q1 q2 hk3 y1 y2 y3 hlg
    go_wp2_with fail
    go_end0
    exact ⟨rfl, HF.out.1, HF.out.2⟩

end Go.Proofs.YtmcajfefagdbnaaGreat
