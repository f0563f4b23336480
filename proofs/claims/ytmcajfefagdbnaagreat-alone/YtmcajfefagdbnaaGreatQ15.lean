import Derived.Test.YtmcajfefagdbnaaGreatQ14
import Derived.Test.YtmcajfefagdbnaaGreatQ10
import Derived.Test.YtmcajfefagdbnaaGreatQ11
import Derived.Test.YtmcajfefagdbnaaGreatQ05
namespace Go.Proofs.YtmcajfefagdbnaaGreat
open Go Go.RowKit
def St.withTx (s : St) (tx : Nat → Tx) : St := { s with tx := tx }
theorem PSt.turnTx {L : Lay} {bs : Nat → Nat} {A : List Nat} {ow ow' : Ow} {m : Nat} {mu lv : Int} {s : St} {w w' : World} (h : PSt L bs A ow m mu lv s w) (j : Nat) (t' : Tx) (hk : Kept (fun k => ow k = (8, (j : Int)) ∨ ow k = (9, (j : Int))) w w') (ha : AgreeP w ow ow') (hlt : ∀ k, ow' k ≠ (0, 0) → k < w'.heap.size)
  (ht : 1 ≤ j → j ≤ s.n → TxnAt ow' L.p w' j (bs j) t') : PSt L bs A ow' m mu lv (s.withTx (upd s.tx j t')) w' := by
 obtain ⟨t1, t2, t3, t4⟩ := h.tags
 have hb : ∀ k, k < w.heap.size → ow k ≠ (8, (j : Int)) → ow k ≠ (9, (j : Int)) → w'.heap[k]? = w.heap[k]? := fun k hk1 n1 n2 => hk.block k hk1 (fun e => e.elim n1 n2)
 have hb' : ∀ {t : Nat × Int}, t.1 ≠ 8 → t.1 ≠ 9 → ∀ k, k < w.heap.size → ow k = t → w'.heap[k]? = w.heap[k]? := fun n1 n2 k hk1 e => hb k hk1 (fun e' => n1 (by rw [← e, e'])) (fun e' => n2 (by rw [← e, e']))
 obtain ⟨u, tv, wv, b1, b2, b3⟩ := h.body
 obtain ⟨qf, q1, q2⟩ := h.que
 refine ⟨hlt, ⟨by rw [ha _ (lt_of_block b1)]; exact t1, by rw [ha _ h.vals.lt]; exact t2, by rw [ha _ h.hold.lt]; exact t3, by rw [ha _ q1.lt]; exact t4⟩, ⟨u, tv, wv, by rw [hb' (by simp) (by simp) _ (lt_of_block b1) t1]; exact b1, b2.kept ha (hb' (by simp) (by simp)), b3.kept ha (hb' (by simp) (by simp))⟩,
  h.vals.of_same (hb' (by simp) (by simp) _ h.vals.lt t2), h.hold.of_same (hb' (by simp) (by simp) _ h.hold.lt t3), ⟨qf, q1.of_same (hb' (by simp) (by simp) _ q1.lt t4), fun k => (q2 k).kept ha (hb' (by simp) (by simp))⟩,
  fun i hi hn => ?_, h.few, h.among, h.hdom, h.qdom, h.rdom, h.nmax⟩
 show TxnAt ow' L.p w' i (bs i) (upd s.tx j t' i)
 by_cases e : i = j
 ·subst e
  rw [upd_same]
  exact ht hi hn
 ·rw [upd_other _ _ _ _ e]
  have e2 : (i : Int) ≠ (j : Int) := by omega
  refine (h.txs i hi hn).kept ha (fun k hk1 ek => hb k hk1 ?_ ?_)
  ·rcases ek with ek | ek <;> (rw [ek]; intro x; simp only [Prod.mk.injEq] at x; omega)
  ·rcases ek with ek | ek <;> (rw [ek]; intro x; simp only [Prod.mk.injEq] at x; omega)
theorem TxnAt.unwait {ow : Ow} {p : Nat} {w : World} {i b : Nat} {t : Tx} (h : TxnAt ow p w i b t) : TxnAt ow p (w.setCell ⟨b, 7, none⟩ (.bool false)) i b { t with waits := none } ∧ w.cell? ⟨b, 7, none⟩ = some (.bool t.waits.isSome) ∧ w.frozen? ⟨b, 7, none⟩ = false ∧ Kept (fun k => ow k = (8, (i : Int)) ∨ ow k = (9, (i : Int))) w (w.setCell ⟨b, 7, none⟩ (.bool false)) := by
 obtain ⟨ov, rv, dv, h1, h2, h3, h4, h5⟩ := h
 have hne : ∀ k, ow k = (9, (i : Int)) → k ≠ b := fun k e e' => by rw [e', h2] at e; simp at e
 have hb : ∀ k, k < w.heap.size → ow k = (9, (i : Int)) → (w.setCell ⟨b, 7, none⟩ (.bool false)).heap[k]? = w.heap[k]? := fun k _ e => block_setCell_other (hne k e) _
 refine ⟨⟨ov, rv, dv, block_setCell h1 _, h2, h3.kept (AgreeP.refl _ _) hb, h4, fun h0 => ⟨(h5 h0).1, (h5 h0).2.kept (AgreeP.refl _ _) hb⟩⟩, by rw [cell_at h1]; rfl, frozen_at h1 _, (Kept.set1 w b 7 _).mono (fun k e => by cases e; exact .inl h2)⟩
theorem PSt.turnQueue {L : Lay} {bs : Nat → Nat} {A : List Nat} {ow ow' : Ow} {m m' : Nat} {mu lv : Int} {s : St} {w w' : World} (h : PSt L bs A ow m mu lv s w) (row : Int) {lk' : Int → Lk} (hk : Kept (fun k => ow k = (4, 0) ∨ ow k = (7, row)) w w') (ha : AgreeP w ow ow') (hlt : ∀ k, ow' k ≠ (0, 0) → k < w'.heap.size) (hmm : m ≤ m')
  (hq : ∃ qf, MapAt keyI w' L.qb (m' + L.q0.val) qf ∧ ∀ k, QueueAt ow' w' k (qf k) (lk' k).q) (hh : ∀ k, (lk' k).h = (s.lk k).h) (hd : ∀ k x, x ∈ (lk' k).q → inI k ∧ x.1 ∈ A) : PSt L bs A ow' m' mu lv (s.withLk lk') w' := by
 obtain ⟨t1, t2, t3, t4⟩ := h.tags
 have hb : ∀ {t : Nat × Int}, t.1 ≠ 4 → t.1 ≠ 7 → ∀ k, k < w.heap.size → ow k = t → w'.heap[k]? = w.heap[k]? := fun n1 n2 k hk1 e => hk.block k hk1 (fun x => x.elim (fun e' => n1 (by rw [← e, e'])) (fun e' => n2 (by rw [← e, e'])))
 obtain ⟨u, tv, wv, b1, b2, b3⟩ := h.body
 obtain ⟨qf, q1, q2⟩ := h.que
 have hF : holdF lk' = holdF s.lk := by
  funext x
  simp only [holdF, hh]
 refine ⟨hlt, ⟨by rw [ha _ (lt_of_block b1)]; exact t1, by rw [ha _ h.vals.lt]; exact t2, by rw [ha _ h.hold.lt]; exact t3, by rw [ha _ q1.lt]; exact t4⟩, ⟨u, tv, wv, by rw [hb (by simp) (by simp) _ (lt_of_block b1) t1]; exact b1, b2.kept ha (hb (by simp) (by simp)), b3.kept ha (hb (by simp) (by simp))⟩,
  (h.vals.of_same (hb (by simp) (by simp) _ h.vals.lt t2)).mono hmm, ?_, hq,
  fun i hi hn => (h.txs i hi hn).kept ha (fun k hk1 e => e.elim (fun e => hb (by simp) (by simp) k hk1 e) (fun e => hb (by simp) (by simp) k hk1 e)), h.few, h.among, fun k j hj => h.hdom k j (by rw [← hh k]; exact hj), hd, h.rdom, h.nmax⟩
 show MapAt keyH w' L.hb m' (hvals (holdF lk'))
 rw [hF]
 exact (h.hold.of_same (hb (by simp) (by simp) _ h.hold.lt t3)).mono hmm
theorem zeroLks (w : World) : (zeroValue 74).run Tryz.prog w = .ok (.slice none 0 0) w := by kernel_rfl
theorem PSt.queueAt {L : Lay} {bs : Nat → Nat} {A : List Nat} {ow : Ow} {m : Nat} {mu lv : Int} {s : St} {w : World} (h : PSt L bs A ow m mu lv s w) (row : Int) (hr : inI row) :
  ∃ v, (∀ W : World, W.heap = w.heap → (Instr.lookup 125 (.map (some L.qb)) (.int .i64 row) false).run Tryz.prog W = .ok v W) ∧ RowT ow (7, row) w 107 2 v (s.lk row).q.length (lkc (qcast (s.lk row).q)) := by
 obtain ⟨qf, q1, q2⟩ := h.que
 refine ⟨(qf row).getD (.slice none 0 0), fun W hW => (q1.of_same (by rw [hW])).look Tryz.underlying125 (zeroLks _) (a := row) hr, ?_⟩
 have := q2 row
 cases hq : qf row with
 | none =>
  rw [hq] at this
  have e : (s.lk row).q = [] := this
  rw [e]
  exact RowT.nil _ _ _ _ _
 | some v =>
  rw [hq] at this
  exact this
end Go.Proofs.YtmcajfefagdbnaaGreat
namespace Go.Proofs.YtmcajfefagdbnaaGreat
open Go Go.RowKit
def lenV : Value → Nat | .slice _ n _ => n | _ => 0
theorem PSt.storeQ {L : Lay} {bs : Nat → Nat} {A : List Nat} {ow : Ow} {m : Nat} {mu lv : Int} {s : St} {w : World} (h : PSt L bs A ow m mu lv s w) (row : Int) (hr : inI row) (v : Value) (r : List (Nat × Int)) (hv : RowT ow (7, row) w 107 2 v r.length (lkc (qcast r))) (hd : ∀ x ∈ r, x.1 ∈ A) (hm : m < 2305843009213693952) :
  ∃ w', (Instr.mapUpdate 125 (.map (some L.qb)) (.int .i64 row) v).run Tryz.prog w = .ok () w' ∧ PSt L bs A ow (m + 1) mu lv (s.withLk (upd s.lk row ⟨(s.lk row).h, r⟩)) w' ∧ Kept (Blk L.qb) w w' := by
 obtain ⟨qf, q1, q2⟩ := h.que
 obtain ⟨w', hrun, hm', hk, _⟩ := q1.store Tryz.underlying125 (by have := L.q0.isLt; unfold maxLen; omega) (a := row) hr v
 have t4 := h.tags.2.2.2
 have hb : ∀ k, k < w.heap.size → ow k ≠ (4, 0) → w'.heap[k]? = w.heap[k]? := fun k hk1 hne => hk.block k hk1 (fun e => hne (by cases e; exact t4))
 refine ⟨w', hrun, h.turnQueue row (hk.mono (fun k e => by cases e; exact .inl t4)) (AgreeP.refl _ _) (fun k hk0 => Nat.lt_of_lt_of_le (h.lt k hk0) hk.size) (Nat.le_succ _) ⟨put qf row (some v), hm'.mono (by omega), fun k => ?_⟩ (fun k => ?_) (fun k x hx => ?_), hk⟩
 ·by_cases e : k = row
  ·subst e
   rw [upd_same]
   simp only [put, if_true]
   exact RowT.kept hv (AgreeP.refl _ _) (fun j hj e => hb j hj (by rw [e]; exact tagNe (by omega)))
  ·rw [upd_other _ _ _ _ e]
   simp only [put, if_neg e]
   exact (q2 k).kept (AgreeP.refl _ _) (fun j hj e => hb j hj (by rw [e]; exact tagNe (by omega)))
 ·by_cases e : k = row
  ·subst e; rw [upd_same]
  ·rw [upd_other _ _ _ _ e]
 ·by_cases e : k = row
  ·subst e; rw [upd_same] at hx; exact ⟨hr, hd x hx⟩
  ·rw [upd_other _ _ _ _ e] at hx; exact h.qdom k x hx
theorem PSt.dropQ {L : Lay} {bs : Nat → Nat} {A : List Nat} {ow : Ow} {m : Nat} {mu lv : Int} {s : St} {w : World} (h : PSt L bs A ow m mu lv s w) (row : Int) (hr : inI row) (hq : (s.lk row).q = []) (ty : TypeId) :
  ∃ w', (Builtin.delete_ #[125, 3] ty #[.map (some L.qb), .int .i64 row]).run Tryz.prog w = .ok (.tuple #[]) w' ∧ PSt L bs A ow m mu lv s w' ∧ Kept (Blk L.qb) w w' := by
 obtain ⟨qf, q1, q2⟩ := h.que
 obtain ⟨w', hrun, hm', hk, _⟩ := q1.drop Tryz.underlying125 (a := row) hr ty
 have t4 := h.tags.2.2.2
 have hb : ∀ k, k < w.heap.size → ow k ≠ (4, 0) → w'.heap[k]? = w.heap[k]? := fun k hk1 hne => hk.block k hk1 (fun e => hne (by cases e; exact t4))
 refine ⟨w', hrun, ?_, hk⟩
 have := h.turnQueue (lk' := s.lk) row (hk.mono (fun k e => by cases e; exact .inl t4)) (AgreeP.refl _ _) (fun k hk0 => Nat.lt_of_lt_of_le (h.lt k hk0) hk.size) (Nat.le_refl _) ⟨put qf row none, hm', fun k => ?_⟩ (fun k => rfl) h.qdom
 ·exact this
 ·by_cases e : k = row
  ·subst e
   simp only [put, if_true]
   exact hq
  ·simp only [put, if_neg e]
   exact (q2 k).kept (AgreeP.refl _ _) (fun j hj e => hb j hj (by rw [e]; exact tagNe (by omega)))
def St.gr (s : St) (row : Int) (h1 : Nat → Int) (pre : List (Nat × Int)) : St := (s.withLk (upd s.lk row ⟨h1, (s.lk row).q⟩)).withTx (clr pre s.tx)
set_option maxRecDepth 20000 in
set_option maxHeartbeats 6400000 in
theorem pgrant {L : Lay} {bs : Nat → Nat} {A : List Nat} {ow : Ow} {m : Nat} {mu lv : Int} {s : St} {w : World} (h : PSt L bs A ow m mu lv s w) (row : Int) (hr : inI row) (hq12 : (s.lk row).q.length ≤ 12) (hmd : ∀ x ∈ (s.lk row).q, x.2 ≠ 0) (hmm : m + 20 ≤ 2305843009213693952) :
  Calls Tryz.prog 151 #[.pointer (some ⟨L.p, 0, none⟩), .int .i64 row] w fun e w' => ∃ pre, e = .returned (.tuple #[]) ∧ (s.lk row).q = pre ++ (settle s.n (s.lk row).h (s.lk row).q).q ∧
   PSt L bs A ow (m + 20) mu lv ((s.withLk (upd s.lk row (settle s.n (s.lk row).h (s.lk row).q))).withTx (clr pre s.tx)) w' ∧ Kept (OwnP ow) w w' := by
 obtain ⟨v, hlook, hrow⟩ := h.queueAt row hr
 have l0 := hlook w rfl
 obtain ⟨ao, c, rfl, hc1, hc2⟩ := hrow.1.form
 obtain ⟨u, tv, wv, b1, c3, c6, c7, c4, b2⟩ := h.cells
 have HH : Hid (PSt L bs A ow m mu lv s w) := h
 have HRW : Hid (RowT ow (7, row) w 107 2 (.slice ao (s.lk row).q.length c) (s.lk row).q.length (lkc (qcast (s.lk row).q))) := hrow
 have HMD : Hid (∀ x ∈ (s.lk row).q, x.2 ≠ 0) := hmd
 have HMM : Hid (m + 20 ≤ 2305843009213693952) := hmm
 generalize hq : (s.lk row).q = q at *
 have HQ : Hid ((s.lk row).q = q) := hq
 clear b2 b1 h hlook hrow c3 c6 c4 hmd hmm hq
 go_enter Tryz.func151, Tryz.ntmps151
 go_wp2_with fail
 go_loopw [4] (fun v wr => ∃ (pre r : List (Nat × Int)) (h1 : Nat → Int) (ao : Option Addr) (c : Nat), v = .slice ao r.length c ∧ q = pre ++ r ∧ RowT ow (7, row) wr 107 2 (.slice ao r.length c) r.length (lkc (qcast r)) ∧ PSt L bs A ow (m + pre.length) mu lv (s.gr row h1 pre) wr ∧
  settle s.n h1 r = settle s.n (s.lk row).h q ∧ Kept (OwnP ow) w wr) (fun v _ => lenV v)
 case atStart =>
  refine ⟨[], q, (s.lk row).h, ao, c, rfl, rfl, HRW.out, ?_, rfl, Kept.refl _ _⟩
  have e : s.gr row (s.lk row).h [] = s := by
   unfold St.gr
   rw [show clr [] s.tx = s.tx from rfl]
   have : upd s.lk row ⟨(s.lk row).h, (s.lk row).q⟩ = s.lk := by
    funext k
    by_cases e : k = row
    ·subst e; rw [upd_same]
    ·rw [upd_other _ _ _ _ e]
   rw [this]
   rfl
  rw [e]
  exact HH.out
 case round =>
  obtain ⟨pre, r, h1, ao, c, rfl, rfl, hrow, hst, hset, hkw⟩ := hrel
  have hrin : ∀ x ∈ r, x.1 ∈ A := fun x hx => ((HH.out : PSt L bs A ow m mu lv s w).qdom row x (by rw [HQ.out]; simp [hx])).2
  have hlen : pre.length + r.length ≤ 12 := by simpa using hq12
  obtain ⟨u', tv', wv', b1', c3', c6', c7', c4', b2'⟩ := hst.cells
  have HST : Hid (PSt L bs A ow (m + pre.length) mu lv (s.gr row h1 pre) wr) := hst
  have HROW : Hid (RowT ow (7, row) wr 107 2 (.slice ao r.length c) r.length (lkc (qcast r))) := hrow
  have HSET : Hid (settle s.n h1 r = settle s.n (s.lk row).h (pre ++ r)) := hset
  have HKW : Hid (Kept (OwnP ow) w wr) := hkw
  have HRIN : Hid (∀ x ∈ r, x.1 ∈ A) := hrin
  have hres : ∀ (W : World), settle s.n h1 r = ⟨h1, r⟩ → PSt L bs A ow (m + pre.length + 1) mu lv ((s.gr row h1 pre).withLk (upd (s.gr row h1 pre).lk row ⟨((s.gr row h1 pre).lk row).h, r⟩)) W → PSt L bs A ow (m + 20) mu lv ((s.withLk (upd s.lk row (settle s.n (s.lk row).h (pre ++ r)))).withTx (clr pre s.tx)) W := by
   intro W hs hW
   have e1 : (s.gr row h1 pre).withLk (upd (s.gr row h1 pre).lk row ⟨((s.gr row h1 pre).lk row).h, r⟩) = (s.withLk (upd s.lk row (settle s.n (s.lk row).h (pre ++ r)))).withTx (clr pre s.tx) := by
    rw [← hset, hs]
    have e2 : (s.gr row h1 pre).lk = upd s.lk row ⟨h1, (s.lk row).q⟩ := rfl
    rw [e2, upd_same, upd_upd]
    rfl
   rw [e1] at hW
   exact hW.mono (by omega)
  have HRES : Hid _ := hres
  clear b2' b1' hst hset hkw hrin c3' c6' hres
  cases r with
  | nil =>
   obtain ⟨w2, hrun2, hst2, hk2⟩ := (show PSt L bs A ow (m + pre.length) mu lv (s.gr row h1 pre) wr from HST.out).storeQ row hr _ [] HROW.out (fun x hx => by cases hx) (by have := HMM.out; omega)
   obtain ⟨w3, hrun3, hst3, hk3⟩ := hst2.dropQ row hr (by show ((upd (s.gr row h1 pre).lk row ⟨((s.gr row h1 pre).lk row).h, []⟩) row).q = []; rw [upd_same]) 0
   obtain ⟨u2, tv2, wv2, b12, c32, c62, c72, c42, b22⟩ := hst2.cells
   have HF : Hid (PSt L bs A ow (m + 20) mu lv ((s.withLk (upd s.lk row (settle s.n (s.lk row).h (pre ++ [])))).withTx (clr pre s.tx)) w3) := HRES.out w3 rfl hst3
   have HE : Hid (pre ++ [] = pre ++ (settle s.n (s.lk row).h (pre ++ [])).q) := by have := HSET.out; unfold Hid; rw [← this]; rfl
   have HK : Hid (Kept (OwnP ow) w w3) := by
    have t4 := (show PSt L bs A ow (m + pre.length) mu lv (s.gr row h1 pre) wr from HST.out).tags.2.2.2
    have hn : OwnP ow L.qb := by unfold OwnP; rw [t4]; exact tagNe (by omega)
    exact (HKW.out.trans hk2 (fun k e => by cases e; exact .inl hn)).trans hk3 (fun k e => by cases e; exact .inl hn)
   clear hst2 hst3 hk2 hk3 b12 c32 c62 c42 b22
   simp only [List.length_nil] at *
   go_wp2_with fail
   go_end0
   exact ⟨pre, rfl, HE.out, HF.out, HK.out⟩
  | cons x r' =>
   obtain ⟨j, md⟩ := x
   obtain ⟨g, off, rfl, g0, g1⟩ := hrow.1.lks 0 (by simp [qcast])
   simp only [qcast, List.map_cons, List.getD_cons_zero, Nat.zero_mul, Nat.add_zero] at g0 g1
   simp only [List.length_cons] at *
   have HJ : Hid (j ∈ A) := HRIN.out (j, md) (by simp)
   have hgt : (0 : Int) < ((r'.length + 1 : Nat) : Int) := by omega
   clear hrow
   go_wp2_with fail
   have hst1 : PSt L bs A ow (m + pre.length) mu lv (s.gr row h1 pre) wr := HST.out
   have hlkr : (s.gr row h1 pre).lk row = ⟨h1, (s.lk row).q⟩ := by show upd s.lk row _ row = _; rw [upd_same]
   refine (pfits hst1 row j md hr).mono ?_
   rintro e w1 ⟨rfl, hk1⟩
   rw [show hind (s.gr row h1 pre).n ((s.gr row h1 pre).lk row).h j md = hind s.n h1 j md from by rw [hlkr]; rfl]
   have hst2 := hst1.kept0 hk1
   have hrow2 : RowT ow (7, row) w1 107 2 (.slice (some ⟨g, off, none⟩) (r'.length + 1) c) (r'.length + 1) (lkc (qcast ((j, md) :: r'))) := RowT.kept HROW.out (AgreeP.refl _ _) (fun k hk _ => hk1.block k hk (fun x => x))
   have HST2 : Hid (PSt L bs A ow (m + pre.length) mu lv (s.gr row h1 pre) w1) := hst2
   have HROW2 : Hid (RowT ow (7, row) w1 107 2 (.slice (some ⟨g, off, none⟩) (r'.length + 1) c) (r'.length + 1) (lkc (qcast ((j, md) :: r')))) := hrow2
   have HKW2 : Hid (Kept (OwnP ow) w w1) := HKW.out.trans hk1 (fun _ x => x.elim)
   have g0' := hk1.cell0 g0
   have g1' := hk1.cell0 g1
   obtain ⟨_, _, _, _, _, _, c72, _, _⟩ := hst2.cells
   clear hst1 hst2 hk1 hrow2 g0 g1
   cases hh : hind s.n h1 j md
   ·have hmdne : md ≠ 0 := HMD.out (j, md) (by simp)
    go_wp2_with fail
    have hst3 : PSt L bs A ow (m + pre.length) mu lv (s.gr row h1 pre) w1 := HST2.out
    refine (ptake hst3 row j md hr HJ.out hmdne (by have := HMM.out; unfold maxLen; omega)).mono ?_
    rintro e w2 ⟨rfl, hst4, hk4⟩
    have e5 : (s.gr row h1 pre).withLk (upd (s.gr row h1 pre).lk row ⟨upd ((s.gr row h1 pre).lk row).h j md, ((s.gr row h1 pre).lk row).q⟩) = s.gr row (upd h1 j md) pre := by
     rw [hlkr]
     show (s.gr row h1 pre).withLk (upd (upd s.lk row ⟨h1, (s.lk row).q⟩) row ⟨upd h1 j md, (s.lk row).q⟩) = _
     rw [upd_upd]
     rfl
    rw [e5] at hst4
    have hjn := (HH.out : PSt L bs A ow m mu lv s w).among j HJ.out
    obtain ⟨g2, off2, cc, p4, pp⟩ := hst4.ptr (i := j) hjn.1 hjn.2
    obtain ⟨tx', x7, xf, xk⟩ := (hst4.txs j hjn.1 hjn.2).unwait
    have hgt' : ow g = (7, row) := HROW2.out.2 g rfl
    have hgb : ¬ Blk L.hb g := fun e => by cases e; rw [hst4.tags.2.2.1] at hgt'; exact tagNe (by omega) hgt'
    have g0'' := hk4.cell g0' hgb
    have HN : Hid (s.n ≤ 1099511627776) := (HH.out : PSt L bs A ow m mu lv s w).nmax
    have HST5 : Hid (PSt L bs A ow (m + (pre ++ [(j, md)]).length) mu lv (s.gr row (upd h1 j md) (pre ++ [(j, md)])) (w2.setCell ⟨bs j, 7, none⟩ (.bool false))) := by
     have := hst4.turnTx j _ xk (AgreeP.refl _ _) (fun k hk0 => Nat.lt_of_lt_of_le (hst4.lt k hk0) xk.size) (fun _ _ => tx')
     have e6 : (s.gr row (upd h1 j md) pre).withTx (upd (s.gr row (upd h1 j md) pre).tx j { (s.gr row (upd h1 j md) pre).tx j with waits := none }) = s.gr row (upd h1 j md) (pre ++ [(j, md)]) := by
      unfold St.gr
      rw [clr_snoc]
      rfl
     rw [e6] at this
     rw [List.length_append]
     exact this
    have HROW5 : Hid (RowT ow (7, row) (w2.setCell ⟨bs j, 7, none⟩ (.bool false)) 107 2 (.slice (some ⟨g, off + 2, none⟩) r'.length (c - 1)) r'.length (lkc (qcast r'))) := by
     have hd := RowAt.drop HROW2.out.1 1 (by omega)
     rw [show r'.length + 1 - 1 = r'.length from by omega, show (lkc (qcast ((j, md) :: r'))).drop (1 * 2) = lkc (qcast r') from rfl, Nat.one_mul] at hd
     refine ⟨hd.of_block (fun k hk => ?_), fun k hk => by simp [Value.ownBlock] at hk; subst hk; exact hgt'⟩
     simp [Value.ownBlock] at hk
     subst hk
     rw [xk.block g (Nat.lt_of_lt_of_le (HROW2.out.1.lt g rfl) hk4.size) (fun e => by rcases e with e | e <;> (rw [hgt'] at e; exact tagNe (by omega) e))]
     exact hk4.block g (HROW2.out.1.lt g rfl) hgb
    have HROW6 : Hid (RowT ow (7, row) (w2.setCell ⟨bs j, 7, none⟩ (.bool false)) 107 2 (.slice (some ⟨g, off, none⟩) 0 0) 0 []) := by
     refine ⟨(RowAt.empty HROW2.out.1).of_block (fun k hk => ?_), fun k hk => by simp [Value.ownBlock] at hk; subst hk; exact hgt'⟩
     simp [Value.ownBlock] at hk
     subst hk
     rw [xk.block g (Nat.lt_of_lt_of_le (HROW2.out.1.lt g rfl) hk4.size) (fun e => by rcases e with e | e <;> (rw [hgt'] at e; exact tagNe (by omega) e))]
     exact hk4.block g (HROW2.out.1.lt g rfl) hgb
    have HKW5 : Hid (Kept (OwnP ow) w (w2.setCell ⟨bs j, 7, none⟩ (.bool false))) := by
     have hn : OwnP ow L.hb := by unfold OwnP; rw [hst4.tags.2.2.1]; exact tagNe (by omega)
     exact (HKW2.out.trans hk4 (fun k e => by cases e; exact .inl hn)).trans xk (fun k e => .inl (by unfold OwnP; rcases e with e | e <;> (rw [e]; exact tagNe (by omega))))
    have HSET5 : Hid (settle s.n (upd h1 j md) r' = settle s.n (s.lk row).h (pre ++ (j, md) :: r')) := by
     have := HSET.out
     unfold Hid
     rw [← this]
     simp [settle, hh]
    have hcr : r'.length + 1 ≤ c := by
     obtain ⟨_, _, h1, h2, _⟩ := HROW2.out.1.form
     cases h1
     exact h2
    clear hst4 hst3 hk4 tx' xk e5 hlkr hgb hgt' 
    go_wp2_with fail
    refine (find_some L.p g2 off2 s.n cc j (bs j) w2 p4 pp hjn.1 hjn.2 HN.out).mono ?_
    rintro e w' ⟨rfl, rfl⟩
    go_wp2_with fail
    all_goals refine ⟨⟨pre ++ [(j, md)], r', upd h1 j md, _, _, ⟨rfl, rfl, rfl⟩, by simp, ?_, HST5.out, HSET5.out, HKW5.out⟩, by simp [lenV]⟩
    ·have e0 : r' = [] := List.eq_nil_of_length_eq_zero (by omega)
     rw [e0]
     exact HROW6.out
    ·exact HROW5.out
   ·obtain ⟨w2, hrun2, hst2, hk2⟩ := (show PSt L bs A ow (m + pre.length) mu lv (s.gr row h1 pre) w1 from HST2.out).storeQ row hr _ ((j, md) :: r') HROW2.out HRIN.out (by have := HMM.out; omega)
    have hset : settle s.n h1 ((j, md) :: r') = ⟨h1, (j, md) :: r'⟩ := by simp [settle, hh]
    have HF : Hid (PSt L bs A ow (m + 20) mu lv ((s.withLk (upd s.lk row (settle s.n (s.lk row).h (pre ++ (j, md) :: r')))).withTx (clr pre s.tx)) w2) := HRES.out w2 hset hst2
    have HE : Hid (pre ++ (j, md) :: r' = pre ++ (settle s.n (s.lk row).h (pre ++ (j, md) :: r')).q) := by have := HSET.out; unfold Hid; rw [← this, hset]
    have HK : Hid (Kept (OwnP ow) w w2) := by
     have t4 := (show PSt L bs A ow (m + pre.length) mu lv (s.gr row h1 pre) w1 from HST2.out).tags.2.2.2
     have hn : OwnP ow L.qb := by unfold OwnP; rw [t4]; exact tagNe (by omega)
     exact HKW2.out.trans hk2 (fun k e => by cases e; exact .inl hn)
    have hne : ¬ (((r'.length : Nat) : Int) + 1 = 0) := by omega
    have hne2 : (((r'.length : Nat) : Int) + 1 == 0) = false := by simp; omega
    clear hst2 hk2 hset hlkr
    go_wp2_with fail
    go_end0
    exact ⟨pre, rfl, HE.out, HF.out, HK.out⟩
end Go.Proofs.YtmcajfefagdbnaaGreat
namespace Go.Proofs.YtmcajfefagdbnaaGreat
open Go Go.RowKit Go.Sort Go.Lib
theorem contains_ok (ao : Option Addr) (c : Nat) (l : List Int) (x : Int) (w : World) (h : RowAt w 3 1 (.slice ao l.length c) l.length (l.map (Value.int .i64))) :
  Calls Tryz.prog 129 #[.slice ao l.length c, .int .i64 x] w fun e w' => e = .returned (.bool (l.contains x)) ∧ w' = w := by
 rcases h.2 with ⟨h0, h1⟩ | ⟨g, off, cap, cur, h0, hg, h1, h2, h3, h4⟩
 ·have : l = [] := List.eq_nil_of_length_eq_zero h1
  subst this
  exact (show Calls Tryz.prog 129 #[.slice ao 0 c, .int .i64 x] w _ from Any.slices_Contains_int_empty Tryz.lays107 ao c x w)
 ·simp only [Value.slice.injEq] at h0
  obtain ⟨rfl, _, rfl⟩ := h0
  have := Any.slices_Contains_int Tryz.lays107 g off l.length c l x w (Nat.le_refl _) (by unfold maxLen at h2; omega) (fun j hj => h.cell j (by simp [List.getD, hj]))
  rw [List.take_length] at this
  exact this
set_option maxHeartbeats 800000 in
theorem crowded_any (p hb m : Nat) (row : Int) (H : Int × Int → Option Int) (w : World) (hp : w.cell? ⟨p, 6, none⟩ = some (.map (some hb))) (hm : MapAt keyH w hb m (hvals H))
  (hok : ∀ a, (H a).isSome = true → keyH.ok a) (hmm : m ≤ 1099511627776) :
  Calls Tryz.prog 93 #[.pointer (some ⟨p, 0, none⟩), .int .i64 row] w fun e w' => ∃ l, LiveL H l ∧ e = .returned (.bool (decide (16 ≤ l.length) && !l.contains row)) ∧ Kept NoBlk w w' := by
 have hcon := rowsWithLocks_any p hb m H w hp hm hok hmm
 clear hm hok
 go_enter Tryz.func93, Tryz.ntmps93
 go_wp2_with fail
 refine hcon.mono ?_
 rintro e w1 ⟨ao, c, l, rfl, hrow, hl, hlm, hk⟩
 have HR : Hid (RowAt w1 3 1 (.slice ao l.length c) l.length (l.map (Value.int .i64))) := hrow
 have HL : Hid (LiveL H l) := hl
 have HK : Hid (Kept NoBlk w w1) := hk
 clear hrow hl hk hcon
 by_cases h16 : 16 ≤ l.length
 ·have hge : (16 : Int) ≤ (l.length : Nat) := by omega
  have hge' : ¬ ((l.length : Nat) : Int) < 16 := by omega
  go_wp2_with fail
  refine (contains_ok ao c l row w1 HR.out).mono ?_
  rintro e w2 ⟨rfl, rfl⟩
  generalize hcc : l.contains row = b at *
  go_wp2_with fail
  go_ret
  refine ⟨l, HL.out, ?_, HK.out⟩
  rw [hcc, show decide (16 ≤ l.length) = true from by simp [h16]]
  rfl
 ·have hge : ¬ (16 : Int) ≤ (l.length : Nat) := by omega
  have hge' : ((l.length : Nat) : Int) < 16 := by omega
  go_wp2_with fail
  go_ret
  exact ⟨l, HL.out, by simp [h16], HK.out⟩
theorem Inv.waited {s : St} (hs : Inv s) {k : Int} (h : (s.lk k).q ≠ []) : ∃ j, j ≤ s.n ∧ (s.lk k).h j ≠ 0 := by
 cases hq : (s.lk k).q with
 | nil => exact absurd hq h
 | cons x q =>
  have := hs.still k x.1 x.2 q hq
  rw [hind_true] at this
  obtain ⟨j, h1, _, h2, _⟩ := this
  exact ⟨j, h1, h2⟩
theorem live_holder {s : St} (hs : Inv s) (k : Int) : (s.lk k).live s.n = true ↔ ∃ t, (holdF s.lk (k, t)).isSome = true := by
 rw [live_iff]
 constructor
 ·intro h
  obtain ⟨j, _, hj⟩ : ∃ j, j ≤ s.n ∧ (s.lk k).h j ≠ 0 := by
   rcases h with h | h
   ·exact hs.waited h
   ·exact h
  exact ⟨(j : Int), by simp [holdF, hj]⟩
 ·rintro ⟨t, ht⟩
  unfold holdF at ht
  split at ht
  ·rename_i h
   exact .inr ⟨_, ((hs.row k).hold _ h.2).2, h.2⟩
  ·cases ht
theorem act_len {s : St} (hs : Inv s) {l : List Int} (hl : LiveL (holdF s.lk) l) : l.length = s.act.length ∧ ∀ k, l.contains k = s.act.contains k := by
 have hmem : ∀ k, k ∈ l ↔ k ∈ s.act := fun k => by rw [hl.2 k, hs.act k, live_holder hs k]
 have hn : l.Nodup := hl.1.imp (fun {a b} h => by omega)
 refine ⟨Nat.le_antisymm (nodup_len l s.act hn (fun x hx => (hmem x).1 hx)) (nodup_len s.act l hs.actOnce (fun x hx => (hmem x).2 hx)), fun k => ?_⟩
 rw [Bool.eq_iff_iff]
 simp [hmem k]
theorem pcrowded {L : Lay} {bs : Nat → Nat} {A : List Nat} {ow : Ow} {m : Nat} {mu lv : Int} {s : St} {w : World} (h : PSt L bs A ow m mu lv s w) (hs : Inv s) (k : Int) (hmm : m ≤ 1099511627776) :
  Calls Tryz.prog 93 #[.pointer (some ⟨L.p, 0, none⟩), .int .i64 k] w fun e w' => e = .returned (.bool (s.crowded k)) ∧ Kept NoBlk w w' := by
 obtain ⟨u, tv, wv, b1, c3, c6, c7, c4, b2⟩ := h.cells
 refine (crowded_any L.p L.hb m k (holdF s.lk) w c6 h.hold (holdF_ok h) hmm).mono ?_
 rintro e w' ⟨l, hl, rfl, hk⟩
 obtain ⟨h1, h2⟩ := act_len hs hl
 refine ⟨?_, hk⟩
 rw [h1, h2, St.crowded, Bool.and_comm]
end Go.Proofs.YtmcajfefagdbnaaGreat
