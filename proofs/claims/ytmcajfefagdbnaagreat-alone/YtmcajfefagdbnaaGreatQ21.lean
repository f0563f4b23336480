import Derived.Test.YtmcajfefagdbnaaGreatQ20
namespace Go.Proofs.YtmcajfefagdbnaaGreat
open Go Go.RowKit
theorem admErr_zero2 {l : List Op4} {m : Nat} {c : Int} (h : admErr l m c = 0) : l.length ≤ 12 ∧ (l.all Op4.ok = true) ∧ m < 12 ∧ c < 1099511627776 := by
 unfold admErr at h
 split at h
 ·omega
 ·split at h
  ·omega
  ·rename_i h2
   split at h
   ·omega
   ·split at h
    ·omega
    ·exact ⟨by omega, by simpa using h2, by omega, by omega⟩
theorem RowAt.full {w : World} {e : TypeId} {size n g : Nat} {xs : List Value} (h : w.heap[g]? = some (.cells xs.toArray e (0, 0))) (hl : xs.length = n * size) (hn : n ≤ maxLen) : RowAt w e size (.slice (some ⟨g, 0, none⟩) n n) n xs :=
 ⟨hl, .inr ⟨g, 0, n, xs.toArray, rfl, h, Nat.le_refl _, hn, by simp; omega, fun j u hu => by simpa using hu⟩⟩
def admOw (ow : Ow) (H t g n : Nat) (tv : Value) : Ow := fun k => if k < H then ow k else if k = t then (8, ((n + 1 : Nat) : Int)) else if k = g then (9, ((n + 1 : Nat) : Int)) else if tv.ownBlock = some k then (5, 0) else (0, 0)
theorem txPtrs_snoc (bs : Nat → Nat) (n t : Nat) : txPtrs (upd bs (n + 1) t) (n + 1) = txPtrs bs n ++ [.pointer (some ⟨t, 0, none⟩)] := by
 unfold txPtrs
 rw [List.range_succ, List.map_append]
 congr 1
 ·apply List.map_congr_left
  intro i hi
  rw [List.mem_range] at hi
  rw [upd_other _ _ _ _ (by omega)]
 ·simp
theorem pAdmit_ok {L : Lay} {bs : Nat → Nat} {A : List Nat} {ow : Ow} {m : Nat} {s : St} {lv : Nat} {w : World} (h : PSt L bs A ow m 0 (lv : Int) s w) (v : Value) (l : List Op4) (ho : OpsSrc w v l) (hn : ∀ k, v.ownBlock = some k → ¬ OwnP ow k) (hin : ∀ o ∈ l, inI o.a ∧ inI o.b ∧ inI o.c) (hc0 : 0 ≤ s.clock) (hnm : s.n ≤ 1099511627775) (hA : A.length < 12) (he : admErr l lv s.clock = 0) :
  Calls Tryz.prog 36 #[.pointer (some ⟨L.p, 0, none⟩), v] w fun e w' => e = .returned (.tuple #[.int .i64 ((s.n : Int) + 1), .int .i64 0]) ∧
   (∃ t ow', PSt L (upd bs (s.n + 1) t) (A ++ [s.n + 1]) ow' m 0 ((lv : Int) + 1) (s.admit l) w' ∧ AgreeP w ow ow') ∧ Kept (OwnP ow) w w' := by
 obtain ⟨u, tv, wv, b1, b2, b3⟩ := h.body
 obtain ⟨e1, e2, e3, e4⟩ := admErr_zero2 he
 obtain ⟨t1, t2, t3, t4⟩ := h.tags
 have hvp : ∀ k, v.ownBlock = some k → k ≠ L.p := fun k hk e => hn k hk (by subst e; exact h.ownP)
 refine (pAdmit_walk L.p v l s.n lv s.clock _ _ tv _ _ _ _ w ho hvp b1 hc0 b2.1 e1 e3 hnm e4 he).mono ?_
 rintro e w' ⟨tv', t, g, rfl, p1, p2, p3, p4, p5, p6, p7, p8, p9⟩
 have hkO : Kept (OwnP ow) w w' := p9.mono (fun k e => by
  rcases e with e | e
  ·subst e; exact h.ownP
  ·unfold OwnP; rw [b2.2 k e]; exact tagNe (by omega))
 have hsz := p9.size
 have hag : AgreeP w ow (admOw ow w.heap.size t g s.n tv') := fun k hk => by unfold admOw; rw [if_pos hk]
 have hot : admOw ow w.heap.size t g s.n tv' t = (8, ((s.n + 1 : Nat) : Int)) := by unfold admOw; rw [if_neg (by omega), if_pos rfl]
 have hog : admOw ow w.heap.size t g s.n tv' g = (9, ((s.n + 1 : Nat) : Int)) := by unfold admOw; rw [if_neg (by omega), if_neg (fun e => p5 e.symm), if_pos rfl]
 have hsame : ∀ {tg : Nat × Int}, tg.1 ≠ 1 → tg.1 ≠ 5 → ∀ k, k < w.heap.size → ow k = tg → w'.heap[k]? = w.heap[k]? := fun n1 n5 k hk e => p9.block k hk (fun x => by
  rcases x with x | x
  ·subst x; rw [t1] at e; exact n1 (by rw [← e])
  ·rw [b2.2 k x] at e; exact n5 (by rw [← e]))
 obtain ⟨qf, q1, q2⟩ := h.que
 refine ⟨rfl, ⟨t, admOw ow w.heap.size t g s.n tv', ?_, hag⟩, hkO⟩
 refine ⟨?_, ⟨?_, ?_, ?_, ?_⟩, ⟨u, tv', wv, p1, ⟨?_, ?_⟩, b3.kept hag (hsame (by simp) (by simp))⟩, h.vals.of_same (hsame (by simp) (by simp) _ h.vals.lt t2), h.hold.of_same (hsame (by simp) (by simp) _ h.hold.lt t3), ⟨qf, q1.of_same (hsame (by simp) (by simp) _ q1.lt t4), fun k => (q2 k).kept hag (hsame (by simp) (by simp))⟩, ?_, ?_, ?_, ?_, ?_, h.rdom, ?_⟩
 ·intro k hk
  by_cases e : k < w.heap.size
  ·omega
  ·unfold admOw at hk
   rw [if_neg e] at hk
   by_cases e1 : k = t
   ·subst e1; exact lt_of_block p6
   rw [if_neg e1] at hk
   by_cases e2 : k = g
   ·subst e2; exact lt_of_block p7
   rw [if_neg e2] at hk
   by_cases e3 : tv'.ownBlock = some k
   ·exact p2.lt k e3
   ·rw [if_neg e3] at hk; exact absurd rfl hk
 ·rw [hag _ (h.lt _ h.ownP)]; exact t1
 ·rw [hag _ h.vals.lt]; exact t2
 ·rw [hag _ h.hold.lt]; exact t3
 ·rw [hag _ q1.lt]; exact t4
 ·show RowAt w' _ 1 tv' (s.n + 1) (txPtrs (upd bs (s.n + 1) t) (s.n + 1))
  rw [txPtrs_snoc]; exact p2
 ·intro k hk
  by_cases e : k < w.heap.size
  ·rw [hag k e]
   rcases p8 k hk with x | x
   ·exact b2.2 k x
   ·omega
  ·rcases p8 k hk with x | x
   ·exact absurd (b2.1.lt k x) e
   ·unfold admOw; rw [if_neg e, if_neg x.2.1, if_neg x.2.2, if_pos hk]
 ·intro i h1 h2
  by_cases ei : i = s.n + 1
  ·subst ei
   show TxnAt _ L.p w' (s.n + 1) (upd bs (s.n + 1) t (s.n + 1)) (upd s.tx (s.n + 1) _ (s.n + 1))
   rw [upd_same, upd_same]
   refine ⟨_, _, _, p6, hot, RowT.nil _ _ _ _ _, Nat.zero_le _, fun _ => ⟨Nat.le_refl _, ⟨?_, ?_⟩, e1, ?_, Nat.zero_le _, Nat.le_refl _, [], RowT.nil _ _ _ _ _, ?_⟩⟩
   ·exact RowAt.full p7 (opCells_len l) (by unfold maxLen; omega)
   ·intro k hk
    obtain rfl : g = k := by simpa [Value.ownBlock] using hk
    exact hog
   ·intro o ho'
    obtain ⟨x1, x2, x3⟩ := hin o ho'
    exact ⟨x1, x2, x3, by rw [List.all_eq_true] at e2; exact e2 o ho'⟩
   ·trivial
  ·have hi' : i ≤ s.n := by have : i ≤ s.n + 1 := h2; omega
   show TxnAt _ L.p w' i (upd bs (s.n + 1) t i) (upd s.tx (s.n + 1) _ i)
   rw [upd_other _ _ _ _ ei, upd_other _ _ _ _ ei]
   exact (h.txs i h1 hi').kept hag (fun k hk e => e.elim (fun e => hsame (by simp) (by simp) k hk e) (fun e => hsame (by simp) (by simp) k hk e))
 ·rw [List.length_append]; simp; omega
 ·intro i hi
  show 1 ≤ i ∧ i ≤ s.n + 1
  rw [List.mem_append] at hi
  rcases hi with hi | hi
  ·have := h.among i hi; omega
  ·simp at hi; omega
 ·intro k j hj
  have := h.hdom k j hj
  exact ⟨this.1, List.mem_append.2 (.inl this.2)⟩
 ·intro k x hx
  have := h.qdom k x hx
  exact ⟨this.1, List.mem_append.2 (.inl this.2)⟩
 ·show s.n + 1 ≤ _
  omega
end Go.Proofs.YtmcajfefagdbnaaGreat
namespace Go.Proofs.YtmcajfefagdbnaaGreat
open Go Go.RowKit Go.Sort Go.Lib
set_option maxRecDepth 20000 in
set_option maxHeartbeats 1600000 in
theorem pfree {L : Lay} {bs : Nat → Nat} {A : List Nat} {ow : Ow} {m : Nat} {mu lv : Int} {s : St} {w : World} (h : PSt L bs A ow m mu lv s w) (row : Int) (hr : inI row) (i : Nat) (md : Int) (honce : ((s.lk row).q.map (·.1)).Nodup) :
  Calls Tryz.prog 94 #[.pointer (some ⟨L.p, 0, none⟩), .int .i64 row, .agg #[.int .i64 (i : Int), .int .i64 md]] w fun e w' => e = .returned (.bool ((s.lk row).q.isEmpty && !hind s.n (s.lk row).h i md)) ∧ Kept NoBlk w w' := by
 have hk0 : Kept NoBlk w (w.alloc (.cells #[.int .i64 (i : Int), .int .i64 md] 107)) := (Kept.refl _ _).alloc _
 have h0 := h.kept0 hk0
 obtain ⟨u, tv, wv, b1, c3, c6, c7, c4, b2⟩ := h0.cells
 have hbx := block_alloc_new w (.cells #[.int .i64 (i : Int), .int .i64 md] 107)
 have z0 : (w.alloc (.cells #[.int .i64 (i : Int), .int .i64 md] 107)).cell? ⟨w.heap.size, 0, none⟩ = some (.int .i64 (i : Int)) := by rw [cell_at hbx]; rfl
 have z1 : (w.alloc (.cells #[.int .i64 (i : Int), .int .i64 md] 107)).cell? ⟨w.heap.size, 1, none⟩ = some (.int .i64 md) := by rw [cell_at hbx]; rfl
 obtain ⟨v2, hlook, hrow⟩ := h0.queueAt row hr
 obtain ⟨ao, c, rfl, _, _⟩ := hrow.1.form
 have hl0 := hlook _ rfl
 have hft := pfits h0 row i md hr
 have hql := h.queueLen row honce
 have HK : Hid (Kept NoBlk w (w.alloc (.cells #[.int .i64 (i : Int), .int .i64 md] 107))) := hk0
 have hem : (s.lk row).q.isEmpty = decide ((s.lk row).q.length = 0) := by cases (s.lk row).q <;> simp
 clear h h0 b1 c3 c6 c4 b2 hlook hrow hbx hk0 honce
 by_cases hq : (s.lk row).q.length = 0
 ·have hq1 : ((((s.lk row).q.length : Nat) : Int) == 0) = true := by simp [hq]
  rw [hem, show decide ((s.lk row).q.length = 0) = true from by simp [hq], Bool.true_and]
  generalize (s.lk row).q.length = nq at *
  subst hq
  go_enter Tryz.func94, Tryz.ntmps94
  go_wp2_with fail
  refine hft.mono ?_
  rintro e w1 ⟨rfl, hk1⟩
  have HK1 : Hid (Kept NoBlk w w1) := HK.out.trans' hk1
  generalize hbb : (!hind s.n (s.lk row).h i md) = bb at *
  clear hk1 hft z0 z1 c7 hl0
  go_wp2_with fail
  go_ret
  rw [hbb]
  exact ⟨rfl, HK1.out⟩
 ·have hq1 : ((((s.lk row).q.length : Nat) : Int) == 0) = false := by rw [beq_eq_false_iff_ne]; omega
  rw [hem, show decide ((s.lk row).q.length = 0) = false from by simp [hq], Bool.false_and]
  generalize (s.lk row).q.length = nq at *
  go_enter Tryz.func94, Tryz.ntmps94
  go_wp2_with fail
  go_ret
  exact ⟨rfl, HK.out⟩
end Go.Proofs.YtmcajfefagdbnaaGreat
namespace Go.Proofs.YtmcajfefagdbnaaGreat
open Go Go.RowKit Go.Sort Go.Lib
theorem wrap_add (x y d : Int) : wrap64 (x + wrap64 (y + d)) = IntKind.wrap .i64 (IntKind.wrap .i64 (x + y) + d) := by
 simp only [IntKind.wrap_i64]
 unfold wrap64
 omega
theorem PSt.nextT {L : Lay} {bs : Nat → Nat} {A : List Nat} {ow : Ow} {m : Nat} {mu lv : Int} {s : St} {w w' : World} (h : PSt L bs A ow m mu lv s w) (i : Nat) (hin : 1 ≤ i ∧ i ≤ s.n) (hst : (s.tx i).state = 0) (hnx : (s.tx i).next < (s.tx i).ops.length) (rg : Int → Int) (hk : Kept (Blk (bs i)) w w')
  (hb : ∀ ov rv dv, w.heap[bs i]? = some (.cells #[.int .i64 (i : Int), ov, .int .i64 (s.tx i).stamp, .int .i64 (s.tx i).state, .int .i64 (s.tx i).agains, .int .i64 ((s.tx i).next : Int), .bool (s.tx i).wounded, .bool (s.tx i).waits.isSome, .int .i64 ((s.tx i).regs 0), .int .i64 ((s.tx i).regs 1), .int .i64 ((s.tx i).regs 2), .int .i64 ((s.tx i).regs 3), rv, dv] 146 (0, 0)) →
   w'.heap[bs i]? = some (.cells #[.int .i64 (i : Int), ov, .int .i64 (s.tx i).stamp, .int .i64 (s.tx i).state, .int .i64 (s.tx i).agains, .int .i64 (((s.tx i).next + 1 : Nat) : Int), .bool (s.tx i).wounded, .bool (s.tx i).waits.isSome, .int .i64 (rg 0), .int .i64 (rg 1), .int .i64 (rg 2), .int .i64 (rg 3), rv, dv] 146 (0, 0))) :
  PSt L bs A ow m mu lv (s.withTx (upd s.tx i { s.tx i with next := (s.tx i).next + 1, regs := rg })) w' ∧ Kept (OwnP ow) w w' := by
 obtain ⟨hbt, hbo⟩ := h.ownT hin
 have hk2 : Kept (fun k => ow k = (8, (i : Int)) ∨ ow k = (9, (i : Int))) w w' := hk.mono (fun k e => by cases e; exact .inl hbt)
 refine ⟨h.turnTx i _ hk2 (AgreeP.refl _ _) (fun k hk0 => Nat.lt_of_lt_of_le (h.lt k hk0) hk.size) (fun _ _ => ?_), hk.mono (fun k e => by cases e; exact hbo)⟩
 obtain ⟨ov, rv, dv, h1, h2, h3, h4, h5⟩ := h.txs i hin.1 hin.2
 have hsm : ∀ k, k < w.heap.size → ow k = (9, (i : Int)) → w'.heap[k]? = w.heap[k]? := fun k hk1 e => hk.block k hk1 (fun x => by cases x; rw [h2] at e; exact tagNe (by omega) e)
 obtain ⟨y1, y2⟩ := h5 hst
 obtain ⟨l1, l2, l3, l4, l5, cs, l6, l7⟩ := y2.kept (AgreeP.refl _ _) hsm
 exact ⟨ov, rv, dv, hb ov rv dv h1, h2, h3.kept (AgreeP.refl _ _) hsm, h4, fun _ => ⟨Nat.le_succ_of_le y1, l1, l2, l3, hnx, Nat.le_succ_of_le l5, cs, l6, l7⟩⟩
set_option maxRecDepth 20000 in
set_option maxHeartbeats 1600000 in
theorem do_add (p b a c : Nat) (d x y n : Int) (w : World) (ha : a < 4) (hc : c < 4) (hn : 0 ≤ n ∧ n ≤ 12) (h5 : w.cell? ⟨b, 5, none⟩ = some (.int .i64 n)) (hx : w.cell? ⟨b, 8 + a, none⟩ = some (.int .i64 x)) (hy : w.cell? ⟨b, 8 + c, none⟩ = some (.int .i64 y)) (hf : ∀ j, w.frozen? ⟨b, j, none⟩ = false) :
  Calls Tryz.prog 97 #[.pointer (some ⟨p, 0, none⟩), .pointer (some ⟨b, 0, none⟩), .agg #[.int .i64 4, .int .i64 (a : Int), .int .i64 (c : Int), .int .i64 d]] w fun e w' => e = .returned (.tuple #[]) ∧ ∃ W, Kept NoBlk w W ∧ w' = ((W.setCell ⟨b, 8 + a, none⟩ (.int .i64 (wrap64 (x + wrap64 (y + d))))).drew).setCell ⟨b, 5, none⟩ (.int .i64 (n + 1)) := by
 have hbl := World.block_lt_of_cell? w _ h5
 have hbx := block_alloc_new w (.cells #[.int .i64 4, .int .i64 (a : Int), .int .i64 (c : Int), .int .i64 d] 114)
 have z0 : (w.alloc (.cells #[.int .i64 4, .int .i64 (a : Int), .int .i64 (c : Int), .int .i64 d] 114)).cell? ⟨w.heap.size, 0, none⟩ = some (.int .i64 4) := by rw [cell_at hbx]; rfl
 have z1 : (w.alloc (.cells #[.int .i64 4, .int .i64 (a : Int), .int .i64 (c : Int), .int .i64 d] 114)).cell? ⟨w.heap.size, 1, none⟩ = some (.int .i64 (a : Int)) := by rw [cell_at hbx]; rfl
 have z2 : (w.alloc (.cells #[.int .i64 4, .int .i64 (a : Int), .int .i64 (c : Int), .int .i64 d] 114)).cell? ⟨w.heap.size, 2, none⟩ = some (.int .i64 (c : Int)) := by rw [cell_at hbx]; rfl
 have z3 : (w.alloc (.cells #[.int .i64 4, .int .i64 (a : Int), .int .i64 (c : Int), .int .i64 d] 114)).cell? ⟨w.heap.size, 3, none⟩ = some (.int .i64 d) := by rw [cell_at hbx]; rfl
 have hk0 : Kept NoBlk w (w.alloc (.cells #[.int .i64 4, .int .i64 (a : Int), .int .i64 (c : Int), .int .i64 d] 114)) := (Kept.refl _ _).alloc _
 have HK0 : Hid (Kept NoBlk w (w.alloc (.cells #[.int .i64 4, .int .i64 (a : Int), .int .i64 (c : Int), .int .i64 d] 114))) := hk0
 have g5 := hk0.cell0 h5
 have gx := hk0.cell0 hx
 have gy := hk0.cell0 hy
 have gf : ∀ j, (w.alloc (.cells #[.int .i64 4, .int .i64 (a : Int), .int .i64 (c : Int), .int .i64 d] 114)).frozen? ⟨b, j, none⟩ = false := fun j => by
  obtain ⟨o, ho⟩ : ∃ o, w.heap[b]? = some o := ⟨w.heap[b], by simp [hbl]⟩
  have h1 := hf j
  unfold World.frozen? at h1 ⊢
  simp only [block_alloc_old _ ho] 
  simpa only [ho] using h1
 clear hbx h5 hx hy hf hk0
 go_enter Tryz.func97, Tryz.ntmps97
 go_wp2_with fail
 generalize w.alloc (.cells #[.int .i64 4, .int .i64 (a : Int), .int .i64 (c : Int), .int .i64 d] 114) = W0 at *
 go_region
 have q5 : ∀ v, ((W0.setCell ⟨b, 8 + a, none⟩ v).drew).cell? ⟨b, 5, none⟩ = some (.int .i64 n) := fun v => by
  show (W0.setCell ⟨b, 8 + a, none⟩ v).cell? ⟨b, 5, none⟩ = _
  have e : (⟨b, 8 + a, none⟩ : Addr) ≠ ⟨b, 5, none⟩ := by intro e; simp only [Addr.mk.injEq] at e; omega
  exact (World.cell?_setCell_other W0 _ _ v e).trans g5
 have qf : ∀ v, ((W0.setCell ⟨b, 8 + a, none⟩ v).drew).frozen? ⟨b, 5, none⟩ = false := fun v => by
  show (W0.setCell ⟨b, 8 + a, none⟩ v).frozen? ⟨b, 5, none⟩ = _
  rw [World.frozen?_setCell]
  exact gf 5
 have HE : Hid (∃ W, Kept NoBlk w W ∧ ((W0.setCell ⟨b, 8 + a, none⟩ (.int .i64 (wrap64 (x + wrap64 (y + d))))).drew).setCell ⟨b, 5, none⟩ (.int .i64 (n + 1)) = ((W.setCell ⟨b, 8 + a, none⟩ (.int .i64 (wrap64 (x + wrap64 (y + d))))).drew).setCell ⟨b, 5, none⟩ (.int .i64 (n + 1))) := ⟨W0, HK0.out, rfl⟩
 have q5' := q5 (.int .i64 (wrap64 (x + wrap64 (y + d))))
 have qf' := qf (.int .i64 (wrap64 (x + wrap64 (y + d))))
 clear q5 qf g5 gx gy gf z0 z1 z2 z3
 generalize (W0.setCell ⟨b, 8 + a, none⟩ (.int .i64 (wrap64 (x + wrap64 (y + d))))).drew = W1 at *
 obtain ⟨hn0, hn1⟩ := hn
 go_wp2_with fail
 go_end0
 exact ⟨rfl, HE.out⟩
set_option maxRecDepth 20000 in
set_option maxHeartbeats 1600000 in
theorem do_stop (p b : Nat) (a c d n : Int) (w : World) (hn : 0 ≤ n ∧ n ≤ 12) (h5 : w.cell? ⟨b, 5, none⟩ = some (.int .i64 n)) (hf : ∀ j, w.frozen? ⟨b, j, none⟩ = false) :
  Calls Tryz.prog 97 #[.pointer (some ⟨p, 0, none⟩), .pointer (some ⟨b, 0, none⟩), .agg #[.int .i64 5, .int .i64 a, .int .i64 c, .int .i64 d]] w fun e w' => e = .returned (.tuple #[]) ∧ ∃ W, Kept NoBlk w W ∧ w' = W.setCell ⟨b, 5, none⟩ (.int .i64 (n + 1)) := by
 have hbl := World.block_lt_of_cell? w _ h5
 have hbx := block_alloc_new w (.cells #[.int .i64 5, .int .i64 a, .int .i64 c, .int .i64 d] 114)
 have z0 : (w.alloc (.cells #[.int .i64 5, .int .i64 a, .int .i64 c, .int .i64 d] 114)).cell? ⟨w.heap.size, 0, none⟩ = some (.int .i64 5) := by rw [cell_at hbx]; rfl
 have hk0 : Kept NoBlk w (w.alloc (.cells #[.int .i64 5, .int .i64 a, .int .i64 c, .int .i64 d] 114)) := (Kept.refl _ _).alloc _
 have HK0 : Hid (Kept NoBlk w (w.alloc (.cells #[.int .i64 5, .int .i64 a, .int .i64 c, .int .i64 d] 114))) := hk0
 have g5 := hk0.cell0 h5
 have gf : (w.alloc (.cells #[.int .i64 5, .int .i64 a, .int .i64 c, .int .i64 d] 114)).frozen? ⟨b, 5, none⟩ = false := by
  obtain ⟨o, ho⟩ : ∃ o, w.heap[b]? = some o := ⟨w.heap[b], by simp [hbl]⟩
  have h1 := hf 5
  unfold World.frozen? at h1 ⊢
  simp only [block_alloc_old _ ho]
  simpa only [ho] using h1
 obtain ⟨hn0, hn1⟩ := hn
 clear hbx h5 hf hk0
 go_enter Tryz.func97, Tryz.ntmps97
 go_wp2_with fail
 go_end0
 exact ⟨rfl, _, HK0.out, by simp [go_sem, hbl]⟩
theorem Kept.set5 (w : World) (b o o' : Nat) (v v' : Value) : Kept (Blk b) w (((w.setCell ⟨b, o, none⟩ v).drew).setCell ⟨b, o', none⟩ v') := ((Kept.set1 w b o v).drew).trans' (Kept.set1 _ b o' v')
theorem PSt.tcells {L : Lay} {bs : Nat → Nat} {A : List Nat} {ow : Ow} {m : Nat} {mu lv : Int} {s : St} {w : World} (h : PSt L bs A ow m mu lv s w) {i : Nat} (hin : 1 ≤ i ∧ i ≤ s.n) :
  w.cell? ⟨bs i, 5, none⟩ = some (.int .i64 ((s.tx i).next : Int)) ∧ (∀ a : Nat, a < 4 → w.cell? ⟨bs i, 8 + a, none⟩ = some (.int .i64 ((s.tx i).regs (a : Int)))) ∧ ∀ j, w.frozen? ⟨bs i, j, none⟩ = false := by
 obtain ⟨ov, rv, dv, h1, _⟩ := h.txs i hin.1 hin.2
 refine ⟨by rw [cell_at h1]; rfl, fun a ha => ?_, frozen_at h1⟩
 rw [cell_at h1]
 match a, ha with
 | 0, _ => rfl
 | 1, _ => rfl
 | 2, _ => rfl
 | 3, _ => rfl
theorem reg_nat {a : Int} (h : regB a = true) : ∃ k : Nat, a = (k : Int) ∧ k < 4 := by
 simp only [regB, Bool.and_eq_true, decide_eq_true_eq] at h
 exact ⟨a.toNat, by omega, by omega⟩
theorem pdo_add {L : Lay} {bs : Nat → Nat} {A : List Nat} {ow : Ow} {m : Nat} {mu lv : Int} {s : St} {w : World} (h : PSt L bs A ow m mu lv s w) (i : Nat) (hi : i ∈ A) (hst : (s.tx i).state = 0) (hnx : (s.tx i).next < (s.tx i).ops.length) (h12 : (s.tx i).ops.length ≤ 12) (o : Op4) (ho : o.ok = true) (h4 : o.k = 4) :
  Calls Tryz.prog 97 #[.pointer (some ⟨L.p, 0, none⟩), .pointer (some ⟨bs i, 0, none⟩), .agg #[.int .i64 o.k, .int .i64 o.a, .int .i64 o.b, .int .i64 o.c]] w fun e w' => e = .returned (.tuple #[]) ∧ (∃ ow', PSt L bs A ow' (m + 1) mu lv (s.doOp i o) w' ∧ AgreeP w ow ow') ∧ Kept (OwnP ow) w w' := by
 have hin := h.among i hi
 obtain ⟨c5, cr, cf⟩ := h.tcells hin
 obtain ⟨k, a, b, c⟩ := o
 simp only at h4
 subst h4
 have hok : (regB a && regB b) = true := ho
 rw [Bool.and_eq_true] at hok
 obtain ⟨a, rfl, ha⟩ := reg_nat hok.1
 obtain ⟨b, rfl, hb⟩ := reg_nat hok.2
 refine (do_add L.p (bs i) a b c _ _ _ w ha hb ⟨by omega, by omega⟩ c5 (cr a ha) (cr b hb) cf).mono ?_
 rintro e w' ⟨rfl, W, hk, rfl⟩
 obtain ⟨z1, z2⟩ := (h.kept0 hk).nextT i hin hst hnx (upd (s.tx i).regs (a : Int) (IntKind.wrap .i64 (IntKind.wrap .i64 ((s.tx i).regs a + (s.tx i).regs b) + c))) (Kept.set5 W (bs i) (8 + a) 5 (.int .i64 (wrap64 ((s.tx i).regs a + wrap64 ((s.tx i).regs b + c)))) (.int .i64 (((s.tx i).next : Int) + 1))) (fun ov rv dv e => by
  have e1 := block_setCell (o := 8 + a) e (.int .i64 (wrap64 ((s.tx i).regs a + wrap64 ((s.tx i).regs b + c))))
  have e2 := block_setCell (w := (W.setCell ⟨bs i, 8 + a, none⟩ (.int .i64 (wrap64 ((s.tx i).regs a + wrap64 ((s.tx i).regs b + c))))).drew) (o := 5) e1 (.int .i64 (((s.tx i).next : Int) + 1))
  rw [e2, wrap_add]
  match a, ha with
  | 0, _ => rfl
  | 1, _ => rfl
  | 2, _ => rfl
  | 3, _ => rfl)
 exact ⟨rfl, ⟨ow, (z1.mono (Nat.le_succ _)).congr rfl rfl rfl rfl rfl rfl, AgreeP.refl _ _⟩, (hk.mono (fun _ x => x.elim)).trans' z2⟩
theorem pdo_stop {L : Lay} {bs : Nat → Nat} {A : List Nat} {ow : Ow} {m : Nat} {mu lv : Int} {s : St} {w : World} (h : PSt L bs A ow m mu lv s w) (i : Nat) (hi : i ∈ A) (hst : (s.tx i).state = 0) (hnx : (s.tx i).next < (s.tx i).ops.length) (h12 : (s.tx i).ops.length ≤ 12) (o : Op4) (h5 : o.k = 5) :
  Calls Tryz.prog 97 #[.pointer (some ⟨L.p, 0, none⟩), .pointer (some ⟨bs i, 0, none⟩), .agg #[.int .i64 o.k, .int .i64 o.a, .int .i64 o.b, .int .i64 o.c]] w fun e w' => e = .returned (.tuple #[]) ∧ (∃ ow', PSt L bs A ow' (m + 1) mu lv (s.doOp i o) w' ∧ AgreeP w ow ow') ∧ Kept (OwnP ow) w w' := by
 have hin := h.among i hi
 obtain ⟨c5, cr, cf⟩ := h.tcells hin
 obtain ⟨k, a, b, c⟩ := o
 simp only at h5
 subst h5
 refine (do_stop L.p (bs i) a b c _ w ⟨by omega, by omega⟩ c5 cf).mono ?_
 rintro e w' ⟨rfl, W, hk, rfl⟩
 obtain ⟨z1, z2⟩ := (h.kept0 hk).nextT i hin hst hnx (s.tx i).regs (Kept.set1 W (bs i) 5 (.int .i64 (((s.tx i).next : Int) + 1))) (fun ov rv dv e => block_setCell (o := 5) e _)
 exact ⟨rfl, ⟨ow, (z1.mono (Nat.le_succ _)).congr rfl rfl rfl rfl rfl rfl, AgreeP.refl _ _⟩, (hk.mono (fun _ x => x.elim)).trans' z2⟩
end Go.Proofs.YtmcajfefagdbnaaGreat
namespace Go.Proofs.YtmcajfefagdbnaaGreat
open Go Go.RowKit Go.Sort Go.Lib
theorem cutB2 {P : Program} {c : Code} {n : Nat} {K : Act → World → Prop} {Q : Exit → Act → World → Prop} {a : Act} {w : World} {X Y : Type} (f : X → Y → Act) (R : X → Y → World → Prop) (h1 : c.wp P (Exit.inBlock n (Exit.then (CutP2 f R) Q)) a w) (h2 : ∀ x y w', R x y w' → Exit.then K Q .normal (f x y) w') : c.wp P (Exit.inBlock n (Exit.then K Q)) a w := by
 have go : ∀ e a w, Exit.then (CutP2 f R) Q e a w → Exit.then K Q e a w := by
  intro e a w h
  cases e <;> first | exact h | (obtain ⟨x, y, rfl, h⟩ := h; exact h2 _ _ _ h)
 refine Code.wp_mono ?_ h1
 intro e a w h
 cases e with
 | exit id =>
  simp only [Exit.inBlock] at h ⊢
  by_cases hid : id = n
  ·rw [if_pos hid] at h ⊢; exact go _ _ _ h
  ·rw [if_neg hid] at h ⊢; exact go _ _ _ h
 | _ => simp only [Exit.inBlock] at h ⊢; exact go _ _ _ h
theorem from_new3 (w : World) (x y z : Value) (ty : TypeId) (h1 : x.oneCell' = true) (h2 : y.oneCell' = true) (h3 : z.oneCell' = true) : FromMem (w.alloc (.cells #[x, y, z] ty)) 3 (.slice (some ⟨w.heap.size, 0, none⟩) 1 1) 1 [x, y, z] := by
 refine ⟨⟨_, 1, rfl, fun h => by simp at h, ?_⟩, rfl, fun u hu => by simp at hu; rcases hu with rfl | rfl | rfl <;> assumption⟩
 intro ad had j u hu
 obtain rfl := Option.some.inj had
 match j, hu with
 | 0, hu => simp at hu; subst hu; rw [Addr.add_lit, cell_at (block_alloc_new w _)]; rfl
 | 1, hu => simp at hu; subst hu; rw [Addr.add_lit, cell_at (block_alloc_new w _)]; rfl
 | 2, hu => simp at hu; subst hu; rw [Addr.add_lit, cell_at (block_alloc_new w _)]; rfl
 | j + 3, hu => simp at hu
theorem RowAt.apart {w : World} {e e' : TypeId} {z z' : Nat} {v v' : Value} {n n' : Nat} {xs xs' : List Value} (h : RowAt w e z v n xs) (h' : RowAt w e' z' v' n' xs') (hne : e ≠ e') {b : Nat} (hb : v.ownBlock = some b) : ¬ v'.ownBlock = some b := fun hb' => by
 obtain ⟨c1, x1⟩ := h.block hb
 obtain ⟨c2, x2⟩ := h'.block hb'
 rw [x1] at x2
 simp only [Option.some.injEq, Obj.cells.injEq] at x2
 exact hne x2.2.1
def BoxTy (w : World) (k : Nat) : Prop := ∃ cs, w.heap[k]? = some (.cells cs 3 (0, 0)) ∨ w.heap[k]? = some (.cells cs 35 (0, 0))
theorem PutsBack.typed {w : World} {T : Nat → Prop} {p : Nat} {c : Value} {key : Int} {old : Option Int} (h : PutsBack w T p c key old) : PutsBack w (fun k => T k ∧ BoxTy w k) p c key old := by
 cases old with
 | none =>
  obtain ⟨s, r, h1, h2, h3, h4, h5⟩ := h
  exact ⟨s, r, h1, h2, h3, ⟨h4, _, .inr h2⟩, ⟨h5, _, .inl h3⟩⟩
 | some v =>
  obtain ⟨x, s, r, h1, h0, h2, h3, h6, h4, h5⟩ := h
  exact ⟨x, s, r, h1, h0, h2, h3, ⟨h6, _, .inl h0⟩, ⟨h4, _, .inr h2⟩, ⟨h5, _, .inl h3⟩⟩
theorem Backs.typed {w : World} {T : Nat → Prop} {p : Nat} : ∀ {us : List Saw} {xs : List (FuncId × Array Value)}, Backs w T p us xs → Backs w (fun k => T k ∧ BoxTy w k) p us xs
 | [], [], _ => trivial
 | _ :: _, _ :: _, h => ⟨h.1.typed, h.2.1, Backs.typed h.2.2⟩
 | [], _ :: _, h => h.elim
 | _ :: _, [], h => h.elim
theorem RowAt.noBox {w : World} {e : TypeId} {z : Nat} {v : Value} {n : Nat} {xs : List Value} (h : RowAt w e z v n xs) (h1 : e ≠ 3) (h2 : e ≠ 35) {b : Nat} (hb : v.ownBlock = some b) : ¬ BoxTy w b := fun ⟨cs, hx⟩ => by
 obtain ⟨c1, x1⟩ := h.block hb
 rcases hx with x2 | x2 <;> (rw [x1] at x2; simp only [Option.some.injEq, Obj.cells.injEq] at x2)
 ·exact h1 x2.2.1
 ·exact h2 x2.2.1
theorem PSt.readT {L : Lay} {bs : Nat → Nat} {A : List Nat} {ow : Ow} {m : Nat} {mu lv : Int} {s : St} {W0 W1 Wa w5 w' : World} (h : PSt L bs A ow m mu lv s W0) (i : Nat) (hin : 1 ≤ i ∧ i ≤ s.n) (hnx : (s.tx i).next < (s.tx i).ops.length) (rg : Int → Int) (x : Saw) {ov rv dv : Value} {ao : Option Addr} {c n : Nat}
  (hn : (s.tx i).reads.length = n) (hle : n ≤ (s.tx i).next) (hrv : RowT ow (9, i) W0 105 3 rv n (seenCells (s.tx i).reads)) (hlive : LiveAt ow L.p W0 i (s.tx i) ov dv)
  (hk1 : Kept (Blk (bs i)) W0 W1) (hka : Kept NoBlk W1 Wa) (hmv : Moved Wa w5 rv (.slice ao (n + 1) c) (n + 1)) (hrow : RowAt w5 105 3 (.slice ao (n + 1) c) (n + 1) (seenCells (s.tx i).reads ++ [.int .i64 x.key, .bool x.there, .int .i64 x.val])) (hk6 : Kept (Blk (bs i)) w5 w')
  (hblk : w'.heap[bs i]? = some (.cells #[.int .i64 (i : Int), ov, .int .i64 (s.tx i).stamp, .int .i64 (s.tx i).state, .int .i64 (s.tx i).agains, .int .i64 (((s.tx i).next + 1 : Nat) : Int), .bool (s.tx i).wounded, .bool (s.tx i).waits.isSome, .int .i64 (rg 0), .int .i64 (rg 1), .int .i64 (rg 2), .int .i64 (rg 3), .slice ao (n + 1) c, dv] 146 (0, 0))) :
  PSt L bs A (giveAll ow W0.heap.size w'.heap.size (9, (i : Int))) m mu lv (s.withTx (upd s.tx i { s.tx i with next := (s.tx i).next + 1, regs := rg, reads := (s.tx i).reads ++ [x] })) w' ∧ Kept (OwnP ow) W0 w' := by
 obtain ⟨hbt, hbo⟩ := h.ownT hin
 have hkf : Kept (fun k => k = bs i ∨ rv.ownBlock = some k) W0 w' := (((hk1.mono (fun k e => .inl (by unfold Blk at e; exact e))).trans hka (fun _ x => x.elim)).trans hmv.keptOf (fun k e => .inl (.inr e))).trans hk6 (fun k e => .inl (.inl (by unfold Blk at e; exact e)))
 have hk2 : Kept (fun k => ow k = (8, (i : Int)) ∨ ow k = (9, (i : Int))) W0 w' := hkf.mono (fun k e => by
  rcases e with e | e
  ·subst e; exact .inl hbt
  ·exact .inr (hrv.2 k e))
 have hag := giveAll_agree ow W0 w'.heap.size (9, (i : Int))
 have hsz : W0.heap.size ≤ w'.heap.size := hkf.size
 have hblt : bs i < W0.heap.size := h.lt _ hbo
 have n9 : ∀ k, ow k = (9, (i : Int)) → k ≠ bs i := fun k e e' => by subst e'; rw [hbt] at e; exact tagNe (by omega) e
 refine ⟨h.turnTx i _ hk2 hag (giveAll_lt hsz) (fun _ _ => ?_), hk2.mono (fun k e => by unfold OwnP; rcases e with e | e <;> (rw [e]; exact tagNe (by omega)))⟩
 obtain ⟨l1, l2, l3, l4, l5, cs, l6, l7⟩ := hlive
 have hl : ((s.tx i).reads ++ [x]).length = n + 1 := by rw [List.length_append, hn]; rfl
 have hc : seenCells ((s.tx i).reads ++ [x]) = seenCells (s.tx i).reads ++ [.int .i64 x.key, .bool x.there, .int .i64 x.val] := by simp [seenCells]
 refine ⟨ov, .slice ao (n + 1) c, dv, hblk, by rw [hag _ hblt]; exact hbt, ⟨?_, ?_⟩, by show ((s.tx i).reads ++ [x]).length ≤ 12; omega, fun _ => ⟨by show ((s.tx i).reads ++ [x]).length ≤ _ + 1; omega, ⟨?_, ?_⟩, l2, l3, hnx, Nat.le_succ_of_le l5, cs, ⟨?_, ?_⟩, ?_⟩⟩
 ·show RowAt w' _ 3 _ ((s.tx i).reads ++ [x]).length (seenCells ((s.tx i).reads ++ [x]))
  rw [hl, hc]
  refine hrow.kept hk6 (fun k hk e => ?_)
  unfold Blk at e
  rcases hmv.fresh k hk with y | y
  ·exact n9 k (hrv.2 k y) e
  ·have h1 := hk1.size; have h2 := hka.size; omega
 ·intro k hk
  rcases hmv.fresh k hk with y | y
  ·rw [hag k (hrv.1.lt k y)]; exact hrv.2 k y
  ·exact giveAll_new (by have h1 := hk1.size; have h2 := hka.size; omega) (Nat.lt_of_lt_of_le (hrow.lt k hk) hk6.size)
 ·exact l1.1.kept hkf (fun k hk e => e.elim (n9 k (l1.2 k hk)) (l1.1.apart hrv.1 (by decide) hk))
 ·intro k hk; rw [hag k (l1.1.lt k hk)]; exact l1.2 k hk
 ·exact l6.1.kept hkf (fun k hk e => e.elim (n9 k (l6.2 k hk)) (l6.1.apart hrv.1 (by decide) hk))
 ·intro k hk; rw [hag k (l6.1.lt k hk)]; exact l6.2 k hk
 ·refine Backs.of_same (fun k hk e => by rw [hag k hk]; exact e.1) (fun k hk e => hkf.block k hk (fun e' => ?_)) l7.typed
  rcases e' with e' | e'
  ·exact n9 k e.1 e'
  ·exact hrv.1.noBox (by decide) (by decide) e' e.2
end Go.Proofs.YtmcajfefagdbnaaGreat
