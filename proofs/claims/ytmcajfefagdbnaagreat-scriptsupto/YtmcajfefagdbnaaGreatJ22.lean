import Derived.Test.YtmcajfefagdbnaaGreatJ20
import Derived.Test.YtmcajfefagdbnaaGreatJ16
import Derived.Test.YtmcajfefagdbnaaGreatJ14
import Derived.Test.YtmcajfefagdbnaaGreatJ21
namespace Go.Proofs.YtmcajfefagdbnaaGreat
open Go Go.RowKit
theorem WSt.readsT {ow : OwB} {p : Nat} {rl : List Row2} {cl : List Cl} {n : Nat} {tx : Nat → Tx} {wins : List Nat} {c : Int} {w Wa W1 : World} (h : WSt ow p rl cl n tx wins c w) {i : Nat} (hi : i < n) (hka : Kept NoBlk w Wa) {v v' : Value} {m : Nat} (x : Saw)
  (hv : w.cell? ⟨ow.bs.getD i 0, 7, none⟩ = some v) (hm : m = (tx (i + 1)).reads.length + 1) (hrow : W1.ownsRow 0 105 3 v' m (sawCells (tx (i + 1)).reads ++ [.int .i64 x.key, .bool x.there, .int .i64 x.val])) (hmv : Moved Wa W1 v v' m) :
  ∃ ow', Agree w ow ow' ∧ WSt ow' p rl cl n (upd tx (i + 1) { tx (i + 1) with reads := (tx (i + 1)).reads ++ [x] }) wins c (W1.setCell ⟨ow.bs.getD i 0, 7, none⟩ v') ∧ Kept (Own ow) w (W1.setCell ⟨ow.bs.getD i 0, 7, none⟩ v') := by
 subst hm
 obtain ⟨g, cap, _, _, hT, hb⟩ := h.findB hi
 generalize ow.bs.getD i 0 = b at *
 obtain ⟨r, rd, ov, uv, h1, h2, h3, h4, h5, h6, h7⟩ := hT
 have ev : rd = v := by
  rw [cell_at h1] at hv
  exact Option.some.inj hv
 subst ev
 have hrowO := h5
 have hs0 : w.heap.size ≤ Wa.heap.size := hka.size
 have hk1 : Kept (fun k => rd.ownBlock = some k) Wa W1 := hmv.keptOf
 have hk1w : Kept (fun k => rd.ownBlock = some k) w W1 := (hka.mono (fun _ x => x.elim)).trans' hk1
 have hfr : ∀ k, v'.ownBlock = some k → rd.ownBlock = some k ∨ w.heap.size ≤ k := fun k hk => by
  rcases hmv.fresh k hk with y | y
  ·exact .inl y
  ·exact .inr (by omega)
 have nb : ∀ {k : Nat} {cs : Array Value} {t : TypeId}, w.heap[k]? = some (.cells cs t (0, 0)) → t ≠ 105 → ¬ rd.ownBlock = some k := fun hk ht e => by
  obtain ⟨cur, hc⟩ := ownsRow_block hrowO.1 e
  exact blocks_apart hk hc ht rfl
 have k2 := Kept.set1 W1 b 7 v'
 have kk : Kept (fun k => k = b ∨ rd.ownBlock = some k) w (W1.setCell ⟨b, 7, none⟩ v') := (hk1w.mono (fun _ x => .inr x)).trans' (k2.mono (fun _ x => .inl x))
 let ow' : OwB := ⟨fun k => if k < w.heap.size then ow k else if v'.ownBlock = some k then i + 2 else 0, ow.bs⟩
 have hag : Agree w ow ow' := ⟨fun k hk => by simp only [ow', hk, if_true], rfl⟩
 have ap : ∀ {e : TypeId} {size : Nat} {y : Value} {m : Nat} {cs : List Value}, Owns ow (i + 2) w e size y m cs → e ≠ 152 → e ≠ 105 → Owns ow' (i + 2) (W1.setCell ⟨b, 7, none⟩ v') e size y m cs := fun ho he he2 =>
  ⟨ownsRow_kept ho.1 kk (fun k hk' e => by
   obtain ⟨cur, hcur⟩ := ownsRow_block ho.1 hk'
   rcases e with e | e
   ·exact blocks_apart hcur h1 he e
   ·exact nb hcur he2 e), fun k hk => by rw [hag k (ownsRow_lt ho.1 k hk)]; exact ho.2 k hk⟩
 have hnew : Owns ow' (i + 2) (W1.setCell ⟨b, 7, none⟩ v') 105 3 v' ((tx (i + 1)).reads.length + 1) (sawCells (tx (i + 1)).reads ++ [.int .i64 x.key, .bool x.there, .int .i64 x.val]) := by
  refine ⟨ownsRow_kept hrow k2 (fun k hk e => ?_), fun k hk => ?_⟩
  ·have hb1 : W1.heap[b]? = _ := hk1w.heap h1 (nb h1 (by decide))
   obtain ⟨cur, hcur⟩ := ownsRow_block hrow hk
   exact blocks_apart hcur hb1 (by decide) e
  ·by_cases hk1 : k < w.heap.size
   ·rw [hag k hk1]
    rcases hfr k hk with y | y
    ·exact hrowO.2 k y
    ·omega
   ·simp only [ow', hk1, if_false, hk, if_true]
 refine ⟨ow', hag, h.txn i _ hi (fun k k1 k2' => kk.block k (h.lt k k1) (fun e => ?_)) hag (fun k hk0 => ?_) (fun b' hT' ⟨rv', tv', cv', wv', bs', q1, q2, q3, q4⟩ => ?_), kk.mono (fun k e => ?_)⟩
 ·rcases e with rfl | e
  ·exact k2' h2
  ·exact k2' (hrowO.2 k e)
 ·by_cases hk1 : k < w.heap.size
  ·exact Nat.lt_of_lt_of_le hk1 kk.size
  ·simp only [ow', hk1, if_false] at hk0
   split at hk0
   ·rename_i hx
    exact ownsRow_lt hnew.1 k hx
   ·exact absurd rfl hk0
 ·have eb := hb rv' tv' cv' wv' bs' q1 q2 q3
  rw [q4] at eb
  subst eb
  have hb1 := hk1w.heap h1 (nb h1 (by decide))
  have hb2 := block_setCell (o := 7) hb1 v'
  refine ⟨r, v', ov, uv, hb2, by rw [hag _ (lt_of_block h1)]; exact h2, ?_, by rw [hag _ (lt_of_block h3)]; exact h4, ?_, ap h6 (by decide) (by decide), ?_⟩
  ·exact kk.heap h3 (fun e => by
    rcases e with e | e
    ·exact blocks_apart h3 h1 (by decide) e
    ·exact nb h3 (by decide) e)
  ·show Owns ow' (i + 2) _ 105 3 v' ((tx (i + 1)).reads ++ [x]).length (sawCells ((tx (i + 1)).reads ++ [x]))
   have e1 : sawCells ((tx (i + 1)).reads ++ [x]) = sawCells (tx (i + 1)).reads ++ [.int .i64 x.key, .bool x.there, .int .i64 x.val] := by simp [sawCells]
   rw [e1, List.length_append]
   exact hnew
  ·exact ap h7 (by decide) (by decide)
 ·rcases e with rfl | e
  ·unfold Own; omega
  ·have := hrowO.2 k e; unfold Own; omega
theorem WSt.undoT {ow : OwB} {p : Nat} {rl : List Row2} {cl : List Cl} {n : Nat} {tx : Nat → Tx} {wins : List Nat} {c : Int} {w Wa W1 : World} (h : WSt ow p rl cl n tx wins c w) {i : Nat} (hi : i < n) (hka : Kept NoBlk w Wa) {v v' : Value} {m : Nat} (x : Saw)
  (hv : w.cell? ⟨ow.bs.getD i 0, 9, none⟩ = some v) (hm : m = (tx (i + 1)).undo.length + 1) (hrow : W1.ownsRow 0 174 3 v' m (sawCells (tx (i + 1)).undo.reverse ++ [.int .i64 x.key, .bool x.there, .int .i64 x.val])) (hmv : Moved Wa W1 v v' m) :
  ∃ ow', Agree w ow ow' ∧ WSt ow' p rl cl n (upd tx (i + 1) { tx (i + 1) with undo := x :: (tx (i + 1)).undo }) wins c (W1.setCell ⟨ow.bs.getD i 0, 9, none⟩ v') ∧ Kept (Own ow) w (W1.setCell ⟨ow.bs.getD i 0, 9, none⟩ v') := by
 subst hm
 obtain ⟨g, cap, _, _, hT, hb⟩ := h.findB hi
 generalize ow.bs.getD i 0 = b at *
 obtain ⟨r, rd, ov, uv, h1, h2, h3, h4, h5, h6, h7⟩ := hT
 have ev : uv = v := by
  rw [cell_at h1] at hv
  exact Option.some.inj hv
 subst ev
 have hrowO := h7
 have hs0 : w.heap.size ≤ Wa.heap.size := hka.size
 have hk1 : Kept (fun k => uv.ownBlock = some k) Wa W1 := hmv.keptOf
 have hk1w : Kept (fun k => uv.ownBlock = some k) w W1 := (hka.mono (fun _ x => x.elim)).trans' hk1
 have hfr : ∀ k, v'.ownBlock = some k → uv.ownBlock = some k ∨ w.heap.size ≤ k := fun k hk => by
  rcases hmv.fresh k hk with y | y
  ·exact .inl y
  ·exact .inr (by omega)
 have nb : ∀ {k : Nat} {cs : Array Value} {t : TypeId}, w.heap[k]? = some (.cells cs t (0, 0)) → t ≠ 174 → ¬ uv.ownBlock = some k := fun hk ht e => by
  obtain ⟨cur, hc⟩ := ownsRow_block hrowO.1 e
  exact blocks_apart hk hc ht rfl
 have k2 := Kept.set1 W1 b 9 v'
 have kk : Kept (fun k => k = b ∨ uv.ownBlock = some k) w (W1.setCell ⟨b, 9, none⟩ v') := (hk1w.mono (fun _ x => .inr x)).trans' (k2.mono (fun _ x => .inl x))
 let ow' : OwB := ⟨fun k => if k < w.heap.size then ow k else if v'.ownBlock = some k then i + 2 else 0, ow.bs⟩
 have hag : Agree w ow ow' := ⟨fun k hk => by simp only [ow', hk, if_true], rfl⟩
 have ap : ∀ {e : TypeId} {size : Nat} {y : Value} {m : Nat} {cs : List Value}, Owns ow (i + 2) w e size y m cs → e ≠ 152 → e ≠ 174 → Owns ow' (i + 2) (W1.setCell ⟨b, 9, none⟩ v') e size y m cs := fun ho he he2 =>
  ⟨ownsRow_kept ho.1 kk (fun k hk' e => by
   obtain ⟨cur, hcur⟩ := ownsRow_block ho.1 hk'
   rcases e with e | e
   ·exact blocks_apart hcur h1 he e
   ·exact nb hcur he2 e), fun k hk => by rw [hag k (ownsRow_lt ho.1 k hk)]; exact ho.2 k hk⟩
 have hnew : Owns ow' (i + 2) (W1.setCell ⟨b, 9, none⟩ v') 174 3 v' ((tx (i + 1)).undo.length + 1) (sawCells (tx (i + 1)).undo.reverse ++ [.int .i64 x.key, .bool x.there, .int .i64 x.val]) := by
  refine ⟨ownsRow_kept hrow k2 (fun k hk e => ?_), fun k hk => ?_⟩
  ·have hb1 : W1.heap[b]? = _ := hk1w.heap h1 (nb h1 (by decide))
   obtain ⟨cur, hcur⟩ := ownsRow_block hrow hk
   exact blocks_apart hcur hb1 (by decide) e
  ·by_cases hk1 : k < w.heap.size
   ·rw [hag k hk1]
    rcases hfr k hk with y | y
    ·exact hrowO.2 k y
    ·omega
   ·simp only [ow', hk1, if_false, hk, if_true]
 refine ⟨ow', hag, h.txn i _ hi (fun k k1 k2' => kk.block k (h.lt k k1) (fun e => ?_)) hag (fun k hk0 => ?_) (fun b' hT' ⟨rv', tv', cv', wv', bs', q1, q2, q3, q4⟩ => ?_), kk.mono (fun k e => ?_)⟩
 ·rcases e with rfl | e
  ·exact k2' h2
  ·exact k2' (hrowO.2 k e)
 ·by_cases hk1 : k < w.heap.size
  ·exact Nat.lt_of_lt_of_le hk1 kk.size
  ·simp only [ow', hk1, if_false] at hk0
   split at hk0
   ·rename_i hx
    exact ownsRow_lt hnew.1 k hx
   ·exact absurd rfl hk0
 ·have eb := hb rv' tv' cv' wv' bs' q1 q2 q3
  rw [q4] at eb
  subst eb
  have hb1 := hk1w.heap h1 (nb h1 (by decide))
  have hb2 := block_setCell (o := 9) hb1 v'
  refine ⟨r, rd, ov, v', hb2, by rw [hag _ (lt_of_block h1)]; exact h2, ?_, by rw [hag _ (lt_of_block h3)]; exact h4, ?_, ap h6 (by decide) (by decide), ?_⟩
  ·exact kk.heap h3 (fun e => by
    rcases e with e | e
    ·exact blocks_apart h3 h1 (by decide) e
    ·exact nb h3 (by decide) e)
  ·exact ap h5 (by decide) (by decide)
  ·show Owns ow' (i + 2) _ 174 3 v' (x :: (tx (i + 1)).undo).length (sawCells (x :: (tx (i + 1)).undo).reverse)
   have e1 : sawCells (x :: (tx (i + 1)).undo).reverse = sawCells (tx (i + 1)).undo.reverse ++ [.int .i64 x.key, .bool x.there, .int .i64 x.val] := by simp [sawCells]
   rw [e1, List.length_cons]
   exact hnew
 ·rcases e with rfl | e
  ·unfold Own; omega
  ·have := hrowO.2 k e; unfold Own; omega
end Go.Proofs.YtmcajfefagdbnaaGreat
namespace Go.Proofs.YtmcajfefagdbnaaGreat
open Go Go.RowKit
def St.withTx (s : St) (tx : Nat → Tx) : St := { s with tx := tx }
theorem PSt.turnTx {L : Lay} {bs : Nat → Nat} {A : List Nat} {ow ow' : Ow} {m : Nat} {mu lv : Int} {s : St} {w w' : World} (h : PSt L bs A ow m mu lv s w) (j : Nat) (t' : Tx) (hk : Kept (fun k => ow k = (8, (j : Int)) ∨ ow k = (9, (j : Int))) w w') (ha : AgreeP w ow ow') (hlt : ∀ k, ow' k ≠ (0, 0) → k < w'.heap.size)
  (ht : 1 ≤ j → j ≤ s.n → TxnAt ow' L.p w' j (bs j) t') : PSt L bs A ow' m mu lv (s.withTx (upd s.tx j t')) w' := by
 obtain ⟨t1, t2, t3, t4⟩ := h.tags
 have hb : ∀ k, k < w.heap.size → ow k ≠ (8, (j : Int)) → ow k ≠ (9, (j : Int)) → w'.heap[k]? = w.heap[k]? := fun k hk1 n1 n2 => hk.block k hk1 (fun e => e.elim n1 n2)
 have hb' : ∀ {t : Nat × Int}, t.1 ≠ 8 → t.1 ≠ 9 → ∀ k, k < w.heap.size → ow k = t → w'.heap[k]? = w.heap[k]? := fun n1 n2 k hk1 e => hb k hk1 (fun e' => n1 (by rw [← e, e'])) (fun e' => n2 (by rw [← e, e']))
 obtain ⟨u, tv, wv, b1, b2, b3⟩ := h.body
 obtain ⟨qf, q1, q2⟩ := h.que
 refine ⟨hlt, ⟨by rw [ha _ (lt_of_block b1)]; exact t1, by rw [ha _ h.vals.lt]; exact t2, by rw [ha _ h.hold.lt]; exact t3, by rw [ha _ q1.lt]; exact t4⟩, ⟨u, tv, wv, by rw [hb' (by simp) (by simp) _ (lt_of_block b1) t1]; exact b1, b2.kept ha (hb' (by simp) (by simp)), b3.kept ha (hb' (by simp) (by simp))⟩,
  h.vals.of_same (hb' (by simp) (by simp) _ h.vals.lt t2), h.hold.of_same (hb' (by simp) (by simp) _ h.hold.lt t3), ⟨qf, q1.of_same (hb' (by simp) (by simp) _ q1.lt t4), fun k => (q2 k).kept ha (hb' (by simp) (by simp))⟩,
  fun i hi hn => ?_, h.few, h.among, h.hdom, h.qdom, h.rdom, h.nmax⟩
 show TxnAt ow' L.p w' i (bs i) (upd s.tx j t' i)
 by_cases e : i = j
 ·subst e
  rw [upd_same]
  exact ht hi hn
 ·rw [upd_other _ _ _ _ e]
  have e2 : (i : Int) ≠ (j : Int) := by omega
  refine (h.txs i hi hn).kept ha (fun k hk1 ek => hb k hk1 ?_ ?_)
  ·rcases ek with ek | ek <;> (rw [ek]; intro x; simp only [Prod.mk.injEq] at x; omega)
  ·rcases ek with ek | ek <;> (rw [ek]; intro x; simp only [Prod.mk.injEq] at x; omega)
theorem TxnAt.unwait {ow : Ow} {p : Nat} {w : World} {i b : Nat} {t : Tx} (h : TxnAt ow p w i b t) : TxnAt ow p (w.setCell ⟨b, 7, none⟩ (.bool false)) i b { t with waits := none } ∧ w.cell? ⟨b, 7, none⟩ = some (.bool t.waits.isSome) ∧ w.frozen? ⟨b, 7, none⟩ = false ∧ Kept (fun k => ow k = (8, (i : Int)) ∨ ow k = (9, (i : Int))) w (w.setCell ⟨b, 7, none⟩ (.bool false)) := by
 obtain ⟨ov, rv, dv, h1, h2, h3, h4, h5⟩ := h
 have hne : ∀ k, ow k = (9, (i : Int)) → k ≠ b := fun k e e' => by rw [e', h2] at e; simp at e
 have hb : ∀ k, k < w.heap.size → ow k = (9, (i : Int)) → (w.setCell ⟨b, 7, none⟩ (.bool false)).heap[k]? = w.heap[k]? := fun k _ e => block_setCell_other (hne k e) _
 refine ⟨⟨ov, rv, dv, block_setCell h1 _, h2, h3.kept (AgreeP.refl _ _) hb, h4, fun h0 => ⟨(h5 h0).1, (h5 h0).2.kept (AgreeP.refl _ _) hb⟩⟩, by rw [cell_at h1]; rfl, frozen_at h1 _, (Kept.set1 w b 7 _).mono (fun k e => by cases e; exact .inl h2)⟩
theorem PSt.turnQueue {L : Lay} {bs : Nat → Nat} {A : List Nat} {ow ow' : Ow} {m m' : Nat} {mu lv : Int} {s : St} {w w' : World} (h : PSt L bs A ow m mu lv s w) (row : Int) {lk' : Int → Lk} (hk : Kept (fun k => ow k = (4, 0) ∨ ow k = (7, row)) w w') (ha : AgreeP w ow ow') (hlt : ∀ k, ow' k ≠ (0, 0) → k < w'.heap.size) (hmm : m ≤ m')
  (hq : ∃ qf, MapAt keyI w' L.qb m' qf ∧ ∀ k, QueueAt ow' w' k (qf k) (lk' k).q) (hh : ∀ k, (lk' k).h = (s.lk k).h) (hd : ∀ k x, x ∈ (lk' k).q → inI k ∧ x.1 ∈ A) : PSt L bs A ow' m' mu lv (s.withLk lk') w' := by
 obtain ⟨t1, t2, t3, t4⟩ := h.tags
 have hb : ∀ {t : Nat × Int}, t.1 ≠ 4 → t.1 ≠ 7 → ∀ k, k < w.heap.size → ow k = t → w'.heap[k]? = w.heap[k]? := fun n1 n2 k hk1 e => hk.block k hk1 (fun x => x.elim (fun e' => n1 (by rw [← e, e'])) (fun e' => n2 (by rw [← e, e'])))
 obtain ⟨u, tv, wv, b1, b2, b3⟩ := h.body
 obtain ⟨qf, q1, q2⟩ := h.que
 have hF : holdF lk' = holdF s.lk := by
  funext x
  simp only [holdF, hh]
 refine ⟨hlt, ⟨by rw [ha _ (lt_of_block b1)]; exact t1, by rw [ha _ h.vals.lt]; exact t2, by rw [ha _ h.hold.lt]; exact t3, by rw [ha _ q1.lt]; exact t4⟩, ⟨u, tv, wv, by rw [hb (by simp) (by simp) _ (lt_of_block b1) t1]; exact b1, b2.kept ha (hb (by simp) (by simp)), b3.kept ha (hb (by simp) (by simp))⟩,
  (h.vals.of_same (hb (by simp) (by simp) _ h.vals.lt t2)).mono hmm, ?_, hq,
  fun i hi hn => (h.txs i hi hn).kept ha (fun k hk1 e => e.elim (fun e => hb (by simp) (by simp) k hk1 e) (fun e => hb (by simp) (by simp) k hk1 e)), h.few, h.among, fun k j hj => h.hdom k j (by rw [← hh k]; exact hj), hd, h.rdom, h.nmax⟩
 show MapAt keyH w' L.hb m' (hvals (holdF lk'))
 rw [hF]
 exact (h.hold.of_same (hb (by simp) (by simp) _ h.hold.lt t3)).mono hmm
theorem zeroLks (w : World) : (zeroValue 74).run Tryz.prog w = .ok (.slice none 0 0) w := by kernel_rfl
theorem PSt.queueAt {L : Lay} {bs : Nat → Nat} {A : List Nat} {ow : Ow} {m : Nat} {mu lv : Int} {s : St} {w : World} (h : PSt L bs A ow m mu lv s w) (row : Int) (hr : inI row) :
  ∃ v, (∀ W : World, W.heap = w.heap → (Instr.lookup 125 (.map (some L.qb)) (.int .i64 row) false).run Tryz.prog W = .ok v W) ∧ RowT ow (7, row) w 107 2 v (s.lk row).q.length (lkc (qcast (s.lk row).q)) := by
 obtain ⟨qf, q1, q2⟩ := h.que
 refine ⟨(qf row).getD (.slice none 0 0), fun W hW => (q1.of_same (by rw [hW])).look Tryz.underlying125 (zeroLks _) (a := row) hr, ?_⟩
 have := q2 row
 cases hq : qf row with
 | none =>
  rw [hq] at this
  have e : (s.lk row).q = [] := this
  rw [e]
  exact RowT.nil _ _ _ _ _
 | some v =>
  rw [hq] at this
  exact this
end Go.Proofs.YtmcajfefagdbnaaGreat
namespace Go.Proofs.YtmcajfefagdbnaaGreat
theorem Rep.unhold {n : Nat} {cl : List Cl} {lk : Int → Lk} (h : Rep n cl lk) {a : Nat} (ha : a < cl.length) (hh : (cl.getD a Cl.z).holds = true) {i : Nat} (hi : (cl.getD a Cl.z).txn = (i : Nat)) :
  Rep n (cl.eraseIdx a) (upd lk (cl.getD a Cl.z).key ⟨upd (lk (cl.getD a Cl.z).key).h i 0, (lk (cl.getD a Cl.z).key).q⟩) := by
 have hc : cl.getD a Cl.z = cl[a] := by simp [List.getD, ha]
 have e3 : cl = cl.take a ++ cl[a] :: cl.drop (a + 1) := by rw [List.getElem_cons_drop, List.take_append_drop]
 have e4 : cl.eraseIdx a = cl.take a ++ cl.drop (a + 1) := List.eraseIdx_eq_take_drop_succ ..
 rw [hc] at hh hi ⊢
 generalize cl[a] = c at *
 generalize cl.take a = l1 at *
 generalize cl.drop (a + 1) = l2 at *
 rw [e4]
 have hone := h.one
 rw [e3] at hone
 obtain ⟨p1, p2, p3⟩ := pairwise_drop hone
 have hq : ∀ k', (upd lk c.key ⟨upd (lk c.key).h i 0, (lk c.key).q⟩ k').q = (lk k').q := fun k' => by
  by_cases e : k' = c.key
  ·rw [e, upd_same]
  ·rw [upd_other _ _ _ _ e]
 have hx : ∀ k' j, ¬ (k' = c.key ∧ j = i) → (upd lk c.key ⟨upd (lk c.key).h i 0, (lk c.key).q⟩ k').h j = (lk k').h j := fun k' j hne => by
  by_cases e : k' = c.key
  ·rw [e, upd_same]
   exact upd_other _ _ _ _ (fun x => hne ⟨e, x⟩)
  ·rw [upd_other _ _ _ _ e]
 have hz : (upd lk c.key ⟨upd (lk c.key).h i 0, (lk c.key).q⟩ c.key).h i = 0 := by rw [upd_same]; exact upd_same _ _ _
 refine ⟨fun d hd => h.ids d ?_, p1, fun k' j m hm => ?_, fun k' => ?_⟩
 ·rw [e3]
  rcases List.mem_append.mp hd with hd | hd
  ·exact List.mem_append_left _ hd
  ·exact List.mem_append_right _ (List.mem_cons_of_mem _ hd)
 ·by_cases e : k' = c.key ∧ j = i
  ·obtain ⟨rfl, rfl⟩ := e
   rw [hz]
   constructor
   ·intro x; exact absurd x.symm hm
   ·intro x
    rcases List.mem_append.mp x with x | x
    ·exact absurd ⟨rfl, hh, rfl, hi.symm⟩ (p2 _ x)
    ·exact absurd ⟨hh, rfl, rfl, hi⟩ (p3 _ x)
  ·rw [hx k' j e, h.held k' j m hm, e3]
   exact mem_skip (fun x => e ⟨by have := congrArg Cl.key x; exact this, by have := congrArg Cl.txn x; simp only at this; omega⟩)
 ·rw [hq, ← h.queue k', e3, List.filter_append, List.filter_append]
  rw [List.filter_cons_of_neg (by simp [isWait, hh])]
def isMine (id : Int) (c : Cl) : Bool := decide (c.txn = id) && !c.holds
theorem Rep.leave {n : Nat} {cl : List Cl} {lk : Int → Lk} (h : Rep n cl lk) (hq : ∀ k, ((lk k).q.map (·.1)).Nodup) {a : Nat} (ha : a < cl.length) (hh : (cl.getD a Cl.z).holds = false) {i : Nat} (hi : (cl.getD a Cl.z).txn = (i : Nat)) :
  (∃ m, (i, m) ∈ (lk (cl.getD a Cl.z).key).q) ∧ Rep n (cl.eraseIdx a) (upd lk (cl.getD a Cl.z).key ⟨(lk (cl.getD a Cl.z).key).h, (lk (cl.getD a Cl.z).key).q.filter (fun x => x.1 != i)⟩) := by
 have hc : cl.getD a Cl.z = cl[a] := by simp [List.getD, ha]
 have e3 : cl = cl.take a ++ cl[a] :: cl.drop (a + 1) := by rw [List.getElem_cons_drop, List.take_append_drop]
 have e4 : cl.eraseIdx a = cl.take a ++ cl.drop (a + 1) := List.eraseIdx_eq_take_drop_succ ..
 rw [hc] at hh hi ⊢
 generalize cl[a] = c at *
 generalize cl.take a = l1 at *
 generalize cl.drop (a + 1) = l2 at *
 rw [e4]
 have hone := h.one
 rw [e3] at hone
 have hk := h.queue c.key
 have hw : isWait c.key c = true := by simp [isWait, hh]
 rw [e3, List.filter_append, List.filter_cons_of_pos hw, List.map_append, List.map_cons] at hk
 have ht : c.txn.toNat = i := by omega
 rw [ht] at hk
 have hnd := hq c.key
 rw [← hk, List.map_append, List.map_cons, List.nodup_append] at hnd
 obtain ⟨_, n2, n3⟩ := hnd
 rw [List.nodup_cons] at n2
 refine ⟨⟨c.mode, by rw [← hk]; simp⟩, fun d hd => h.ids d ?_, (pairwise_drop hone).1, fun k' j m hm => ?_, fun k' => ?_⟩
 ·rw [e3]
  rcases List.mem_append.mp hd with hd | hd
  ·exact List.mem_append_left _ hd
  ·exact List.mem_append_right _ (List.mem_cons_of_mem _ hd)
 ·have hl : (upd lk c.key ⟨(lk c.key).h, (lk c.key).q.filter (fun x => x.1 != i)⟩ k').h = (lk k').h := by
   by_cases e : k' = c.key
   ·rw [e, upd_same]
   ·rw [upd_other _ _ _ _ e]
  rw [hl, h.held k' j m hm, e3]
  exact mem_skip (fun e => by rw [← e] at hh; cases hh)
 ·by_cases e : k' = c.key
  ·rw [e, upd_same, List.filter_append, List.map_append]
   simp only
   rw [← hk, List.filter_append, List.filter_cons_of_neg (by simp)]
   have f1 : ((l1.filter (isWait c.key)).map (fun c => (c.txn.toNat, c.mode))).filter (fun x => x.1 != i) = (l1.filter (isWait c.key)).map (fun c => (c.txn.toNat, c.mode)) := by
    rw [List.filter_eq_self]
    intro x hx
    simp only [bne_iff_ne, ne_eq]
    intro e'
    exact n3 x.1 (List.mem_map.mpr ⟨x, hx, rfl⟩) i List.mem_cons_self e'
   have f2 : ((l2.filter (isWait c.key)).map (fun c => (c.txn.toNat, c.mode))).filter (fun x => x.1 != i) = (l2.filter (isWait c.key)).map (fun c => (c.txn.toNat, c.mode)) := by
    rw [List.filter_eq_self]
    intro x hx
    simp only [bne_iff_ne, ne_eq]
    intro e'
    exact n2.1 (List.mem_map.mpr ⟨x, hx, e'⟩)
   rw [f1, f2]
  ·rw [upd_other _ _ _ _ e, ← h.queue k', e3, List.filter_append, List.filter_append]
   rw [List.filter_cons_of_neg (by simp [isWait]; exact fun e' => absurd e'.symm e)]
end Go.Proofs.YtmcajfefagdbnaaGreat
