import Derived.Test.YtmcajfefagdbnaaGreatJ22
import Derived.Test.YtmcajfefagdbnaaGreatJ35
import Derived.Test.YtmcajfefagdbnaaGreatJ36
import Derived.Test.YtmcajfefagdbnaaGreatJ19
import Derived.Test.YtmcajfefagdbnaaGreatJ09
import Derived.Test.YtmcajfefagdbnaaGreatJ15
import Derived.Test.YtmcajfefagdbnaaGreatJ34
import Derived.RegionTactic
import Derived.BigRegion
import Derived.Deep.RegionHeld3
namespace Go.Proofs.YtmcajfefagdbnaaGreat
open Go Go.RowKit
theorem inBlock_mono {n : Nat} {Q Q' : Exit → Act → World → Prop} (h : ∀ e a w, Q e a w → Q' e a w) : ∀ e a w, Exit.inBlock n Q e a w → Exit.inBlock n Q' e a w := by
 intro e a w h'
 cases e with
 | exit id =>
  simp only [Exit.inBlock] at h' ⊢
  by_cases hid : id = n
  ·rw [if_pos hid] at h' ⊢; exact h _ _ _ h'
  ·rw [if_neg hid] at h' ⊢; exact h _ _ _ h'
 | _ => simp only [Exit.inBlock] at h' ⊢; exact h _ _ _ h'
theorem cutE2 {P : Program} {c : Code} {n : Nat} {Q : Exit → Act → World → Prop} {a : Act} {w : World} {X Y : Type} (f : X → Y → Act) (R : X → Y → World → Prop) (h1 : c.wp P (Exit.inBlock n (Exit.then (CutP2 f R) Q)) a w) (h2 : ∀ x y w', R x y w' → Q .normal (f x y) w') : c.wp P (Exit.inBlock n Q) a w := by
 refine Code.wp_mono (inBlock_mono ?_) h1
 intro e a w h
 cases e <;> first | exact h | (obtain ⟨x, y, rfl, h⟩ := h; exact h2 _ _ _ h)
theorem cutE0 {P : Program} {c : Code} {n : Nat} {Q : Exit → Act → World → Prop} {a : Act} {w : World} (f : Act) (R : World → Prop) (h1 : c.wp P (Exit.inBlock n (Exit.then (CutP0 f R) Q)) a w) (h2 : ∀ w', R w' → Q .normal f w') : c.wp P (Exit.inBlock n Q) a w := by
 refine Code.wp_mono (inBlock_mono ?_) h1
 intro e a w h
 cases e <;> first | exact h | (obtain ⟨rfl, h⟩ := h; exact h2 _ h)
theorem step_append_own {P : Program} {w : World} {ops : Array Oper} {o : Oper} {a : Act} {K : Act → World → Prop} {Q : Exit → Act → World → Prop} {E : Prop} (hgd : o.guard = none) (s x : Operand) (t : TypeId)
  (ho : o.op = .call { callee := .builtin .append, args := #[s, x], argTypes := #[t, t] })
  (e : TypeId) (i : TypeInfo) (z : Value) (size bytes : Nat) (ht : P.underlying t = some (.slice e)) (hi : P.info? e = some i) (hz : i.zero = some z)
  (hsize : i.size = size) (hby : i.bytes = bytes) (hzs : z.cells.size = size)
  (v : Value) (n : Nat) (xs : List Value) (hs : a.eval s = v) (hown : w.ownsRow 0 e size v n xs) (xv : Value) (m : Nat) (news : List Value) (hx : a.eval x = xv) (hsrc : FromMem w size xv m news)
  (h63 : n + m ≤ maxLen) (hbytes : (n + m) * bytes ≤ 140737488355328)
  (h : ∀ ao' c' w', w'.ownsRow 0 e size (.slice ao' (n + m) c') (n + m) (xs ++ news) → Moved w w' v (.slice ao' (n + m) c') (n + m) → K (a.put o.dst (.slice ao' (n + m) c')) w') :
  if Region.wanted o (yielded ops a.tmps) = true then Oper.wp P o a w K Q else E := by
 have hw : Region.wanted o (yielded ops a.tmps) = true := by simp [Region.wanted, hgd]
 rw [if_pos hw]
 obtain ⟨v', w', hr, h2, h3⟩ := run_append_at (P := P) w t o.type e i z size bytes ht hi hz hsize hby hzs v n xs hown xv m news hsrc h63 hbytes
 unfold Oper.wp
 simp only [execOp, ho, resolve, invoke, builtin, Sem.run_bind, Sem.run_pure, Result.andThen_ok, List.map_toArray, List.map_cons, List.map_nil, hs, hx, hr]
 obtain ⟨ao', c', rfl⟩ := ownsRow_form h2
 exact h ao' c' w' h2 h3
theorem own_old2 {w : World} {ow ow' : OwB} (h : Agree w ow ow') (k : Nat) (hk : Own ow' k) : Own ow k ∨ w.heap.size ≤ k := by
 by_cases hlt : k < w.heap.size
 ·left; unfold Own at hk ⊢; rw [← h k hlt]; exact hk
 ·right; omega
theorem infoSeenW : (Tryz.prog.info? 105).map (fun i => (i.zero, i.size, i.bytes)) = some (some (.agg #[.int .i64 0, .bool false, .int .i64 0]), 3, 24) := by kernel_rfl
theorem infoBeforeW : (Tryz.prog.info? 174).map (fun i => (i.zero, i.size, i.bytes)) = some (some (.agg #[.int .i64 0, .bool false, .int .i64 0]), 3, 24) := by kernel_rfl
theorem WSt.readsAt {ow : OwB} {p : Nat} {rl : List Row2} {cl : List Cl} {n : Nat} {tx : Nat → Tx} {wins : List Nat} {c : Int} {w : World} (h : WSt ow p rl cl n tx wins c w) {i : Nat} (hi : i < n) :
  ∃ ar cp cs, w.cell? ⟨ow.bs.getD i 0, 7, none⟩ = some (.slice ar (tx (i + 1)).reads.length cp) ∧ w.ownsRow 0 105 3 (.slice ar (tx (i + 1)).reads.length cp) (tx (i + 1)).reads.length (sawCells (tx (i + 1)).reads) ∧
   w.heap[ow.bs.getD i 0]? = some (.cells cs 152 (0, 0)) ∧ ¬ (Value.slice ar (tx (i + 1)).reads.length cp).ownBlock = some (ow.bs.getD i 0) := by
 obtain ⟨g, cap, _, _, ⟨r, rd, ov, uv, k1, k2, k3, k4, k5, k6, k7⟩, _⟩ := h.findB hi
 obtain ⟨ar, cp, rfl⟩ := ownsRow_form k5.1
 refine ⟨ar, cp, _, by rw [cell_at k1]; rfl, k5.1, k1, fun e => ?_⟩
 obtain ⟨cur, hc⟩ := ownsRow_block k5.1 e
 exact blocks_apart hc k1 (by decide) rfl
theorem WSt.undoAt {ow : OwB} {p : Nat} {rl : List Row2} {cl : List Cl} {n : Nat} {tx : Nat → Tx} {wins : List Nat} {c : Int} {w : World} (h : WSt ow p rl cl n tx wins c w) {i : Nat} (hi : i < n) :
  ∃ ar cp cs, w.cell? ⟨ow.bs.getD i 0, 9, none⟩ = some (.slice ar (tx (i + 1)).undo.length cp) ∧ w.ownsRow 0 174 3 (.slice ar (tx (i + 1)).undo.length cp) (tx (i + 1)).undo.length (sawCells (tx (i + 1)).undo.reverse) ∧
   w.heap[ow.bs.getD i 0]? = some (.cells cs 152 (0, 0)) ∧ ¬ (Value.slice ar (tx (i + 1)).undo.length cp).ownBlock = some (ow.bs.getD i 0) := by
 obtain ⟨g, cap, _, _, ⟨r, rd, ov, uv, k1, k2, k3, k4, k5, k6, k7⟩, _⟩ := h.findB hi
 obtain ⟨ar, cp, rfl⟩ := ownsRow_form k7.1
 refine ⟨ar, cp, _, by rw [cell_at k1]; rfl, k7.1, k1, fun e => ?_⟩
 obtain ⟨cur, hc⟩ := ownsRow_block k7.1 e
 exact blocks_apart hc k1 (by decide) rfl
end Go.Proofs.YtmcajfefagdbnaaGreat
namespace Go.Proofs.YtmcajfefagdbnaaGreat
open Go Go.RowKit
theorem WSt.rowsT {ow : OwB} {p : Nat} {rl rl' : List Row2} {cl : List Cl} {n : Nat} {tx : Nat → Tx} {wins : List Nat} {c : Int} {w w' : World} (h : WSt ow p rl cl n tx wins c w) {rv tv cv wv rv' : Value}
  (hp : w.heap[p]? = some (.cells #[rv, tv, cv, wv, .int .i64 c] 47 (0, 0))) (hp' : w'.heap[p]? = some (.cells #[rv', tv, cv, wv, .int .i64 c] 47 (0, 0)))
  (hown : w'.ownsRow 0 95 2 rv' rl'.length (rowCells rl')) (hf : ∀ k, rv'.ownBlock = some k → w.heap.size ≤ k) (hk : Kept (Blk p) w w') :
  ∃ ow', Agree w ow ow' ∧ WSt ow' p rl' cl n tx wins c w' ∧ Kept (Own ow) w w' := by
 obtain ⟨rv0, tv0, cv0, wv0, bs, h1, h2, h3, h4, h5, h6, h7, h8⟩ := h.body
 rw [hp] at h1
 simp only [Option.some.injEq, Obj.cells.injEq, Array.mk.injEq, List.cons.injEq, and_true] at h1
 obtain ⟨rfl, rfl, rfl, rfl, _⟩ := h1
 have hkO : Kept (Own ow) w w' := hk.mono (fun k x => by unfold Blk at x; subst x; unfold Own; omega)
 have hlt := lt_of_block hp
 let ow' : OwB := ⟨fun k => if k < w.heap.size then ow k else if rv'.ownBlock = some k then 1 else 0, ow.bs⟩
 have hag : Agree w ow ow' := ⟨fun k hk => by simp only [ow', hk, if_true], rfl⟩
 have same : ∀ k, k < w.heap.size → k ≠ p → w'.heap[k]? = w.heap[k]? := fun k hk1 h1 => hk.block k hk1 (fun x => h1 x)
 have keep : ∀ {e : TypeId} {size : Nat} {v : Value} {m : Nat} {cs : List Value}, Owns ow 1 w e size v m cs → e ≠ 47 → Owns ow' 1 w' e size v m cs := by
  intro e size v m cs ho e1
  refine ⟨ownsRow_of_block ho.1 (fun k hk => ?_), fun k hk => by rw [hag k (ownsRow_lt ho.1 k hk)]; exact ho.2 k hk⟩
  obtain ⟨cur, hc⟩ := ownsRow_block ho.1 hk
  exact same k (lt_of_block hc) (blocks_apart hc hp e1)
 have h4' := keep h4 (by decide)
 refine ⟨ow', hag, ⟨fun k hk0 => ?_, FixT.mk hp' h4'.1 (h.fix _ _ _ _ _ _ hp h4.1 h5), rv', tv, cv, wv, bs, hp', by rw [hag p hlt]; exact h2, ⟨hown, fun k hk0 => ?_⟩, h4', h5, keep h6 (by decide), keep h7 (by decide), fun i hi => ?_⟩, hkO⟩
 ·by_cases hk1 : k < w.heap.size
  ·exact Nat.lt_of_lt_of_le hk1 hk.size
  ·simp only [ow', hk1, if_false] at hk0
   split at hk0
   ·rename_i hx
    exact ownsRow_lt hown k hx
   ·exact absurd rfl hk0
 ·have := hf k hk0
  simp only [ow', show ¬ k < w.heap.size from by omega, if_false, hk0, if_true]
 ·refine (h8 i hi).kept hag (fun k hk1 e => ?_)
  exact same k hk1 (fun x => by subst x; omega)
theorem wset_st {ow : OwB} {p : Nat} {rl : List Row2} {cl : List Cl} {n : Nat} {tx : Nat → Tx} {wins : List Nat} {c : Int} {w : World} (h : WSt ow p rl cl n tx wins c w) (key val : Int) (there : Bool) (hn : rl.length ≤ 1099511627775) (hs : rl.Pairwise (fun a b => a.k < b.k)) :
  Calls Tryz.prog 110 #[.pointer (some ⟨p, 0, none⟩), .agg #[.int .i64 key, .bool there, .int .i64 val]] w fun e w' => e = .returned (.tuple #[]) ∧ ∃ ow', Agree w ow ow' ∧ WSt ow' p (setL rl key there val) cl n tx wins c w' ∧ Kept (Own ow) w w' := by
 obtain ⟨rv, tv, cv, wv, bs, h1, h2, h3, h4, h5, h6, h7, h8⟩ := h.body
 refine (wset p rl rv tv cv wv (.int .i64 c) key val there w h1 h3.1 hn hs).mono ?_
 rintro e w' ⟨rfl, rv', g1, g2, g3, g4⟩
 exact ⟨rfl, h.rowsT h1 g1 g2 g3 g4⟩
end Go.Proofs.YtmcajfefagdbnaaGreat
namespace Go.Proofs.YtmcajfefagdbnaaGreat
open Go Go.RowKit Go.Sort Go.Lib
theorem PSt.turnTV {L : Lay} {bs : Nat → Nat} {A : List Nat} {ow ow' : Ow} {m m' : Nat} {mu lv : Int} {s : St} {w w' : World} (h : PSt L bs A ow m mu lv s w) (j : Nat) (t' : Tx) {r : Int → Option Int} (hk : Kept (fun k => ow k = (8, (j : Int)) ∨ ow k = (9, (j : Int)) ∨ ow k = (2, 0)) w w') (ha : AgreeP w ow ow') (hlt : ∀ k, ow' k ≠ (0, 0) → k < w'.heap.size)
  (hmm : m ≤ m') (hm : MapAt keyI w' L.vb m' (ivals r)) (hd : ∀ k, r k ≠ none → inI k) (ht : 1 ≤ j → j ≤ s.n → TxnAt ow' L.p w' j (bs j) t') : PSt L bs A ow' m' mu lv ((s.withTx (upd s.tx j t')).withRows r) w' := by
 obtain ⟨t1, t2, t3, t4⟩ := h.tags
 have hb : ∀ k, k < w.heap.size → ow k ≠ (8, (j : Int)) → ow k ≠ (9, (j : Int)) → ow k ≠ (2, 0) → w'.heap[k]? = w.heap[k]? := fun k hk1 n1 n2 n3 => hk.block k hk1 (fun e => e.elim n1 (fun e => e.elim n2 n3))
 have hb' : ∀ {t : Nat × Int}, t.1 ≠ 8 → t.1 ≠ 9 → t.1 ≠ 2 → ∀ k, k < w.heap.size → ow k = t → w'.heap[k]? = w.heap[k]? := fun n1 n2 n3 k hk1 e => hb k hk1 (fun e' => n1 (by rw [← e, e'])) (fun e' => n2 (by rw [← e, e'])) (fun e' => n3 (by rw [← e, e']))
 obtain ⟨u, tv, wv, b1, b2, b3⟩ := h.body
 obtain ⟨qf, q1, q2⟩ := h.que
 refine ⟨hlt, ⟨by rw [ha _ (lt_of_block b1)]; exact t1, by rw [ha _ h.vals.lt]; exact t2, by rw [ha _ h.hold.lt]; exact t3, by rw [ha _ q1.lt]; exact t4⟩, ⟨u, tv, wv, by rw [hb' (by simp) (by simp) (by simp) _ (lt_of_block b1) t1]; exact b1, b2.kept ha (hb' (by simp) (by simp) (by simp)), b3.kept ha (hb' (by simp) (by simp) (by simp))⟩,
  hm, (h.hold.of_same (hb' (by simp) (by simp) (by simp) _ h.hold.lt t3)).mono hmm, ⟨qf, (q1.of_same (hb' (by simp) (by simp) (by simp) _ q1.lt t4)).mono hmm, fun k => (q2 k).kept ha (hb' (by simp) (by simp) (by simp))⟩,
  fun i hi hn => ?_, h.few, h.among, h.hdom, h.qdom, hd, h.nmax⟩
 show TxnAt ow' L.p w' i (bs i) (upd s.tx j t' i)
 by_cases e : i = j
 ·subst e
  rw [upd_same]
  exact ht hi hn
 ·rw [upd_other _ _ _ _ e]
  have e2 : (i : Int) ≠ (j : Int) := by omega
  refine (h.txs i hi hn).kept ha (fun k hk1 ek => hb k hk1 ?_ ?_ ?_)
  ·rcases ek with ek | ek <;> (rw [ek]; intro x; simp only [Prod.mk.injEq] at x; omega)
  ·rcases ek with ek | ek <;> (rw [ek]; intro x; simp only [Prod.mk.injEq] at x; omega)
  ·rcases ek with ek | ek <;> (rw [ek]; intro x; simp only [Prod.mk.injEq] at x; omega)
theorem saw_old (f : Int → Option Int) (k : Int) : (sawOf f k).old = f k := by
 unfold sawOf Saw.old
 cases f k <;> rfl
theorem PSt.writeT {L : Lay} {bs : Nat → Nat} {A : List Nat} {ow : Ow} {m : Nat} {mu lv : Int} {s : St} {W0 w1 Wa w5 w6 w7 w' : World} (h : PSt L bs A ow m mu lv s W0) (i : Nat) (hin : 1 ≤ i ∧ i ≤ s.n) (hnx : (s.tx i).next < (s.tx i).ops.length) (a : Int) (ha : inI a) {r : Int → Option Int} (hr : ∀ k, r k ≠ none → inI k) {x0 : FuncId × Array Value} {cs : List (FuncId × Array Value)} {ov rv dv : Value} {ao : Option Addr} {c n : Nat}
  (hn : (s.tx i).undo.length = n) (hle : n ≤ (s.tx i).next) (hrv : RowT ow (9, i) W0 105 3 rv (s.tx i).reads.length (seenCells (s.tx i).reads)) (hrl : (s.tx i).reads.length ≤ (s.tx i).next)
  (l1 : RowT ow (9, i) W0 114 4 ov (s.tx i).ops.length (opCells (s.tx i).ops)) (l2 : (s.tx i).ops.length ≤ 12) (l3 : ∀ o ∈ (s.tx i).ops, OpWf o) (l6 : RowT ow (9, i) W0 1 1 dv n (cs.map fnOf)) (l7 : Backs W0 (fun k => ow k = (9, (i : Int))) L.p (s.tx i).undo cs.reverse)
  (hk1 : Kept NoBlk W0 w1) (hp : PutsBack w1 (fun k => W0.heap.size ≤ k) L.p (fnOf x0) a (s.rows a)) (hka : Kept NoBlk w1 Wa) (hmv : Moved Wa w5 dv (.slice ao (n + 1) c) (n + 1)) (hrow : RowAt w5 1 1 (.slice ao (n + 1) c) (n + 1) (cs.map fnOf ++ [fnOf x0])) (hk6 : Kept (Blk (bs i)) w5 w6) (hk7 : Kept (Blk L.vb) w6 w7) (hk8 : Kept (Blk (bs i)) w7 w') (hm : MapAt keyI w' L.vb (m + 1) (ivals r))
  (hblk : w'.heap[bs i]? = some (.cells #[.int .i64 (i : Int), ov, .int .i64 (s.tx i).stamp, .int .i64 (s.tx i).state, .int .i64 (s.tx i).agains, .int .i64 (((s.tx i).next + 1 : Nat) : Int), .bool (s.tx i).wounded, .bool (s.tx i).waits.isSome, .int .i64 ((s.tx i).regs 0), .int .i64 ((s.tx i).regs 1), .int .i64 ((s.tx i).regs 2), .int .i64 ((s.tx i).regs 3), rv, .slice ao (n + 1) c] 146 (0, 0))) :
  PSt L bs A (giveAll ow W0.heap.size w'.heap.size (9, (i : Int))) (m + 1) mu lv ((s.withTx (upd s.tx i { s.tx i with next := (s.tx i).next + 1, undo := sawOf s.rows a :: (s.tx i).undo })).withRows r) w' ∧ Kept (OwnP ow) W0 w' := by
 obtain ⟨hbt, hbo⟩ := h.ownT hin
 obtain ⟨t1, t2, t3, t4⟩ := h.tags
 have hblt : bs i < W0.heap.size := h.lt _ hbo
 have hvlt : L.vb < W0.heap.size := h.vals.lt
 have hk5 : Kept (fun k => k = bs i ∨ dv.ownBlock = some k ∨ k = L.vb) w1 w' := ((((hka.mono (fun _ x => x.elim)).trans hmv.keptOf (fun k e => .inl (.inr (.inl e)))).trans hk6 (fun k e => .inl (.inl (by unfold Blk at e; exact e)))).trans hk7 (fun k e => .inl (.inr (.inr (by unfold Blk at e; exact e))))).trans hk8 (fun k e => .inl (.inl (by unfold Blk at e; exact e)))
 have hkf : Kept (fun k => k = bs i ∨ dv.ownBlock = some k ∨ k = L.vb) W0 w' := (hk1.mono (fun _ x => x.elim)).trans' hk5
 have hk2 : Kept (fun k => ow k = (8, (i : Int)) ∨ ow k = (9, (i : Int)) ∨ ow k = (2, 0)) W0 w' := hkf.mono (fun k e => by
  rcases e with e | e | e
  ·subst e; exact .inl hbt
  ·exact .inr (.inl (l6.2 k e))
  ·subst e; exact .inr (.inr t2))
 have hag := giveAll_agree ow W0 w'.heap.size (9, (i : Int))
 have hsz : W0.heap.size ≤ w'.heap.size := hkf.size
 have n9 : ∀ k, ow k = (9, (i : Int)) → k ≠ bs i := fun k e e' => by subst e'; rw [hbt] at e; exact tagNe (by omega) e
 have nv : ∀ k, ow k = (9, (i : Int)) → k ≠ L.vb := fun k e e' => by subst e'; rw [t2] at e; exact tagNe (by omega) e
 have s1 := hk1.size
 have s2 := hka.size
 refine ⟨h.turnTV i _ hk2 hag (giveAll_lt hsz) (Nat.le_succ _) hm hr (fun _ _ => ?_), hk2.mono (fun k e => by unfold OwnP; rcases e with e | e | e <;> (rw [e]; exact tagNe (by omega)))⟩
 have hl : (sawOf s.rows a :: (s.tx i).undo).length = n + 1 := by rw [List.length_cons, hn]
 have hc : (cs ++ [x0]).map fnOf = cs.map fnOf ++ [fnOf x0] := by simp
 refine ⟨ov, rv, .slice ao (n + 1) c, hblk, by rw [hag _ hblt]; exact hbt, ⟨?_, ?_⟩, by show (s.tx i).reads.length ≤ 12; omega, fun _ => ⟨Nat.le_succ_of_le hrl, ⟨?_, ?_⟩, l2, l3, hnx, by show (sawOf s.rows a :: (s.tx i).undo).length ≤ _ + 1; omega, cs ++ [x0], ⟨?_, ?_⟩, ?_⟩⟩
 ·exact hrv.1.kept hkf (fun k hk e => e.elim (n9 k (hrv.2 k hk)) (fun e => e.elim (hrv.1.apart l6.1 (by decide) hk) (nv k (hrv.2 k hk))))
 ·intro k hk; rw [hag k (hrv.1.lt k hk)]; exact hrv.2 k hk
 ·exact l1.1.kept hkf (fun k hk e => e.elim (n9 k (l1.2 k hk)) (fun e => e.elim (l1.1.apart l6.1 (by decide) hk) (nv k (l1.2 k hk))))
 ·intro k hk; rw [hag k (l1.1.lt k hk)]; exact l1.2 k hk
 ·show RowAt w' _ 1 _ (sawOf s.rows a :: (s.tx i).undo).length ((cs ++ [x0]).map fnOf)
  rw [hl, hc]
  refine hrow.kept ((hk6.mono (S' := fun k => k = bs i ∨ k = L.vb) (fun k e => .inl (by unfold Blk at e; exact e))).trans hk7 (fun k e => .inl (.inr (by unfold Blk at e; exact e))) |>.trans hk8 (fun k e => .inl (.inl (by unfold Blk at e; exact e)))) (fun k hk e => ?_)
  rcases hmv.fresh k hk with y | y
  ·rcases e with e | e
   ·exact n9 k (l6.2 k y) e
   ·exact nv k (l6.2 k y) e
  ·rcases e with e | e <;> omega
 ·intro k hk
  rcases hmv.fresh k hk with y | y
  ·rw [hag k (l6.1.lt k y)]; exact l6.2 k y
  ·exact giveAll_new (by omega) (Nat.lt_of_lt_of_le (hrow.lt k hk) (Nat.le_trans hk6.size (Nat.le_trans hk7.size hk8.size)))
 ·have e1 : (cs ++ [x0]).reverse = x0 :: cs.reverse := by simp
  show Backs w' _ L.p (sawOf s.rows a :: (s.tx i).undo) _
  rw [e1]
  refine ⟨?_, ha, ?_⟩
  ·rw [saw_old]
   refine hp.of_same (fun k hk e => giveAll_new e (Nat.lt_of_lt_of_le hk hk5.size)) (fun k hk e => hk5.block k hk (fun e' => ?_))
   rcases e' with e' | e' | e'
   ·omega
   ·have := l6.1.lt k e'; omega
   ·omega
  ·refine Backs.of_same (fun k hk e => by rw [hag k hk]; exact e.1) (fun k hk e => hkf.block k hk (fun e' => ?_)) l7.typed
   rcases e' with e' | e' | e'
   ·exact n9 k e.1 e'
   ·exact l6.1.noBox (by decide) (by decide) e' e.2
   ·exact nv k e.1 e'
theorem putBack_fn (p vb n : Nat) (row : Int) (f : Int → Option Int) (w : World) (hp : w.cell? ⟨p, 3, none⟩ = some (.map (some vb))) (hm : MapAt keyI w vb n (ivals f)) (hr : inI row) :
  Calls Tryz.prog 132 #[.pointer (some ⟨p, 0, none⟩), .int .i64 row] w fun e w' => ∃ x : FuncId × Array Value, e = .returned (fnOf x) ∧ PutsBack w' (fun k => w.heap.size ≤ k) p (fnOf x) row (f row) ∧ Kept NoBlk w w' := by
 cases hv : f row with
 | none =>
  refine (putBack_none p vb n row f w hp hm hr hv).mono ?_
  rintro e w' ⟨c, rfl, h1, h2⟩
  rw [hv] at h1
  obtain ⟨s, r, rfl, h3⟩ := h1
  exact ⟨(_, _), rfl, ⟨s, r, rfl, h3⟩, h2⟩
 | some v =>
  refine (putBack_some p vb n row v f w hp hm hr hv).mono ?_
  rintro e w' ⟨c, rfl, h1, h2⟩
  rw [hv] at h1
  obtain ⟨x, s, r, rfl, h3⟩ := h1
  exact ⟨(_, _), rfl, ⟨x, s, r, rfl, h3⟩, h2⟩
theorem infoFn : (Tryz.prog.info? 1).map (fun i => (i.zero, i.size, i.bytes)) = some (some .nilFunc, 1, 8) := by kernel_rfl
end Go.Proofs.YtmcajfefagdbnaaGreat
namespace Go.Proofs.YtmcajfefagdbnaaGreat
open Go Go.RowKit
set_option maxRecDepth 20000 in
set_option maxHeartbeats 3200000 in
theorem wdo_read {ow : OwB} {p : Nat} {rl : List Row2} {cl : List Cl} {n : Nat} {tx : Nat → Tx} {wins : List Nat} {c : Int} {w : World} (h : WSt ow p rl cl n tx wins c w) {i : Nat} (hi : i < n) (a : Int) (b : Nat) (oc : Int) (hb : b < 4) (hG : ∀ W, Kept NoBlk w W → Calls Tryz.prog 118 #[.pointer (some ⟨p, 0, none⟩), .int .i64 a] W fun e w' => e = .returned (.tuple #[.int .i64 ((getL rl a).getD 0), .bool (getL rl a).isSome]) ∧ Kept NoBlk W w') (hrd : (tx (i + 1)).reads.length ≤ 12) :
  Calls Tryz.prog 85 #[.pointer (some ⟨p, 0, none⟩), .pointer (some ⟨ow.bs.getD i 0, 0, none⟩), .agg #[.int .i64 1, .int .i64 a, .int .i64 (b : Int), .int .i64 oc]] w fun e w' => e = .returned (.tuple #[]) ∧ ∃ ow', Agree w ow ow' ∧ WSt ow' p rl cl n (upd tx (i + 1) { tx (i + 1) with regs := upd (tx (i + 1)).regs (b : Int) ((getL rl a).getD 0), reads := (tx (i + 1)).reads ++ [⟨a, (getL rl a).isSome, (getL rl a).getD 0⟩] }) wins c w' ∧ Kept (Own ow) w w' := by
 have HW : Hid (WSt ow p rl cl n tx wins c w) := h
 have HG : Hid (∀ W, Kept NoBlk w W → Calls Tryz.prog 118 #[.pointer (some ⟨p, 0, none⟩), .int .i64 a] W fun e w' => e = .returned (.tuple #[.int .i64 ((getL rl a).getD 0), .bool (getL rl a).isSome]) ∧ Kept NoBlk W w') := hG
 generalize hgv : (getL rl a).getD 0 = v at *
 generalize hgt : (getL rl a).isSome = th at *
 have HB0 : Hid ((w.alloc (.cells #[.int .i64 1, .int .i64 a, .int .i64 (b : Int), .int .i64 oc] 114)).heap[w.heap.size]? = some (.cells #[.int .i64 1, .int .i64 a, .int .i64 (b : Int), .int .i64 oc] 114 (0, 0)) ∧ Kept NoBlk w (w.alloc (.cells #[.int .i64 1, .int .i64 a, .int .i64 (b : Int), .int .i64 oc] 114))) := ⟨block_alloc_new w _, (Kept.refl _ _).alloc _⟩
 clear h hG hgv hgt
 go_enter Tryz.func85, Tryz.ntmps85
 go_wp2_with fail
 refine (HG.out _ HB0.out.2).mono ?_
 generalize w.alloc (.cells #[.int .i64 1, .int .i64 a, .int .i64 (b : Int), .int .i64 oc] 114) = W0 at *
 generalize hH : w.heap.size = H at HB0 ⊢
 have HHS : Hid (w.heap.size = H) := hH
 clear hH
 rintro e w1 ⟨rfl, hk1⟩
 have HKW : Hid (Kept NoBlk w (w1.alloc (.cells #[.int .i64 a, .bool th, .int .i64 v] 174))) := (HB0.out.2.trans' hk1).alloc _
 have HBX : Hid ((w1.alloc (.cells #[.int .i64 a, .bool th, .int .i64 v] 174)).heap[H]? = some (.cells #[.int .i64 1, .int .i64 a, .int .i64 (b : Int), .int .i64 oc] 114 (0, 0))) := ((Kept.refl NoBlk w1).alloc (.cells #[.int .i64 a, .bool th, .int .i64 v] 174)).heap (hk1.heap HB0.out.1 (fun x => x)) (fun x => x)
 have HBF : Hid ((w1.alloc (.cells #[.int .i64 a, .bool th, .int .i64 v] 174)).heap[w1.heap.size]? = some (.cells #[.int .i64 a, .bool th, .int .i64 v] 174 (0, 0))) := block_alloc_new w1 _
 have HW2 : Hid (WSt ow p rl cl n tx wins c (w1.alloc (.cells #[.int .i64 a, .bool th, .int .i64 v] 174))) := HW.out.kept0 HKW.out
 have p1 : w1.cell? ⟨H, 1, none⟩ = some (.int .i64 a) := by rw [cell_at (hk1.heap HB0.out.1 (fun x => x))]; rfl
 have hH1 : H < w1.heap.size := Nat.lt_of_lt_of_le (lt_of_block HB0.out.1) hk1.size
 have o0 : (w1.alloc (.cells #[.int .i64 a, .bool th, .int .i64 v] 174)).cell? ⟨H, 0, none⟩ = some (.int .i64 1) := by rw [cell_at HBX.out]; rfl
 have o1 : (w1.alloc (.cells #[.int .i64 a, .bool th, .int .i64 v] 174)).cell? ⟨H, 1, none⟩ = some (.int .i64 a) := by rw [cell_at HBX.out]; rfl
 have o2 : (w1.alloc (.cells #[.int .i64 a, .bool th, .int .i64 v] 174)).cell? ⟨H, 2, none⟩ = some (.int .i64 (b : Int)) := by rw [cell_at HBX.out]; rfl
 have o3 : (w1.alloc (.cells #[.int .i64 a, .bool th, .int .i64 v] 174)).cell? ⟨H, 3, none⟩ = some (.int .i64 oc) := by rw [cell_at HBX.out]; rfl
 have b0 : (w1.alloc (.cells #[.int .i64 a, .bool th, .int .i64 v] 174)).cell? ⟨w1.heap.size, 0, none⟩ = some (.int .i64 a) := by rw [cell_at HBF.out]; rfl
 have b1 : (w1.alloc (.cells #[.int .i64 a, .bool th, .int .i64 v] 174)).cell? ⟨w1.heap.size, 1, none⟩ = some (.bool th) := by rw [cell_at HBF.out]; rfl
 have b2 : (w1.alloc (.cells #[.int .i64 a, .bool th, .int .i64 v] 174)).cell? ⟨w1.heap.size, 2, none⟩ = some (.int .i64 v) := by rw [cell_at HBF.out]; rfl
 clear hk1 HG HB0
 obtain ⟨g, cap, _, _, f3, f4⟩ := HW2.out.findB hi
 obtain ⟨r, f6, fx, ff, fo, frb, fs⟩ := f3.regsAt
 have ra := fx b hb
 have hrH : r ≠ H := fun e => by have := HW.out.lt r (by omega); have := HHS.out; omega
 have HFS : Hid (WSt ow p rl cl n (upd tx (i + 1) { tx (i + 1) with regs := upd (tx (i + 1)).regs (b : Int) v }) wins c ((w1.alloc (.cells #[.int .i64 a, .bool th, .int .i64 v] 174)).setCell ⟨r, b, none⟩ (.int .i64 v)) ∧ Kept (Own ow) (w1.alloc (.cells #[.int .i64 a, .bool th, .int .i64 v] 174)) ((w1.alloc (.cells #[.int .i64 a, .bool th, .int .i64 v] 174)).setCell ⟨r, b, none⟩ (.int .i64 v))) := HW2.out.setReg hi fo b v (fs b v hb) f4
 have j0 : (0 : Int) ≤ (b : Int) := by omega
 have j1 : (b : Int) < 4 := by omega
 clear f3 f4 fx fo fs b0 b1 b2
 generalize hB : ow.bs.getD i 0 = B at *
 go_wp2_with fail
 generalize w1.alloc (.cells #[.int .i64 a, .bool th, .int .i64 v] 174) = W2 at *
 go_region
 have HS3 : Hid (WSt ow p rl cl n (upd tx (i + 1) { tx (i + 1) with regs := upd (tx (i + 1)).regs (b : Int) v }) wins c (W2.setCell ⟨r, b, none⟩ (.int .i64 v)).drew ∧ Kept (Own ow) w (W2.setCell ⟨r, b, none⟩ (.int .i64 v)).drew) := ⟨HFS.out.1.kept0 ((Kept.refl NoBlk _).drew), ((HKW.out.mono (fun _ x => x.elim)).trans' HFS.out.2).drew⟩
 have z1 : (W2.setCell ⟨r, b, none⟩ (.int .i64 v)).drew.cell? ⟨H, 1, none⟩ = some (.int .i64 a) := (World.cell?_setCell_other W2 ⟨r, b, none⟩ ⟨H, 1, none⟩ (.int .i64 v) (by intro e; simp only [Addr.mk.injEq] at e; exact hrH e.1)).trans o1
 clear o0 o1 o2 o3 p1 HFS f6 ff ra hrH frb
 generalize (W2.setCell ⟨r, b, none⟩ (.int .i64 v)).drew = W3 at *
 obtain ⟨ar, cp, cs, d7, hrow, hblk, hpr⟩ := HS3.out.1.readsAt hi
 rw [hB] at d7 hblk hpr
 rw [upd_same] at d7 hrow hpr
 simp only at d7 hrow hpr
 have HROW : Hid (W3.ownsRow 0 105 3 (.slice ar (tx (i + 1)).reads.length cp) (tx (i + 1)).reads.length (sawCells (tx (i + 1)).reads)) := hrow
 have HBLK : Hid (W3.heap[B]? = some (.cells cs 152 (0, 0)) ∧ ¬ (Value.slice ar (tx (i + 1)).reads.length cp).ownBlock = some B) := ⟨hblk, hpr⟩
 have HD7 : Hid (W3.cell? ⟨B, 7, none⟩ = some (.slice ar (tx (i + 1)).reads.length cp)) := d7
 have HBB : Hid (ow.bs.getD i 0 = B) := hB
 generalize hm : (tx (i + 1)).reads.length = m at *
 have HM : Hid ((tx (i + 1)).reads.length = m) := hm
 have HLE : Hid (m + 1 ≤ maxLen ∧ (m + 1) * 24 ≤ 140737488355328) := ⟨by unfold maxLen; omega, by omega⟩
 have e7 : ∀ o, (W3.alloc o).cell? ⟨B, 7, none⟩ = some (.slice ar m cp) := fun o => ((Kept.refl NoBlk W3).alloc o).cell0 d7
 have ez : ∀ o, (W3.alloc o).cell? ⟨H, 1, none⟩ = some (.int .i64 a) := fun o => ((Kept.refl NoBlk W3).alloc o).cell0 z1
 obtain ⟨i1, hi1, hy0, hy1, hy2⟩ := info_parts infoSeenW
 have HI : Hid (Tryz.prog.info? 105 = some i1 ∧ i1.zero = some (.agg #[.int .i64 0, .bool false, .int .i64 0]) ∧ i1.size = 3 ∧ i1.bytes = 24) := ⟨hi1, hy0, hy1, hy2⟩
 clear hi1 hy0 hy1 hy2 hrow hblk hpr hm hB hrd
 go_wp2_with fail
 refine' cutE2 (X := Option Addr) (Y := Nat) _ (fun ao' c' w6 => ∃ w5, w5.ownsRow 0 105 3 (.slice ao' (m + 1) c') (m + 1) (sawCells (tx (i + 1)).reads ++ [.int .i64 a, .bool th, .int .i64 v]) ∧ Moved (W3.alloc (.cells #[.int .i64 a, .bool th, .int .i64 v] 105)).drew w5 (.slice ar m cp) (.slice ao' (m + 1) c') (m + 1) ∧ w6 = w5.setCell ⟨B, 7, none⟩ (.slice ao' (m + 1) c')) ?_ ?_
 rotate_left
 ·go_region_law (refine step_append_own (by rfl) _ _ 61 (by rfl) 105 i1 _ 3 24 Tryz.underlying61 HI.out.1 HI.out.2.1 HI.out.2.2.1 HI.out.2.2.2 (by rfl) (.slice ar m cp) m (sawCells (tx (i + 1)).reads) (by rfl) (ownsRow_kept HROW.out ((Kept.refl NoBlk W3).alloc _).drew (fun _ _ x => x)) (.slice (some ⟨W3.heap.size, 0, none⟩) 1 1) 1 [.int .i64 a, .bool th, .int .i64 v] (by rfl) (FromMem.drew (from_new3 W3 _ _ _ _ rfl rfl rfl)) HLE.out.1 HLE.out.2 ?_; intro ao' c' w5 hrow5 hmv5; have q7 := hmv5.keptOf.cell ((((Kept.refl NoBlk W3).alloc _).drew).cell0 HD7.out) HBLK.out.2; have qf7 : w5.frozen? ⟨B, 7, none⟩ = false := frozen_at (hmv5.keptOf.heap ((((Kept.refl NoBlk W3).alloc _).drew).heap HBLK.out.1 (fun x => x)) HBLK.out.2) 7)
  all_goals (refine ⟨ao', c', ?_, w5, hrow5, hmv5, rfl⟩; exact rfl)
 rintro ao' c' w6 ⟨w5, hrow5, hmv5, rfl⟩
 have hfin : ∃ ow', Agree w ow ow' ∧ WSt ow' p rl cl n (upd tx (i + 1) { tx (i + 1) with regs := upd (tx (i + 1)).regs (b : Int) v, reads := (tx (i + 1)).reads ++ [⟨a, th, v⟩] }) wins c (w5.setCell ⟨B, 7, none⟩ (.slice ao' (m + 1) c')) ∧ Kept (Own ow) w (w5.setCell ⟨B, 7, none⟩ (.slice ao' (m + 1) c')) := by
  have hb := HBB.out
  have hrow5' : w5.ownsRow 0 105 3 (.slice ao' (m + 1) c') (m + 1) (sawCells (upd tx (i + 1) { tx (i + 1) with regs := upd (tx (i + 1)).regs (b : Int) v } (i + 1)).reads ++ [.int .i64 a, .bool th, .int .i64 v]) := by rw [upd_same]; exact hrow5
  obtain ⟨ow', g1, g2, g3⟩ := HS3.out.1.readsT (v' := .slice ao' (m + 1) c') (m := m + 1) hi ((Kept.refl NoBlk W3).alloc _).drew ⟨a, th, v⟩ (by rw [hb]; exact HD7.out) (by rw [upd_same, HM.out]) hrow5' hmv5
  rw [hb, upd_upd, upd_same] at g2
  rw [hb] at g3
  exact ⟨ow', g1.less HS3.out.2.size, g2, HS3.out.2.trans' g3⟩
 have HFIN : Hid _ := hfin
 clear hfin hrow5 hmv5
 generalize w5.setCell ⟨B, 7, none⟩ (.slice ao' (m + 1) c') = W6 at *
 go_end0
 exact ⟨rfl, HFIN.out⟩
end Go.Proofs.YtmcajfefagdbnaaGreat
