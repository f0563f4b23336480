import Derived.Test.YtmcajfefagdbnaaGreatLKRows
namespace Go.Proofs.YtmcajfefagdbnaaGreat
open Go Go.RowKit
def Tf (f : Int → Option Int) (i : Nat) : Bool := (f (i : Int)).isSome
def Vf (f : Int → Option Int) (i : Nat) : Int := (f (i : Int)).getD 0
def OpLaw (o : Op4) : Prop := (1 ≤ o.k ∧ o.k ≤ 5) ∧ (o.k ≤ 3 → 0 ≤ o.a ∧ o.a < 5) ∧ (0 ≤ o.b ∧ o.b < 4) ∧ (4 ≤ o.k → 0 ≤ o.a ∧ o.a < 4)
def cells4 (r : Int → Int) : Array Value := #[.int .i64 (r 0), .int .i64 (r 1), .int .i64 (r 2), .int .i64 (r 3)]
structure RunAt (w : World) (H : Nat) (f : Int → Option Int) (p : Pr) (x : Value) (wr : World) : Prop where
 cur : wr.heap[H]? = some (.cells (cells5 (Tf p.f) (Vf p.f)) 58 (0, 0))
 res : wr.heap[H + 1]? = some (.cells (cells5 (fun _ => false) (fun _ => 0)) 58 (0, 0))
 resR : wr.heap[H + 2]? = some (.cells (cells4 (fun _ => 0)) 62 (0, 0))
 was : wr.heap[H + 3]? = some (.cells (cells5 (Tf f) (Vf f)) 58 (0, 0))
 regs : wr.heap[H + 4]? = some (.cells (cells4 p.regs) 62 (0, 0))
 seen : RowAt wr 105 3 x p.reads.length (seenCells p.reads)
 own : ∀ j, x.ownBlock = some j → H + 5 ≤ j
 kept : Kept NoBlk w wr
theorem Tf_upd (f : Int → Option Int) (a : Nat) (v : Option Int) : Tf (upd f (a : Int) v) = upd (Tf f) a v.isSome := by
 funext i
 unfold Tf upd
 by_cases e : i = a
 ·subst e; simp
 ·rw [if_neg (by omega), if_neg e]
theorem Vf_upd (f : Int → Option Int) (a : Nat) (v : Option Int) : Vf (upd f (a : Int) v) = upd (Vf f) a (v.getD 0) := by
 funext i
 unfold Vf upd
 by_cases e : i = a
 ·subst e; simp
 ·rw [if_neg (by omega), if_neg e]
theorem cells4_set (r : Int → Int) (b : Nat) (hb : b < 4) (x : Int) : (cells4 r).setIfInBounds b (.int .i64 x) = cells4 (upd r (b : Int) x) := by
 match b, hb with
 | 0, _ => rfl
 | 1, _ => rfl
 | 2, _ => rfl
 | 3, _ => rfl
theorem cells4_at (r : Int → Int) : ∀ b, b < 4 → (cells4 r)[b]? = some (.int .i64 (r (b : Int)))
 | 0, _ => rfl
 | 1, _ => rfl
 | 2, _ => rfl
 | 3, _ => rfl
 | _ + 4, h => absurd h (by omega)
theorem RunAt.keep {w : World} {H : Nat} {f : Int → Option Int} {p : Pr} {x : Value} {wr W : World} (h : RunAt w H f p x wr) (hk : Kept NoBlk wr W) : RunAt w H f p x W :=
 ⟨hk.heap h.cur (fun e => e), hk.heap h.res (fun e => e), hk.heap h.resR (fun e => e), hk.heap h.was (fun e => e), hk.heap h.regs (fun e => e), h.seen.kept hk (fun _ _ e => e), h.own, h.kept.trans' hk⟩
theorem RunAt.put {w : World} {H : Nat} {f : Int → Option Int} {p : Pr} {x : Value} {wr : World} (h : RunAt w H f p x wr) (hH : w.heap.size = H) (a : Nat) (ha : a < 5) (v : Option Int) (u : List Saw) :
  RunAt w H f ⟨upd p.f (a : Int) v, p.regs, p.reads, u⟩ x ((wr.setCell ⟨H, a, none⟩ (.bool v.isSome)).setCell ⟨H, 5 + a, none⟩ (.int .i64 (v.getD 0))) := by
 have hk : Kept (Blk H) wr ((wr.setCell ⟨H, a, none⟩ (.bool v.isSome)).setCell ⟨H, 5 + a, none⟩ (.int .i64 (v.getD 0))) := (Kept.set1 wr H a _).trans' (Kept.set1 _ H (5 + a) _)
 have hb := block_setCell (o := 5 + a) (block_setCell (o := a) h.cur (.bool v.isSome)) (.int .i64 (v.getD 0))
 rw [cells5_set _ _ a ha, ← Tf_upd, ← Vf_upd] at hb
 exact ⟨hb, hk.heap h.res (fun e => by unfold Blk at e; omega), hk.heap h.resR (fun e => by unfold Blk at e; omega), hk.heap h.was (fun e => by unfold Blk at e; omega), hk.heap h.regs (fun e => by unfold Blk at e; omega), h.seen.kept hk (fun j hj e => by unfold Blk at e; have := h.own j hj; omega), h.own, h.kept.trans hk (fun j e => .inr (by unfold Blk at e; omega))⟩
theorem RunAt.reg {w : World} {H : Nat} {f : Int → Option Int} {p : Pr} {x : Value} {wr : World} (h : RunAt w H f p x wr) (hH : w.heap.size = H) (b : Nat) (hb : b < 4) (v : Int) :
  RunAt w H f { p with regs := upd p.regs (b : Int) v } x (wr.setCell ⟨H + 4, b, none⟩ (.int .i64 v)) := by
 have hk : Kept (Blk (H + 4)) wr (wr.setCell ⟨H + 4, b, none⟩ (.int .i64 v)) := Kept.set1 wr (H + 4) b _
 have hbk := block_setCell (o := b) h.regs (.int .i64 v)
 rw [cells4_set _ b hb] at hbk
 exact ⟨hk.heap h.cur (fun e => by unfold Blk at e; omega), hk.heap h.res (fun e => by unfold Blk at e; omega), hk.heap h.resR (fun e => by unfold Blk at e; omega), hk.heap h.was (fun e => by unfold Blk at e; omega), hbk, h.seen.kept hk (fun j hj e => by unfold Blk at e; have := h.own j hj; omega), h.own, h.kept.trans hk (fun j e => .inr (by unfold Blk at e; omega))⟩
theorem RunAt.read {w : World} {H : Nat} {f : Int → Option Int} {p : Pr} {x : Value} {wr W5 : World} (h : RunAt w H f p x wr) (hH : w.heap.size = H) {ao : Option Addr} {c n : Nat} (hn : p.reads.length = n) (hmv : Moved wr W5 x (.slice ao (n + 1) c) (n + 1)) (s : Saw) (hrow : RowAt W5 105 3 (.slice ao (n + 1) c) (n + 1) (seenCells p.reads ++ [.int .i64 s.key, .bool s.there, .int .i64 s.val])) :
  RunAt w H f { p with reads := p.reads ++ [s] } (.slice ao (n + 1) c) W5 := by
 have hk := hmv.keptOf
 have no : ∀ j, j < H + 5 → ¬ x.ownBlock = some j := fun j hj e => by have := h.own j e; omega
 have hH5 := lt_of_block h.regs
 refine ⟨hk.heap h.cur (no _ (by omega)), hk.heap h.res (no _ (by omega)), hk.heap h.resR (no _ (by omega)), hk.heap h.was (no _ (by omega)), hk.heap h.regs (no _ (by omega)), ?_, fun j hj => ?_, h.kept.trans hk (fun j e => .inr (by have := h.own j e; omega))⟩
 ·show RowAt W5 _ 3 _ (p.reads ++ [s]).length (seenCells (p.reads ++ [s]))
  rw [List.length_append, hn]
  have : seenCells (p.reads ++ [s]) = seenCells p.reads ++ [.int .i64 s.key, .bool s.there, .int .i64 s.val] := by simp [seenCells]
  rw [this]
  exact hrow
 ·rcases hmv.fresh j hj with e | e
  ·exact h.own j e
  ·omega
theorem take_snoc (l : List Op4) (k : Nat) (h : k < l.length) : l.take (k + 1) = l.take k ++ [l.getD k Op4.z] := by
 rw [List.take_add_one, List.getElem?_eq_getElem h, List.getD_eq_getElem?_getD, List.getElem?_eq_getElem h]
 rfl
theorem infoSeenR : (Tryz.prog.info? 105).map (fun i => (i.zero, i.size, i.bytes)) = some (some (.agg #[.int .i64 0, .bool false, .int .i64 0]), 3, 24) := by kernel_rfl
def setRet (W : World) (H : Nat) (g : Int → Option Int) (r : Int → Int) : World := ((((((((((((((W.setCell ⟨H + 1, 0, none⟩ (.bool (Tf g 0))).setCell ⟨H + 1, 1, none⟩ (.bool (Tf g 1))).setCell ⟨H + 1, 2, none⟩ (.bool (Tf g 2))).setCell ⟨H + 1, 3, none⟩ (.bool (Tf g 3))).setCell ⟨H + 1, 4, none⟩ (.bool (Tf g 4))).setCell ⟨H + 1, 5, none⟩ (.int .i64 (Vf g 0))).setCell ⟨H + 1, 6, none⟩ (.int .i64 (Vf g 1))).setCell ⟨H + 1, 7, none⟩ (.int .i64 (Vf g 2))).setCell ⟨H + 1, 8, none⟩ (.int .i64 (Vf g 3))).setCell ⟨H + 1, 9, none⟩ (.int .i64 (Vf g 4))).setCell ⟨H + 1 + 1, 0, none⟩ (.int .i64 (r 0))).setCell ⟨H + 1 + 1, 1, none⟩ (.int .i64 (r 1))).setCell ⟨H + 1 + 1, 2, none⟩ (.int .i64 (r 2))).setCell ⟨H + 1 + 1, 3, none⟩ (.int .i64 (r 3)))
theorem RunAt.ret {w : World} {H : Nat} {f : Int → Option Int} {p : Pr} {x : Value} {W : World} (h : RunAt w H f p x W) (hH : w.heap.size = H) (g : Int → Option Int) (r : Int → Int) :
  (setRet W H g r).drew.heap[H + 1]? = some (.cells (cells5 (Tf g) (Vf g)) 58 (0, 0)) ∧ (setRet W H g r).drew.heap[H + 1 + 1]? = some (.cells (cells4 r) 62 (0, 0)) ∧ RowAt (setRet W H g r).drew 105 3 x p.reads.length (seenCells p.reads) ∧ Kept NoBlk w (setRet W H g r).drew := by
 have k1 := set10_kept W (H + 1) (.bool (Tf g 0)) (.bool (Tf g 1)) (.bool (Tf g 2)) (.bool (Tf g 3)) (.bool (Tf g 4)) (.int .i64 (Vf g 0)) (.int .i64 (Vf g 1)) (.int .i64 (Vf g 2)) (.int .i64 (Vf g 3)) (.int .i64 (Vf g 4))
 have a1 := set10_at W (H + 1) (.bool (Tf g 0)) (.bool (Tf g 1)) (.bool (Tf g 2)) (.bool (Tf g 3)) (.bool (Tf g 4)) (.int .i64 (Vf g 0)) (.int .i64 (Vf g 1)) (.int .i64 (Vf g 2)) (.int .i64 (Vf g 3)) (.int .i64 (Vf g 4)) _ _ _ _ _ _ _ _ _ _ _ h.res
 have a2 := k1.heap h.resR (fun e => by unfold Blk at e; omega)
 have e0 : setRet W H g r = ((((set10 W (H + 1) (.bool (Tf g 0)) (.bool (Tf g 1)) (.bool (Tf g 2)) (.bool (Tf g 3)) (.bool (Tf g 4)) (.int .i64 (Vf g 0)) (.int .i64 (Vf g 1)) (.int .i64 (Vf g 2)) (.int .i64 (Vf g 3)) (.int .i64 (Vf g 4))).setCell ⟨H + 1 + 1, 0, none⟩ (.int .i64 (r 0))).setCell ⟨H + 1 + 1, 1, none⟩ (.int .i64 (r 1))).setCell ⟨H + 1 + 1, 2, none⟩ (.int .i64 (r 2))).setCell ⟨H + 1 + 1, 3, none⟩ (.int .i64 (r 3)) := rfl
 rw [e0]
 generalize set10 W (H + 1) (.bool (Tf g 0)) (.bool (Tf g 1)) (.bool (Tf g 2)) (.bool (Tf g 3)) (.bool (Tf g 4)) (.int .i64 (Vf g 0)) (.int .i64 (Vf g 1)) (.int .i64 (Vf g 2)) (.int .i64 (Vf g 3)) (.int .i64 (Vf g 4)) = W1 at *
 have k2 : Kept (Blk (H + 1 + 1)) W1 ((((W1.setCell ⟨H + 1 + 1, 0, none⟩ (.int .i64 (r 0))).setCell ⟨H + 1 + 1, 1, none⟩ (.int .i64 (r 1))).setCell ⟨H + 1 + 1, 2, none⟩ (.int .i64 (r 2))).setCell ⟨H + 1 + 1, 3, none⟩ (.int .i64 (r 3))) := (((Kept.set1 W1 _ 0 _).trans' (Kept.set1 _ _ 1 _)).trans' (Kept.set1 _ _ 2 _)).trans' (Kept.set1 _ _ 3 _)
 have b0 : (W1.setCell ⟨H + 1 + 1, 0, none⟩ (.int .i64 (r 0))).heap[H + 1 + 1]? = some (.cells #[.int .i64 (r 0), .int .i64 0, .int .i64 0, .int .i64 0] 62 (0, 0)) := block_setCell a2 _
 have b1 : ((W1.setCell ⟨H + 1 + 1, 0, none⟩ (.int .i64 (r 0))).setCell ⟨H + 1 + 1, 1, none⟩ (.int .i64 (r 1))).heap[H + 1 + 1]? = some (.cells #[.int .i64 (r 0), .int .i64 (r 1), .int .i64 0, .int .i64 0] 62 (0, 0)) := block_setCell b0 _
 have b2 : (((W1.setCell ⟨H + 1 + 1, 0, none⟩ (.int .i64 (r 0))).setCell ⟨H + 1 + 1, 1, none⟩ (.int .i64 (r 1))).setCell ⟨H + 1 + 1, 2, none⟩ (.int .i64 (r 2))).heap[H + 1 + 1]? = some (.cells #[.int .i64 (r 0), .int .i64 (r 1), .int .i64 (r 2), .int .i64 0] 62 (0, 0)) := block_setCell b1 _
 have b3 : ((((W1.setCell ⟨H + 1 + 1, 0, none⟩ (.int .i64 (r 0))).setCell ⟨H + 1 + 1, 1, none⟩ (.int .i64 (r 1))).setCell ⟨H + 1 + 1, 2, none⟩ (.int .i64 (r 2))).setCell ⟨H + 1 + 1, 3, none⟩ (.int .i64 (r 3))).heap[H + 1 + 1]? = some (.cells #[.int .i64 (r 0), .int .i64 (r 1), .int .i64 (r 2), .int .i64 (r 3)] 62 (0, 0)) := block_setCell b2 _
 refine ⟨k2.heap a1 (fun e => by unfold Blk at e; omega), b3, ?_, ?_⟩
 ·exact ((h.seen.kept k1 (fun j hj e => by unfold Blk at e; have := h.own j hj; omega)).kept k2 (fun j hj e => by unfold Blk at e; have := h.own j hj; omega)).kept (Kept.refl NoBlk _).drew (fun _ _ e => e)
 ·exact ((h.kept.trans k1 (fun j e => .inr (by unfold Blk at e; omega))).trans k2 (fun j e => .inr (by unfold Blk at e; omega))).drew
end Go.Proofs.YtmcajfefagdbnaaGreat
