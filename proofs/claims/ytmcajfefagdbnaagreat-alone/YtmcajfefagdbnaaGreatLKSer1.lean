import Derived.Test.YtmcajfefagdbnaaGreatLKSer0
namespace Go.Proofs.YtmcajfefagdbnaaGreat
open Go Go.RowKit
def bcells (l : List Bool) : Array Value := (l.map Value.bool).toArray
def seenL (n : Nat) (ws : List Nat) : List Bool := (List.range n).map fun j => decide ((j + 1) ∈ ws)
theorem seenL_at (n : Nat) (ws : List Nat) (j : Nat) (h : j < n) : (bcells (seenL n ws))[j]? = some (.bool (decide ((j + 1) ∈ ws))) := by
 unfold bcells seenL
 simp [h]
theorem seenL_set (n : Nat) (ws : List Nat) (j : Nat) : (bcells (seenL n ws)).setIfInBounds j (.bool true) = bcells (seenL n (ws ++ [j + 1])) := by
 unfold bcells seenL
 apply Array.ext'
 simp only [Array.toList_setIfInBounds, List.map_map]
 apply List.ext_getElem?
 intro i
 rw [List.getElem?_set]
 by_cases e : j = i
 ·subst e
  by_cases hl : j < n
  ·simp [hl]
  ·simp [hl]
 ·rw [if_neg e]
  by_cases hl : i < n
  ·simp [hl]
   have : ¬ i = j := fun h => e h.symm
   simp [this]
  ·simp [hl]
theorem makeBools (n : Nat) (hn : n ≤ 5) (w : World) : (Instr.makeSlice 81 (.int .i64 (n : Int)) (.int .i64 (n : Int))).run Tryz.prog w = .ok (.slice (some ⟨w.heap.size, 0, none⟩) n n) (w.alloc (.cells (bcells (seenL n [])) 4)) := by
 have f0 : ∀ w : World, (Instr.makeSlice 81 (.int .i64 0) (.int .i64 0)).run Tryz.prog w = .ok (.slice (some ⟨w.heap.size, 0, none⟩) 0 0) (w.alloc (.cells #[] 4)) := fun _ => by kernel_rfl
 have f1 : ∀ w : World, (Instr.makeSlice 81 (.int .i64 1) (.int .i64 1)).run Tryz.prog w = .ok (.slice (some ⟨w.heap.size, 0, none⟩) 1 1) (w.alloc (.cells #[.bool false] 4)) := fun _ => by kernel_rfl
 have f2 : ∀ w : World, (Instr.makeSlice 81 (.int .i64 2) (.int .i64 2)).run Tryz.prog w = .ok (.slice (some ⟨w.heap.size, 0, none⟩) 2 2) (w.alloc (.cells #[.bool false, .bool false] 4)) := fun _ => by kernel_rfl
 have f3 : ∀ w : World, (Instr.makeSlice 81 (.int .i64 3) (.int .i64 3)).run Tryz.prog w = .ok (.slice (some ⟨w.heap.size, 0, none⟩) 3 3) (w.alloc (.cells #[.bool false, .bool false, .bool false] 4)) := fun _ => by kernel_rfl
 have f4 : ∀ w : World, (Instr.makeSlice 81 (.int .i64 4) (.int .i64 4)).run Tryz.prog w = .ok (.slice (some ⟨w.heap.size, 0, none⟩) 4 4) (w.alloc (.cells #[.bool false, .bool false, .bool false, .bool false] 4)) := fun _ => by kernel_rfl
 have f5 : ∀ w : World, (Instr.makeSlice 81 (.int .i64 5) (.int .i64 5)).run Tryz.prog w = .ok (.slice (some ⟨w.heap.size, 0, none⟩) 5 5) (w.alloc (.cells #[.bool false, .bool false, .bool false, .bool false, .bool false] 4)) := fun _ => by kernel_rfl
 have h : n = 0 ∨ n = 1 ∨ n = 2 ∨ n = 3 ∨ n = 4 ∨ n = 5 := by omega
 rcases h with h | h | h | h | h | h <;> subst h
 ·exact f0 w
 ·exact f1 w
 ·exact f2 w
 ·exact f3 w
 ·exact f4 w
 ·exact f5 w
structure SB (L : Lay) (bs : Nat → Nat) (T : Nat → Bool) (V : Nat → Int) (l0 : List (List Op4)) (wb j : Nat) (w : World) (s : St) (ow : Ow) (ab a sb : Nat) (D : Int → Option Int) (ws : List Nat) (wr : World) : Prop where
 st : KSt L bs ow j s wr
 wh : KWh ow wr wb L T V l0
 fr : Fr w.heap.size ow
 kept : Kept NoBlk w wr
 cur : wr.heap[ab]? = some (.cells (cells5 (Tf D) (Vf D)) 58 (0, 0))
 wins : wr.heap[a]? = some (.cells (winsCells s.wins).toArray 3 (0, 0))
 seen : wr.heap[sb]? = some (.cells (bcells (seenL s.n ws)) 4 (0, 0))
 o1 : ¬ OwnP ow ab
 o2 : ¬ OwnP ow a
 o3 : ¬ OwnP ow sb
 l1 : w.heap.size ≤ ab
 l2 : ab < a
 l3 : a < sb
theorem KWh.off {ow : Ow} {w w' : World} {wb : Nat} {L : Lay} {T : Nat → Bool} {V : Nat → Int} {ls : List (List Op4)} (h : KWh ow w wb L T V ls) {b : Nat} {cs : Array Value} {t : TypeId} {f : Nat × Nat} (hb : w.heap[b]? = some (.cells cs t f)) (t1 : t ≠ 60) (t2 : t ≠ 39) (t3 : t ≠ 114) (hk : Kept (Blk b) w w') : KWh ow w' wb L T V ls := by
 obtain ⟨ov, xs, h1, h2, h3, h4⟩ := h.body
 have e2 : ∀ k, ov.ownBlock = some k → ¬ Blk b k := fun k hko e => by
  unfold Blk at e; subst e
  obtain ⟨cur, hc⟩ := h2.block hko
  rw [hb] at hc
  simp only [Option.some.injEq, Obj.cells.injEq] at hc
  exact t2 hc.2.1
 refine ⟨h.out, ov, xs, hk.heap h1 (fun e => ?_), h2.kept hk e2, h3, fun i hi => ?_⟩
 ·unfold Blk at e; subst e
  rw [hb] at h1
  simp only [Option.some.injEq, Obj.cells.injEq] at h1
  exact t1 h1.2.1
 ·obtain ⟨x, x1, x2, x3⟩ := h4 i hi
  refine ⟨x, x1, x2.kept hk (fun k hko e => ?_), x3⟩
  unfold Blk at e; subst e
  obtain ⟨cur, hc⟩ := x2.block hko
  rw [hb] at hc
  simp only [Option.some.injEq, Obj.cells.injEq] at hc
  exact t3 hc.2.1
theorem KWh.elem2 {ow : Ow} {w : World} {wb : Nat} {L : Lay} {T : Nat → Bool} {V : Nat → Int} {ls : List (List Op4)} (h : KWh ow w wb L T V ls) (i : Nat) (hi : i < ls.length) : ∃ g off c xa xc, w.cell? ⟨wb, 11, none⟩ = some (.slice (some ⟨g, off, none⟩) ls.length c) ∧ w.cell? ⟨g, off + i, none⟩ = some (.slice xa (ls.getD i []).length xc) ∧ RowAt w 114 4 (.slice xa (ls.getD i []).length xc) (ls.getD i []).length (opCells (ls.getD i [])) := by
 obtain ⟨ov, xs, h1, h2, h3, h4⟩ := h.body
 obtain ⟨x, x1, x2, _⟩ := h4 i hi
 obtain ⟨xa, xc, rfl, _⟩ := x2.form
 rcases h2.2 with ⟨rfl, h0⟩ | ⟨g, off, cap, cur, rfl, _⟩
 ·omega
 ·exact ⟨g, off, cap, xa, xc, by rw [cell_at h1]; rfl, h2.cell i x1, x2⟩
theorem SB.keep {L : Lay} {bs : Nat → Nat} {T : Nat → Bool} {V : Nat → Int} {l0 : List (List Op4)} {wb j : Nat} {w : World} {s : St} {ow : Ow} {ab a sb : Nat} {D : Int → Option Int} {ws : List Nat} {wr W : World} (h : SB L bs T V l0 wb j w s ow ab a sb D ws wr) (hst : KSt L bs ow j s W) (hk : Kept (OwnP ow) wr W) : SB L bs T V l0 wb j w s ow ab a sb D ws W :=
 ⟨hst, h.wh.kept hk, h.fr, h.fr.kept (Nat.le_refl _) h.kept hk, hk.heap h.cur h.o1, hk.heap h.wins h.o2, hk.heap h.seen h.o3, h.o1, h.o2, h.o3, h.l1, h.l2, h.l3⟩
theorem SB.keep0 {L : Lay} {bs : Nat → Nat} {T : Nat → Bool} {V : Nat → Int} {l0 : List (List Op4)} {wb j : Nat} {w : World} {s : St} {ow : Ow} {ab a sb : Nat} {D : Int → Option Int} {ws : List Nat} {wr W : World} (h : SB L bs T V l0 wb j w s ow ab a sb D ws wr) (hk : Kept NoBlk wr W) : SB L bs T V l0 wb j w s ow ab a sb D ws W :=
 h.keep (h.st.kept hk (fun _ _ x => x)) (hk.mono (fun _ x => x.elim))
theorem SB.mark {L : Lay} {bs : Nat → Nat} {T : Nat → Bool} {V : Nat → Int} {l0 : List (List Op4)} {wb j : Nat} {w : World} {s : St} {ow : Ow} {ab a sb : Nat} {D : Int → Option Int} {ws : List Nat} {wr : World} (h : SB L bs T V l0 wb j w s ow ab a sb D ws wr) (i : Nat) : SB L bs T V l0 wb j w s ow ab a sb D (ws ++ [i + 1]) (wr.setCell ⟨sb, i, none⟩ (.bool true)) := by
 have hk : Kept (Blk sb) wr (wr.setCell ⟨sb, i, none⟩ (.bool true)) := Kept.set1 wr sb i _
 have hb := block_setCell (o := i) h.seen (.bool true)
 rw [seenL_set] at hb
 have l1 := h.l1; have l2 := h.l2; have l3 := h.l3
 exact ⟨h.st.kept hk (fun k hko e => by unfold Blk at e; subst e; exact h.o3 hko), h.wh.off h.seen (by decide) (by decide) (by decide) hk, h.fr, h.kept.trans hk (fun k e => .inr (by unfold Blk at e; omega)), hk.heap h.cur (fun e => by unfold Blk at e; omega), hk.heap h.wins (fun e => by unfold Blk at e; omega), hb, h.o1, h.o2, h.o3, h.l1, h.l2, h.l3⟩
theorem SB.turn {L : Lay} {bs : Nat → Nat} {T : Nat → Bool} {V : Nat → Int} {l0 : List (List Op4)} {wb j : Nat} {w : World} {s : St} {ow : Ow} {ab a sb : Nat} {D : Int → Option Int} {ws : List Nat} {wr : World} (h : SB L bs T V l0 wb j w s ow ab a sb D ws wr) (D' : Int → Option Int) : SB L bs T V l0 wb j w s ow ab a sb D' ws (set10 wr ab (.bool (Tf D' 0)) (.bool (Tf D' 1)) (.bool (Tf D' 2)) (.bool (Tf D' 3)) (.bool (Tf D' 4)) (.int .i64 (Vf D' 0)) (.int .i64 (Vf D' 1)) (.int .i64 (Vf D' 2)) (.int .i64 (Vf D' 3)) (.int .i64 (Vf D' 4))) := by
 have hk := set10_kept wr ab (.bool (Tf D' 0)) (.bool (Tf D' 1)) (.bool (Tf D' 2)) (.bool (Tf D' 3)) (.bool (Tf D' 4)) (.int .i64 (Vf D' 0)) (.int .i64 (Vf D' 1)) (.int .i64 (Vf D' 2)) (.int .i64 (Vf D' 3)) (.int .i64 (Vf D' 4))
 have hb := set10_at wr ab (.bool (Tf D' 0)) (.bool (Tf D' 1)) (.bool (Tf D' 2)) (.bool (Tf D' 3)) (.bool (Tf D' 4)) (.int .i64 (Vf D' 0)) (.int .i64 (Vf D' 1)) (.int .i64 (Vf D' 2)) (.int .i64 (Vf D' 3)) (.int .i64 (Vf D' 4)) _ _ _ _ _ _ _ _ _ _ _ h.cur
 have l1 := h.l1; have l2 := h.l2; have l3 := h.l3
 exact ⟨h.st.kept hk (fun k hko e => by unfold Blk at e; subst e; exact h.o1 hko), h.wh.off h.cur (by decide) (by decide) (by decide) hk, h.fr, h.kept.trans hk (fun k e => .inr (by unfold Blk at e; omega)), hb, hk.heap h.wins (fun e => by unfold Blk at e; omega), hk.heap h.seen (fun e => by unfold Blk at e; omega), h.o1, h.o2, h.o3, h.l1, h.l2, h.l3⟩
theorem boxS0 {w9 : World} {b : Nat} (h1 : w9.heap[b]? = some (.cells (cells5 (fun _ => false) (fun _ => 0)) 58 (0, 0))) : w9.cell? ⟨b, 0, none⟩ = some (.bool false) ∧ w9.cell? ⟨b, 1, none⟩ = some (.bool false) ∧ w9.cell? ⟨b, 2, none⟩ = some (.bool false) ∧ w9.cell? ⟨b, 3, none⟩ = some (.bool false) ∧ w9.cell? ⟨b, 4, none⟩ = some (.bool false) ∧ w9.cell? ⟨b, 5, none⟩ = some (.int .i64 0) ∧ w9.cell? ⟨b, 6, none⟩ = some (.int .i64 0) ∧ w9.cell? ⟨b, 7, none⟩ = some (.int .i64 0) ∧ w9.cell? ⟨b, 8, none⟩ = some (.int .i64 0) ∧ w9.cell? ⟨b, 9, none⟩ = some (.int .i64 0) ∧ (∀ j, w9.frozen? ⟨b, j, none⟩ = false) := by
 refine ⟨?_, ?_, ?_, ?_, ?_, ?_, ?_, ?_, ?_, ?_, frozen_at h1⟩ <;> (rw [cell_at h1]; rfl)
theorem boxR0 {w9 : World} {b : Nat} (h1 : w9.heap[b]? = some (.cells #[.int .i64 0, .int .i64 0, .int .i64 0, .int .i64 0] 62 (0, 0))) : w9.cell? ⟨b, 0, none⟩ = some (.int .i64 0) ∧ w9.cell? ⟨b, 1, none⟩ = some (.int .i64 0) ∧ w9.cell? ⟨b, 2, none⟩ = some (.int .i64 0) ∧ w9.cell? ⟨b, 3, none⟩ = some (.int .i64 0) ∧ (∀ j, w9.frozen? ⟨b, j, none⟩ = false) := by
 refine ⟨?_, ?_, ?_, ?_, frozen_at h1⟩ <;> (rw [cell_at h1]; rfl)
theorem boxS {W w9 : World} (hk : Kept NoBlk W w9) {b : Nat} (h : W.heap[b]? = some (.cells (cells5 (fun _ => false) (fun _ => 0)) 58 (0, 0))) : (w9.cell? ⟨b, 0, none⟩ = some (.bool false) ∧ w9.cell? ⟨b, 1, none⟩ = some (.bool false) ∧ w9.cell? ⟨b, 2, none⟩ = some (.bool false) ∧ w9.cell? ⟨b, 3, none⟩ = some (.bool false) ∧ w9.cell? ⟨b, 4, none⟩ = some (.bool false) ∧ w9.cell? ⟨b, 5, none⟩ = some (.int .i64 0) ∧ w9.cell? ⟨b, 6, none⟩ = some (.int .i64 0) ∧ w9.cell? ⟨b, 7, none⟩ = some (.int .i64 0) ∧ w9.cell? ⟨b, 8, none⟩ = some (.int .i64 0) ∧ w9.cell? ⟨b, 9, none⟩ = some (.int .i64 0) ∧ (∀ j, w9.frozen? ⟨b, j, none⟩ = false)) ∧ (∀ o, (w9.alloc o).cell? ⟨b, 0, none⟩ = some (.bool false) ∧ (w9.alloc o).cell? ⟨b, 1, none⟩ = some (.bool false) ∧ (w9.alloc o).cell? ⟨b, 2, none⟩ = some (.bool false) ∧ (w9.alloc o).cell? ⟨b, 3, none⟩ = some (.bool false) ∧ (w9.alloc o).cell? ⟨b, 4, none⟩ = some (.bool false) ∧ (w9.alloc o).cell? ⟨b, 5, none⟩ = some (.int .i64 0) ∧ (w9.alloc o).cell? ⟨b, 6, none⟩ = some (.int .i64 0) ∧ (w9.alloc o).cell? ⟨b, 7, none⟩ = some (.int .i64 0) ∧ (w9.alloc o).cell? ⟨b, 8, none⟩ = some (.int .i64 0) ∧ (w9.alloc o).cell? ⟨b, 9, none⟩ = some (.int .i64 0) ∧ (∀ j, (w9.alloc o).frozen? ⟨b, j, none⟩ = false)) ∧ w9.heap[b]? = some (.cells (cells5 (fun _ => false) (fun _ => 0)) 58 (0, 0)) ∧ (¬ b = w9.heap.size) ∧ (¬ w9.heap.size = b) := by
 have h1 := hk.heap h (fun x => x)
 have h2 := lt_of_block h1
 exact ⟨boxS0 h1, fun o => boxS0 (block_alloc_old _ h1), h1, by omega, by omega⟩
theorem boxR {W w9 : World} (hk : Kept NoBlk W w9) {b : Nat} (h : W.heap[b]? = some (.cells #[.int .i64 0, .int .i64 0, .int .i64 0, .int .i64 0] 62 (0, 0))) : (w9.cell? ⟨b, 0, none⟩ = some (.int .i64 0) ∧ w9.cell? ⟨b, 1, none⟩ = some (.int .i64 0) ∧ w9.cell? ⟨b, 2, none⟩ = some (.int .i64 0) ∧ w9.cell? ⟨b, 3, none⟩ = some (.int .i64 0) ∧ (∀ j, w9.frozen? ⟨b, j, none⟩ = false)) ∧ (∀ o, (w9.alloc o).cell? ⟨b, 0, none⟩ = some (.int .i64 0) ∧ (w9.alloc o).cell? ⟨b, 1, none⟩ = some (.int .i64 0) ∧ (w9.alloc o).cell? ⟨b, 2, none⟩ = some (.int .i64 0) ∧ (w9.alloc o).cell? ⟨b, 3, none⟩ = some (.int .i64 0) ∧ (∀ j, (w9.alloc o).frozen? ⟨b, j, none⟩ = false)) ∧ w9.heap[b]? = some (.cells #[.int .i64 0, .int .i64 0, .int .i64 0, .int .i64 0] 62 (0, 0)) ∧ (¬ b = w9.heap.size) ∧ (¬ w9.heap.size = b) := by
 have h1 := hk.heap h (fun x => x)
 have h2 := lt_of_block h1
 exact ⟨boxR0 h1, fun o => boxR0 (block_alloc_old _ h1), h1, by omega, by omega⟩
theorem runPut {W8 Wb : World} (hk : Kept NoBlk W8 Wb) (tb rb : Nat) (g : Int → Option Int) (r : Int → Int) (x : Value) {n : Nat} {xs : List Value} (htb : Wb.heap[tb]? = some (.cells (cells5 (fun _ => false) (fun _ => 0)) 58 (0, 0))) (hrb : Wb.heap[rb]? = some (.cells #[.int .i64 0, .int .i64 0, .int .i64 0, .int .i64 0] 62 (0, 0))) (h1 : W8.heap.size ≤ tb) (h2 : W8.heap.size ≤ rb) (hx : RowAt Wb 105 3 x n xs) :
  ((((((((((((((Wb.setCell ⟨tb, 0, none⟩ (.bool (Tf g 0))).setCell ⟨tb, 1, none⟩ (.bool (Tf g 1))).setCell ⟨tb, 2, none⟩ (.bool (Tf g 2))).setCell ⟨tb, 3, none⟩ (.bool (Tf g 3))).setCell ⟨tb, 4, none⟩ (.bool (Tf g 4))).setCell ⟨tb, 5, none⟩ (.int .i64 (Vf g 0))).setCell ⟨tb, 6, none⟩ (.int .i64 (Vf g 1))).setCell ⟨tb, 7, none⟩ (.int .i64 (Vf g 2))).setCell ⟨tb, 8, none⟩ (.int .i64 (Vf g 3))).setCell ⟨tb, 9, none⟩ (.int .i64 (Vf g 4))).setCell ⟨rb, 0, none⟩ (.int .i64 (r 0))).setCell ⟨rb, 1, none⟩ (.int .i64 (r 1))).setCell ⟨rb, 2, none⟩ (.int .i64 (r 2))).setCell ⟨rb, 3, none⟩ (.int .i64 (r 3))).heap[tb]? = some (.cells (cells5 (Tf g) (Vf g)) 58 (0, 0)) ∧ W8.heap.size ≤ tb ∧ RowAt ((((((((((((((Wb.setCell ⟨tb, 0, none⟩ (.bool (Tf g 0))).setCell ⟨tb, 1, none⟩ (.bool (Tf g 1))).setCell ⟨tb, 2, none⟩ (.bool (Tf g 2))).setCell ⟨tb, 3, none⟩ (.bool (Tf g 3))).setCell ⟨tb, 4, none⟩ (.bool (Tf g 4))).setCell ⟨tb, 5, none⟩ (.int .i64 (Vf g 0))).setCell ⟨tb, 6, none⟩ (.int .i64 (Vf g 1))).setCell ⟨tb, 7, none⟩ (.int .i64 (Vf g 2))).setCell ⟨tb, 8, none⟩ (.int .i64 (Vf g 3))).setCell ⟨tb, 9, none⟩ (.int .i64 (Vf g 4))).setCell ⟨rb, 0, none⟩ (.int .i64 (r 0))).setCell ⟨rb, 1, none⟩ (.int .i64 (r 1))).setCell ⟨rb, 2, none⟩ (.int .i64 (r 2))).setCell ⟨rb, 3, none⟩ (.int .i64 (r 3))) 105 3 x n xs ∧ Kept NoBlk W8 ((((((((((((((Wb.setCell ⟨tb, 0, none⟩ (.bool (Tf g 0))).setCell ⟨tb, 1, none⟩ (.bool (Tf g 1))).setCell ⟨tb, 2, none⟩ (.bool (Tf g 2))).setCell ⟨tb, 3, none⟩ (.bool (Tf g 3))).setCell ⟨tb, 4, none⟩ (.bool (Tf g 4))).setCell ⟨tb, 5, none⟩ (.int .i64 (Vf g 0))).setCell ⟨tb, 6, none⟩ (.int .i64 (Vf g 1))).setCell ⟨tb, 7, none⟩ (.int .i64 (Vf g 2))).setCell ⟨tb, 8, none⟩ (.int .i64 (Vf g 3))).setCell ⟨tb, 9, none⟩ (.int .i64 (Vf g 4))).setCell ⟨rb, 0, none⟩ (.int .i64 (r 0))).setCell ⟨rb, 1, none⟩ (.int .i64 (r 1))).setCell ⟨rb, 2, none⟩ (.int .i64 (r 2))).setCell ⟨rb, 3, none⟩ (.int .i64 (r 3))) := by
 have hne : tb ≠ rb := fun e => by
  subst e
  rw [htb] at hrb
  simp only [Option.some.injEq, Obj.cells.injEq] at hrb
  exact absurd hrb.2.1 (by decide)
 have hxt : ∀ j, x.ownBlock = some j → j ≠ tb := fun j hj e => by
  subst e
  obtain ⟨cur, hc⟩ := hx.block hj
  rw [htb] at hc
  simp only [Option.some.injEq, Obj.cells.injEq] at hc
  exact absurd hc.2.1 (by decide)
 have hxr : ∀ j, x.ownBlock = some j → j ≠ rb := fun j hj e => by
  subst e
  obtain ⟨cur, hc⟩ := hx.block hj
  rw [hrb] at hc
  simp only [Option.some.injEq, Obj.cells.injEq] at hc
  exact absurd hc.2.1 (by decide)
 have k1 := set10_kept Wb tb (.bool (Tf g 0)) (.bool (Tf g 1)) (.bool (Tf g 2)) (.bool (Tf g 3)) (.bool (Tf g 4)) (.int .i64 (Vf g 0)) (.int .i64 (Vf g 1)) (.int .i64 (Vf g 2)) (.int .i64 (Vf g 3)) (.int .i64 (Vf g 4))
 have a1 := set10_at Wb tb (.bool (Tf g 0)) (.bool (Tf g 1)) (.bool (Tf g 2)) (.bool (Tf g 3)) (.bool (Tf g 4)) (.int .i64 (Vf g 0)) (.int .i64 (Vf g 1)) (.int .i64 (Vf g 2)) (.int .i64 (Vf g 3)) (.int .i64 (Vf g 4)) _ _ _ _ _ _ _ _ _ _ _ htb
 have e0 : ((((((((((((((Wb.setCell ⟨tb, 0, none⟩ (.bool (Tf g 0))).setCell ⟨tb, 1, none⟩ (.bool (Tf g 1))).setCell ⟨tb, 2, none⟩ (.bool (Tf g 2))).setCell ⟨tb, 3, none⟩ (.bool (Tf g 3))).setCell ⟨tb, 4, none⟩ (.bool (Tf g 4))).setCell ⟨tb, 5, none⟩ (.int .i64 (Vf g 0))).setCell ⟨tb, 6, none⟩ (.int .i64 (Vf g 1))).setCell ⟨tb, 7, none⟩ (.int .i64 (Vf g 2))).setCell ⟨tb, 8, none⟩ (.int .i64 (Vf g 3))).setCell ⟨tb, 9, none⟩ (.int .i64 (Vf g 4))).setCell ⟨rb, 0, none⟩ (.int .i64 (r 0))).setCell ⟨rb, 1, none⟩ (.int .i64 (r 1))).setCell ⟨rb, 2, none⟩ (.int .i64 (r 2))).setCell ⟨rb, 3, none⟩ (.int .i64 (r 3))) = ((((set10 Wb tb (.bool (Tf g 0)) (.bool (Tf g 1)) (.bool (Tf g 2)) (.bool (Tf g 3)) (.bool (Tf g 4)) (.int .i64 (Vf g 0)) (.int .i64 (Vf g 1)) (.int .i64 (Vf g 2)) (.int .i64 (Vf g 3)) (.int .i64 (Vf g 4))).setCell ⟨rb, 0, none⟩ (.int .i64 (r 0))).setCell ⟨rb, 1, none⟩ (.int .i64 (r 1))).setCell ⟨rb, 2, none⟩ (.int .i64 (r 2))).setCell ⟨rb, 3, none⟩ (.int .i64 (r 3)) := rfl
 rw [e0]
 generalize set10 Wb tb (.bool (Tf g 0)) (.bool (Tf g 1)) (.bool (Tf g 2)) (.bool (Tf g 3)) (.bool (Tf g 4)) (.int .i64 (Vf g 0)) (.int .i64 (Vf g 1)) (.int .i64 (Vf g 2)) (.int .i64 (Vf g 3)) (.int .i64 (Vf g 4)) = W1 at *
 have k2 : Kept (Blk rb) W1 ((((W1.setCell ⟨rb, 0, none⟩ (.int .i64 (r 0))).setCell ⟨rb, 1, none⟩ (.int .i64 (r 1))).setCell ⟨rb, 2, none⟩ (.int .i64 (r 2))).setCell ⟨rb, 3, none⟩ (.int .i64 (r 3))) := (((Kept.set1 W1 _ 0 _).trans' (Kept.set1 _ _ 1 _)).trans' (Kept.set1 _ _ 2 _)).trans' (Kept.set1 _ _ 3 _)
 refine ⟨k2.heap a1 (fun e => by unfold Blk at e; exact hne e), h1, ?_, ?_⟩
 ·exact (hx.kept k1 (fun j hj e => by unfold Blk at e; exact hxt j hj e)).kept k2 (fun j hj e => by unfold Blk at e; exact hxr j hj e)
 ·exact (hk.trans k1 (fun j e => .inr (by unfold Blk at e; omega))).trans k2 (fun j e => .inr (by unfold Blk at e; omega))
def CutP3 {X Y Z : Type} (f : X → Y → Z → Act) (R : X → Y → Z → World → Prop) (a : Act) (w : World) : Prop := ∃ x y z, a = f x y z ∧ R x y z w
theorem cut3 {P : Program} {c : Code} {K : Act → World → Prop} {Q : Exit → Act → World → Prop} {a : Act} {w : World} {X Y Z : Type} (f : X → Y → Z → Act) (R : X → Y → Z → World → Prop) (h1 : c.wp P (Exit.then (CutP3 f R) Q) a w) (h2 : ∀ x y z w', R x y z w' → Exit.then K Q .normal (f x y z) w') : c.wp P (Exit.then K Q) a w :=
 Code.wp_mono (by intro e a w h; cases e <;> first | exact h | (obtain ⟨x, y, z, rfl, h⟩ := h; exact h2 _ _ _ _ h)) h1
theorem regPut {W8 Wb : World} (hk : Kept NoBlk W8 Wb) (tb rb : Nat) (g : Int → Option Int) (r : Int → Int) (x : Value) {n : Nat} {xs : List Value} (htb : Wb.heap[tb]? = some (.cells (cells5 (Tf g) (Vf g)) 58 (0, 0))) (hrb : Wb.heap[rb]? = some (.cells #[.int .i64 0, .int .i64 0, .int .i64 0, .int .i64 0] 62 (0, 0))) (h1 : W8.heap.size ≤ tb) (h2 : W8.heap.size ≤ rb) (hx : RowAt Wb 105 3 x n xs) :
  ((((Wb.setCell ⟨rb, 0, none⟩ (.int .i64 (r 0))).setCell ⟨rb, 1, none⟩ (.int .i64 (r 1))).setCell ⟨rb, 2, none⟩ (.int .i64 (r 2))).setCell ⟨rb, 3, none⟩ (.int .i64 (r 3))).heap[tb]? = some (.cells (cells5 (Tf g) (Vf g)) 58 (0, 0)) ∧ W8.heap.size ≤ tb ∧ RowAt ((((Wb.setCell ⟨rb, 0, none⟩ (.int .i64 (r 0))).setCell ⟨rb, 1, none⟩ (.int .i64 (r 1))).setCell ⟨rb, 2, none⟩ (.int .i64 (r 2))).setCell ⟨rb, 3, none⟩ (.int .i64 (r 3))) 105 3 x n xs ∧ Kept NoBlk W8 ((((Wb.setCell ⟨rb, 0, none⟩ (.int .i64 (r 0))).setCell ⟨rb, 1, none⟩ (.int .i64 (r 1))).setCell ⟨rb, 2, none⟩ (.int .i64 (r 2))).setCell ⟨rb, 3, none⟩ (.int .i64 (r 3))) := by
 have hne : tb ≠ rb := fun e => by
  subst e
  rw [htb] at hrb
  simp only [Option.some.injEq, Obj.cells.injEq] at hrb
  exact absurd hrb.2.1 (by decide)
 have hxr : ∀ j, x.ownBlock = some j → j ≠ rb := fun j hj e => by
  subst e
  obtain ⟨cur, hc⟩ := hx.block hj
  rw [hrb] at hc
  simp only [Option.some.injEq, Obj.cells.injEq] at hc
  exact absurd hc.2.1 (by decide)
 have k2 : Kept (Blk rb) Wb ((((Wb.setCell ⟨rb, 0, none⟩ (.int .i64 (r 0))).setCell ⟨rb, 1, none⟩ (.int .i64 (r 1))).setCell ⟨rb, 2, none⟩ (.int .i64 (r 2))).setCell ⟨rb, 3, none⟩ (.int .i64 (r 3))) := (((Kept.set1 Wb _ 0 _).trans' (Kept.set1 _ _ 1 _)).trans' (Kept.set1 _ _ 2 _)).trans' (Kept.set1 _ _ 3 _)
 exact ⟨k2.heap htb (fun e => by unfold Blk at e; exact hne e), h1, hx.kept k2 (fun j hj e => by unfold Blk at e; exact hxr j hj e), hk.trans k2 (fun j e => .inr (by unfold Blk at e; omega))⟩
def RunPre (W8 w' : World) : Prop := Kept NoBlk W8 w'
theorem RunPre.kept {W8 W W' : World} (hk : Kept NoBlk W W') (h : RunPre W8 W) : RunPre W8 W' := Kept.trans' h hk
theorem RunPre.alloc {W8 W : World} (o : Obj) (h : RunPre W8 W) : RunPre W8 (W.alloc o) := Kept.alloc h o
theorem RunPre.drew {W8 W : World} (h : RunPre W8 W) : RunPre W8 W.drew := Kept.drew h
theorem RunPre.setCell {W8 W : World} (b o : Nat) (v : Value) (hb : W8.heap.size ≤ b) (h : RunPre W8 W) : RunPre W8 (W.setCell ⟨b, o, none⟩ v) := Kept.setCell h (.inr hb) v
theorem RunPre.cells {W8 w' : World} {ab wb g o : Nat} {u v : Value} {D : Int → Option Int} (h0 : W8.cell? ⟨ab, 0, none⟩ = some (.bool (Tf D 0)) ∧ W8.cell? ⟨ab, 1, none⟩ = some (.bool (Tf D 1)) ∧ W8.cell? ⟨ab, 2, none⟩ = some (.bool (Tf D 2)) ∧ W8.cell? ⟨ab, 3, none⟩ = some (.bool (Tf D 3)) ∧ W8.cell? ⟨ab, 4, none⟩ = some (.bool (Tf D 4)) ∧ W8.cell? ⟨ab, 5, none⟩ = some (.int .i64 (Vf D 0)) ∧ W8.cell? ⟨ab, 6, none⟩ = some (.int .i64 (Vf D 1)) ∧ W8.cell? ⟨ab, 7, none⟩ = some (.int .i64 (Vf D 2)) ∧ W8.cell? ⟨ab, 8, none⟩ = some (.int .i64 (Vf D 3)) ∧ W8.cell? ⟨ab, 9, none⟩ = some (.int .i64 (Vf D 4)) ∧ W8.cell? ⟨wb, 11, none⟩ = some u ∧ W8.cell? ⟨g, o, none⟩ = some v) (h : RunPre W8 w') : w'.cell? ⟨ab, 0, none⟩ = some (.bool (Tf D 0)) ∧ w'.cell? ⟨ab, 1, none⟩ = some (.bool (Tf D 1)) ∧ w'.cell? ⟨ab, 2, none⟩ = some (.bool (Tf D 2)) ∧ w'.cell? ⟨ab, 3, none⟩ = some (.bool (Tf D 3)) ∧ w'.cell? ⟨ab, 4, none⟩ = some (.bool (Tf D 4)) ∧ w'.cell? ⟨ab, 5, none⟩ = some (.int .i64 (Vf D 0)) ∧ w'.cell? ⟨ab, 6, none⟩ = some (.int .i64 (Vf D 1)) ∧ w'.cell? ⟨ab, 7, none⟩ = some (.int .i64 (Vf D 2)) ∧ w'.cell? ⟨ab, 8, none⟩ = some (.int .i64 (Vf D 3)) ∧ w'.cell? ⟨ab, 9, none⟩ = some (.int .i64 (Vf D 4)) ∧ w'.cell? ⟨wb, 11, none⟩ = some u ∧ w'.cell? ⟨g, o, none⟩ = some v ∧ RunPre W8 w' := by
 obtain ⟨a0, a1, a2, a3, a4, a5, a6, a7, a8, a9, a10, a11⟩ := h0
 exact ⟨Kept.cell0 h a0, Kept.cell0 h a1, Kept.cell0 h a2, Kept.cell0 h a3, Kept.cell0 h a4, Kept.cell0 h a5, Kept.cell0 h a6, Kept.cell0 h a7, Kept.cell0 h a8, Kept.cell0 h a9, Kept.cell0 h a10, Kept.cell0 h a11, h⟩
theorem RunPre.held {W8 w' : World} {ab wb g o : Nat} {u v : Value} {D : Int → Option Int} (h : w'.cell? ⟨ab, 0, none⟩ = some (.bool (Tf D 0)) ∧ w'.cell? ⟨ab, 1, none⟩ = some (.bool (Tf D 1)) ∧ w'.cell? ⟨ab, 2, none⟩ = some (.bool (Tf D 2)) ∧ w'.cell? ⟨ab, 3, none⟩ = some (.bool (Tf D 3)) ∧ w'.cell? ⟨ab, 4, none⟩ = some (.bool (Tf D 4)) ∧ w'.cell? ⟨ab, 5, none⟩ = some (.int .i64 (Vf D 0)) ∧ w'.cell? ⟨ab, 6, none⟩ = some (.int .i64 (Vf D 1)) ∧ w'.cell? ⟨ab, 7, none⟩ = some (.int .i64 (Vf D 2)) ∧ w'.cell? ⟨ab, 8, none⟩ = some (.int .i64 (Vf D 3)) ∧ w'.cell? ⟨ab, 9, none⟩ = some (.int .i64 (Vf D 4)) ∧ w'.cell? ⟨wb, 11, none⟩ = some u ∧ w'.cell? ⟨g, o, none⟩ = some v ∧ RunPre W8 w') : RunPre W8 w' := h.2.2.2.2.2.2.2.2.2.2.2.2
theorem Hist.at {D0 : Int → Option Int} {s : St} (h : Hist D0 s) (q : Nat) (hq : q < s.wins.length) : s.wins.take (q + 1) = s.wins.take q ++ [s.wins.getD q 0] ∧ s.wins.getD q 0 ∉ s.wins.take q ∧ (s.tx (s.wins.getD q 0)).reads = (runP (serD D0 (fun i => (s.tx i).ops) (s.wins.take q)) (s.tx (s.wins.getD q 0)).ops).reads ∧ clean (serD D0 (fun i => (s.tx i).ops) (s.wins.take q)) (s.tx (s.wins.getD q 0)).ops ∧ (s.tx (s.wins.getD q 0)).state = 1 ∧ 1 ≤ s.wins.getD q 0 ∧ s.wins.getD q 0 ≤ s.n ∧ serD D0 (fun i => (s.tx i).ops) (s.wins.take (q + 1)) = (runP (serD D0 (fun i => (s.tx i).ops) (s.wins.take q)) (s.tx (s.wins.getD q 0)).ops).f := by
 have e0 : s.wins.getD q 0 = s.wins[q] := by rw [List.getD_eq_getElem?_getD, List.getElem?_eq_getElem hq]; rfl
 have e1 : s.wins.take (q + 1) = s.wins.take q ++ [s.wins.getD q 0] := by rw [List.take_add_one, List.getElem?_eq_getElem hq, e0]; rfl
 have e2 : s.wins = s.wins.take q ++ s.wins.getD q 0 :: s.wins.drop (q + 1) := by
  rw [← List.singleton_append, ← List.append_assoc, ← e1, List.take_append_drop]
 obtain ⟨p1, p2, p3, p4, p5⟩ := h.past _ _ _ e2
 refine ⟨e1, ?_, p1, p2, p3, p4, p5, ?_⟩
 ·have h1 := h.once
  rw [e2, List.nodup_append] at h1
  intro hm
  exact h1.2.2 _ hm _ (by simp) rfl
 ·rw [e1]
  unfold serD
  rw [List.foldl_append]
  rfl
end Go.Proofs.YtmcajfefagdbnaaGreat
