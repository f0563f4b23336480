import Derived.Test.YtmcajfefagdbnaaGreatLKAl1
import Derived.Test.YtmcajfefagdbnaaGreatLKUntouched
namespace Go.Proofs.YtmcajfefagdbnaaGreat
open Go Go.RowKit
def Boxes (ow : Ow) (B : List (Nat × Obj)) (w : World) : Prop := ∀ p ∈ B, w.heap[p.1]? = some p.2 ∧ ¬ OwnP ow p.1
theorem Boxes.keep {ow : Ow} {B : List (Nat × Obj)} {w w' : World} (h : Boxes ow B w) (hk : Kept (OwnP ow) w w') : Boxes ow B w' := fun p hp => ⟨hk.heap (h p hp).1 (h p hp).2, (h p hp).2⟩
theorem Boxes.agree {ow ow' : Ow} {B : List (Nat × Obj)} {w w' : World} (h : Boxes ow B w) (hk : Kept (OwnP ow) w w') (ha : AgreeP w ow ow') : Boxes ow' B w' := fun p hp => ⟨hk.heap (h p hp).1 (h p hp).2, not_own (h p hp).2 ha (Array.getElem?_eq_some_iff.1 (h p hp).1).1⟩
structure AB (L : Lay) (bs : Nat → Nat) (T : Nat → Bool) (V : Nat → Int) (l0 : List (List Op4)) (wb j : Nat) (w : World) (s : St) (ow : Ow) (B : List (Nat × Obj)) (x : Value) (X : List Saw) (wr : World) : Prop where
 st : KSt L bs ow j s wr
 wh : KWh ow wr wb L T V l0
 fr : Fr w.heap.size ow
 kept : Kept NoBlk w wr
 box : Boxes ow B wr
 row : RowAt wr 105 3 x X.length (seenCells X)
 own : ∀ j, x.ownBlock = some j → ¬ OwnP ow j
section
variable {L : Lay} {bs : Nat → Nat} {T : Nat → Bool} {V : Nat → Int} {l0 : List (List Op4)} {wb j : Nat} {w : World} {s : St} {ow : Ow} {B : List (Nat × Obj)} {x : Value} {X : List Saw} {wr W : World}
theorem AB.keep (h : AB L bs T V l0 wb j w s ow B x X wr) (hst : KSt L bs ow j s W) (hk : Kept (OwnP ow) wr W) : AB L bs T V l0 wb j w s ow B x X W :=
 ⟨hst, h.wh.kept hk, h.fr, h.fr.kept (Nat.le_refl _) h.kept hk, h.box.keep hk, h.row.kept hk h.own, h.own⟩
theorem AB.keep0 (h : AB L bs T V l0 wb j w s ow B x X wr) (hk : Kept NoBlk wr W) : AB L bs T V l0 wb j w s ow B x X W :=
 h.keep (h.st.kept hk (fun _ _ x => x)) (hk.mono (fun _ x => x.elim))
theorem AB.push (h : AB L bs T V l0 wb j w s ow B x X wr) (o : Obj) : AB L bs T V l0 wb j w s ow ((wr.heap.size, o) :: B) x X (wr.alloc o) := by
 have h1 := h.keep0 (((Kept.refl NoBlk wr).alloc o))
 refine ⟨h1.st, h1.wh, h1.fr, h1.kept, fun p hp => ?_, h1.row, h1.own⟩
 rcases List.mem_cons.1 hp with rfl | hp
 ·exact ⟨block_alloc_new wr o, fun e => by have := h.st.st.lt _ e; simp only at this; omega⟩
 ·exact h1.box p hp
theorem AB.aft {j' : Nat} {s2 : St} (h : AB L bs T V l0 wb j w s ow B x X wr) (ha : KAft L bs ow j' wr s2 W) : ∃ ow', AB L bs T V l0 wb j' w s2 ow' B x X W := by
 obtain ⟨⟨ow', h1, h2⟩, h3⟩ := ha
 exact ⟨ow', h1, h.wh.aft h3 h2, h.fr.agree h2 h.kept.size, h.fr.kept (Nat.le_refl _) h.kept h3, h.box.agree h3 h2, h.row.kept h3 h.own, fun k hk => not_own (h.own k hk) h2 (h.row.lt k hk)⟩
theorem AB.c0 (h : AB L bs T V l0 wb j w s ow B x X wr) : wr.cell? ⟨wb, 0, none⟩ = some (.pointer (some ⟨L.p, 0, none⟩)) := by
 obtain ⟨ov, xs, b1, _⟩ := h.wh.body
 rw [cell_at b1]; rfl
theorem AB.at (h : AB L bs T V l0 wb j w s ow B x X wr) {b : Nat} {o : Obj} (hb : (b, o) ∈ B) : wr.heap[b]? = some o := (h.box _ hb).1
theorem AB.step (h : AB L bs T V l0 wb j w s ow B x X wr) (id : Int) (hj : j ≤ 140737488355328) {s2 : St} {a b : Int} (e : s.step id = (s2, a, b)) :
  Calls Tryz.prog 22 #[.pointer (some ⟨L.p, 0, none⟩), .int .i64 id] wr fun e w' => e = .returned (.tuple #[.int .i64 a, .int .i64 b]) ∧ ∃ ow', AB L bs T V l0 wb (j + 1) w s2 ow' B x X w' := by
 have := kStep h.st id hj
 rw [e] at this
 exact this.mono (fun e w' ⟨a1, a2⟩ => ⟨a1, h.aft a2⟩)
theorem AB.txn (h : AB L bs T V l0 wb j w s ow B x X wr) (i : Nat) (hin : 1 ≤ i ∧ i ≤ s.n) :
  Calls Tryz.prog 23 #[.pointer (some ⟨L.p, 0, none⟩), .int .i64 (i : Int)] wr fun e w' => ∃ a k, e = .returned (.tuple #[.agg #[.int .i64 (s.tx i).stamp, .int .i64 (s.tx i).state, .int .i64 ((s.tx i).next : Int), .bool (s.tx i).wounded, .bool (s.tx i).waits.isSome, .int .i64 (s.tx i).agains, .slice (some ⟨a, 0, none⟩) 4 4, .slice (some ⟨k, 0, none⟩) (s.tx i).reads.length (s.tx i).reads.length], .int .i64 0]) ∧ AB L bs T V l0 wb j w s ow ((a, .cells (cells4 (s.tx i).regs) 3) :: (k, .cells (seenCells (s.tx i).reads).toArray 105) :: B) x X w' := by
 refine (kTxn h.st i hin).mono ?_
 rintro e w' ⟨v, rfl, ⟨a, k, rfl, t1, t2, t3, t4⟩, h1, h2⟩
 have h3 := h.keep h1 h2
 refine ⟨a, k, rfl, h3.st, h3.wh, h3.fr, h3.kept, fun p hp => ?_, h3.row, h3.own⟩
 rcases List.mem_cons.1 hp with rfl | hp
 ·exact ⟨t3, fun e => by have := h.st.st.lt _ e; simp only at this; omega⟩
 ·rcases List.mem_cons.1 hp with rfl | hp
  ·exact ⟨t4, fun e => by have := h.st.st.lt _ e; simp only at this; omega⟩
  ·exact h3.box p hp
theorem AB.rows (h : AB L bs T V l0 wb j w s ow B x X wr) (hj : j ≤ 140737488355328) :
  Calls Tryz.prog 25 #[.pointer (some ⟨L.p, 0, none⟩)] wr fun e w' => ∃ y l, e = .returned y ∧ RowAt w' 95 2 y l.length (rowCells l) ∧ RowsOf s.rows l ∧ AB L bs T V l0 wb j w s ow B x X w' :=
 (kRows h.st hj).mono (fun _ _ ⟨y, l, a1, a2, _, a6, a3, a4⟩ => ⟨y, l, a1, a2, a6, h.keep a3 a4⟩)
theorem AB.locks (h : AB L bs T V l0 wb j w s ow B x X wr) (key : Int) (hkey : inI key) (he : (∀ j, (s.lk key).h j = 0) ∧ (s.lk key).q = []) :
  Calls Tryz.prog 27 #[.pointer (some ⟨L.p, 0, none⟩), .int .i64 key] wr fun e w' => ∃ va vc a, e = .returned (.tuple #[.slice va 0 vc, .slice (some ⟨a, 0, none⟩) 0 0]) ∧ AB L bs T V l0 wb j w s ow B x X w' := by
 refine (kLocks h.st key hkey).mono ?_
 rintro e w' ⟨vh, l, a, rfl, a2, a5, a6, a7, a8, a3, a4⟩
 have hl := none_holds a6 he.1
 subst hl
 obtain ⟨va, vc, rfl, _⟩ := a2.form
 rw [he.2]
 exact ⟨va, vc, a, rfl, h.keep a3 a4⟩
theorem AB.wins (h : AB L bs T V l0 wb j w s ow B x X wr) (hw : s.wins.length ≤ 1048576) :
  Calls Tryz.prog 29 #[.pointer (some ⟨L.p, 0, none⟩)] wr fun e w' => ∃ a, e = .returned (.slice (some ⟨a, 0, none⟩) s.wins.length s.wins.length) ∧ w'.heap[a]? = some (.cells (winsCells s.wins).toArray 3 (0, 0)) ∧ AB L bs T V l0 wb j w s ow B x X w' :=
 (kWins h.st hw).mono (fun _ _ ⟨a, a1, _, a2, a3, a4⟩ => ⟨a, a1, a2, h.keep a3 a4⟩)
end
def AloneJ (D : Int → Option Int) (ops : List Op4) (s : St) (k : Nat) (z : Int) : Prop :=
 (Solo D s k ∧ k ≤ ops.length ∧ (z = 0 ∨ z = 1)) ∨
 (z = 4 ∧ k ≤ ops.length ∧ ¬ clean D ops ∧ Over D s ∧ (s.tx 1).state = 2 ∧ (s.tx 1).reads = [] ∧ s.rows = D) ∨
 (z = 6 ∧ k = ops.length + 1 ∧ clean D ops ∧ Over D s ∧ (s.tx 1).state = 1 ∧ (s.tx 1).reads = (runP D ops).reads ∧ (s.tx 1).regs = (runP D ops).regs ∧ (s.tx 1).next = ops.length ∧ s.wins = [1] ∧ s.rows = (runP D ops).f)
theorem AloneJ.step {D : Int → Option Int} {ops : List Op4} {s : St} {k : Nat} (h : Solo D s k) (hk : k ≤ ops.length) (ho : (s.tx 1).ops = ops) : ∃ z, s.step 1 = ((s.go 1).1, z, 0) ∧ (z = 1 ∨ z = 4 ∨ z = 6) ∧ AloneJ D ops (s.go 1).1 (k + 1) z ∧ ((s.go 1).1.tx 1).ops = ops := by
 subst ho
 refine ⟨(s.go 1).2, h.stepS, ?_⟩
 by_cases hlt : k < (s.tx 1).ops.length
 ·rcases h.step hlt with ⟨e, h1⟩ | ⟨e, h1⟩
  ·exact ⟨.inl e, .inl ⟨h1, hlt, .inr e⟩, go_ops s 1 1⟩
  ·exact ⟨.inr (.inl e), .inr (.inl ⟨e, hlt, h1⟩), go_ops s 1 1⟩
 ·obtain ⟨e, h1⟩ := h.last (by omega)
  exact ⟨.inr (.inr e), .inr (.inr ⟨e, by omega, h1⟩), go_ops s 1 1⟩
end Go.Proofs.YtmcajfefagdbnaaGreat
