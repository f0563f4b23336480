import Derived.Test.YtmcajfefagdbnaaGreatLKAl0
import Derived.Test.YtmcajfefagdbnaaGreatLKSer1
namespace Go.Proofs.YtmcajfefagdbnaaGreat
open Go Go.RowKit
theorem regPutR {Wb : World} (rb : Nat) (r : Int → Int) (hrb : Wb.heap[rb]? = some (.cells #[.int .i64 0, .int .i64 0, .int .i64 0, .int .i64 0] 62 (0, 0))) :
  ((((Wb.setCell ⟨rb, 0, none⟩ (.int .i64 (r 0))).setCell ⟨rb, 1, none⟩ (.int .i64 (r 1))).setCell ⟨rb, 2, none⟩ (.int .i64 (r 2))).setCell ⟨rb, 3, none⟩ (.int .i64 (r 3))).heap[rb]? = some (.cells (cells4 r) 62 (0, 0)) := by
 have h1 := block_setCell (o := 0) hrb (.int .i64 (r 0))
 have h2 := block_setCell (o := 1) h1 (.int .i64 (r 1))
 have h3 := block_setCell (o := 2) h2 (.int .i64 (r 2))
 have h4 := block_setCell (o := 3) h3 (.int .i64 (r 3))
 exact h4
theorem runPutR {Wb : World} (tb rb : Nat) (g : Int → Option Int) (r : Int → Int) (htb : Wb.heap[tb]? = some (.cells (cells5 (fun _ => false) (fun _ => 0)) 58 (0, 0))) (hrb : Wb.heap[rb]? = some (.cells #[.int .i64 0, .int .i64 0, .int .i64 0, .int .i64 0] 62 (0, 0))) :
  ((((((((((((((Wb.setCell ⟨tb, 0, none⟩ (.bool (Tf g 0))).setCell ⟨tb, 1, none⟩ (.bool (Tf g 1))).setCell ⟨tb, 2, none⟩ (.bool (Tf g 2))).setCell ⟨tb, 3, none⟩ (.bool (Tf g 3))).setCell ⟨tb, 4, none⟩ (.bool (Tf g 4))).setCell ⟨tb, 5, none⟩ (.int .i64 (Vf g 0))).setCell ⟨tb, 6, none⟩ (.int .i64 (Vf g 1))).setCell ⟨tb, 7, none⟩ (.int .i64 (Vf g 2))).setCell ⟨tb, 8, none⟩ (.int .i64 (Vf g 3))).setCell ⟨tb, 9, none⟩ (.int .i64 (Vf g 4))).setCell ⟨rb, 0, none⟩ (.int .i64 (r 0))).setCell ⟨rb, 1, none⟩ (.int .i64 (r 1))).setCell ⟨rb, 2, none⟩ (.int .i64 (r 2))).setCell ⟨rb, 3, none⟩ (.int .i64 (r 3))).heap[rb]? = some (.cells (cells4 r) 62 (0, 0)) := by
 have hne : tb ≠ rb := fun e => by
  subst e
  rw [htb] at hrb
  simp only [Option.some.injEq, Obj.cells.injEq] at hrb
  exact absurd hrb.2.1 (by decide)
 have k1 := set10_kept Wb tb (.bool (Tf g 0)) (.bool (Tf g 1)) (.bool (Tf g 2)) (.bool (Tf g 3)) (.bool (Tf g 4)) (.int .i64 (Vf g 0)) (.int .i64 (Vf g 1)) (.int .i64 (Vf g 2)) (.int .i64 (Vf g 3)) (.int .i64 (Vf g 4))
 exact regPutR rb r (k1.heap hrb (fun e => by unfold Blk at e; exact hne e.symm))
theorem RunPre.cellsW {W8 w' : World} {wb : Nat} {D : Int → Option Int} (h0 : W8.cell? ⟨wb, 1, none⟩ = some (.bool (Tf D 0)) ∧ W8.cell? ⟨wb, 2, none⟩ = some (.bool (Tf D 1)) ∧ W8.cell? ⟨wb, 3, none⟩ = some (.bool (Tf D 2)) ∧ W8.cell? ⟨wb, 4, none⟩ = some (.bool (Tf D 3)) ∧ W8.cell? ⟨wb, 5, none⟩ = some (.bool (Tf D 4)) ∧ W8.cell? ⟨wb, 6, none⟩ = some (.int .i64 (Vf D 0)) ∧ W8.cell? ⟨wb, 7, none⟩ = some (.int .i64 (Vf D 1)) ∧ W8.cell? ⟨wb, 8, none⟩ = some (.int .i64 (Vf D 2)) ∧ W8.cell? ⟨wb, 9, none⟩ = some (.int .i64 (Vf D 3)) ∧ W8.cell? ⟨wb, 10, none⟩ = some (.int .i64 (Vf D 4))) (h : RunPre W8 w') : w'.cell? ⟨wb, 1, none⟩ = some (.bool (Tf D 0)) ∧ w'.cell? ⟨wb, 2, none⟩ = some (.bool (Tf D 1)) ∧ w'.cell? ⟨wb, 3, none⟩ = some (.bool (Tf D 2)) ∧ w'.cell? ⟨wb, 4, none⟩ = some (.bool (Tf D 3)) ∧ w'.cell? ⟨wb, 5, none⟩ = some (.bool (Tf D 4)) ∧ w'.cell? ⟨wb, 6, none⟩ = some (.int .i64 (Vf D 0)) ∧ w'.cell? ⟨wb, 7, none⟩ = some (.int .i64 (Vf D 1)) ∧ w'.cell? ⟨wb, 8, none⟩ = some (.int .i64 (Vf D 2)) ∧ w'.cell? ⟨wb, 9, none⟩ = some (.int .i64 (Vf D 3)) ∧ w'.cell? ⟨wb, 10, none⟩ = some (.int .i64 (Vf D 4)) ∧ RunPre W8 w' := by
 obtain ⟨a0, a1, a2, a3, a4, a5, a6, a7, a8, a9⟩ := h0
 exact ⟨Kept.cell0 h a0, Kept.cell0 h a1, Kept.cell0 h a2, Kept.cell0 h a3, Kept.cell0 h a4, Kept.cell0 h a5, Kept.cell0 h a6, Kept.cell0 h a7, Kept.cell0 h a8, Kept.cell0 h a9, h⟩
end Go.Proofs.YtmcajfefagdbnaaGreat
