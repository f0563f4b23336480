import Derived.Test.YtmcajfefagdbnaaGreatJ20
import Derived.Test.YtmcajfefagdbnaaGreatLPInv
namespace Go.Proofs.YtmcajfefagdbnaaGreat
open Go Go.RowKit

def RowsWf (l : List Row2) : Prop := ∀ i, i < l.length → (Lit.int .i64 (l.getD i Row2.z).k).wf = true ∧ (Lit.int .i64 (l.getD i Row2.z).v).wf = true

theorem RowsWf.rows {l : List Row2} (h : RowsWf l) : RowsIn l := fun r hr => by
  obtain ⟨i, hi, rfl⟩ := List.mem_iff_getElem.1 hr
  have := (h i hi).1
  rw [List.getD_eq_getElem?_getD, List.getElem?_eq_getElem hi] at this
  exact wfI.1 this

theorem pnew_any (ao : Option Addr) (c n : Nat) (l : List Row2) (w : World) (hn : l.length = n) (hl : n ≤ 1048576) (h : 0 < n → ∃ b off, ao = some ⟨b, off, none⟩ ∧ RowsAt w b off l) (hw : RowsWf l) :
    Calls Tryz.prog 39 #[.slice ao n c] w fun e w' => Kept NoBlk w w' ∧ ((¬ Rise l ∧ e = .returned (.tuple #[.pointer none, .int .i64 7])) ∨
      (Rise l ∧ ∃ p, e = .returned (.tuple #[.pointer (some ⟨p, 0, none⟩), .int .i64 0]) ∧ PNewAt w.heap.size w'.heap.size p n l w')) := by
  refine (pNew_any ao c n l w hn hl h hw.rows).mono ?_
  rintro e w' ⟨hk, ⟨h1, rfl⟩ | ⟨h1, L, ow, rfl, h2, h3⟩⟩
  · exact ⟨hk, .inl ⟨h1, rfl⟩⟩
  · exact ⟨hk, .inr ⟨h1, L.p, rfl, L, ow, rfl, fun k hk => ⟨h2 k hk, (h3 fun _ => 0).lt k hk⟩, h3 _⟩⟩
end Go.Proofs.YtmcajfefagdbnaaGreat
