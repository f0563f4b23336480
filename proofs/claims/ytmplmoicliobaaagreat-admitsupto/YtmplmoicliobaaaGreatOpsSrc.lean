import Derived.Test.YtmplmoicliobaaaGreatOps
import Derived.Test.YtmplmoicliobaaaGreatMem
namespace Go.Proofs.YtmplmoicliobaaaGreat
open Go Go.RowKit

def opCells (l : List Op4) : List Value := l.flatMap Op4.cells

/-- Operations that a slice shows (nil, or from a place on). -/
def OpsSrc (w : World) (v : Value) (l : List Op4) : Prop := ∃ ao c, v = .slice ao l.length c ∧ (0 < l.length → ∃ b off, ao = some ⟨b, off, none⟩ ∧ OpsAt w b off l)

theorem opCells_len (l : List Op4) : (opCells l).length = l.length * 4 := by
  induction l with
  | nil => rfl
  | cons o l ih => simp only [opCells, List.flatMap_cons, List.length_append] at ih ⊢; rw [ih]; simp [Op4.cells]; omega

theorem OpsAt.tail {w : World} {b off : Nat} {o : Op4} {l : List Op4} (h : OpsAt w b off (o :: l)) : OpsAt w b (off + 4) l := by
  intro i hi
  have := h (i + 1) (by simpa using hi)
  simp only [List.getD_cons_succ] at this
  rw [show off + (i + 1) * 4 = off + 4 + i * 4 from by omega] at this
  exact this

theorem OpsAt.flat {w : World} {b : Nat} : ∀ {off : Nat} {l : List Op4}, OpsAt w b off l → ∀ j u, (opCells l)[j]? = some u → w.cell? ((⟨b, off, none⟩ : Addr).add j) = some u
  | off, [], _, j, u, hu => by simp [opCells] at hu
  | off, o :: l, h, j, u, hu => by
    have h0 := h 0 (by simp)
    simp only [Nat.zero_mul, Nat.add_zero, List.getD_cons_zero] at h0
    rw [Addr.add_lit]
    by_cases hj : j < 4
    · match j, hj with
      | 0, _ => simp [opCells, Op4.cells] at hu; rw [← hu]; exact h0.1
      | 1, _ => simp [opCells, Op4.cells] at hu; rw [← hu]; exact h0.2.1
      | 2, _ => simp [opCells, Op4.cells] at hu; rw [← hu]; exact h0.2.2.1
      | 3, _ => simp [opCells, Op4.cells] at hu; rw [← hu]; exact h0.2.2.2
    · obtain ⟨j, rfl⟩ : ∃ i, j = i + 4 := ⟨j - 4, by omega⟩
      have hu' : (opCells l)[j]? = some u := by
        simp only [opCells, List.flatMap_cons] at hu
        rw [List.getElem?_append_right (by simp [Op4.cells])] at hu
        simpa [Op4.cells, opCells] using hu
      have := OpsAt.flat h.tail j u hu'
      rw [Addr.add_lit] at this
      rw [show off + (j + 4) = off + 4 + j from by omega]
      exact this

theorem opCells_one (l : List Op4) : ∀ u ∈ opCells l, u.oneCell' = true := by
  intro u hu
  simp only [opCells, List.mem_flatMap] at hu
  obtain ⟨o, _, ho⟩ := hu
  simp [Op4.cells] at ho
  rcases ho with rfl | rfl | rfl | rfl <;> rfl

theorem OpsSrc.mem {w : World} {v : Value} {l : List Op4} (h : OpsSrc w v l) : FromMem w 4 v l.length (opCells l) := by
  obtain ⟨ao, c, rfl, h⟩ := h
  refine ⟨⟨ao, c, rfl, ?_, ?_⟩, opCells_len l, opCells_one l⟩
  · intro hn
    rcases Nat.eq_zero_or_pos l.length with h0 | h0
    · exact h0
    · obtain ⟨b, off, hao, _⟩ := h h0
      rw [hn] at hao
      cases hao
  · intro ad had j u hu
    have h0 : 0 < l.length := by
      rcases Nat.eq_zero_or_pos l.length with h0 | h0
      · rw [List.eq_nil_of_length_eq_zero h0] at hu
        simp [opCells] at hu
      · exact h0
    obtain ⟨b, off, hao, hat⟩ := h h0
    rw [had] at hao
    obtain rfl := Option.some.inj hao
    exact hat.flat j u hu

theorem OpsAt.src {w : World} {b off c : Nat} {l : List Op4} (h : OpsAt w b off l) : OpsSrc w (.slice (some ⟨b, off, none⟩) l.length c) l := ⟨_, c, rfl, fun _ => ⟨b, off, rfl, h⟩⟩

theorem OpsSrc.kept {S : Nat → Prop} {w w' : World} {v : Value} {l : List Op4} (h : OpsSrc w v l) (hk : Kept S w w') (hn : 0 < l.length → ∀ b, v.ownBlock = some b → ¬ S b) : OpsSrc w' v l := by
  obtain ⟨ao, c, rfl, h⟩ := h
  refine ⟨ao, c, rfl, fun h0 => ?_⟩
  obtain ⟨b, off, rfl, hat⟩ := h h0
  exact ⟨b, off, rfl, hat.kept hk (hn h0 b rfl)⟩
end Go.Proofs.YtmplmoicliobaaaGreat
