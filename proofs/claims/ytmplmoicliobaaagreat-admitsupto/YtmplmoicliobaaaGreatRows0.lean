import Derived.Test.YtmplmoicliobaaaGreatBase2
import Derived.Test.YtmplmoicliobaaaGreatFresh
namespace Go.Proofs.YtmplmoicliobaaaGreat
open Go Go.RowKit

/-- A row's key and value. -/
structure Row2 where
  k : Int
  v : Int

def Row2.z : Row2 := ⟨0, 0⟩
def Row2.cells (o : Row2) : List Value := [.int .i64 o.k, .int .i64 o.v]
def rowCells (l : List Row2) : List Value := l.flatMap Row2.cells

/-- Rows in memory, from a place on. -/
def RowsAt (w : World) (b off : Nat) (l : List Row2) : Prop := ∀ i, i < l.length →
  w.cell? ⟨b, off + i * 2, none⟩ = some (.int .i64 (l.getD i Row2.z).k) ∧ w.cell? ⟨b, off + i * 2 + 1, none⟩ = some (.int .i64 (l.getD i Row2.z).v)

theorem RowsAt.kept {S : Nat → Prop} {w w' : World} {b off : Nat} {l : List Row2} (h : RowsAt w b off l) (hk : Kept S w w') (hn : ¬ S b) : RowsAt w' b off l := fun i hi =>
  ⟨hk.cell (h i hi).1 hn, hk.cell (h i hi).2 hn⟩

def RowsSrc (w : World) (v : Value) (l : List Row2) : Prop := ∃ ao c, v = .slice ao l.length c ∧ (0 < l.length → ∃ b off, ao = some ⟨b, off, none⟩ ∧ RowsAt w b off l)

theorem rowCells_len (l : List Row2) : (rowCells l).length = l.length * 2 := by
  induction l with
  | nil => rfl
  | cons o l ih => simp only [rowCells, List.flatMap_cons, List.length_append] at ih ⊢; rw [ih]; simp [Row2.cells]; omega

theorem RowsAt.tail {w : World} {b off : Nat} {o : Row2} {l : List Row2} (h : RowsAt w b off (o :: l)) : RowsAt w b (off + 2) l := by
  intro i hi
  have := h (i + 1) (by simpa using hi)
  simp only [List.getD_cons_succ] at this
  rw [show off + (i + 1) * 2 = off + 2 + i * 2 from by omega] at this
  exact this

theorem RowsAt.flat {w : World} {b : Nat} : ∀ {off : Nat} {l : List Row2}, RowsAt w b off l → ∀ j u, (rowCells l)[j]? = some u → w.cell? ((⟨b, off, none⟩ : Addr).add j) = some u
  | off, [], _, j, u, hu => by simp [rowCells] at hu
  | off, o :: l, h, j, u, hu => by
    have h0 := h 0 (by simp)
    simp only [Nat.zero_mul, Nat.add_zero, List.getD_cons_zero] at h0
    rw [Addr.add_lit]
    by_cases hj : j < 2
    · match j, hj with
      | 0, _ => simp [rowCells, Row2.cells] at hu; rw [← hu]; exact h0.1
      | 1, _ => simp [rowCells, Row2.cells] at hu; rw [← hu]; exact h0.2
    · obtain ⟨j, rfl⟩ : ∃ i, j = i + 2 := ⟨j - 2, by omega⟩
      have hu' : (rowCells l)[j]? = some u := by
        simp only [rowCells, List.flatMap_cons] at hu
        rw [List.getElem?_append_right (by simp [Row2.cells])] at hu
        simpa [Row2.cells, rowCells] using hu
      have := RowsAt.flat h.tail j u hu'
      rw [Addr.add_lit] at this
      rw [show off + (j + 2) = off + 2 + j from by omega]
      exact this

theorem rowCells_one (l : List Row2) : ∀ u ∈ rowCells l, u.oneCell' = true := by
  intro u hu
  simp only [rowCells, List.mem_flatMap] at hu
  obtain ⟨o, _, ho⟩ := hu
  simp [Row2.cells] at ho
  rcases ho with rfl | rfl <;> rfl

theorem RowsSrc.mem {w : World} {v : Value} {l : List Row2} (h : RowsSrc w v l) : FromMem w 2 v l.length (rowCells l) := by
  obtain ⟨ao, c, rfl, h⟩ := h
  refine ⟨⟨ao, c, rfl, ?_, ?_⟩, rowCells_len l, rowCells_one l⟩
  · intro hn
    rcases Nat.eq_zero_or_pos l.length with h0 | h0
    · exact h0
    · obtain ⟨b, off, hao, _⟩ := h h0
      rw [hn] at hao
      cases hao
  · intro ad had j u hu
    have h0 : 0 < l.length := by
      rcases Nat.eq_zero_or_pos l.length with h0 | h0
      · rw [List.eq_nil_of_length_eq_zero h0] at hu
        simp [rowCells] at hu
      · exact h0
    obtain ⟨b, off, hao, hat⟩ := h h0
    rw [had] at hao
    obtain rfl := Option.some.inj hao
    exact hat.flat j u hu

theorem RowsAt.src {w : World} {b off c : Nat} {l : List Row2} (h : RowsAt w b off l) : RowsSrc w (.slice (some ⟨b, off, none⟩) l.length c) l := ⟨_, c, rfl, fun _ => ⟨b, off, rfl, h⟩⟩

theorem RowsSrc.kept {S : Nat → Prop} {w w' : World} {v : Value} {l : List Row2} (h : RowsSrc w v l) (hk : Kept S w w') (hn : ∀ b, v.ownBlock = some b → ¬ S b) : RowsSrc w' v l := by
  obtain ⟨ao, c, rfl, h⟩ := h
  refine ⟨ao, c, rfl, fun h0 => ?_⟩
  obtain ⟨b, off, rfl, hat⟩ := h h0
  exact ⟨b, off, rfl, hat.kept hk (hn b rfl)⟩

/-- The keys rise. -/
def Rise (l : List Row2) : Prop := ∀ i, i + 1 < l.length → (l.getD i Row2.z).k < (l.getD (i + 1) Row2.z).k

set_option maxHeartbeats 1600000 in
theorem keysRise_any (ao : Option Addr) (c n : Nat) (l : List Row2) (w : World) (hn : l.length = n) (hl : n ≤ 1048576) (h : 0 < n → ∃ b off, ao = some ⟨b, off, none⟩ ∧ RowsAt w b off l) :
    Calls Tryz.prog 32 #[.slice ao n c] w fun e w' => ∃ r : Bool, e = .returned (.bool r) ∧ (r = true ↔ Rise l) ∧ Kept NoBlk w w' := by
  have Hn : Hid _ := hn
  clear hn
  go_enter Tryz.func32, Tryz.ntmps32
  go_wp2_with fail
  go_loopw [3] (fun i wr => ∃ k nq : Nat, (k + 1 ≤ n ∨ k = 0) ∧ i = .int .i64 ((k : Int) + 1) ∧ (∀ i, i + 1 < k + 1 → (l.getD i Row2.z).k < (l.getD (i + 1) Row2.z).k) ∧ wr = w.drewN nq) (fun i _ => n - (intOf i).toNat)
  case atStart => exact ⟨0, 0, .inr rfl, rfl, fun i hi => by omega, rfl⟩
  case round =>
    obtain ⟨k, nq, hk, rfl, hrise, rfl⟩ := hrel
    by_cases hlt : k + 1 < n
    · obtain ⟨b, off, rfl, hat⟩ := h (by omega)
      have g0 := (hat k (by rw [Hn.out]; omega)).1
      have g1 := (hat (k + 1) (by rw [Hn.out]; omega)).1
      have i1 : (0 : Int) ≤ (k : Int) + 1 := by omega
      have i2 : (k : Int) + 1 < (n : Int) := by omega
      have i3 : (0 : Int) ≤ (k : Int) + 1 - 1 := by omega
      have i4 : (k : Int) + 1 - 1 < (n : Int) := by omega
      have HR : Hid _ := hrise
      have HS : Hid (∀ (hkk : (l.getD k Row2.z).k < (l.getD (k + 1) Row2.z).k), ∀ i, i + 1 < k + 1 + 1 → (l.getD i Row2.z).k < (l.getD (i + 1) Row2.z).k) := fun hkk i hi => by
        by_cases e : i = k
        · subst e; exact hkk
        · exact hrise i (by omega)
      have HN : Hid (¬ (l.getD k Row2.z).k < (l.getD (k + 1) Row2.z).k → ¬ Rise l) := fun hkk hr => hkk (hr k (by rw [Hn.out]; omega))
      clear hrise hat h
      generalize (l.getD k Row2.z).k = a at *
      generalize (l.getD (k + 1) Row2.z).k = a' at *
      go_wp2_with fail
      go_quiet (fail)
      by_cases hle : a' ≤ a
      · go_wp2_with fail
        go_ret
        exact ⟨false, rfl, by simp; exact HN.out (by omega), ((Kept.refl _ _).drewN _).drewN _⟩
      · go_wp2_with fail
        exact ⟨⟨k + 1, _, .inl (by omega), by go_num, HS.out (by omega), rfl⟩, by simp [intOf]; omega⟩
    · have hr : Rise l := fun i hi => hrise i (by rw [Hn.out] at hi; omega)
      go_wp2_with fail
      go_ret
      exact ⟨true, rfl, by simp [hr], (Kept.refl _ _).drewN _⟩
end Go.Proofs.YtmplmoicliobaaaGreat
