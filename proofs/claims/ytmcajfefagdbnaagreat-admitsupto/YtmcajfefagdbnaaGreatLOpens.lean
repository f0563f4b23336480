import Derived.Test.YtmcajfefagdbnaaGreatRows
import Derived.Test.YtmcajfefagdbnaaGreatLAdmits2
import Derived.Test.YtmcajfefagdbnaaGreatJ24
import Derived.ProofKit
import Derived.OpenShut
import Derived.JoinedCond
import Derived.Deep.Slices
namespace Go.Proofs.YtmcajfefagdbnaaGreat
open Go Go.RowKit Go.ChangeShapes Go.WideShapes Go.ChangeAt Go.Deep

theorem cellsRow : Tryz.prog.cellsOf 95 = 2 := by kernel_rfl
theorem cellsSOp : Tryz.prog.cellsOf 41 = 4 := by kernel_rfl

section
variable {H : Type} {enc : TypeId × Value → H} {w : World} {spare : Nat → Bool} {held : Bool}

theorem open_row {fuel : Nat} {cs : List Value} {x : DataW H × List MemPlace} (h : DataW.trod enc Tryz.prog w 0 spare held fuel 95 cs = some x) :
    ∃ r : Row2, cs = [.int .i64 r.k, .int .i64 r.v] ∧ (Lit.int .i64 r.k).wf = true ∧ (Lit.int .i64 r.v).wf = true := by
  obtain ⟨y0, y1, n, rfl, hl, h0, h1⟩ := trod_struct2 Tryz.underlying95 h
  rw [cellsRow] at hl
  obtain ⟨c0, c1, rfl⟩ := list2 hl
  simp only [cellsInt] at h0 h1
  obtain ⟨a, e0, _, w0⟩ := DataW.trod_int Tryz.underlying3 h0
  obtain ⟨b, e1, _, w1⟩ := DataW.trod_int Tryz.underlying3 h1
  simp at e0 e1
  subst e0 e1
  exact ⟨⟨a, b⟩, rfl, w0, w1⟩

theorem open_rows {fuel : Nat} {cs : List Value} {x : DataW H × List MemPlace} (h : DataW.trod enc Tryz.prog w 0 spare held fuel 22 cs = some x) :
    ∃ ao n c l, cs = [.slice ao n c] ∧ l.length = n ∧ RowsWf l ∧ (0 < n → ∃ b off, ao = some ⟨b, off, none⟩ ∧ RowsAt w b off l) ∧ n ≤ Rows.uptoBulk x.1 := by
  rcases open_slice Tryz.underlying22 h with ⟨rfl, rfl⟩ | ⟨a, len, cap, m, n, D, Pl, rfl, _, _, _, hm, rfl, hel⟩
  · exact ⟨none, 0, 0, [], rfl, rfl, fun i hi => by simp at hi, fun h0 => by omega, by simp⟩
  · have hlm : ∀ i, i < len → i < m := fun i hi => by rw [hm]; split <;> omega
    have hex : ∀ i, i < len → ∃ r : Row2, w.cell? ((a.add (i * 2)).add 0) = some (.int .i64 r.k) ∧ w.cell? ((a.add (i * 2)).add 1) = some (.int .i64 r.v) ∧ (Lit.int .i64 r.k).wf = true ∧ (Lit.int .i64 r.v).wf = true := fun i hi => by
      obtain ⟨cs', hc, ht⟩ := hel i (hlm i hi)
      rw [cellsRow] at hc
      obtain ⟨r, rfl, w0, w1⟩ := open_row ht
      exact ⟨r, cells_get hc 0 (by omega), cells_get hc 1 (by omega), w0, w1⟩
    obtain ⟨f, hf⟩ := @choose_lt Row2 ⟨Row2.z⟩ len _ hex
    refine ⟨some a, len, cap, (List.range len).map f, rfl, by simp, fun i hi => ?_, fun h0 => ?_, (bulk_slice D len _).1⟩
    · have hi' : i < len := by simpa using hi
      rw [getD_range f len i _ hi']
      exact (hf i hi').2.2
    · have hs := spot_none (hf 0 h0).1
      obtain ⟨b, o, s⟩ := a
      simp only [Nat.zero_mul, Addr.add] at hs
      have hs0 : s = none := by simpa using hs
      subst hs0
      refine ⟨b, o, rfl, fun i hi => ?_⟩
      have hi' : i < len := by simpa using hi
      rw [getD_range f len i _ hi']
      have h1 := (hf i hi').1
      have h2 := (hf i hi').2.1
      rw [Addr.add_lit, Addr.add_lit] at h1 h2
      exact ⟨h1, h2⟩

theorem open_ops {fuel : Nat} {cs : List Value} {x : DataW H × List MemPlace} (h : DataW.trod enc Tryz.prog w 0 spare held fuel 39 cs = some x) :
    ∃ ao c l, cs = [.slice ao l.length c] ∧ OpsIn l ∧ (0 < l.length → ∃ b off, ao = some ⟨b, off, none⟩ ∧ OpsAt w b off l) ∧ l.length ≤ Rows.uptoBulk x.1 := by
  obtain ⟨v, l, rfl, ⟨ao, c, rfl, h1⟩, h2, h3⟩ := open_kops h
  exact ⟨ao, c, l, rfl, h2, h1, h3⟩

theorem open_sop {fuel : Nat} {cs : List Value} {x : DataW H × List MemPlace} (h : DataW.trod enc Tryz.prog w 0 spare held fuel 41 cs = some x) :
    ∃ r : SOp, cs = [.int .i64 r.k, .int .i64 r.n, .int .i64 r.s, .slice r.oa r.l.length r.oc] ∧ OpsIn r.l ∧ (0 < r.l.length → ∃ b off, r.oa = some ⟨b, off, none⟩ ∧ OpsAt w b off r.l) ∧ r.l.length ≤ Rows.uptoBulk x.1 := by
  obtain ⟨xs, n, _, rfl, hl, hlen, hf⟩ := DataW.trod_struct Tryz.underlying41 h
  rw [cellsSOp] at hl
  obtain ⟨y0, y1, y2, y3, rfl⟩ := list4 hlen
  have h0 : DataW.trod enc Tryz.prog w 0 spare held n 3 ((cs.drop 0).take (Tryz.prog.cellsOf 3)) = some y0 := hf 0 _ rfl
  have h1 : DataW.trod enc Tryz.prog w 0 spare held n 3 ((cs.drop 1).take (Tryz.prog.cellsOf 3)) = some y1 := hf 1 _ rfl
  have h2 : DataW.trod enc Tryz.prog w 0 spare held n 3 ((cs.drop 2).take (Tryz.prog.cellsOf 3)) = some y2 := hf 2 _ rfl
  have h3 : DataW.trod enc Tryz.prog w 0 spare held n 39 ((cs.drop 3).take (Tryz.prog.cellsOf 39)) = some y3 := hf 3 _ rfl
  obtain ⟨c0, c1, c2, c3, rfl⟩ := list4 hl
  simp only [cellsInt, cellsOps] at h0 h1 h2 h3
  obtain ⟨a, e0, _, _⟩ := DataW.trod_int Tryz.underlying3 h0
  obtain ⟨b, e1, _, _⟩ := DataW.trod_int Tryz.underlying3 h1
  obtain ⟨c, e2, _, _⟩ := DataW.trod_int Tryz.underlying3 h2
  obtain ⟨ao, oc, l, e3, hin, hat, hb⟩ := open_ops h3
  simp at e0 e1 e2 e3
  subst e0 e1 e2 e3
  refine ⟨⟨a, b, c, ao, oc, l⟩, rfl, hin, hat, ?_⟩
  have := bulk_part (d := y3.1) (l := [y0.1, y1.1, y2.1, y3.1]) (by simp)
  simp only [List.map_cons, List.map_nil, Rows.uptoBulk]
  omega

theorem open_script {fuel : Nat} {cs : List Value} {x : DataW H × List MemPlace} (h : DataW.trod enc Tryz.prog w 0 spare held fuel 23 cs = some x) (hsm : Rows.uptoBulk x.1 ≤ 1048576) :
    ∃ ao m c us, cs = [.slice ao m c] ∧ m ≤ 1048576 ∧ (0 < m → ∃ b off, ao = some ⟨b, off, none⟩ ∧ ScrAt w b off m us) ∧ ∀ i, i < m → (us i).at w := by
  rcases open_slice Tryz.underlying23 h with ⟨rfl, rfl⟩ | ⟨a, len, cap, m, n, D, Pl, rfl, _, _, _, hm, rfl, hel⟩
  · exact ⟨none, 0, 0, fun _ => ⟨0, 0, 0, none, 0, []⟩, rfl, by omega, fun h0 => by omega, fun i hi => by omega⟩
  · have hlm : ∀ i, i < len → i < m := fun i hi => by rw [hm]; split <;> omega
    have hbk := bulk_slice D len ((List.range (m - len)).map fun j => D (len + j))
    have hex : ∀ i, i < len → ∃ r : SOp, w.cell? ((a.add (i * 4)).add 0) = some (.int .i64 r.k) ∧ w.cell? ((a.add (i * 4)).add 1) = some (.int .i64 r.n) ∧ w.cell? ((a.add (i * 4)).add 2) = some (.int .i64 r.s) ∧ w.cell? ((a.add (i * 4)).add 3) = some (.slice r.oa r.l.length r.oc) ∧ r.at w := fun i hi => by
      obtain ⟨cs', hc, ht⟩ := hel i (hlm i hi)
      rw [cellsSOp] at hc
      obtain ⟨r, rfl, hin, hat, hb⟩ := open_sop ht
      have hbi := hbk.2 i hi
      exact ⟨r, cells_get hc 0 (by omega), cells_get hc 1 (by omega), cells_get hc 2 (by omega), cells_get hc 3 (by omega), ⟨by simp only at hb hsm; omega, hin⟩, hat⟩
    obtain ⟨f, hf⟩ := @choose_lt SOp ⟨⟨0, 0, 0, none, 0, []⟩⟩ len _ hex
    refine ⟨some a, len, cap, f, rfl, by have := hbk.1; simp only at hsm; omega, fun h0 => ?_, fun i hi => (hf i hi).2.2.2.2⟩
    have hs := spot_none (hf 0 h0).1
    obtain ⟨b, o, s⟩ := a
    simp only [Nat.zero_mul, Addr.add] at hs
    have hs0 : s = none := by simpa using hs
    subst hs0
    refine ⟨b, o, rfl, fun i hi => ?_⟩
    obtain ⟨h1, h2, h3, h4, _⟩ := hf i hi
    rw [Addr.add_lit, Addr.add_lit] at h1 h2 h3 h4
    exact ⟨h1, h2, h3, h4⟩
end
end Go.Proofs.YtmcajfefagdbnaaGreat
