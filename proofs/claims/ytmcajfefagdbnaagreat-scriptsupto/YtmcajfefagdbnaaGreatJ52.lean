import Derived.Test.YtmcajfefagdbnaaGreatRows
import Derived.Test.YtmcajfefagdbnaaGreatJ51
import Derived.ProofKit
import Derived.OpenShut
import Derived.JoinedCond
import Derived.Deep.Slices
namespace Go.Proofs.YtmcajfefagdbnaaGreat
open Go Go.RowKit Go.ChangeShapes Go.WideShapes Go.ChangeAt Go.Deep
theorem cellsRow : Tryz.prog.cellsOf 95 = 2 := by kernel_rfl
theorem cellsSOp : Tryz.prog.cellsOf 41 = 4 := by kernel_rfl
theorem cellsOp : Tryz.prog.cellsOf 114 = 4 := by kernel_rfl
theorem cellsInt : Tryz.prog.cellsOf 3 = 1 := by kernel_rfl
theorem cellsOps : Tryz.prog.cellsOf 39 = 1 := by kernel_rfl
theorem bulk_pos {H : Type} (d : DataW H) : 1 ≤ Rows.uptoBulk d := by
 cases d with
 | lit l => cases l <;> simp [Rows.uptoBulk]
 | nil => simp [Rows.uptoBulk]
 | ptr d => simp [Rows.uptoBulk]
 | slice elems spare => simp [Rows.uptoBulk]
 | agg parts => simp [Rows.uptoBulk]
 | iface t d => simp [Rows.uptoBulk]
 | map entries => simp [Rows.uptoBulk]
 | held h => simp [Rows.uptoBulk]
theorem bulk_part {H : Type} {d : DataW H} {l : List (DataW H)} (h : d ∈ l) : Rows.uptoBulk d ≤ Rows.uptoBulkAll l := by
 induction l with
 | nil => cases h
 | cons x r ih =>
  simp only [Rows.uptoBulkAll]
  cases List.mem_cons.1 h with
  | inl e => subst e; omega
  | inr e => have := ih e; omega
theorem bulk_len {H : Type} (l : List (DataW H)) : l.length ≤ Rows.uptoBulkAll l := by
 induction l with
 | nil => simp [Rows.uptoBulkAll]
 | cons x r ih => have := bulk_pos x; simp only [Rows.uptoBulkAll, List.length_cons]; omega
theorem bulk_slice {H : Type} (f : Nat → DataW H) (n : Nat) (spare : List (DataW H)) : n ≤ Rows.uptoBulk (.slice ((List.range n).map f) spare) ∧ ∀ i, i < n → Rows.uptoBulk (f i) ≤ Rows.uptoBulk (.slice ((List.range n).map f) spare) := by
 have h1 := bulk_len ((List.range n).map f)
 simp only [List.length_map, List.length_range] at h1
 refine ⟨by simp only [Rows.uptoBulk]; omega, fun i hi => ?_⟩
 have h2 := bulk_part (d := f i) (l := (List.range n).map f) (List.mem_map.2 ⟨i, List.mem_range.2 hi, rfl⟩)
 simp only [Rows.uptoBulk]
 omega
theorem cells_get {w : World} {base : Nat} {a : Addr} {n : Nat} {cs : List Value} (h : w.cells? base a n = some cs) (j : Nat) (hj : j < n) : w.cell? (a.add j) = cs[j]? := by
 unfold World.cells? at h
 split at h
 ·exact mapM_some_get h j j (by simp [hj])
 ·cases h
theorem spot_none {w : World} {a : Addr} {v : Value} (h : w.cell? a = some v) : a = ⟨a.block, a.off, none⟩ := by
 obtain ⟨b, o, s⟩ := a
 cases s with
 | none => rfl
 | some s =>
  unfold World.cell? at h
  split at h
  ·simp at h
  ·cases h
theorem list2 {α : Type} {cs : List α} (h : cs.length = 2) : ∃ a b, cs = [a, b] := by
 match cs, h with
 | [a, b], _ => exact ⟨a, b, rfl⟩
theorem list4 {α : Type} {cs : List α} (h : cs.length = 4) : ∃ a b c d, cs = [a, b, c, d] := by
 match cs, h with
 | [a, b, c, d], _ => exact ⟨a, b, c, d, rfl⟩
section
variable {H : Type} {enc : TypeId × Value → H} {w : World} {spare : Nat → Bool} {held : Bool}
theorem open_kop {fuel : Nat} {cs : List Value} {x : DataW H × List MemPlace} (h : DataW.trod enc Tryz.prog w 0 spare held fuel 114 cs = some x) :
  ∃ r : Op4, cs = [.int .i64 r.k, .int .i64 r.a, .int .i64 r.b, .int .i64 r.c] ∧ inI r.k ∧ inI r.a ∧ inI r.b ∧ inI r.c := by
 obtain ⟨xs, n, _, rfl, hl, hlen, hf⟩ := DataW.trod_struct Tryz.underlying114 h
 rw [cellsOp] at hl
 obtain ⟨y0, y1, y2, y3, rfl⟩ := list4 hlen
 have h0 : DataW.trod enc Tryz.prog w 0 spare held n 3 ((cs.drop 0).take (Tryz.prog.cellsOf 3)) = some y0 := hf 0 _ rfl
 have h1 : DataW.trod enc Tryz.prog w 0 spare held n 3 ((cs.drop 1).take (Tryz.prog.cellsOf 3)) = some y1 := hf 1 _ rfl
 have h2 : DataW.trod enc Tryz.prog w 0 spare held n 3 ((cs.drop 2).take (Tryz.prog.cellsOf 3)) = some y2 := hf 2 _ rfl
 have h3 : DataW.trod enc Tryz.prog w 0 spare held n 3 ((cs.drop 3).take (Tryz.prog.cellsOf 3)) = some y3 := hf 3 _ rfl
 obtain ⟨c0, c1, c2, c3, rfl⟩ := list4 hl
 simp only [cellsInt] at h0 h1 h2 h3
 obtain ⟨a, e0, _, w0⟩ := DataW.trod_int Tryz.underlying3 h0
 obtain ⟨b, e1, _, w1⟩ := DataW.trod_int Tryz.underlying3 h1
 obtain ⟨c, e2, _, w2⟩ := DataW.trod_int Tryz.underlying3 h2
 obtain ⟨d, e3, _, w3⟩ := DataW.trod_int Tryz.underlying3 h3
 simp at e0 e1 e2 e3
 subst e0 e1 e2 e3
 exact ⟨⟨a, b, c, d⟩, rfl, wfI.1 w0, wfI.1 w1, wfI.1 w2, wfI.1 w3⟩
theorem getD_range {α : Type} (f : Nat → α) (n i : Nat) (d : α) (h : i < n) : ((List.range n).map f).getD i d = f i := by simp [List.getD, h]
theorem mem_range_map {α : Type} {f : Nat → α} {n : Nat} {x : α} (h : x ∈ (List.range n).map f) : ∃ i, i < n ∧ f i = x := by
 obtain ⟨i, hi, e⟩ := List.mem_map.1 h
 exact ⟨i, List.mem_range.1 hi, e⟩
theorem open_ops {fuel : Nat} {cs : List Value} {x : DataW H × List MemPlace} (h : DataW.trod enc Tryz.prog w 0 spare held fuel 39 cs = some x) :
  ∃ ao c l, cs = [.slice ao l.length c] ∧ OpsIn l ∧ (0 < l.length → ∃ b off, ao = some ⟨b, off, none⟩ ∧ OpsAt w b off l) ∧ l.length ≤ Rows.uptoBulk x.1 := by
 rcases open_slice Tryz.underlying39 h with ⟨rfl, rfl⟩ | ⟨a, len, cap, m, n, D, Pl, rfl, _, _, _, hm, rfl, hel⟩
 ·exact ⟨none, 0, [], rfl, fun o ho => (by cases ho), fun h0 => by simp at h0, by simp⟩
 ·have hlm : ∀ i, i < len → i < m := fun i hi => by rw [hm]; split <;> omega
  have hex : ∀ i, i < len → ∃ r : Op4, w.cell? ((a.add (i * 4)).add 0) = some (.int .i64 r.k) ∧ w.cell? ((a.add (i * 4)).add 1) = some (.int .i64 r.a) ∧ w.cell? ((a.add (i * 4)).add 2) = some (.int .i64 r.b) ∧ w.cell? ((a.add (i * 4)).add 3) = some (.int .i64 r.c) ∧ inI r.k ∧ inI r.a ∧ inI r.b ∧ inI r.c := fun i hi => by
   obtain ⟨cs', hc, ht⟩ := hel i (hlm i hi)
   rw [cellsOp] at hc
   obtain ⟨r, rfl, hr⟩ := open_kop ht
   exact ⟨r, cells_get hc 0 (by omega), cells_get hc 1 (by omega), cells_get hc 2 (by omega), cells_get hc 3 (by omega), hr⟩
  obtain ⟨f, hf⟩ := @choose_lt Op4 ⟨Op4.z⟩ len _ hex
  have hlen : ((List.range len).map f).length = len := by simp
  refine ⟨some a, cap, (List.range len).map f, by rw [hlen], fun o ho => ?_, fun h0 => ?_, by rw [hlen]; exact (bulk_slice D len _).1⟩
  ·obtain ⟨i, hi, rfl⟩ := mem_range_map ho
   exact (hf i hi).2.2.2.2
  ·rw [hlen] at h0
   have hs := spot_none (hf 0 h0).1
   obtain ⟨b, o, s⟩ := a
   simp only [Nat.zero_mul, Addr.add] at hs
   have hs0 : s = none := by simpa using hs
   subst hs0
   refine ⟨b, o, rfl, fun i hi => ?_⟩
   have hi' : i < len := by simpa using hi
   rw [getD_range f len i _ hi']
   obtain ⟨h1, h2, h3, h4, _⟩ := hf i hi'
   rw [Addr.add_lit, Addr.add_lit] at h1 h2 h3 h4
   exact ⟨h1, h2, h3, h4⟩
theorem open_row {fuel : Nat} {cs : List Value} {x : DataW H × List MemPlace} (h : DataW.trod enc Tryz.prog w 0 spare held fuel 95 cs = some x) :
  ∃ r : Row2, cs = [.int .i64 r.k, .int .i64 r.v] ∧ (Lit.int .i64 r.k).wf = true ∧ (Lit.int .i64 r.v).wf = true := by
 obtain ⟨y0, y1, n, rfl, hl, h0, h1⟩ := trod_struct2 Tryz.underlying95 h
 rw [cellsRow] at hl
 obtain ⟨c0, c1, rfl⟩ := list2 hl
 simp only [cellsInt] at h0 h1
 obtain ⟨a, e0, _, w0⟩ := DataW.trod_int Tryz.underlying3 h0
 obtain ⟨b, e1, _, w1⟩ := DataW.trod_int Tryz.underlying3 h1
 simp at e0 e1
 subst e0 e1
 exact ⟨⟨a, b⟩, rfl, w0, w1⟩
theorem open_rows {fuel : Nat} {cs : List Value} {x : DataW H × List MemPlace} (h : DataW.trod enc Tryz.prog w 0 spare held fuel 22 cs = some x) :
  ∃ ao n c l, cs = [.slice ao n c] ∧ l.length = n ∧ RowsWf l ∧ (0 < n → ∃ b off, ao = some ⟨b, off, none⟩ ∧ RowsAt w b off l) ∧ n ≤ Rows.uptoBulk x.1 := by
 rcases open_slice Tryz.underlying22 h with ⟨rfl, rfl⟩ | ⟨a, len, cap, m, n, D, Pl, rfl, _, _, _, hm, rfl, hel⟩
 ·exact ⟨none, 0, 0, [], rfl, rfl, fun i hi => by simp at hi, fun h0 => by omega, by simp⟩
 ·have hlm : ∀ i, i < len → i < m := fun i hi => by rw [hm]; split <;> omega
  have hex : ∀ i, i < len → ∃ r : Row2, w.cell? ((a.add (i * 2)).add 0) = some (.int .i64 r.k) ∧ w.cell? ((a.add (i * 2)).add 1) = some (.int .i64 r.v) ∧ (Lit.int .i64 r.k).wf = true ∧ (Lit.int .i64 r.v).wf = true := fun i hi => by
   obtain ⟨cs', hc, ht⟩ := hel i (hlm i hi)
   rw [cellsRow] at hc
   obtain ⟨r, rfl, w0, w1⟩ := open_row ht
   exact ⟨r, cells_get hc 0 (by omega), cells_get hc 1 (by omega), w0, w1⟩
  obtain ⟨f, hf⟩ := @choose_lt Row2 ⟨Row2.z⟩ len _ hex
  refine ⟨some a, len, cap, (List.range len).map f, rfl, by simp, fun i hi => ?_, fun h0 => ?_, (bulk_slice D len _).1⟩
  ·have hi' : i < len := by simpa using hi
   rw [getD_range f len i _ hi']
   exact (hf i hi').2.2
  ·have hs := spot_none (hf 0 h0).1
   obtain ⟨b, o, s⟩ := a
   simp only [Nat.zero_mul, Addr.add] at hs
   have hs0 : s = none := by simpa using hs
   subst hs0
   refine ⟨b, o, rfl, fun i hi => ?_⟩
   have hi' : i < len := by simpa using hi
   rw [getD_range f len i _ hi']
   have h1 := (hf i hi').1
   have h2 := (hf i hi').2.1
   rw [Addr.add_lit, Addr.add_lit] at h1 h2
   exact ⟨h1, h2⟩
theorem open_sop {fuel : Nat} {cs : List Value} {x : DataW H × List MemPlace} (h : DataW.trod enc Tryz.prog w 0 spare held fuel 41 cs = some x) :
  ∃ r : SO, cs = [.int .i64 r.k, .int .i64 r.n, .int .i64 r.s, .slice r.oa r.l.length r.oc] ∧ OpsIn r.l ∧ inI r.n ∧ (0 < r.l.length → ∃ b off, r.oa = some ⟨b, off, none⟩ ∧ OpsAt w b off r.l) ∧ r.l.length ≤ Rows.uptoBulk x.1 := by
 obtain ⟨xs, n, _, rfl, hl, hlen, hf⟩ := DataW.trod_struct Tryz.underlying41 h
 rw [cellsSOp] at hl
 obtain ⟨y0, y1, y2, y3, rfl⟩ := list4 hlen
 have h0 : DataW.trod enc Tryz.prog w 0 spare held n 3 ((cs.drop 0).take (Tryz.prog.cellsOf 3)) = some y0 := hf 0 _ rfl
 have h1 : DataW.trod enc Tryz.prog w 0 spare held n 3 ((cs.drop 1).take (Tryz.prog.cellsOf 3)) = some y1 := hf 1 _ rfl
 have h2 : DataW.trod enc Tryz.prog w 0 spare held n 3 ((cs.drop 2).take (Tryz.prog.cellsOf 3)) = some y2 := hf 2 _ rfl
 have h3 : DataW.trod enc Tryz.prog w 0 spare held n 39 ((cs.drop 3).take (Tryz.prog.cellsOf 39)) = some y3 := hf 3 _ rfl
 obtain ⟨c0, c1, c2, c3, rfl⟩ := list4 hl
 simp only [cellsInt, cellsOps] at h0 h1 h2 h3
 obtain ⟨a, e0, _, _⟩ := DataW.trod_int Tryz.underlying3 h0
 obtain ⟨b, e1, _, w1⟩ := DataW.trod_int Tryz.underlying3 h1
 obtain ⟨c, e2, _, _⟩ := DataW.trod_int Tryz.underlying3 h2
 obtain ⟨ao, oc, l, e3, hin, hat, hb⟩ := open_ops h3
 simp at e0 e1 e2 e3
 subst e0 e1 e2 e3
 refine ⟨⟨a, b, c, ao, oc, l⟩, rfl, hin, wfI.1 w1, hat, ?_⟩
 have := bulk_part (d := y3.1) (l := [y0.1, y1.1, y2.1, y3.1]) (by simp)
 simp only [List.map_cons, List.map_nil, Rows.uptoBulk]
 omega
theorem open_script {fuel : Nat} {cs : List Value} {x : DataW H × List MemPlace} (h : DataW.trod enc Tryz.prog w 0 spare held fuel 23 cs = some x) (hsm : Rows.uptoBulk x.1 ≤ 1048576) :
  ∃ ao m c us, cs = [.slice ao m c] ∧ m ≤ 1048576 ∧ (0 < m → ∃ b off, ao = some ⟨b, off, none⟩ ∧ ScrAt4 w b off m us) ∧ ∀ i, i < m → (us i).at w := by
 rcases open_slice Tryz.underlying23 h with ⟨rfl, rfl⟩ | ⟨a, len, cap, m, n, D, Pl, rfl, _, _, _, hm, rfl, hel⟩
 ·exact ⟨none, 0, 0, fun _ => ⟨0, 0, 0, none, 0, []⟩, rfl, by omega, fun h0 => by omega, fun i hi => by omega⟩
 ·have hlm : ∀ i, i < len → i < m := fun i hi => by rw [hm]; split <;> omega
  have hbk := bulk_slice D len ((List.range (m - len)).map fun j => D (len + j))
  have hex : ∀ i, i < len → ∃ r : SO, w.cell? ((a.add (i * 4)).add 0) = some (.int .i64 r.k) ∧ w.cell? ((a.add (i * 4)).add 1) = some (.int .i64 r.n) ∧ w.cell? ((a.add (i * 4)).add 2) = some (.int .i64 r.s) ∧ w.cell? ((a.add (i * 4)).add 3) = some (.slice r.oa r.l.length r.oc) ∧ r.at w := fun i hi => by
   obtain ⟨cs', hc, ht⟩ := hel i (hlm i hi)
   rw [cellsSOp] at hc
   obtain ⟨r, rfl, hin, hn, hat, hb⟩ := open_sop ht
   have hbi := hbk.2 i hi
   exact ⟨r, cells_get hc 0 (by omega), cells_get hc 1 (by omega), cells_get hc 2 (by omega), cells_get hc 3 (by omega), ⟨by simp only at hb hsm; omega, hin, hn⟩, hat⟩
  obtain ⟨f, hf⟩ := @choose_lt SO ⟨⟨0, 0, 0, none, 0, []⟩⟩ len _ hex
  refine ⟨some a, len, cap, f, rfl, by have := hbk.1; simp only at hsm; omega, fun h0 => ?_, fun i hi => (hf i hi).2.2.2.2⟩
  have hs := spot_none (hf 0 h0).1
  obtain ⟨b, o, s⟩ := a
  simp only [Nat.zero_mul, Addr.add] at hs
  have hs0 : s = none := by simpa using hs
  subst hs0
  refine ⟨b, o, rfl, fun i hi => ?_⟩
  obtain ⟨h1, h2, h3, h4, _⟩ := hf i hi
  rw [Addr.add_lit, Addr.add_lit] at h1 h2 h3 h4
  exact ⟨h1, h2, h3, h4⟩
end
end Go.Proofs.YtmcajfefagdbnaaGreat
