import Derived.Test.YtmcajfefagdbnaaGreatRows
import Derived.Test.YtmcajfefagdbnaaGreatQ26
import Derived.ProofKit
import Derived.OpenShut
import Derived.JoinedCond
import Derived.Deep.Slices
import Derived.SizedLaws
import Derived.JoinedOf
namespace Go.Proofs.YtmcajfefagdbnaaGreat
open Go Go.RowKit Go.ChangeShapes Go.WideShapes Go.ChangeAt Go.Deep
theorem cellsOp : Tryz.prog.cellsOf 114 = 4 := by kernel_rfl
theorem cellsInt : Tryz.prog.cellsOf 3 = 1 := by kernel_rfl
theorem cellsOps : Tryz.prog.cellsOf 39 = 1 := by kernel_rfl
theorem bytesInt : Tryz.prog.bytesOf 3 = 8 := by kernel_rfl
theorem bytesOp : Tryz.prog.bytesOf 114 = 32 := by kernel_rfl
theorem bytesOps : Tryz.prog.bytesOf 39 = 24 := by kernel_rfl
theorem wt_all {H : Type} {P : Program} {e : TypeId} {d : DataW H} {n : Nat} (hn : n ∈ d.weights P e) : ∀ {l : List (DataW H)}, d ∈ l → n ∈ DataW.weightsAll P e l
 | x :: r, h => by
  simp only [DataW.weightsAll, List.mem_append]
  rcases List.mem_cons.1 h with e | e
  ·subst e; exact .inl hn
  ·exact .inr (wt_all hn e)
theorem wt_len {H : Type} {P : Program} {t e : TypeId} (hu : P.underlying t = some (.slice e)) {B : Nat} {l r : List (DataW H)} (h : ∀ n ∈ (DataW.slice l r).weights P t, n ≤ B) : (l.length + r.length) * P.bytesOf e ≤ B :=
 h _ (by simp [DataW.weights, hu])
theorem wt_elem {H : Type} {P : Program} {t e : TypeId} (hu : P.underlying t = some (.slice e)) {B : Nat} {l r : List (DataW H)} (h : ∀ n ∈ (DataW.slice l r).weights P t, n ≤ B) {d : DataW H} (hd : d ∈ l) : ∀ n ∈ d.weights P e, n ≤ B :=
 fun n hn => h n (by simp only [DataW.weights, hu, List.mem_cons, List.mem_append]; exact .inr (.inl (wt_all hn hd)))
theorem wt_arg {H : Type} {P : Program} {ts : List TypeId} {ds : List (DataW H)} (h : (DataW.weightsEach P ts ds).all (· ≤ reachBytes) = true) {j : Nat} {t : TypeId} {d : DataW H} (ht : ts[j]? = some t) (hd : ds[j]? = some d) : ∀ n ∈ d.weights P t, n ≤ reachBytes := fun n hn => by
 have := List.all_eq_true.1 h _ (DataW.weights_mem_each ht hd n hn)
 simpa using this
theorem cells_get {w : World} {base : Nat} {a : Addr} {n : Nat} {cs : List Value} (h : w.cells? base a n = some cs) (j : Nat) (hj : j < n) : w.cell? (a.add j) = cs[j]? := by
 unfold World.cells? at h
 split at h
 ·exact mapM_some_get h j j (by simp [hj])
 ·cases h
theorem spot_none {w : World} {a : Addr} {v : Value} (h : w.cell? a = some v) : a = ⟨a.block, a.off, none⟩ := by
 obtain ⟨b, o, s⟩ := a
 cases s with
 | none => rfl
 | some s =>
  unfold World.cell? at h
  split at h
  ·simp at h
  ·cases h
theorem list2 {α : Type} {cs : List α} (h : cs.length = 2) : ∃ a b, cs = [a, b] := by
 match cs, h with
 | [a, b], _ => exact ⟨a, b, rfl⟩
theorem list4 {α : Type} {cs : List α} (h : cs.length = 4) : ∃ a b c d, cs = [a, b, c, d] := by
 match cs, h with
 | [a, b, c, d], _ => exact ⟨a, b, c, d, rfl⟩
section
variable {H : Type} {enc : TypeId × Value → H} {w : World} {spare : Nat → Bool} {held : Bool}
theorem open_kop {fuel : Nat} {cs : List Value} {x : DataW H × List MemPlace} (h : DataW.trod enc Tryz.prog w 0 spare held fuel 114 cs = some x) :
  ∃ r : Op4, cs = [.int .i64 r.k, .int .i64 r.a, .int .i64 r.b, .int .i64 r.c] ∧ inI r.k ∧ inI r.a ∧ inI r.b ∧ inI r.c := by
 obtain ⟨xs, n, _, rfl, hl, hlen, hf⟩ := DataW.trod_struct Tryz.underlying114 h
 rw [cellsOp] at hl
 obtain ⟨y0, y1, y2, y3, rfl⟩ := list4 hlen
 have h0 : DataW.trod enc Tryz.prog w 0 spare held n 3 ((cs.drop 0).take (Tryz.prog.cellsOf 3)) = some y0 := hf 0 _ rfl
 have h1 : DataW.trod enc Tryz.prog w 0 spare held n 3 ((cs.drop 1).take (Tryz.prog.cellsOf 3)) = some y1 := hf 1 _ rfl
 have h2 : DataW.trod enc Tryz.prog w 0 spare held n 3 ((cs.drop 2).take (Tryz.prog.cellsOf 3)) = some y2 := hf 2 _ rfl
 have h3 : DataW.trod enc Tryz.prog w 0 spare held n 3 ((cs.drop 3).take (Tryz.prog.cellsOf 3)) = some y3 := hf 3 _ rfl
 obtain ⟨c0, c1, c2, c3, rfl⟩ := list4 hl
 simp only [cellsInt] at h0 h1 h2 h3
 obtain ⟨a, e0, _, w0⟩ := DataW.trod_int Tryz.underlying3 h0
 obtain ⟨b, e1, _, w1⟩ := DataW.trod_int Tryz.underlying3 h1
 obtain ⟨c, e2, _, w2⟩ := DataW.trod_int Tryz.underlying3 h2
 obtain ⟨d, e3, _, w3⟩ := DataW.trod_int Tryz.underlying3 h3
 simp at e0 e1 e2 e3
 subst e0 e1 e2 e3
 exact ⟨⟨a, b, c, d⟩, rfl, wfI.1 w0, wfI.1 w1, wfI.1 w2, wfI.1 w3⟩
theorem getD_range {α : Type} (f : Nat → α) (n i : Nat) (d : α) (h : i < n) : ((List.range n).map f).getD i d = f i := by simp [List.getD, h]
theorem mem_range_map {α : Type} {f : Nat → α} {n : Nat} {x : α} (h : x ∈ (List.range n).map f) : ∃ i, i < n ∧ f i = x := by
 obtain ⟨i, hi, e⟩ := List.mem_map.1 h
 exact ⟨i, List.mem_range.1 hi, e⟩
theorem open_kops {fuel : Nat} {cs : List Value} {x : DataW H × List MemPlace} (h : DataW.trod enc Tryz.prog w 0 spare held fuel 39 cs = some x) (hz : ∀ n ∈ x.1.weights Tryz.prog 39, n ≤ reachBytes) :
  ∃ v l, cs = [v] ∧ OpsSrc w v l ∧ OpsIn l ∧ l.length ≤ 17592186044416 := by
 rcases open_slice Tryz.underlying39 h with ⟨rfl, rfl⟩ | ⟨a, len, cap, m, n, D, Pl, rfl, _, _, _, hm, rfl, hel⟩
 ·exact ⟨.slice none 0 0, [], rfl, ⟨none, 0, rfl, fun h0 => by simp at h0⟩, fun o ho => (by cases ho), by simp⟩
 ·have hlm : ∀ i, i < len → i < m := fun i hi => by rw [hm]; split <;> omega
  have hex : ∀ i, i < len → ∃ r : Op4, w.cell? ((a.add (i * 4)).add 0) = some (.int .i64 r.k) ∧ w.cell? ((a.add (i * 4)).add 1) = some (.int .i64 r.a) ∧ w.cell? ((a.add (i * 4)).add 2) = some (.int .i64 r.b) ∧ w.cell? ((a.add (i * 4)).add 3) = some (.int .i64 r.c) ∧ inI r.k ∧ inI r.a ∧ inI r.b ∧ inI r.c := fun i hi => by
   obtain ⟨cs', hc, ht⟩ := hel i (hlm i hi)
   rw [cellsOp] at hc
   obtain ⟨r, rfl, hr⟩ := open_kop ht
   exact ⟨r, cells_get hc 0 (by omega), cells_get hc 1 (by omega), cells_get hc 2 (by omega), cells_get hc 3 (by omega), hr⟩
  obtain ⟨f, hf⟩ := @choose_lt Op4 ⟨Op4.z⟩ len _ hex
  have hlen : ((List.range len).map f).length = len := by simp
  refine ⟨_, (List.range len).map f, rfl, ⟨some a, cap, by rw [hlen], fun h0 => ?_⟩, fun o ho => ?_, by
   rw [hlen]
   have hb := wt_len Tryz.underlying39 hz
   rw [bytesOp] at hb
   simp only [List.length_map, List.length_range, reachBytes] at hb
   omega⟩
  ·rw [hlen] at h0
   have hs := spot_none (hf 0 h0).1
   obtain ⟨b, o, s⟩ := a
   simp only [Nat.zero_mul, Addr.add] at hs
   have hs0 : s = none := by simpa using hs
   subst hs0
   refine ⟨b, o, rfl, fun i hi => ?_⟩
   have hi' : i < len := by simpa using hi
   rw [getD_range f len i _ hi']
   obtain ⟨h1, h2, h3, h4, _⟩ := hf i hi'
   rw [Addr.add_lit, Addr.add_lit] at h1 h2 h3 h4
   exact ⟨h1, h2, h3, h4⟩
  ·obtain ⟨i, hi, rfl⟩ := mem_range_map ho
   exact (hf i hi).2.2.2.2
theorem open_ints {fuel : Nat} {cs : List Value} {x : DataW H × List MemPlace} (h : DataW.trod enc Tryz.prog w 0 spare held fuel 45 cs = some x) (hz : ∀ n ∈ x.1.weights Tryz.prog 45, n ≤ reachBytes) :
  ∃ v l, cs = [v] ∧ IntsSrc w v l ∧ (∀ y ∈ l, inI y) ∧ l.length ≤ 17592186044416 := by
 rcases open_slice Tryz.underlying45 h with ⟨rfl, rfl⟩ | ⟨a, len, cap, m, n, D, Pl, rfl, _, _, _, hm, rfl, hel⟩
 ·exact ⟨.slice none 0 0, [], rfl, ⟨none, 0, rfl, fun h0 => by simp at h0⟩, fun o ho => (by cases ho), by simp⟩
 ·have hlm : ∀ i, i < len → i < m := fun i hi => by rw [hm]; split <;> omega
  have hex : ∀ i, i < len → ∃ r : Int, w.cell? ((a.add (i * 1)).add 0) = some (.int .i64 r) ∧ inI r := fun i hi => by
   obtain ⟨cs', hc, ht⟩ := hel i (hlm i hi)
   rw [cellsInt] at hc
   obtain ⟨r, rfl, _, w0⟩ := DataW.trod_int Tryz.underlying3 ht
   exact ⟨r, cells_get hc 0 (by omega), wfI.1 w0⟩
  obtain ⟨f, hf⟩ := @choose_lt Int ⟨0⟩ len _ hex
  have hlen : ((List.range len).map f).length = len := by simp
  refine ⟨_, (List.range len).map f, rfl, ⟨some a, cap, by rw [hlen], fun h0 => ?_⟩, fun o ho => ?_, by
   rw [hlen]
   have hb := wt_len Tryz.underlying45 hz
   rw [bytesInt] at hb
   simp only [List.length_map, List.length_range, reachBytes] at hb
   omega⟩
  ·rw [hlen] at h0
   have hs := spot_none (hf 0 h0).1
   obtain ⟨b, o, s⟩ := a
   simp only [Nat.zero_mul, Addr.add] at hs
   have hs0 : s = none := by simpa using hs
   subst hs0
   refine ⟨b, o, rfl, fun i hi => ?_⟩
   have hi' : i < len := by simpa using hi
   rw [getD_range f len i _ hi']
   have h1 := (hf i hi').1
   rw [Addr.add_lit, Addr.add_lit] at h1
   simpa using h1
  ·obtain ⟨i, hi, rfl⟩ := mem_range_map ho
   exact (hf i hi).2
theorem open_txns {fuel : Nat} {cs : List Value} {x : DataW H × List MemPlace} (h : DataW.trod enc Tryz.prog w 0 spare held fuel 52 cs = some x) (hz : ∀ n ∈ x.1.weights Tryz.prog 52, n ≤ reachBytes) :
  ∃ v ls, cs = [v] ∧ TxnsSrc w v ls ∧ (∀ l ∈ ls, OpsIn l ∧ l.length ≤ 17592186044416) ∧ ls.length ≤ 17592186044416 := by
 rcases open_slice Tryz.underlying52 h with ⟨rfl, rfl⟩ | ⟨a, len, cap, m, n, D, Pl, rfl, _, _, _, hm, rfl, hel⟩
 ·exact ⟨.slice none 0 0, [], rfl, ⟨none, 0, rfl, fun h0 => by simp at h0⟩, fun o ho => (by cases ho), by simp⟩
 ·have hlm : ∀ i, i < len → i < m := fun i hi => by rw [hm]; split <;> omega
  have hb := wt_len Tryz.underlying52 hz
  rw [bytesOps] at hb
  simp only [List.length_map, List.length_range, reachBytes] at hb
  have hex : ∀ i, i < len → ∃ l : List Op4, (∃ v, w.cell? ((a.add (i * 1)).add 0) = some v ∧ OpsSrc w v l) ∧ OpsIn l ∧ l.length ≤ 17592186044416 := fun i hi => by
   obtain ⟨cs', hc, ht⟩ := hel i (hlm i hi)
   rw [cellsOps] at hc
   obtain ⟨v, l, rfl, h1, h2, h3⟩ := open_kops ht (wt_elem Tryz.underlying52 hz (List.mem_map.2 ⟨i, List.mem_range.2 hi, rfl⟩))
   exact ⟨l, ⟨v, cells_get hc 0 (by omega), h1⟩, h2, h3⟩
  obtain ⟨f, hf⟩ := @choose_lt (List Op4) ⟨[]⟩ len _ hex
  have hlen : ((List.range len).map f).length = len := by simp
  refine ⟨_, (List.range len).map f, rfl, ⟨some a, cap, by rw [hlen], fun h0 => ?_⟩, fun o ho => ?_, by rw [hlen]; omega⟩
  ·rw [hlen] at h0
   obtain ⟨v0, hv0, _⟩ := (hf 0 h0).1
   have hs := spot_none hv0
   obtain ⟨b, o, s⟩ := a
   simp only [Nat.zero_mul, Addr.add] at hs
   have hs0 : s = none := by simpa using hs
   subst hs0
   refine ⟨b, o, rfl, fun i hi => ?_⟩
   have hi' : i < len := by simpa using hi
   rw [getD_range f len i _ hi']
   obtain ⟨v, h1, h2⟩ := (hf i hi').1
   rw [Addr.add_lit, Addr.add_lit] at h1
   exact ⟨v, by simpa using h1, h2⟩
  ·obtain ⟨i, hi, rfl⟩ := mem_range_map ho
   exact (hf i hi).2
end
end Go.Proofs.YtmcajfefagdbnaaGreat
