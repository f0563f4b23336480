import Derived.Test.YtmcajfefagdbnaaGreatLPIter
import Derived.Test.YtmcajfefagdbnaaGreatQ10
import Derived.Test.YtmcajfefagdbnaaGreatQ13
import Derived.Maps.OwnSet
namespace Go.Proofs.YtmcajfefagdbnaaGreat
open Go Go.RowKit Go.Maps Go.Sort Go.Shelf
theorem sortsA (m : Nat) : AnyZI.SortsIn Tryz.prog Tryz.sortedA_ren Fence.wide m :=
  ⟨fun blk off cap ss W hH hblk hsz => callsIn_wide.2 (AnyM.slices_Sort_int Tryz.sortA blk off cap ss W hH hblk hsz),
   fun p cap W => callsIn_wide.2 (AnyM.slices_Sort_int_none Tryz.sortA p cap W)⟩
theorem keys_call (mb : Option Nat) (W : World) : Calls Tryz.prog 100 #[.map mb] W fun e w' => e = .returned (.func (.func 135) #[] #[.pointer (some ⟨W.heap.size, 0, none⟩)]) ∧ w' = W.alloc (.cells #[.map mb] 122) :=
 (callsIn_wide (n := 5)).1 (AnyZI.keys_in Tryz.keysA Fence.wide 5 trivial rfl mb W)
def KeysL (f : Int → Option Int) (l : List Int) : Prop := l.Pairwise (fun a b => a < b) ∧ ∀ k, k ∈ l ↔ (f k).isSome = true
theorem intKeys_mem {w : World} {b n : Nat} {D : DataW Value} (hown : w.ownsMap Tryz.prog 3 anyElem b n D) : (intKeys D).Nodup ∧ (∀ x, x ∈ intKeys D ↔ has D (.int .i64 x) = true) ∧ ∀ x ∈ intKeys D, inI x := by
 have hk : Tryz.prog.underlying 3 = some (.int .i64) := Tryz.underlying3
 have hw := intKeys_wf hown hk
 have K : Keyed Tryz.prog 3 := int_keyed Tryz.underlying3
 obtain ⟨es, hD, hpw, _⟩ := hown.entries K
 obtain ⟨es', hD', hko⟩ := hown.keysOf
 obtain rfl : es = es' := by rw [hD] at hD'; simpa using hD'
 subst hD
 have hkk : ∀ p ∈ es, ∃ x, p.1 = .int .i64 x := fun p hp => by obtain ⟨v, hv⟩ := hko p hp; obtain ⟨x, _, hx, _⟩ := Maps.keyOf_i64 hk hv; exact ⟨x, hx⟩
 refine ⟨?_, fun x => ?_, fun x hx => wfI.1 (hw x hx)⟩
 ·unfold intKeys
  refine List.pairwise_map.2 (hpw.imp_of_mem fun {p q} hp' hq' hne e => hne ?_)
  obtain ⟨a, ha⟩ := hkk p hp'
  obtain ⟨b, hb⟩ := hkk q hq'
  rw [ha, hb] at e ⊢
  exact congrArg _ e
 ·rw [has_eq, List.any_eq_true]
  unfold intKeys
  rw [List.mem_map]
  constructor
  ·rintro ⟨p, hp', rfl⟩
   obtain ⟨a, ha⟩ := hkk p hp'
   exact ⟨p, hp', by rw [ha]; simp [Lit.sameKey, Go.intOf]⟩
  ·rintro ⟨p, hp', hs⟩
   obtain ⟨a, ha⟩ := hkk p hp'
   rw [ha] at hs
   exact ⟨p, hp', by rw [ha]; simpa [Lit.sameKey, Go.intOf] using hs⟩
theorem sorted_keys {w : World} {b n : Nat} {D : DataW Value} {f : Int → Option Int} (hown : w.ownsMap Tryz.prog 3 anyElem b n D) (hs : Says keyI D (ivals f)) (hf : ∀ k, f k ≠ none → inI k) {ss : List Int} (hp : ss.Perm (intKeys D)) : KeysL f (ss.mergeSort (fun x y => decide (x ≤ y))) := by
 obtain ⟨h1, h2, h3⟩ := intKeys_mem hown
 have tr : ∀ a b c : Int, decide (a ≤ b) = true → decide (b ≤ c) = true → decide (a ≤ c) = true := fun a b c h1 h2 => by simp only [decide_eq_true_eq] at *; exact Int.le_trans h1 h2
 have to : ∀ a b : Int, (decide (a ≤ b) || decide (b ≤ a)) = true := fun a b => by simp only [Bool.or_eq_true, decide_eq_true_eq]; exact Int.le_total a b
 have hpm := (List.mergeSort_perm ss (fun x y => decide (x ≤ y))).trans hp
 have hnd : (ss.mergeSort (fun x y => decide (x ≤ y))).Nodup := (hpm.nodup_iff).2 h1
 refine ⟨?_, fun k => ?_⟩
 ·have hle := List.pairwise_mergeSort tr to ss
  have : (ss.mergeSort (fun x y => decide (x ≤ y))).Pairwise (fun a b => decide (a ≤ b) = true ∧ a ≠ b) := hle.and hnd
  refine this.imp ?_
  intro a b h
  have h1 : a ≤ b := by simpa using h.1
  have := h.2
  omega
 ·rw [hpm.mem_iff, h2 k]
  constructor
  ·intro hx
   have hi := h3 k ((h2 k).2 hx)
   have := Says.has hs (a := k) hi
   have e : Maps.has D (keyI.lit k) = true := hx
   rw [e] at this
   simpa [ivals] using this.symm
  ·intro hx
   have hi := hf k (fun e => by rw [e] at hx; cases hx)
   have := Says.has hs (a := k) hi
   show Maps.has D (keyI.lit k) = true
   rw [this]
   simpa [ivals] using hx
set_option maxHeartbeats 1000000 in
theorem sorted_call {w : World} {b m : Nat} {f : Int → Option Int} (hm : MapAt keyI w b m (ivals f)) (hf : ∀ k, f k ≠ none → inI k) (hmm : m ≤ 1099511627776) :
  Calls Tryz.prog 99 #[.func (.func 135) #[] #[.pointer (some ⟨w.heap.size, 0, none⟩)]] (w.alloc (.cells #[.map (some b)] 122)) fun e w' => ∃ v l, e = .returned v ∧ RowAt w' 3 1 v l.length (l.map (fun x => Value.int .i64 x)) ∧ (∀ k, v.ownBlock = some k → w.heap.size ≤ k) ∧ KeysL f l ∧ l.length ≤ m ∧ Kept NoBlk w w' := by
 obtain ⟨D, hown, hs⟩ := hm
 have hbl := hown.lt
 have hsz : Maps.size D ≤ m := hown.size_le
 have hseq : SeqGives Fence.wide 2 Tryz.prog 135 #[.pointer (some ⟨w.heap.size, 0, none⟩)] encZ (fun ss => ss.Perm (intKeys D)) (Maps.size D) (w.alloc (.cells #[.map (some b)] 122)) :=
  AnyZI.keys_gives (ρ := Tryz.keysA_ren) { Tryz.keysA with } Fence.wide _ trivial rfl (by omega) w.heap.size b m D _ (by simp) (by simp) (by
   obtain ⟨es, clock, hb, Ft, hs, hD⟩ := hown
   exact ⟨es, clock, (Below.heap_alloc _ _ b hbl).trans hb, Ft, hs, hD⟩)
 have cS := AnyZI.sorted_in Tryz.sortedA Fence.wide 5 trivial trivial trivial trivial rfl (by omega) (sortsA _) (enters_of Tryz.func134 (by kernel_rfl) rfl) 135 #[.pointer (some ⟨w.heap.size, 0, none⟩)] trivial (enters_of Tryz.func135 (by kernel_rfl) rfl) _ _ (by unfold maxLen; omega) (by omega) _ hseq
 change CallsIn _ _ Tryz.prog 99 _ _ _ at cS
 refine ((callsIn_wide (n := 5)).1 cS).mono ?_
 rintro e w' ⟨v, ss, rfl, hS, hrow, _, hb⟩
 have hka : Kept NoBlk w (w.alloc (.cells #[.map (some b)] 122)) := (Kept.refl _ _).alloc _
 have hlen : (ss.mergeSort (fun x y => decide (x ≤ y))).length = ss.length := List.length_mergeSort _
 refine ⟨v, ss.mergeSort (fun x y => decide (x ≤ y)), rfl, ?_, fun k hk => ?_, sorted_keys hown hs hf hS, ?_, hka.trans' (Kept.of_below hb)⟩
 ·rw [hlen]; exact RowAt.owns (ownsRow_base_a hrow (Nat.zero_le _))
 ·rcases hrow.2 with ⟨rfl, _⟩ | ⟨gb, cap, cur, rfl, hbase, _⟩
  ·simp [Value.ownBlock] at hk
  ·obtain rfl : gb = k := by simpa [Value.ownBlock] using hk
   exact Nat.le_trans hka.size hbase
 ·rw [hlen, hS.length_eq]
  obtain ⟨es, clock, _, _, _, hD⟩ := hown
  rw [hD] at hsz ⊢
  simpa [intKeys, Maps.size] using hsz
end Go.Proofs.YtmcajfefagdbnaaGreat
