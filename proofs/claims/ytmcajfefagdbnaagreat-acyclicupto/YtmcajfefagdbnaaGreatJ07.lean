import Derived.Test.YtmcajfefagdbnaaGreatJ06
import Derived.Maps.RangeWalk
import Derived.Maps.OwnOps
import Derived.Test.YtmcajfefagdbnaaGreatJ01
import Derived.Test.YtmcajfefagdbnaaGreatProg
import Derived.DeepKeys4
import Derived.KernelRfl
import Derived.RegionTactic
import Derived.BigRegion
namespace Go.Proofs.YtmcajfefagdbnaaGreat
open Go Go.RowKit Go.Sort Go.Lib

theorem isNaN_ok (x : Int) (w : World) : Calls Tryz.prog 138 #[.int .i64 x] w fun e w' => e = .returned (.bool false) ∧ w' = w := by
  go_enter Tryz.func138, Tryz.ntmps138
  go_wp2_with fail
  go_ret
  exact ⟨by simp, rfl⟩

theorem compare_ok (x y : Int) (w : World) : Calls Tryz.prog 103 #[.int .i64 x, .int .i64 y] w fun e w' => e = .returned (.int .i64 (Lib.compareInt x y)) ∧ w' = w := by
  by_cases h1 : x < y
  · have e : Lib.compareInt x y = -1 := by simp [Lib.compareInt, h1]
    rw [e]
    go_enter Tryz.func103, Tryz.ntmps103
    go_wp2_with (go_at_call 138; refine (isNaN_ok _ _).mono ?_; rintro e w' ⟨rfl, rfl⟩)
    go_ret
    exact ⟨rfl, rfl⟩
  · by_cases h2 : y < x
    · have e : Lib.compareInt x y = 1 := by simp [Lib.compareInt, h1, h2]
      rw [e]
      go_enter Tryz.func103, Tryz.ntmps103
      go_wp2_with (go_at_call 138; refine (isNaN_ok _ _).mono ?_; rintro e w' ⟨rfl, rfl⟩)
      go_ret
      exact ⟨rfl, rfl⟩
    · have e : Lib.compareInt x y = 0 := by simp [Lib.compareInt, h1, h2]
      rw [e]
      go_enter Tryz.func103, Tryz.ntmps103
      go_wp2_with (go_at_call 138; refine (isNaN_ok _ _).mono ?_; rintro e w' ⟨rfl, rfl⟩)
      go_ret
      exact ⟨rfl, rfl⟩

theorem closure_ok (x y : Int × Int) (W : World) : Calls Tryz.prog 102 #[.agg #[.int .i64 x.1, .int .i64 x.2], .agg #[.int .i64 y.1, .int .i64 y.2]] W fun e w' => e = .returned (.int .i64 (Lib.compareInt x.1 y.1)) ∧ ∃ q os', w' = grow (W.drewN q) os' := by
  have hcon := fun W' => compare_ok x.1 y.1 W'
  generalize Lib.compareInt x.1 y.1 = r at hcon ⊢
  go_enter Tryz.func102, Tryz.ntmps102
  go_wp2_with (go_at_call 103; refine (hcon _).mono ?_; rintro e w' ⟨rfl, rfl⟩)
  go_ret
  exact ⟨rfl, 0, _, by rw [alloc_eq_grow, alloc_eq_grow, grow_grow]; rfl⟩

theorem cmpLays (blk off size : Nat) (w : World) : CmpLays Tryz.prog 102 #[] encLk 2 (fun x y => Lib.compareInt x.1 y.1) blk off size w :=
  fun _ _ _ _ x y => closure_ok x y _

theorem len12 (n : Nat) (W : World) (h : n ≤ 12) : Calls Tryz.prog 137 #[.int .u64 n] W fun e w' => (∃ l : Int, e = .returned (.int .i64 l)) ∧ w' = W :=
  (Any.bits_Len Tryz.lays125 n W (by omega) (by omega)).mono fun _ _ ⟨he, hw⟩ => ⟨⟨_, he⟩, hw⟩

theorem ltTxn (x y : Int × Int) : ltOf (fun x y : Int × Int => Lib.compareInt x.1 y.1) x y = decide (x.1 < y.1) := by
  unfold ltOf Lib.compareInt
  by_cases h1 : x.1 < y.1
  · simp [h1]
  · by_cases h2 : y.1 < x.1 <;> simp [h1, h2]

theorem swoTxn : SWO (ltOf fun x y : Int × Int => Lib.compareInt x.1 y.1) where
  irrefl x := by rw [ltTxn]; simp
  trans x y z h1 h2 := by rw [ltTxn] at *; simp at *; omega
  ntrans x y z h1 h2 := by rw [ltTxn] at *; simp at *; omega

theorem sortLocks (v : Value) (n : Nat) (l : List (Int × Int)) (w : World) (h : w.ownsRow 0 107 2 v n (lkc l)) (hn : n ≤ 12) :
    Calls Tryz.prog 101 #[v, .func (.func 102) #[] #[]] w fun e w' => ∃ l', e = .returned (.tuple #[]) ∧ l'.Perm l ∧ l'.Pairwise (fun x y => x.1 ≤ y.1) ∧ w'.ownsRow 0 107 2 v n (lkc l') ∧ Kept (fun k => v.ownBlock = some k) w w' := by
  have hl : l.length = n := by have := h.1; rw [lkc_len] at this; omega
  rcases h.2 with ⟨rfl, rfl⟩ | ⟨g, cap, cur, rfl, _, hg, h1, h2, h3, h4⟩
  · have : l = [] := List.eq_nil_of_length_eq_zero hl
    subst this
    refine (show Calls Tryz.prog 101 #[.slice none 0 0, .func (.func 102) #[] #[]] w _ from AnyF.slices_SortFunc_none Tryz.sortLk none 0 _ w).mono ?_
    rintro e w' ⟨rfl, rfl⟩
    exact ⟨[], rfl, List.Perm.refl _, List.Pairwise.nil, h, Kept.refl _ _⟩
  · subst hl
    have eg : ∀ args w, (callFunc 102 args).run Tryz.prog w = .ok (.enter 102 args) w := enters_of Tryz.func102 (by kernel_rfl) rfl
    have hH : HoldsK encLk 2 w g 0 l.toArray := by
      unfold HoldsK
      rw [lkc_flat]
      intro j hj
      have hj' : j < (lkc l).length := by simpa using hj
      refine ⟨?_, frozen_at hg _⟩
      rw [cell_at hg, Nat.zero_add]
      have e1 : (cur.toList.take (l.length * 2))[j]? = (lkc l)[j]? := by rw [h4]
      rw [List.getElem?_take_of_lt (by rw [lkc_len] at hj'; exact hj')] at e1
      rw [← Array.getElem?_toList, e1]
      simp [hj']
    have hcon := AnyQ.slices_SortFunc_small_sorted Tryz.sortLk 2 Tryz.isAgg107 Tryz.sizeOf107 encLk (fun _ => rfl) (fun x v hv => by simp [encLk] at hv; rcases hv with rfl | rfl <;> rfl) (fun x y => Lib.compareInt x.1 y.1)
      102 #[] swoTxn g 0 cap l.toArray w eg (cmpLays g 0 l.toArray.size w) hH (lt_of_block hg) (by simpa using hn) len12
    refine (show Calls Tryz.prog 101 #[.slice (some ⟨g, 0, none⟩) l.length cap, .func (.func 102) #[] #[]] w _ from hcon).mono ?_
    rintro e w' ⟨rfl, d', m, os, hp, hs, rfl⟩
    obtain ⟨l'⟩ := d'
    have hsz : l'.length = l.length := by simpa using hp.1
    have hperm : l'.Perm l := by
      have := hp.2.2
      have e1 : l'.take l.length = l' := List.take_of_length_le (by omega)
      have e2 : l.take l.length = l := List.take_of_length_le (by omega)
      simpa [e1, e2] using this
    refine ⟨l', rfl, hperm, ?_, ⟨by rw [lkc_len, hsz], .inr ⟨g, cap, putCells id 0 (lkc l').toArray cur, rfl, Nat.zero_le _, ?_, h1, h2, ?_, ?_⟩⟩, ?_⟩
    · rw [List.pairwise_iff_getElem]
      intro i j hi hj hij
      have := hs i j (Nat.zero_le _) hij (by simpa [hsz] using hj)
      rw [ltTxn] at this
      simp [hi, hj] at this
      exact this
    · unfold sortWorldK putRowK
      rw [lkc_flat]
      exact putRow_block id m 0 _ os hg
    · simp [putCells, h3]
    · apply List.ext_getElem?
      intro j
      by_cases hj : j < l.length * 2
      · rw [List.getElem?_take_of_lt hj, Array.getElem?_toList]
        have hj2 : j < (lkc l').length := by rw [lkc_len]; omega
        have hj4 : j < l.length * 2 := hj
        have hj3 : j < cur.size := by
          have : l.length * 2 ≤ cap * 2 := Nat.mul_le_mul_right _ h1
          omega
        simp [putCells, hj2, hj3]
      · rw [List.getElem?_take_eq_none (by omega), List.getElem?_eq_none (by rw [lkc_len]; omega)]
    · unfold sortWorldK putRowK
      exact (putRow_kept id w m g 0 _ os).mono (fun k hk => by cases hk; rfl)

end Go.Proofs.YtmcajfefagdbnaaGreat

namespace Go.Proofs.YtmcajfefagdbnaaGreat
open Go Go.RowKit Go.Maps

def anyElem (v : Value) : Option (DataW Value × List MemPlace) := some (.held v, [])

theorem anyElem_inv {v : Value} {y : DataW Value × List MemPlace} (h : anyElem v = some y) : y = (.held v, []) := by simp [anyElem] at h; exact h.symm

/-- A key's type: how a key lies, and what it reads as. -/
structure KeyTy (P : Program) (k : TypeId) (κ : Type) where
  law : Keyed P k
  ok : κ → Prop
  va : κ → Value
  lit : κ → Lit
  key : ∀ a, ok a → keyOf P k (va a) = some (lit a)
  inv : ∀ v kl, keyOf P k v = some kl → ∃ a, ok a ∧ v = va a
  inj : ∀ a b, va a = va b → a = b

variable {P : Program} {k : TypeId} {κ : Type}

theorem KeyTy.isKey (T : KeyTy P k κ) {a : κ} (h : T.ok a) : WideAt.IsKeyLit (T.lit a) := T.law.key (T.key a h)

theorem KeyTy.lit_ne (T : KeyTy P k κ) {a b : κ} (ha : T.ok a) (hb : T.ok b) (h : a ≠ b) : T.lit a ≠ T.lit b := fun e =>
  h (T.inj a b (T.law.inj (T.key a ha) (by rw [e]; exact T.key b hb)))

/-- What stands at each key of D is what g says. -/
def Says (T : KeyTy P k κ) (D : DataW Value) (g : κ → Option Value) : Prop :=
  ∀ a, T.ok a → match g a with | none => has D (T.lit a) = false | some v => ∀ z, D.atKey (T.lit a) z = .held v

def MapAt (T : KeyTy P k κ) (w : World) (b n : Nat) (g : κ → Option Value) : Prop := ∃ D, w.ownsMap P k anyElem b n D ∧ Says T D g

theorem Says.has {T : KeyTy P k κ} {D : DataW Value} {g : κ → Option Value} (h : Says T D g) {a : κ} (ha : T.ok a) : Maps.has D (T.lit a) = (g a).isSome := by
  have := h a ha
  cases hg : g a with
  | none => rw [hg] at this; simpa using this
  | some v => rw [hg] at this; simpa using has_true_of_atKey this

theorem Says.at {T : KeyTy P k κ} {D : DataW Value} {g : κ → Option Value} (h : Says T D g) {a : κ} (ha : T.ok a) {v : Value} (hz : ∀ z, D.atKey (T.lit a) z = .held v) : g a = some v := by
  have := h a ha
  cases hg : g a with
  | none =>
    rw [hg] at this
    have e := has_true_of_atKey hz
    simp only at this
    rw [this] at e
    cases e
  | some u =>
    rw [hg] at this
    have e := (this .nil).symm.trans (hz .nil)
    cases e
    rfl

theorem MapAt.lt {T : KeyTy P k κ} {w : World} {b n : Nat} {g : κ → Option Value} (h : MapAt T w b n g) : b < w.heap.size := by
  obtain ⟨D, h1, _⟩ := h
  exact h1.lt

theorem MapAt.mono {T : KeyTy P k κ} {w : World} {b n m : Nat} {g : κ → Option Value} (h : MapAt T w b n g) (hm : n ≤ m) : MapAt T w b m g := by
  obtain ⟨D, h1, h2⟩ := h
  exact ⟨D, h1.mono hm, h2⟩

theorem MapAt.of_same {T : KeyTy P k κ} {w w' : World} {b n : Nat} {g : κ → Option Value} (h : MapAt T w b n g) (hb : w'.heap[b]? = w.heap[b]?) : MapAt T w' b n g := by
  obtain ⟨D, ⟨es, clock, h1, h2⟩, h3⟩ := h
  exact ⟨D, ⟨es, clock, hb.trans h1, h2⟩, h3⟩

theorem MapAt.kept {T : KeyTy P k κ} {S : Nat → Prop} {w w' : World} {b n : Nat} {g : κ → Option Value} (h : MapAt T w b n g) (hk : Kept S w w') (hb : ¬ S b) : MapAt T w' b n g :=
  h.of_same (hk.block b h.lt hb)

theorem MapAt.congr {T : KeyTy P k κ} {w : World} {b n : Nat} {g g' : κ → Option Value} (h : MapAt T w b n g) (e : ∀ a, T.ok a → g a = g' a) : MapAt T w b n g' := by
  obtain ⟨D, h1, h2⟩ := h
  exact ⟨D, h1, fun a ha => by rw [← e a ha]; exact h2 a ha⟩

theorem MapAt.isMap {T : KeyTy P k κ} {w : World} {b n : Nat} {g : κ → Option Value} (h : MapAt T w b n g) : ∃ es clock, w.heap[b]? = some (.map es clock) := by
  obtain ⟨D, ⟨es, clock, h1, _⟩, _⟩ := h
  exact ⟨es, clock, h1⟩

theorem MapAt.made (T : KeyTy P k κ) (w : World) : MapAt T (w.alloc (.map #[] 0)) w.heap.size 0 (fun _ => none) :=
  ⟨.map [], World.ownsMap_made _ _ _ _, fun _ _ => rfl⟩

theorem MapAt.look {T : KeyTy P k κ} {w : World} {b n : Nat} {g : κ → Option Value} (h : MapAt T w b n g) {t e : TypeId} (ht : P.underlying t = some (.map k e)) {z : Value} (hz : (zeroValue e).run P w = .ok z w) {a : κ} (ha : T.ok a) :
    (Instr.lookup t (.map (some b)) (T.va a) false).run P w = .ok ((g a).getD z) w := by
  obtain ⟨D, ⟨es, clock, hb, F, _, rfl⟩, hs⟩ := h
  have := hs a ha
  rcases Maps.fit_look false T.law ht hz hb F (T.key a ha) with ⟨hrun, _, hat⟩ | ⟨e0, y, _, _, hrun, hRv, hat, _⟩
  · have hf := has_false_of_atKey hat
    have : g a = none := by
      have h1 := Says.has hs ha
      rw [hf] at h1
      simpa using h1.symm
    rw [this]; exact hrun
  · rw [anyElem_inv hRv] at hat
    rw [Says.at hs ha hat]; exact hrun

theorem MapAt.look_ok {T : KeyTy P k κ} {w : World} {b n : Nat} {g : κ → Option Value} (h : MapAt T w b n g) {t e : TypeId} (ht : P.underlying t = some (.map k e)) {z : Value} (hz : (zeroValue e).run P w = .ok z w) {a : κ} (ha : T.ok a) :
    (Instr.lookup t (.map (some b)) (T.va a) true).run P w = .ok (.tuple #[(g a).getD z, .bool (g a).isSome]) w := by
  obtain ⟨D, ⟨es, clock, hb, F, _, rfl⟩, hs⟩ := h
  have := hs a ha
  rcases Maps.fit_look true T.law ht hz hb F (T.key a ha) with ⟨hrun, _, hat⟩ | ⟨e0, y, _, _, hrun, hRv, hat, _⟩
  · have hf := has_false_of_atKey hat
    have : g a = none := by
      have h1 := Says.has hs ha
      rw [hf] at h1
      simpa using h1.symm
    rw [this]; exact hrun
  · rw [anyElem_inv hRv] at hat
    rw [Says.at hs ha hat]; exact hrun

def put {β : Type} [DecidableEq κ] (g : κ → Option β) (a : κ) (v : Option β) : κ → Option β := fun c => if c = a then v else g c

theorem MapAt.store [DecidableEq κ] {T : KeyTy P k κ} {w : World} {b n : Nat} {g : κ → Option Value} (h : MapAt T w b n g) {t e : TypeId} (ht : P.underlying t = some (.map k e)) (hn : n < maxLen) {a : κ} (ha : T.ok a) (v : Value) :
    ∃ w', (Instr.mapUpdate t (.map (some b)) (T.va a) v).run P w = .ok () w' ∧ MapAt T w' b (n + 1) (put g a (some v)) ∧ Kept (Blk b) w w' ∧ w'.heap.size = w.heap.size := by
  obtain ⟨D, hown, hs⟩ := h
  have hm := hown.isMap
  obtain ⟨w', hrun, h1, h2⟩ := hown.update T.law ht hn (T.key a ha) (val := v) (d := .held v) (ps := []) rfl
  obtain ⟨es, clock, hb, F, hsz, rfl⟩ := hown
  obtain ⟨es', clock', hrun', _⟩ := Maps.fit_store (R' := anyElem) T.law ht hb F (Nat.lt_of_le_of_lt hsz hn) (fun _ _ _ _ hz => hz) (T.key a ha) (val := v) (yv := (.held v, [])) rfl
  have e1 : w' = ChangeMaps.setBlock w b (.map es' clock') := by
    have := hrun.symm.trans hrun'
    simpa using this
  refine ⟨w', hrun, ⟨_, h1, fun c hc => ?_⟩, ⟨h2.os, h2.tape, h2.output, h2.size, fun i hi hn => h2.block i hi (fun e => hn (by cases e; rfl))⟩, by rw [e1]; simp [ChangeMaps.setBlock]⟩
  by_cases e : c = a
  · subst e
    simp only [put, if_true]
    exact fun z => atKey_put_same hm (T.isKey ha) _ z
  · have hne := T.lit_ne hc ha e
    have := hs c hc
    simp only [put, if_neg e]
    cases hg : g c with
    | none =>
      rw [hg] at this
      simp only at this ⊢
      rw [has_put_other hne]; exact this
    | some u =>
      rw [hg] at this
      simp only at this ⊢
      exact fun z => (atKey_put_other hne _ z).trans (this z)

theorem MapAt.drop [DecidableEq κ] {T : KeyTy P k κ} {w : World} {b n : Nat} {g : κ → Option Value} (h : MapAt T w b n g) {t e : TypeId} (ht : P.underlying t = some (.map k e)) {a : κ} (ha : T.ok a) (ty : TypeId) :
    ∃ w', (Builtin.delete_ #[t, k] ty #[.map (some b), T.va a]).run P w = .ok (.tuple #[]) w' ∧ MapAt T w' b n (put g a none) ∧ Kept (Blk b) w w' ∧ w'.heap.size = w.heap.size := by
  obtain ⟨D, hown, hs⟩ := h
  obtain ⟨w', hrun, h1, h2⟩ := hown.drop T.law ht (T.key a ha) ty
  have h3 := h2.grown
  refine ⟨w', hrun, ⟨_, h1, fun c hc => ?_⟩, ⟨h3.os, h3.tape, h3.output, h3.size, fun i hi hn => h3.block i hi (fun e => hn (by cases e; rfl))⟩, ?_⟩
  · by_cases e : c = a
    · subst e
      simp only [put, if_true]
      exact has_del_same
    · have hne := T.lit_ne hc ha e
      have := hs c hc
      simp only [put, if_neg e]
      cases hg : g c with
      | none =>
        rw [hg] at this
        simp only at this ⊢
        rw [has_del_other hne]; exact this
      | some u =>
        rw [hg] at this
        simp only at this ⊢
        exact fun z => (atKey_del_other hne z).trans (this z)
  · obtain ⟨es, clock, es', clock', _, rfl⟩ := h2
    simp [ChangeMaps.setBlock]

/-- A range over a map under way: what is still to come. -/
def RangeAt (T : KeyTy P k κ) (w : World) (b r n : Nat) (g : κ → Option Value) (left : κ → Bool) (cnt : Nat) : Prop :=
  ∃ D lf, w.ranges P k anyElem b r n D lf cnt ∧ Says T D g ∧ ∀ a, T.ok a → lf (T.lit a) = left a

theorem RangeAt.map {T : KeyTy P k κ} {w : World} {b r n cnt : Nat} {g : κ → Option Value} {left : κ → Bool} (h : RangeAt T w b r n g left cnt) : MapAt T w b n g := by
  obtain ⟨D, lf, h1, h2, _⟩ := h
  exact ⟨D, h1.owns, h2⟩

theorem RangeAt.left_eq {T : KeyTy P k κ} {w : World} {b r n cnt : Nat} {g : κ → Option Value} {left : κ → Bool} (h : RangeAt T w b r n g left cnt) : w.rangeLeft b r = cnt := by
  obtain ⟨D, lf, h1, h2, _⟩ := h
  exact h1.left_eq

theorem RangeAt.lt {T : KeyTy P k κ} {w : World} {b r n cnt : Nat} {g : κ → Option Value} {left : κ → Bool} (h : RangeAt T w b r n g left cnt) : r < w.heap.size ∧ b < w.heap.size ∧ r ≠ b := by
  obtain ⟨D, lf, h1, h2, _⟩ := h
  exact ⟨h1.lt, h1.owns.lt, h1.ne⟩

theorem RangeAt.kept {T : KeyTy P k κ} {S : Nat → Prop} {w w' : World} {b r n cnt : Nat} {g : κ → Option Value} {left : κ → Bool} (h : RangeAt T w b r n g left cnt) (hk : Kept S w w') (hb : ¬ S b) (hr : ¬ S r) : RangeAt T w' b r n g left cnt := by
  have hl := h.lt
  obtain ⟨D, lf, ⟨es, clock, since, seen, c0, h1, h2, h3, h4, h5, h6⟩, hs⟩ := h
  exact ⟨D, lf, ⟨es, clock, since, seen, c0, (hk.block b hl.2.1 hb).trans h1, h2, h3, h4, (hk.block r hl.1 hr).trans h5, h6⟩, hs⟩

theorem MapAt.range {T : KeyTy P k κ} {w : World} {b n : Nat} {g : κ → Option Value} (h : MapAt T w b n g) {t e : TypeId} (ht : P.underlying t = some (.map k e)) :
    ∃ w' cnt, (Instr.range t (.map (some b))).run P w = .ok (.pointer (some ⟨w.heap.size, 0, none⟩)) w' ∧ RangeAt T w' b w.heap.size n g (fun a => (g a).isSome) cnt ∧ Kept NoBlk w w' ∧ w'.heap.size = w.heap.size + 1 ∧ cnt ≤ n := by
  obtain ⟨D, hown, hs⟩ := h
  have hsz := hown.size_le
  obtain ⟨w', hrun, h1, h2, h3⟩ := hown.range T.law ht
  exact ⟨w', _, hrun, ⟨D, _, h1, hs, fun a ha => hs.has ha⟩, ⟨h2.os, h2.tape, h2.output, h2.size, fun i hi _ => h2.block i hi (by simp)⟩, h3, hsz⟩

theorem RangeAt.next [DecidableEq κ] {T : KeyTy P k κ} {w : World} {b r n cnt : Nat} {g : κ → Option Value} {left : κ → Bool} (h : RangeAt T w b r n g left cnt) (ty : TypeId) :
    (cnt = 0 ∧ (∀ a, T.ok a → left a = false) ∧ (Instr.next (.pointer (some ⟨r, 0, none⟩)) false ty).run P w = .ok (.tuple #[.bool false]) w) ∨
    ∃ a v w' cnt', T.ok a ∧ left a = true ∧ g a = some v ∧ (Instr.next (.pointer (some ⟨r, 0, none⟩)) false ty).run P w = .ok (.tuple #[.bool true, T.va a, v]) w' ∧ RangeAt T w' b r n g (fun c => left c && !decide (c = a)) cnt' ∧ cnt' < cnt ∧
      Kept (Blk r) w w' ∧ w'.heap.size = w.heap.size ∧ (Instr.entry (.pointer (some ⟨r, 0, none⟩))).run P w' = .ok (.tuple #[T.va a, v]) w' := by
  obtain ⟨D, lf, h1, hs, hl⟩ := h
  rcases h1.next T.law ty with ⟨h0, hlf, hrun⟩ | ⟨key, v, kl, y, w', cnt', hkey, hlk, hv, hat, hrun, hrg, hlt, hgr, hsz, hen⟩
  · exact .inl ⟨h0, fun a ha => by rw [← hl a ha]; exact hlf _, hrun⟩
  · obtain ⟨a, ha, rfl⟩ := T.inv key kl hkey
    rw [T.key a ha] at hkey
    cases hkey
    rw [anyElem_inv hv] at hat
    refine .inr ⟨a, v, w', cnt', ha, by rw [← hl a ha]; exact hlk, hs.at ha hat, hrun, ⟨D, _, hrg, hs, fun c hc => ?_⟩, hlt, ⟨hgr.os, hgr.tape, hgr.output, hgr.size, fun i hi hn => hgr.block i hi (fun e => hn (by cases e; rfl))⟩, hsz, hen⟩
    simp only
    rw [hl c hc]
    by_cases e : c = a
    · subst e; simp [WideAt.sameKey_self (T.isKey hc)]
    · simp [e, sameKey_ne (T.lit_ne hc ha e)]

end Go.Proofs.YtmcajfefagdbnaaGreat

namespace Go.Proofs.YtmcajfefagdbnaaGreat
open Go Go.RowKit Go.Maps

def inI (a : Int) : Prop := -9223372036854775808 ≤ a ∧ a ≤ 9223372036854775807

theorem wfI {a : Int} : (Lit.int .i64 a).wf = true ↔ inI a := by
  constructor
  · intro h
    simp only [Lit.wf, Bool.and_eq_true, decide_eq_true_eq] at h
    exact h
  · exact WalkArith.wf_i64

theorem int_inj {q : IntKind} {a b : Int} (h : Value.int q a = .int q b) : a = b := by cases h; rfl

/-- Keys that are ints. -/
def keyI : KeyTy Tryz.prog 3 Int where
  law := int_keyed Tryz.underlying3
  ok := inI
  va := Value.int .i64
  lit := Lit.int .i64
  key a h := keyOf_int_mk Tryz.underlying3 (wfI.2 h)
  inv v kl h := by
    obtain ⟨x, rfl, _, hw⟩ := Maps.keyOf_int_inv Tryz.underlying3 h
    exact ⟨x, wfI.1 hw, rfl⟩
  inj a b h := int_inj h

theorem holdRow : (168 : TypeId) < Tryz.prog.types.size := of_decide_eq_true (by kernel_rfl)
theorem holdCells : Tryz.prog.cellsOf 168 = 2 := by kernel_rfl
theorem holdLaid : laidOutB Tryz.prog = true := by kernel_rfl
theorem holdWide : (match Tryz.prog.underlying 168 with | some (.array _ _) | some (.struct _) => true | _ => false) = true := by kernel_rfl
set_option maxRecDepth 100000 in
theorem holdLaw : WideMaps.KeyLaw Tryz.prog 168 := deep_law_laid holdLaid (m := 2) (by omega) holdRow (by kernel_rfl) holdWide
theorem holdKey : Tryz.prog.keyType 168 = true := by kernel_rfl
theorem aboveSome {a n : Nat} (h : a < n) : ∃ m, n = m + 1 := ⟨n - 1, by omega⟩
theorem typesTwo : ∃ m, Tryz.prog.types.size = m + 1 := aboveSome holdRow
theorem intCells : Tryz.prog.cellsOf 3 = 1 := by kernel_rfl

def holdVal (x : Int × Int) : Value := .agg #[.int .i64 x.1, .int .i64 x.2]
def holdLit (x : Int × Int) : Lit := .string (keyBytes [.int .i64 x.1, .int .i64 x.2])

theorem pairKeyOf {P : Program} {k e : TypeId} {f0 f1 : Field} (hu : P.underlying k = some (.struct #[f0, f1])) (t0 : f0.type = e) (t1 : f1.type = e) (o0 : f0.offset = 0) (o1 : f1.offset = 1) (n0 : (f0.name != "_") = true) (n1 : (f1.name != "_") = true)
    (he : P.underlying e = some (.int .i64)) (hc : P.cellsOf e = 1) (hk : P.cellsOf k = 2) (kt : P.keyType k = true) (hsz : ∃ m, P.types.size = m + 1) (x : Int × Int) (h : inI x.1 ∧ inI x.2) : keyOf P k (holdVal x) = some (holdLit x) := by
  obtain ⟨m, hm⟩ := hsz
  have w1 := wfI.2 h.1
  have w2 := wfI.2 h.2
  simp only [bne_iff_ne, ne_eq] at n0 n1
  simp [keyOf, hu, kt, Value.formed, holdVal, hk, Program.keyLits, hm, Value.cells, he, hc, w1, w2, holdLit, t0, t1, o0, o1, n0, n1]

theorem pairInv {P : Program} {k e : TypeId} {f0 f1 : Field} (hu : P.underlying k = some (.struct #[f0, f1])) (t0 : f0.type = e) (t1 : f1.type = e) (o0 : f0.offset = 0) (o1 : f1.offset = 1) (n0 : (f0.name != "_") = true) (n1 : (f1.name != "_") = true)
    (he : P.underlying e = some (.int .i64)) (hc : P.cellsOf e = 1) (hk : P.cellsOf k = 2) (hsz : ∃ m, P.types.size = m + 1) (v : Value) (kl : Lit) (h : keyOf P k v = some kl) : ∃ x : Int × Int, (inI x.1 ∧ inI x.2) ∧ v = holdVal x := by
  obtain ⟨m, hm⟩ := hsz
  simp only [bne_iff_ne, ne_eq] at n0 n1
  simp only [keyOf, hu] at h
  split at h
  · rename_i hf
    simp only [Bool.and_eq_true] at hf
    have hf2 := hf.2
    cases v <;> simp [Value.formed, hu, hk] at hf2
    rename_i cs
    obtain ⟨c0, c1, rfl⟩ : ∃ c0 c1, cs = #[c0, c1] := by
      obtain ⟨l⟩ := cs
      match l, hf2 with
      | [c0, c1], _ => exact ⟨c0, c1, rfl⟩
    simp [Program.keyLits, hm, Value.cells, hu, he, hc, hk, t0, t1, o0, o1, n0, n1] at h
    cases c0 <;> simp at h
    rename_i q0 a0
    by_cases e0 : q0 = .i64 ∧ (Lit.int .i64 a0).wf = true
    · obtain ⟨rfl, w0⟩ := e0
      simp only [w0, and_self, if_true, Option.bind_some] at h
      cases c1 <;> simp at h
      rename_i q1 a1
      by_cases e1 : q1 = .i64 ∧ (Lit.int .i64 a1).wf = true
      · obtain ⟨rfl, w1⟩ := e1
        exact ⟨(a0, a1), ⟨wfI.1 w0, wfI.1 w1⟩, rfl⟩
      · simp [e1] at h
    · simp [e0] at h
  · cases h

theorem holdKeyOf (x : Int × Int) (h : inI x.1 ∧ inI x.2) : keyOf Tryz.prog 168 (holdVal x) = some (holdLit x) :=
  pairKeyOf Tryz.underlying168 rfl rfl rfl rfl (by decide) (by decide) Tryz.underlying3 intCells holdCells holdKey typesTwo x h

theorem holdInv (v : Value) (kl : Lit) (h : keyOf Tryz.prog 168 v = some kl) : ∃ x : Int × Int, (inI x.1 ∧ inI x.2) ∧ v = holdVal x :=
  pairInv Tryz.underlying168 rfl rfl rfl rfl (by decide) (by decide) Tryz.underlying3 intCells holdCells typesTwo v kl h

/-- Keys of a row and a transaction. -/
def keyH : KeyTy Tryz.prog 168 (Int × Int) where
  law := Keyed.of_law holdLaw
  ok x := inI x.1 ∧ inI x.2
  va := holdVal
  lit := holdLit
  key := holdKeyOf
  inv := holdInv
  inj a b h := by
    simp only [holdVal, Value.agg.injEq, Array.mk.injEq, List.cons.injEq, Value.int.injEq, true_and, and_true] at h
    exact Prod.ext h.1 h.2

end Go.Proofs.YtmcajfefagdbnaaGreat

namespace Go.Proofs.YtmcajfefagdbnaaGreat
open Go Go.RowKit

theorem zeroInt (w : World) : (zeroValue 3).run Tryz.prog w = .ok (.int .i64 0) w := by kernel_rfl

theorem alloc_size (w : World) (a : Obj) : (w.alloc a).heap.size = w.heap.size + 1 := by simp
theorem block_new2 (w : World) (a b : Obj) : ((w.alloc a).alloc b).heap[w.heap.size + 1]? = some b := by rw [← alloc_size w a]; exact block_alloc_new _ _
theorem block_new3 (w : World) (a b c : Obj) : (((w.alloc a).alloc b).alloc c).heap[w.heap.size + 1 + 1]? = some c := by rw [← alloc_size w a, ← alloc_size (w.alloc a) b]; exact block_alloc_new _ _

def ivals (f : Int → Option Int) : Int → Option Value := fun k => (f k).map (Value.int .i64)

/-- A function value that puts a row back as it was. -/
def PutsBack (w : World) (T : Nat → Prop) (p : Nat) (c : Value) (key : Int) (old : Option Int) : Prop :=
  match old with
  | some v => ∃ x s r, c = .func (.func 156) #[] #[.pointer (some ⟨x, 0, none⟩), .pointer (some ⟨s, 0, none⟩), .pointer (some ⟨r, 0, none⟩)] ∧
      w.heap[x]? = some (.cells #[.int .i64 v] 3 (0, 0)) ∧ w.heap[s]? = some (.cells #[.pointer (some ⟨p, 0, none⟩)] 35 (0, 0)) ∧ w.heap[r]? = some (.cells #[.int .i64 key] 3 (0, 0)) ∧ T x ∧ T s ∧ T r
  | none => ∃ s r, c = .func (.func 155) #[] #[.pointer (some ⟨s, 0, none⟩), .pointer (some ⟨r, 0, none⟩)] ∧
      w.heap[s]? = some (.cells #[.pointer (some ⟨p, 0, none⟩)] 35 (0, 0)) ∧ w.heap[r]? = some (.cells #[.int .i64 key] 3 (0, 0)) ∧ T s ∧ T r

theorem PutsBack.of_same {w w' : World} {T T' : Nat → Prop} {p : Nat} {c : Value} {key : Int} {old : Option Int} (h : PutsBack w T p c key old) (hT : ∀ k, k < w.heap.size → T k → T' k) (hb : ∀ k, k < w.heap.size → T k → w'.heap[k]? = w.heap[k]?) : PutsBack w' T' p c key old := by
  cases old with
  | none =>
    obtain ⟨s, r, h1, h2, h3, h4, h5⟩ := h
    exact ⟨s, r, h1, (hb s (lt_of_block h2) h4).trans h2, (hb r (lt_of_block h3) h5).trans h3, hT s (lt_of_block h2) h4, hT r (lt_of_block h3) h5⟩
  | some v =>
    obtain ⟨x, s, r, h1, h0, h2, h3, h6, h4, h5⟩ := h
    exact ⟨x, s, r, h1, (hb x (lt_of_block h0) h6).trans h0, (hb s (lt_of_block h2) h4).trans h2, (hb r (lt_of_block h3) h5).trans h3, hT x (lt_of_block h0) h6, hT s (lt_of_block h2) h4, hT r (lt_of_block h3) h5⟩

set_option maxHeartbeats 1600000 in
theorem putBack_some (p vb n : Nat) (row v : Int) (f : Int → Option Int) (w : World) (hp : w.cell? ⟨p, 3, none⟩ = some (.map (some vb))) (hm : MapAt keyI w vb n (ivals f)) (hr : inI row) (hv : f row = some v) :
    Calls Tryz.prog 132 #[.pointer (some ⟨p, 0, none⟩), .int .i64 row] w fun e w' => ∃ c, e = .returned c ∧ PutsBack w' (fun k => w.heap.size ≤ k) p c row (f row) ∧ Kept NoBlk w w' := by
  have hpl := World.block_lt_of_cell? w _ hp
  have look : ∀ W, Kept NoBlk w W → (Instr.lookup 122 (.map (some vb)) (.int .i64 row) true).run Tryz.prog W = .ok (.tuple #[.int .i64 v, .bool true]) W := by
    intro W hk
    have hl := (hm.kept hk (fun x => x)).look_ok Tryz.underlying122 (zeroInt _) (a := row) hr
    simp only [ivals, hv, Option.map_some, Option.getD_some, Option.isSome_some] at hl
    exact hl
  have l1 : ∀ o1 o2, (Instr.lookup 122 (.map (some vb)) (.int .i64 row) true).run Tryz.prog ((w.alloc o1).alloc o2).drew = .ok (.tuple #[.int .i64 v, .bool true]) ((w.alloc o1).alloc o2).drew := fun o1 o2 => look _ (((Kept.refl _ _).alloc _).alloc _).drew
  have l2 : ∀ o1 o2 o3, (Instr.lookup 122 (.map (some vb)) (.int .i64 row) true).run Tryz.prog (((w.alloc o1).alloc o2).alloc o3).drew = .ok (.tuple #[.int .i64 v, .bool true]) (((w.alloc o1).alloc o2).alloc o3).drew := fun o1 o2 o3 => look _ ((((Kept.refl _ _).alloc _).alloc _).alloc _).drew
  have c1 : ∀ o1 o2, ((w.alloc o1).alloc o2).cell? ⟨p, 3, none⟩ = some (.map (some vb)) := fun o1 o2 => (((Kept.refl NoBlk w).alloc o1).alloc o2).cell0 hp
  have c2 : ∀ o1 o2 o3, (((w.alloc o1).alloc o2).alloc o3).cell? ⟨p, 3, none⟩ = some (.map (some vb)) := fun o1 o2 o3 => ((((Kept.refl NoBlk w).alloc o1).alloc o2).alloc o3).cell0 hp
  clear look hm
  rw [hv]
  go_enter Tryz.func132, Tryz.ntmps132
  go_wp2_with fail
  go_region
  go_wp2_with fail
  go_ret
  refine ⟨_, rfl, ⟨w.heap.size + 1 + 1, w.heap.size, w.heap.size + 1, rfl, ?_, ?_, ?_, by omega, by omega, by omega⟩, ((((Kept.refl _ _).alloc _).alloc _).alloc _).drew⟩
  · exact block_new3 w _ _ _
  · exact block_alloc_old _ (block_alloc_old _ (block_alloc_new w _))
  · exact block_alloc_old _ (block_new2 w _ _)

set_option maxHeartbeats 1600000 in
theorem putBack_none (p vb n : Nat) (row : Int) (f : Int → Option Int) (w : World) (hp : w.cell? ⟨p, 3, none⟩ = some (.map (some vb))) (hm : MapAt keyI w vb n (ivals f)) (hr : inI row) (hv : f row = none) :
    Calls Tryz.prog 132 #[.pointer (some ⟨p, 0, none⟩), .int .i64 row] w fun e w' => ∃ c, e = .returned c ∧ PutsBack w' (fun k => w.heap.size ≤ k) p c row (f row) ∧ Kept NoBlk w w' := by
  have hpl := World.block_lt_of_cell? w _ hp
  have look : ∀ W, Kept NoBlk w W → (Instr.lookup 122 (.map (some vb)) (.int .i64 row) true).run Tryz.prog W = .ok (.tuple #[.int .i64 0, .bool false]) W := by
    intro W hk
    have hl := (hm.kept hk (fun x => x)).look_ok Tryz.underlying122 (zeroInt _) (a := row) hr
    simp only [ivals, hv, Option.map_none, Option.getD_none, Option.isSome_none] at hl
    exact hl
  have l1 : ∀ o1 o2, (Instr.lookup 122 (.map (some vb)) (.int .i64 row) true).run Tryz.prog ((w.alloc o1).alloc o2).drew = .ok (.tuple #[.int .i64 0, .bool false]) ((w.alloc o1).alloc o2).drew := fun o1 o2 => look _ (((Kept.refl _ _).alloc _).alloc _).drew
  have l2 : ∀ o1 o2 o3, (Instr.lookup 122 (.map (some vb)) (.int .i64 row) true).run Tryz.prog (((w.alloc o1).alloc o2).alloc o3).drew = .ok (.tuple #[.int .i64 0, .bool false]) (((w.alloc o1).alloc o2).alloc o3).drew := fun o1 o2 o3 => look _ ((((Kept.refl _ _).alloc _).alloc _).alloc _).drew
  have c1 : ∀ o1 o2, ((w.alloc o1).alloc o2).cell? ⟨p, 3, none⟩ = some (.map (some vb)) := fun o1 o2 => (((Kept.refl NoBlk w).alloc o1).alloc o2).cell0 hp
  have c2 : ∀ o1 o2 o3, (((w.alloc o1).alloc o2).alloc o3).cell? ⟨p, 3, none⟩ = some (.map (some vb)) := fun o1 o2 o3 => ((((Kept.refl NoBlk w).alloc o1).alloc o2).alloc o3).cell0 hp
  clear look hm
  rw [hv]
  go_enter Tryz.func132, Tryz.ntmps132
  go_wp2_with fail
  go_region
  go_wp2_with fail
  go_ret
  refine ⟨_, rfl, ⟨w.heap.size, w.heap.size + 1, rfl, ?_, ?_, by omega, by omega⟩, ((((Kept.refl _ _).alloc _).alloc _).alloc _).drew⟩
  · exact block_alloc_old _ (block_alloc_old _ (block_alloc_new w _))
  · exact block_alloc_old _ (block_new2 w _ _)

theorem putBack_any (p vb n : Nat) (row : Int) (f : Int → Option Int) (w : World) (hp : w.cell? ⟨p, 3, none⟩ = some (.map (some vb))) (hm : MapAt keyI w vb n (ivals f)) (hr : inI row) :
    Calls Tryz.prog 132 #[.pointer (some ⟨p, 0, none⟩), .int .i64 row] w fun e w' => ∃ c, e = .returned c ∧ PutsBack w' (fun k => w.heap.size ≤ k) p c row (f row) ∧ Kept NoBlk w w' := by
  cases hv : f row with
  | none => have := putBack_none p vb n row f w hp hm hr hv; rw [hv] at this; exact this
  | some v => have := putBack_some p vb n row v f w hp hm hr hv; rw [hv] at this; exact this

end Go.Proofs.YtmcajfefagdbnaaGreat

namespace Go.Proofs.YtmcajfefagdbnaaGreat
open Go Go.RowKit

def opCells (l : List Op4) : List Value := l.flatMap Op4.cells

/-- Operations that a slice shows (nil, or from a place on). -/
def OpsSrc (w : World) (v : Value) (l : List Op4) : Prop := ∃ ao c, v = .slice ao l.length c ∧ (0 < l.length → ∃ b off, ao = some ⟨b, off, none⟩ ∧ OpsAt w b off l)

theorem opCells_len (l : List Op4) : (opCells l).length = l.length * 4 := by
  induction l with
  | nil => rfl
  | cons o l ih => simp only [opCells, List.flatMap_cons, List.length_append] at ih ⊢; rw [ih]; simp [Op4.cells]; omega

theorem OpsAt.tail {w : World} {b off : Nat} {o : Op4} {l : List Op4} (h : OpsAt w b off (o :: l)) : OpsAt w b (off + 4) l := by
  intro i hi
  have := h (i + 1) (by simpa using hi)
  simp only [List.getD_cons_succ] at this
  rw [show off + (i + 1) * 4 = off + 4 + i * 4 from by omega] at this
  exact this

theorem OpsAt.flat {w : World} {b : Nat} : ∀ {off : Nat} {l : List Op4}, OpsAt w b off l → ∀ j u, (opCells l)[j]? = some u → w.cell? ((⟨b, off, none⟩ : Addr).add j) = some u
  | off, [], _, j, u, hu => by simp [opCells] at hu
  | off, o :: l, h, j, u, hu => by
    have h0 := h 0 (by simp)
    simp only [Nat.zero_mul, Nat.add_zero, List.getD_cons_zero] at h0
    rw [Addr.add_lit]
    by_cases hj : j < 4
    · match j, hj with
      | 0, _ => simp [opCells, Op4.cells] at hu; rw [← hu]; exact h0.1
      | 1, _ => simp [opCells, Op4.cells] at hu; rw [← hu]; exact h0.2.1
      | 2, _ => simp [opCells, Op4.cells] at hu; rw [← hu]; exact h0.2.2.1
      | 3, _ => simp [opCells, Op4.cells] at hu; rw [← hu]; exact h0.2.2.2
    · obtain ⟨j, rfl⟩ : ∃ i, j = i + 4 := ⟨j - 4, by omega⟩
      have hu' : (opCells l)[j]? = some u := by
        simp only [opCells, List.flatMap_cons] at hu
        rw [List.getElem?_append_right (by simp [Op4.cells])] at hu
        simpa [Op4.cells, opCells] using hu
      have := OpsAt.flat h.tail j u hu'
      rw [Addr.add_lit] at this
      rw [show off + (j + 4) = off + 4 + j from by omega]
      exact this

theorem opCells_one (l : List Op4) : ∀ u ∈ opCells l, u.oneCell' = true := by
  intro u hu
  simp only [opCells, List.mem_flatMap] at hu
  obtain ⟨o, _, ho⟩ := hu
  simp [Op4.cells] at ho
  rcases ho with rfl | rfl | rfl | rfl <;> rfl

theorem OpsSrc.mem {w : World} {v : Value} {l : List Op4} (h : OpsSrc w v l) : FromMem w 4 v l.length (opCells l) := by
  obtain ⟨ao, c, rfl, h⟩ := h
  refine ⟨⟨ao, c, rfl, ?_, ?_⟩, opCells_len l, opCells_one l⟩
  · intro hn
    rcases Nat.eq_zero_or_pos l.length with h0 | h0
    · exact h0
    · obtain ⟨b, off, hao, _⟩ := h h0
      rw [hn] at hao
      cases hao
  · intro ad had j u hu
    have h0 : 0 < l.length := by
      rcases Nat.eq_zero_or_pos l.length with h0 | h0
      · rw [List.eq_nil_of_length_eq_zero h0] at hu
        simp [opCells] at hu
      · exact h0
    obtain ⟨b, off, hao, hat⟩ := h h0
    rw [had] at hao
    obtain rfl := Option.some.inj hao
    exact hat.flat j u hu

theorem OpsAt.src {w : World} {b off c : Nat} {l : List Op4} (h : OpsAt w b off l) : OpsSrc w (.slice (some ⟨b, off, none⟩) l.length c) l := ⟨_, c, rfl, fun _ => ⟨b, off, rfl, h⟩⟩

theorem OpsSrc.kept {S : Nat → Prop} {w w' : World} {v : Value} {l : List Op4} (h : OpsSrc w v l) (hk : Kept S w w') (hn : 0 < l.length → ∀ b, v.ownBlock = some b → ¬ S b) : OpsSrc w' v l := by
  obtain ⟨ao, c, rfl, h⟩ := h
  refine ⟨ao, c, rfl, fun h0 => ?_⟩
  obtain ⟨b, off, rfl, hat⟩ := h h0
  exact ⟨b, off, rfl, hat.kept hk (hn h0 b rfl)⟩
end Go.Proofs.YtmcajfefagdbnaaGreat
