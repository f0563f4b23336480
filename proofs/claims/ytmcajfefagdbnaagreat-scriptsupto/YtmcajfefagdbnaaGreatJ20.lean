import Derived.Test.YtmcajfefagdbnaaGreatJ01
import Derived.Test.YtmcajfefagdbnaaGreatJ16
import Derived.Test.YtmcajfefagdbnaaGreatJ18
import Derived.Maps.OwnSet
import Derived.Test.YtmcajfefagdbnaaGreatJ19
import Derived.Test.YtmcajfefagdbnaaGreatJ09
namespace Go.Proofs.YtmcajfefagdbnaaGreat
open Go Go.RowKit Go.Maps Go.Sort Go.Shelf
theorem sortsA (m : Nat) : AnyZI.SortsIn Tryz.prog Tryz.sortedA_ren Fence.wide m :=
  ⟨fun blk off cap ss W hH hblk hsz => callsIn_wide.2 (AnyM.slices_Sort_int Tryz.sortA blk off cap ss W hH hblk hsz),
   fun p cap W => callsIn_wide.2 (AnyM.slices_Sort_int_none Tryz.sortA p cap W)⟩
theorem keys_call (mb : Option Nat) (W : World) : Calls Tryz.prog 100 #[.map mb] W fun e w' => e = .returned (.func (.func 135) #[] #[.pointer (some ⟨W.heap.size, 0, none⟩)]) ∧ w' = W.alloc (.cells #[.map mb] 122) :=
 (callsIn_wide (n := 5)).1 (AnyZI.keys_in Tryz.keysA Fence.wide 5 trivial rfl mb W)
def KeysL (f : Int → Option Int) (l : List Int) : Prop := l.Pairwise (fun a b => a < b) ∧ ∀ k, k ∈ l ↔ (f k).isSome = true
theorem intKeys_mem {w : World} {b n : Nat} {D : DataW Value} (hown : w.ownsMap Tryz.prog 3 anyElem b n D) : (intKeys D).Nodup ∧ (∀ x, x ∈ intKeys D ↔ has D (.int .i64 x) = true) ∧ ∀ x ∈ intKeys D, inI x := by
 have hk : Tryz.prog.underlying 3 = some (.int .i64) := Tryz.underlying3
 have hw := intKeys_wf hown hk
 have K : Keyed Tryz.prog 3 := int_keyed Tryz.underlying3
 obtain ⟨es, hD, hpw, _⟩ := hown.entries K
 obtain ⟨es', hD', hko⟩ := hown.keysOf
 obtain rfl : es = es' := by rw [hD] at hD'; simpa using hD'
 subst hD
 have hkk : ∀ p ∈ es, ∃ x, p.1 = .int .i64 x := fun p hp => by obtain ⟨v, hv⟩ := hko p hp; obtain ⟨x, _, hx, _⟩ := Maps.keyOf_i64 hk hv; exact ⟨x, hx⟩
 refine ⟨?_, fun x => ?_, fun x hx => wfI.1 (hw x hx)⟩
 ·unfold intKeys
  refine List.pairwise_map.2 (hpw.imp_of_mem fun {p q} hp' hq' hne e => hne ?_)
  obtain ⟨a, ha⟩ := hkk p hp'
  obtain ⟨b, hb⟩ := hkk q hq'
  rw [ha, hb] at e ⊢
  exact congrArg _ e
 ·rw [has_eq, List.any_eq_true]
  unfold intKeys
  rw [List.mem_map]
  constructor
  ·rintro ⟨p, hp', rfl⟩
   obtain ⟨a, ha⟩ := hkk p hp'
   exact ⟨p, hp', by rw [ha]; simp [Lit.sameKey, Go.intOf]⟩
  ·rintro ⟨p, hp', hs⟩
   obtain ⟨a, ha⟩ := hkk p hp'
   rw [ha] at hs
   exact ⟨p, hp', by rw [ha]; simpa [Lit.sameKey, Go.intOf] using hs⟩
theorem sorted_keys {w : World} {b n : Nat} {D : DataW Value} {f : Int → Option Int} (hown : w.ownsMap Tryz.prog 3 anyElem b n D) (hs : Says keyI D (ivals f)) (hf : ∀ k, f k ≠ none → inI k) {ss : List Int} (hp : ss.Perm (intKeys D)) : KeysL f (ss.mergeSort (fun x y => decide (x ≤ y))) := by
 obtain ⟨h1, h2, h3⟩ := intKeys_mem hown
 have tr : ∀ a b c : Int, decide (a ≤ b) = true → decide (b ≤ c) = true → decide (a ≤ c) = true := fun a b c h1 h2 => by simp only [decide_eq_true_eq] at *; exact Int.le_trans h1 h2
 have to : ∀ a b : Int, (decide (a ≤ b) || decide (b ≤ a)) = true := fun a b => by simp only [Bool.or_eq_true, decide_eq_true_eq]; exact Int.le_total a b
 have hpm := (List.mergeSort_perm ss (fun x y => decide (x ≤ y))).trans hp
 have hnd : (ss.mergeSort (fun x y => decide (x ≤ y))).Nodup := (hpm.nodup_iff).2 h1
 refine ⟨?_, fun k => ?_⟩
 ·have hle := List.pairwise_mergeSort tr to ss
  have : (ss.mergeSort (fun x y => decide (x ≤ y))).Pairwise (fun a b => decide (a ≤ b) = true ∧ a ≠ b) := hle.and hnd
  refine this.imp ?_
  intro a b h
  have h1 : a ≤ b := by simpa using h.1
  have := h.2
  omega
 ·rw [hpm.mem_iff, h2 k]
  constructor
  ·intro hx
   have hi := h3 k ((h2 k).2 hx)
   have := Says.has hs (a := k) hi
   have e : Maps.has D (keyI.lit k) = true := hx
   rw [e] at this
   simpa [ivals] using this.symm
  ·intro hx
   have hi := hf k (fun e => by rw [e] at hx; cases hx)
   have := Says.has hs (a := k) hi
   show Maps.has D (keyI.lit k) = true
   rw [this]
   simpa [ivals] using hx
set_option maxHeartbeats 1000000 in
theorem sorted_call {w : World} {b m : Nat} {f : Int → Option Int} (hm : MapAt keyI w b m (ivals f)) (hf : ∀ k, f k ≠ none → inI k) (hmm : m ≤ 1099511627776) :
  Calls Tryz.prog 99 #[.func (.func 135) #[] #[.pointer (some ⟨w.heap.size, 0, none⟩)]] (w.alloc (.cells #[.map (some b)] 122)) fun e w' => ∃ v l, e = .returned v ∧ RowAt w' 3 1 v l.length (l.map (fun x => Value.int .i64 x)) ∧ (∀ k, v.ownBlock = some k → w.heap.size ≤ k) ∧ KeysL f l ∧ l.length ≤ m ∧ Kept NoBlk w w' := by
 obtain ⟨D, hown, hs⟩ := hm
 have hbl := hown.lt
 have hsz : Maps.size D ≤ m := hown.size_le
 have hseq : SeqGives Fence.wide 2 Tryz.prog 135 #[.pointer (some ⟨w.heap.size, 0, none⟩)] encZ (fun ss => ss.Perm (intKeys D)) (Maps.size D) (w.alloc (.cells #[.map (some b)] 122)) :=
  AnyZI.keys_gives (ρ := Tryz.keysA_ren) { Tryz.keysA with } Fence.wide _ trivial rfl (by omega) w.heap.size b m D _ (by simp) (by simp) (by
   obtain ⟨es, clock, hb, Ft, hs, hD⟩ := hown
   exact ⟨es, clock, (Below.heap_alloc _ _ b hbl).trans hb, Ft, hs, hD⟩)
 have cS := AnyZI.sorted_in Tryz.sortedA Fence.wide 5 trivial trivial trivial trivial rfl (by omega) (sortsA _) (enters_of Tryz.func134 (by kernel_rfl) rfl) 135 #[.pointer (some ⟨w.heap.size, 0, none⟩)] trivial (enters_of Tryz.func135 (by kernel_rfl) rfl) _ _ (by unfold maxLen; omega) (by omega) _ hseq
 change CallsIn _ _ Tryz.prog 99 _ _ _ at cS
 refine ((callsIn_wide (n := 5)).1 cS).mono ?_
 rintro e w' ⟨v, ss, rfl, hS, hrow, _, hb⟩
 have hka : Kept NoBlk w (w.alloc (.cells #[.map (some b)] 122)) := (Kept.refl _ _).alloc _
 have hlen : (ss.mergeSort (fun x y => decide (x ≤ y))).length = ss.length := List.length_mergeSort _
 refine ⟨v, ss.mergeSort (fun x y => decide (x ≤ y)), rfl, ?_, fun k hk => ?_, sorted_keys hown hs hf hS, ?_, hka.trans' (Kept.of_below hb)⟩
 ·rw [hlen]; exact RowAt.owns (ownsRow_base_a hrow (Nat.zero_le _))
 ·rcases hrow.2 with ⟨rfl, _⟩ | ⟨gb, cap, cur, rfl, hbase, _⟩
  ·simp [Value.ownBlock] at hk
  ·obtain rfl : gb = k := by simpa [Value.ownBlock] using hk
   exact Nat.le_trans hka.size hbase
 ·rw [hlen, hS.length_eq]
  obtain ⟨es, clock, _, _, _, hD⟩ := hown
  rw [hD] at hsz ⊢
  simpa [intKeys, Maps.size] using hsz
end Go.Proofs.YtmcajfefagdbnaaGreat
namespace Go.Proofs.YtmcajfefagdbnaaGreat
open Go Go.RowKit
theorem modeOf_ok (o : Op4) (w : World) : Calls Tryz.prog 91 #[.agg #[.int .i64 o.k, .int .i64 o.a, .int .i64 o.b, .int .i64 o.c]] w fun e w' => e = .returned (.int .i64 (modeOf o)) ∧ Kept NoBlk w w' := by
 have HK : Hid (∀ o1, Kept NoBlk w (w.alloc o1)) := fun o1 => (Kept.refl _ _).alloc _
 obtain ⟨k, a, b, c⟩ := o
 simp only
 go_enter Tryz.func91, Tryz.ntmps91
 go_wp2_with fail
 all_goals
  go_ret
  refine ⟨?_, HK.out _⟩
  first | rfl | (simp_all [modeOf]; done)
set_option maxHeartbeats 800000 in
theorem holdsAsGood_any (p hb m : Nat) (row : Int) (want : Int × Int) (H : Int × Int → Option Int) (w : World) (hp : w.cell? ⟨p, 6, none⟩ = some (.map (some hb))) (hm : MapAt keyH w hb m (hvals H)) (hr : inI row) (hw : inI want.1) :
  Calls Tryz.prog 92 #[.pointer (some ⟨p, 0, none⟩), .int .i64 row, .agg #[.int .i64 want.1, .int .i64 want.2]] w fun e w' => e = .returned (.bool (decide (want.2 ≤ (H (row, want.1)).getD 0))) ∧ Kept NoBlk w w' := by
 have hpl := World.block_lt_of_cell? w _ hp
 have hl : ∀ o, (Instr.lookup 124 (.map (some hb)) (.agg #[.int .i64 row, .int .i64 want.1]) false).run Tryz.prog (w.alloc o).drew = .ok (.int .i64 ((H (row, want.1)).getD 0)) (w.alloc o).drew := by
  intro o
  have := (hm.kept ((Kept.refl NoBlk w).alloc o).drew (fun x => x)).look Tryz.underlying124 (zeroInt _) (a := (row, want.1)) ⟨hr, hw⟩
  rw [show (hvals H (row, want.1)).getD (.int .i64 0) = .int .i64 ((H (row, want.1)).getD 0) from by simp only [hvals]; cases H (row, want.1) <;> rfl] at this
  exact this
 generalize (H (row, want.1)).getD 0 = v at *
 obtain ⟨w1, w2⟩ := want
 simp only at *
 clear hm
 have HK : Hid (∀ o1, Kept NoBlk w (w.alloc o1).drew) := fun o1 => ((Kept.refl _ _).alloc _).drew
 go_enter Tryz.func92, Tryz.ntmps92
 go_wp2_with fail
 go_region
 go_wp2_with fail
 go_ret
 refine ⟨?_, HK.out _⟩
 first | rfl | (simp; done)
set_option maxHeartbeats 800000 in
theorem take_any (p hb m : Nat) (row : Int) (lock : Int × Int) (H : Int × Int → Option Int) (w : World) (hp : w.cell? ⟨p, 6, none⟩ = some (.map (some hb))) (hm : MapAt keyH w hb m (hvals H)) (hmm : m < maxLen) (hr : inI row) (hw : inI lock.1) :
  Calls Tryz.prog 96 #[.pointer (some ⟨p, 0, none⟩), .int .i64 row, .agg #[.int .i64 lock.1, .int .i64 lock.2]] w fun e w' => e = .returned (.tuple #[]) ∧ MapAt keyH w' hb (m + 1) (hvals (put H (row, lock.1) (some lock.2))) ∧ Kept (Blk hb) w w' := by
 have hpl := World.block_lt_of_cell? w _ hp
 obtain ⟨l1, l2⟩ := lock
 simp only at *
 have h0 : hb < w.heap.size := hm.lt
 have hk0 : Kept NoBlk w (w.alloc (Obj.cells #[.int .i64 l1, .int .i64 l2] 107)).drew := ((Kept.refl NoBlk w).alloc _).drew
 obtain ⟨w', hrun, hm', hk, _⟩ := (hm.kept hk0 (fun x => x)).store Tryz.underlying124 hmm (a := (row, l1)) ⟨hr, hw⟩ (.int .i64 l2)
 have hrun' : (Instr.mapUpdate 124 (.map (some hb)) (.agg #[.int .i64 row, .int .i64 l1]) (.int .i64 l2)).run Tryz.prog (w.alloc (Obj.cells #[.int .i64 l1, .int .i64 l2] 107)).drew = .ok () w' := hrun
 have he : put (hvals H) (row, l1) (some (.int .i64 l2)) = hvals (put H (row, l1) (some l2)) := by
  funext c
  simp only [put, hvals]
  split <;> rfl
 have HM : Hid (MapAt keyH w' hb (m + 1) (hvals (put H (row, l1) (some l2)))) := he ▸ hm'
 have HK : Hid (Kept (Blk hb) w w') := (hk0.mono (fun _ x => x.elim)).trans' hk
 clear hm hm' hk hk0 hrun he
 go_enter Tryz.func96, Tryz.ntmps96
 go_wp2_with fail
 go_region
 go_end0
 exact ⟨rfl, HM.out, HK.out⟩
end Go.Proofs.YtmcajfefagdbnaaGreat
namespace Go.Proofs.YtmcajfefagdbnaaGreat
open Go Go.RowKit
theorem wwithout_st {ow : OwB} {p : Nat} {rl : List Row2} {cl : List Cl} {n : Nat} {tx : Nat → Tx} {wins : List Nat} {c : Int} {w : World} (h : WSt ow p rl cl n tx wins c w) (i : Nat) (hi : i < cl.length) (hn : cl.length ≤ 1099511627776) :
  Calls Tryz.prog 111 #[.pointer (some ⟨p, 0, none⟩), .int .i64 (i : Nat)] w fun e w' => e = .returned (.tuple #[]) ∧ ∃ ow', Agree w ow ow' ∧ WSt ow' p rl (cl.eraseIdx i) n tx wins c w' ∧ Kept (Own ow) w w' := by
 obtain ⟨rv, tv, cv, wv, bs, h1, h2, h3, h4, h5, h6, h7, h8⟩ := h.body
 refine (wwithout p cl rv tv cv wv _ i w h1 h6.1 hn hi).mono ?_
 rintro e w' ⟨rfl, cv', q1, q2, q3, q4⟩
 exact ⟨rfl, h.claims h1 q1 q2 (fun k hk => .inr (q3 k hk)) (q4.mono (fun k x => .inl x))⟩
theorem whold_st {ow : OwB} {p : Nat} {rl : List Row2} {cl : List Cl} {n : Nat} {tx : Nat → Tx} {wins : List Nat} {c : Int} {w : World} (h : WSt ow p rl cl n tx wins c w) (key id mode : Int) (hn : cl.length ≤ 1099511627776) :
  Calls Tryz.prog 115 #[.pointer (some ⟨p, 0, none⟩), .int .i64 key, .int .i64 id, .int .i64 mode] w fun e w' => e = .returned (.tuple #[]) ∧ ∃ ow', Agree w ow ow' ∧ WSt ow' p rl (holdL cl key id mode) n tx wins c w' ∧ Kept (Own ow) w w' := by
 obtain ⟨rv, tv, cv, wv, bs, h1, h2, h3, h4, h5, h6, h7, h8⟩ := h.body
 refine (whold p cl rv tv cv wv _ key id mode w h1 h6.1 hn).mono ?_
 rintro e w' ⟨rfl, cv', q1, q2, q3, q4⟩
 exact ⟨rfl, h.claims h1 q1 q2 q3 q4⟩
theorem WSt.claimsAt {ow : OwB} {p : Nat} {rl : List Row2} {cl : List Cl} {n : Nat} {tx : Nat → Tx} {wins : List Nat} {c : Int} {w : World} (h : WSt ow p rl cl n tx wins c w) : ∃ cv, w.cell? ⟨p, 2, none⟩ = some cv ∧ ClsSrc w cv cl := by
 obtain ⟨rv, tv, cv, wv, bs, h1, h2, h3, h4, h5, h6, h7, h8⟩ := h.body
 exact ⟨cv, by rw [cell_at h1]; rfl, cls_of_owns h6.1⟩
def waitsIn (w : World) (p : Nat) : Nat := match w.cell? ⟨p, 2, none⟩ with
 | some (.slice (some a) n _) => (List.range n).countP (fun i => match w.cell? ⟨a.block, a.off + i * 4 + 3, none⟩ with | some (.bool b) => !b | _ => false)
 | _ => 0
theorem countP_range (l : List Cl) (f : Cl → Bool) : (List.range l.length).countP (fun i => f (l.getD i Cl.z)) = l.countP f := by
 induction l with
 | nil => rfl
 | cons c l ih =>
  rw [List.length_cons, List.range_succ_eq_map, List.countP_cons, List.countP_map, List.countP_cons]
  simp only [List.getD_cons_zero]
  congr 1
theorem WSt.waits {ow : OwB} {p : Nat} {rl : List Row2} {cl : List Cl} {n : Nat} {tx : Nat → Tx} {wins : List Nat} {c : Int} {w : World} (h : WSt ow p rl cl n tx wins c w) : waitsIn w p = cl.countP (fun c => !c.holds) := by
 obtain ⟨cv, h1, ao, cp, rfl, h2⟩ := h.claimsAt
 simp only [waitsIn, h1]
 rcases Nat.eq_zero_or_pos cl.length with h0 | h0
 ·have : cl = [] := List.eq_nil_of_length_eq_zero h0
  subst this
  cases ao <;> rfl
 ·obtain ⟨b, off, rfl, h3⟩ := h2 h0
  simp only
  rw [← countP_range]
  refine List.countP_congr (fun i hi => ?_)
  rw [(h3 i (List.mem_range.mp hi)).2.2.2]
end Go.Proofs.YtmcajfefagdbnaaGreat
namespace Go.Proofs.YtmcajfefagdbnaaGreat
open Go
def hitC (key : Int) (i : Nat) (m : Int) (tx : Nat → Tx) (j : Nat) (c : Cl) : Bool := decide (c.key = key) && decide (c.txn = (j : Int)) && !decide (c.txn = (i : Int)) && conf c.mode m && decide ((tx i).stamp < (tx j).stamp)
def woundC (l : List Cl) (key : Int) (i : Nat) (m : Int) (tx : Nat → Tx) : Nat → Tx := fun j => if l.any (hitC key i m tx j) then { tx j with wounded := true } else tx j
theorem woundC_stamp (l : List Cl) (key : Int) (i : Nat) (m : Int) (tx : Nat → Tx) (j : Nat) : (woundC l key i m tx j).stamp = (tx j).stamp := by
 unfold woundC; split <;> rfl
theorem woundC_snoc (l : List Cl) (key : Int) (i : Nat) (m : Int) (tx : Nat → Tx) (c : Cl) (h : 0 ≤ c.txn) : woundC (l ++ [c]) key i m tx = if (decide (c.key = key) && !decide (c.txn = (i : Int)) && conf c.mode m && decide ((tx i).stamp < (tx c.txn.toNat).stamp)) then upd (woundC l key i m tx) c.txn.toNat { woundC l key i m tx c.txn.toNat with wounded := true } else woundC l key i m tx := by
 funext j
 have e1 : (l ++ [c]).any (hitC key i m tx j) = (l.any (hitC key i m tx j) || hitC key i m tx j c) := by simp
 by_cases hj : c.txn = (j : Int)
 ·have hj' : c.txn.toNat = j := by omega
  have e2 : hitC key i m tx j c = (decide (c.key = key) && !decide (c.txn = (i : Int)) && conf c.mode m && decide ((tx i).stamp < (tx c.txn.toNat).stamp)) := by
   unfold hitC
   rw [hj']
   simp [hj]
  show (if (l ++ [c]).any (hitC key i m tx j) then _ else _) = _
  rw [e1, e2]
  cases hb : (decide (c.key = key) && !decide (c.txn = (i : Int)) && conf c.mode m && decide ((tx i).stamp < (tx c.txn.toNat).stamp))
  ·simp [woundC]
  ·rw [hj']
   simp only [Bool.or_true, if_true, upd_same]
   unfold woundC
   split <;> rfl
 ·have hj' : j ≠ c.txn.toNat := by omega
  have e2 : hitC key i m tx j c = false := by unfold hitC; simp [hj]
  show (if (l ++ [c]).any (hitC key i m tx j) then _ else _) = _
  rw [e1, e2, Bool.or_false]
  split
  ·rename_i h1
   split
   ·rw [upd_other _ _ _ _ hj']
    unfold woundC
    rw [if_pos h1]
   ·unfold woundC
    rw [if_pos h1]
  ·rename_i h1
   split
   ·rw [upd_other _ _ _ _ hj']
    unfold woundC
    rw [if_neg h1]
   ·unfold woundC
    rw [if_neg h1]
theorem hit_rep {s : St} {cl : List Cl} (hr : Rep s.n cl s.lk) (key : Int) (i : Nat) (m : Int) (j : Nat) : cl.any (hitC key i m s.tx j) = s.hit i key m j := by
 rw [Bool.eq_iff_iff, List.any_eq_true]
 unfold St.hit hitC
 simp only [Bool.and_eq_true, Bool.or_eq_true, decide_eq_true_eq, bne_iff_ne, ne_eq, Bool.not_eq_true', decide_eq_false_iff_not, List.any_eq_true, beq_iff_eq]
 constructor
 ·rintro ⟨c, hc, ⟨⟨⟨h1, h2⟩, h3⟩, h4⟩, h5⟩
  refine ⟨⟨fun e => h3 (by rw [h2, e]), h5⟩, ?_⟩
  cases hh : c.holds
  ·right
   have hq := hr.queue key
   have hm : c ∈ cl.filter (isWait key) := List.mem_filter.2 ⟨hc, by simp [isWait, hh, h1]⟩
   have : (c.txn.toNat, c.mode) ∈ (s.lk key).q := by rw [← hq]; exact List.mem_map.2 ⟨c, hm, rfl⟩
   exact ⟨_, this, by simp only; omega, h4⟩
  ·left
   have h6 := hr.mode_of hc hh
   have h7 := hr.ids c hc
   rw [h1, show c.txn.toNat = j by omega] at h6
   rw [h6]
   exact ⟨by omega, h4⟩
 ·rintro ⟨⟨h1, h2⟩, h3 | ⟨x, hx, h4, h5⟩⟩
  ·exact ⟨_, (hr.held key j _ h3.1).1 rfl, ⟨⟨⟨rfl, rfl⟩, by simp only; omega⟩, h3.2⟩, h2⟩
  ·rw [← hr.queue key] at hx
   obtain ⟨c, hc, rfl⟩ := List.mem_map.1 hx
   obtain ⟨hc1, hc2⟩ := List.mem_filter.1 hc
   simp only [isWait, Bool.and_eq_true, decide_eq_true_eq] at hc2
   have h7 := hr.ids c hc1
   simp only at h4
   exact ⟨c, hc1, ⟨⟨⟨hc2.1, by omega⟩, by omega⟩, h5⟩, h2⟩
theorem enq_txC {s : St} {cl : List Cl} (hr : Rep s.n cl s.lk) (key : Int) (i : Nat) (m : Int) : upd (woundC cl key i m s.tx) i { woundC cl key i m s.tx i with waits := some key } = (s.enq i key m).tx := by
 funext j
 show _ = if j = i then { s.tx j with waits := some key } else if s.hit i key m j then { s.tx j with wounded := true } else s.tx j
 by_cases e : j = i
 ·subst e
  rw [upd_same, if_pos rfl]
  unfold woundC
  rw [hit_rep hr]
  have : s.hit j key m j = false := by unfold St.hit; simp
  rw [this]
  rfl
 ·rw [upd_other _ _ _ _ e, if_neg e]
  unfold woundC
  rw [hit_rep hr]
end Go.Proofs.YtmcajfefagdbnaaGreat
namespace Go.Proofs.YtmcajfefagdbnaaGreat
open Go Go.RowKit
def cellsR (r : Int → Int) : Array Value := #[.int .i64 (r 0), .int .i64 (r 1), .int .i64 (r 2), .int .i64 (r 3)]
theorem cellsR_set (r : Int → Int) (b : Nat) (hb : b < 4) (x : Int) : (cellsR r).setIfInBounds b (.int .i64 x) = cellsR (upd r (b : Int) x) := by
 match b, hb with
 | 0, _ => rfl
 | 1, _ => rfl
 | 2, _ => rfl
 | 3, _ => rfl
theorem cellsR_at (r : Int → Int) : ∀ b, b < 4 → (cellsR r)[b]? = some (.int .i64 (r (b : Int)))
 | 0, _ => rfl
 | 1, _ => rfl
 | 2, _ => rfl
 | 3, _ => rfl
 | _ + 4, h => absurd h (by omega)
theorem TxAt.regsAt {ow : OwB} {tag : Nat} {w : World} {b : Nat} {t : Tx} (h : TxAt ow tag w b t) : ∃ r, w.cell? ⟨b, 6, none⟩ = some (.slice (some ⟨r, 0, none⟩) 4 4) ∧ (∀ x : Nat, x < 4 → w.cell? ⟨r, x, none⟩ = some (.int .i64 (t.regs (x : Int)))) ∧ (∀ j, w.frozen? ⟨r, j, none⟩ = false) ∧ ow r = tag ∧ r ≠ b ∧ ∀ (x : Nat) (v : Int), x < 4 → TxAt ow tag (w.setCell ⟨r, x, none⟩ (.int .i64 v)) b { t with regs := upd t.regs (x : Int) v } := by
 obtain ⟨r, rd, ov, uv, h1, h2, h3, h4, h5, h6, h7⟩ := h
 have hrb : r ≠ b := blocks_apart h3 h1 (by decide)
 refine ⟨r, by rw [cell_at h1]; rfl, fun x hx => ?_, frozen_at h3, h4, hrb, fun x v hx => ?_⟩
 ·rw [cell_at h3]
  exact cellsR_at t.regs x hx
 ·have hk := Kept.set1 w r x (.int .i64 v)
  have ap : ∀ {e : TypeId} {size : Nat} {y : Value} {m : Nat} {cs : List Value}, Owns ow tag w e size y m cs → e ≠ 3 → Owns ow tag (w.setCell ⟨r, x, none⟩ (.int .i64 v)) e size y m cs := fun ho he =>
   ⟨ownsRow_kept ho.1 hk (fun k hk' e => by
    obtain ⟨cur, hcur⟩ := ownsRow_block ho.1 hk'
    exact blocks_apart hcur h3 he e), ho.2⟩
  refine ⟨r, rd, ov, uv, hk.heap h1 (fun e => hrb e.symm), h2, ?_, h4, ap h5 (by decide), ap h6 (by decide), ap h7 (by decide)⟩
  have hb := block_setCell (o := x) h3 (.int .i64 v)
  rw [show (#[.int .i64 (t.regs 0), .int .i64 (t.regs 1), .int .i64 (t.regs 2), .int .i64 (t.regs 3)] : Array Value) = cellsR t.regs from rfl, cellsR_set _ x hx] at hb
  exact hb
theorem WSt.setReg {ow : OwB} {p : Nat} {rl : List Row2} {cl : List Cl} {n : Nat} {tx : Nat → Tx} {wins : List Nat} {c : Int} {w : World} (h : WSt ow p rl cl n tx wins c w) {i b r : Nat} (hi : i < n) (hO : ow r = i + 2) (x : Nat) (v : Int) (hT : TxAt ow (i + 2) (w.setCell ⟨r, x, none⟩ (.int .i64 v)) b { tx (i + 1) with regs := upd (tx (i + 1)).regs (x : Int) v })
  (hb : ∀ rv tv cv wv bs, w.heap[p]? = some (.cells #[rv, tv, cv, wv, .int .i64 c] 47 (0, 0)) → w.ownsRow 0 149 1 tv n (txCells bs) → bs.length = n → bs.getD i 0 = b) :
  WSt ow p rl cl n (upd tx (i + 1) { tx (i + 1) with regs := upd (tx (i + 1)).regs (x : Int) v }) wins c (w.setCell ⟨r, x, none⟩ (.int .i64 v)) ∧ Kept (Own ow) w (w.setCell ⟨r, x, none⟩ (.int .i64 v)) := by
 have hk := Kept.set1 w r x (.int .i64 v)
 refine ⟨h.txn i _ hi (fun k h1 h2 => hk.block k (h.lt k h1) (fun e => h2 (by rw [show k = r from e]; exact hO))) (Agree.refl _ _) (fun k hk0 => Nat.lt_of_lt_of_le (h.lt k hk0) hk.size) (fun b' hT' ⟨rv, tv, cv, wv, bs, q1, q2, q3, q4⟩ => ?_), hk.mono (fun k e => by rw [show k = r from e]; unfold Own; omega)⟩
 have := hb rv tv cv wv bs q1 q2 q3
 rw [q4] at this
 subst this
 exact hT
end Go.Proofs.YtmcajfefagdbnaaGreat
namespace Go.Proofs.YtmcajfefagdbnaaGreat
open Go Go.RowKit
def St.withLk (s : St) (lk : Int → Lk) : St := { s with lk := lk }
theorem tagNe {a b : Nat} {x y : Int} (h : a ≠ b) : ((a, x) : Nat × Int) ≠ (b, y) := fun e => h (by cases e; rfl)
theorem PSt.turnHold {L : Lay} {bs : Nat → Nat} {A : List Nat} {ow : Ow} {m : Nat} {mu lv : Int} {s : St} {w w' : World} (h : PSt L bs A ow m mu lv s w) {m' : Nat} {lk' : Int → Lk} (hk : Kept (Blk L.hb) w w') (hmm : m ≤ m') (hm : MapAt keyH w' L.hb m' (hvals (holdF lk'))) (hq : ∀ k, (lk' k).q = (s.lk k).q)
  (hd : ∀ k j, (lk' k).h j ≠ 0 → inI k ∧ j ∈ A) : PSt L bs A ow m' mu lv (s.withLk lk') w' := by
 obtain ⟨t1, t2, t3, t4⟩ := h.tags
 have hb : ∀ k, k < w.heap.size → ow k ≠ (3, 0) → w'.heap[k]? = w.heap[k]? := fun k hk1 hne => hk.block k hk1 (fun e => hne (by cases e; exact t3))
 obtain ⟨u, tv, wv, b1, b2, b3⟩ := h.body
 obtain ⟨qf, q1, q2⟩ := h.que
 refine ⟨fun k hk0 => Nat.lt_of_lt_of_le (h.lt k hk0) hk.size, h.tags, ⟨u, tv, wv, by rw [hb _ (lt_of_block b1) (by rw [t1]; exact tagNe (by omega))]; exact b1, b2.kept (AgreeP.refl _ _) (fun k hk e => hb k hk (by rw [e]; exact tagNe (by omega))), b3.kept (AgreeP.refl _ _) (fun k hk e => hb k hk (by rw [e]; exact tagNe (by omega)))⟩,
  (h.vals.of_same (hb _ h.vals.lt (by rw [t2]; exact tagNe (by omega)))).mono hmm, hm, ⟨qf, (q1.of_same (hb _ q1.lt (by rw [t4]; exact tagNe (by omega)))).mono hmm, fun k => ?_⟩,
  fun i hi hn => (h.txs i hi hn).kept (AgreeP.refl _ _) (fun k hk e => hb k hk (by rcases e with e | e <;> (rw [e]; exact tagNe (by omega)))), h.few, h.among, hd, fun k x hx => h.qdom k x (by rw [← hq k]; exact hx), h.rdom, h.nmax⟩
 show QueueAt ow w' k (qf k) (lk' k).q
 rw [hq k]
 exact (q2 k).kept (AgreeP.refl _ _) (fun j hj e => hb j hj (by rw [e]; exact tagNe (by omega)))
theorem holdF_put (lk : Int → Lk) (k : Int) (i : Nat) (md : Int) (hmd : md ≠ 0) : put (holdF lk) (k, (i : Int)) (some md) = holdF (upd lk k ⟨upd (lk k).h i md, (lk k).q⟩) := by
 funext x
 obtain ⟨a, b⟩ := x
 simp only [put, holdF, Prod.mk.injEq]
 by_cases e : a = k
 ·subst e
  simp only [true_and, upd_same]
  by_cases e2 : b = (i : Int)
  ·subst e2
   simp [hmd]
  ·rw [if_neg e2]
   by_cases e3 : 0 ≤ b
   ·have : b.toNat ≠ i := by omega
    rw [upd_other _ _ _ _ this]
   ·simp [e3]
 ·simp [e, upd_other _ _ _ _ e]
theorem holdF_drop (lk : Int → Lk) (k : Int) (i : Nat) : put (holdF lk) (k, (i : Int)) none = holdF (upd lk k ⟨upd (lk k).h i 0, (lk k).q⟩) := by
 funext x
 obtain ⟨a, b⟩ := x
 simp only [put, holdF, Prod.mk.injEq]
 by_cases e : a = k
 ·subst e
  simp only [true_and, upd_same]
  by_cases e2 : b = (i : Int)
  ·subst e2
   simp
  ·rw [if_neg e2]
   by_cases e3 : 0 ≤ b
   ·have : b.toNat ≠ i := by omega
    rw [upd_other _ _ _ _ this]
   ·simp [e3]
 ·simp [e, upd_other _ _ _ _ e]
theorem inI_nat {i : Nat} (h : i ≤ 1099511627776) : inI (i : Int) := ⟨by omega, by omega⟩
theorem ptake {L : Lay} {bs : Nat → Nat} {A : List Nat} {ow : Ow} {m : Nat} {mu lv : Int} {s : St} {w : World} (h : PSt L bs A ow m mu lv s w) (k : Int) (i : Nat) (md : Int) (hk : inI k) (hi : i ∈ A) (hmd : md ≠ 0) (hm : m < maxLen) :
  Calls Tryz.prog 96 #[.pointer (some ⟨L.p, 0, none⟩), .int .i64 k, .agg #[.int .i64 (i : Int), .int .i64 md]] w fun e w' => e = .returned (.tuple #[]) ∧ PSt L bs A ow (m + 1) mu lv (s.withLk (upd s.lk k ⟨upd (s.lk k).h i md, (s.lk k).q⟩)) w' ∧ Kept (Blk L.hb) w w' := by
 obtain ⟨u, tv, wv, b1, c3, c6, c7, c4, b2⟩ := h.cells
 have hin := h.among i hi
 have hnm := h.nmax
 refine (take_any L.p L.hb m k ((i : Int), md) (holdF s.lk) w c6 h.hold hm hk (inI_nat (by omega))).mono ?_
 rintro e w' ⟨rfl, hm', hkk⟩
 simp only at hm'
 rw [holdF_put _ _ _ _ hmd] at hm'
 refine ⟨rfl, h.turnHold hkk (Nat.le_succ _) hm' (fun k' => ?_) (fun k' j hj => ?_), hkk⟩
 ·by_cases e : k' = k
  ·subst e; rw [upd_same]
  ·rw [upd_other _ _ _ _ e]
 ·by_cases e : k' = k
  ·subst e
   rw [upd_same] at hj
   by_cases e2 : j = i
   ·subst e2; exact ⟨hk, hi⟩
   ·simp only [upd_other _ _ _ _ e2] at hj
    exact h.hdom _ _ hj
  ·rw [upd_other _ _ _ _ e] at hj
   exact h.hdom _ _ hj
theorem fits_hind {lk : Int → Lk} {k : Int} {l : List (Int × Int)} (hl : HoldsL (holdF lk) k l) (n i : Nat) (md : Int) (hd : ∀ j, (lk k).h j ≠ 0 → j ≤ n) : fitsB l ((i : Int), md) = !hind n (lk k).h i md := by
 have mem : ∀ j, (lk k).h j ≠ 0 → ((j : Int), (lk k).h j) ∈ l := fun j hj => (hl.2 _ _).2 (by simp [holdF, hj])
 have inv : ∀ x ∈ l, ∃ j : Nat, x = ((j : Int), (lk k).h j) ∧ (lk k).h j ≠ 0 := by
  intro x hx
  have := (hl.2 x.1 x.2).1 hx
  unfold holdF at this
  split at this
  ·rename_i h0
   refine ⟨x.1.toNat, ?_, h0.2⟩
   simp only [Option.some.injEq] at this
   have h1 : ((x.1.toNat : Nat) : Int) = x.1 := by have := h0.1; simp only at this; omega
   rw [h1, this]
  ·cases this
 cases hh : hind n (lk k).h i md
 ·rw [hind_false] at hh
  simp only [fitsB, Bool.not_false, List.all_eq_true, Bool.not_eq_true']
  intro x hx
  obtain ⟨j, rfl, hj⟩ := inv x hx
  by_cases e : j = i
  ·subst e; simp [confl]
  ·have := hh j (hd j hj) e hj
   simp only [conf, Bool.or_eq_false_iff] at this
   simp only [confl, Bool.and_eq_false_iff, Bool.or_eq_false_iff]
   exact .inr ⟨this.2, this.1⟩
 ·rw [hind_true] at hh
  obtain ⟨j, h1, h2, h3, h4⟩ := hh
  simp only [fitsB, Bool.not_true]
  rw [List.all_eq_false]
  refine ⟨_, mem j h3, ?_⟩
  simp only [conf, Bool.or_eq_true] at h4
  have h5 : ((i : Int) != (j : Int)) = true := by simp; omega
  simp only [confl, h5, Bool.true_and]
  rcases h4 with h4 | h4
  ·simp [h4]
  ·simp [h4]
theorem pfits {L : Lay} {bs : Nat → Nat} {A : List Nat} {ow : Ow} {m : Nat} {mu lv : Int} {s : St} {w : World} (h : PSt L bs A ow m mu lv s w) (k : Int) (i : Nat) (md : Int) (hk : inI k) :
  Calls Tryz.prog 130 #[.pointer (some ⟨L.p, 0, none⟩), .int .i64 k, .agg #[.int .i64 (i : Int), .int .i64 md]] w fun e w' => e = .returned (.bool (!hind s.n (s.lk k).h i md)) ∧ Kept NoBlk w w' := by
 obtain ⟨u, tv, wv, b1, c3, c6, c7, c4, b2⟩ := h.cells
 refine (fits_any L.p L.hb m k ((i : Int), md) (holdF s.lk) w c6 h.hold hk (holdF_ok h) (holdF_few h k)).mono ?_
 rintro e w' ⟨l, hl, rfl, hkk⟩
 rw [fits_hind hl s.n i md (fun j hj => (h.among j (h.hdom k j hj).2).2)]
 exact ⟨rfl, hkk⟩
end Go.Proofs.YtmcajfefagdbnaaGreat
