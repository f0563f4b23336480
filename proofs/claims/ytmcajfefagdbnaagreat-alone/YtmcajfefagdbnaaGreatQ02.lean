import Derived.Below
import Derived.WalkKit
import Derived.Deep.QuietTactic
import Derived.BigQuiet
import Derived.Test.YtmcajfefagdbnaaGreatProg
import Derived.Conc.RwLib
import Derived.Conc.MuData
import Derived.KernelRfl
import Derived.Deep.AppendSrc
import Derived.Maps.RangeWalk
import Derived.Maps.OwnOps
namespace Go.Proofs.YtmcajfefagdbnaaGreat
open Go.RowKit
structure Kept (S : Nat → Prop) (w w' : World) : Prop where
 os : w'.os = w.os
 tape : w'.tape = w.tape
 output : w'.output = w.output
 size : w.heap.size ≤ w'.heap.size
 block : ∀ k, k < w.heap.size → ¬ S k → w'.heap[k]? = w.heap[k]?
def NoBlk : Nat → Prop := fun _ => False
def Blk (b : Nat) : Nat → Prop := fun k => k = b
theorem Kept.refl (S : Nat → Prop) (w : World) : Kept S w w := ⟨rfl, rfl, rfl, Nat.le_refl _, fun _ _ _ => rfl⟩
theorem Kept.mono {S S' : Nat → Prop} {w w' : World} (h : Kept S w w') (hs : ∀ k, S k → S' k) : Kept S' w w' :=
 ⟨h.os, h.tape, h.output, h.size, fun k hk hn => h.block k hk (fun x => hn (hs k x))⟩
theorem Kept.trans {S S' : Nat → Prop} {a b c : World} (h : Kept S a b) (k : Kept S' b c) (hs : ∀ i, S' i → S i ∨ a.heap.size ≤ i) : Kept S a c :=
 ⟨k.os.trans h.os, k.tape.trans h.tape, k.output.trans h.output, Nat.le_trans h.size k.size, fun i hi hn =>
  (k.block i (Nat.lt_of_lt_of_le hi h.size) (fun x => (hs i x).elim hn (fun y => by omega))).trans (h.block i hi hn)⟩
theorem Kept.trans' {S : Nat → Prop} {a b c : World} (h : Kept S a b) (k : Kept S b c) : Kept S a c := h.trans k (fun _ x => .inl x)
theorem Kept.drew {S : Nat → Prop} {a w : World} (h : Kept S a w) : Kept S a w.drew := ⟨h.os, h.tape, h.output, h.size, h.block⟩
theorem Kept.drewN {S : Nat → Prop} {a w : World} (h : Kept S a w) (n : Nat) : Kept S a (w.drewN n) := ⟨h.os, h.tape, h.output, h.size, h.block⟩
theorem Kept.alloc {S : Nat → Prop} {a w : World} (h : Kept S a w) (o : Obj) : Kept S a (w.alloc o) :=
 h.trans (S' := NoBlk) ⟨rfl, rfl, rfl, by simp, fun k hk _ => Below.heap_alloc _ _ _ hk⟩ (fun _ x => x.elim)
theorem Kept.setCell {S : Nat → Prop} {a w : World} (h : Kept S a w) {p : Addr} (hp : S p.block ∨ a.heap.size ≤ p.block) (u : Value) : Kept S a (w.setCell p u) :=
 h.trans (S' := Blk p.block) ⟨rfl, rfl, rfl, by simp [World.setCell], fun _ _ hn => Below.heap_setCell _ _ _ _ hn⟩ (fun i x => by cases x; exact hp)
theorem Kept.grown {S : Nat → Prop} {a w w' : World} {row : Option Nat} (h : Kept S a w) (hg : w.grownBy w' row) (hr : ∀ k, row = some k → S k ∨ a.heap.size ≤ k) : Kept S a w' :=
 h.trans (S' := fun k => row = some k) ⟨hg.os, hg.tape, hg.output, hg.size, fun k hk hn => hg.block k hk (fun e => hn e.symm)⟩ (fun i x => hr i x)
theorem Kept.below {S : Nat → Prop} {w w' : World} (h : Kept S w w') {B : Nat} (hB : B ≤ w.heap.size) (hs : ∀ k, S k → B ≤ k) : Below B w w' :=
 ⟨h.os, h.tape, h.output, h.size, fun k hk => h.block k (by omega) (fun x => by have := hs k x; omega)⟩
theorem Kept.of_below {w w' : World} (h : Below w.heap.size w w') : Kept NoBlk w w' := ⟨h.os, h.tape, h.output, h.size, fun k hk _ => h.block k hk⟩
theorem cell_at {w : World} {b : Nat} {cs : Array Value} {t : TypeId} {f : Nat × Nat} (h : w.heap[b]? = some (.cells cs t f)) (o : Nat) : w.cell? ⟨b, o, none⟩ = cs[o]? := by
 simp [World.cell?, h]
theorem frozen_at {w : World} {b : Nat} {cs : Array Value} {t : TypeId} (h : w.heap[b]? = some (.cells cs t (0, 0))) (o : Nat) : w.frozen? ⟨b, o, none⟩ = false := by
 simp [World.frozen?, h]
theorem lt_of_block {w : World} {b : Nat} {o : Obj} (h : w.heap[b]? = some o) : b < w.heap.size := (Array.getElem?_eq_some_iff.1 h).1
theorem block_setCell {w : World} {b o : Nat} {cs : Array Value} {t : TypeId} {f : Nat × Nat} (h : w.heap[b]? = some (.cells cs t f)) (v : Value) :
  (w.setCell ⟨b, o, none⟩ v).heap[b]? = some (.cells (cs.setIfInBounds o v) t f) := by
 simp [World.setCell, Array.getElem?_modify, h]
theorem block_setCell_other {w : World} {a : Addr} {k : Nat} (h : k ≠ a.block) (v : Value) : (w.setCell a v).heap[k]? = w.heap[k]? := Below.heap_setCell _ _ _ _ h
theorem block_alloc_new (w : World) (o : Obj) : (w.alloc o).heap[w.heap.size]? = some o := heap_alloc_new w o
theorem block_alloc_old {w : World} (o : Obj) {k : Nat} {x : Obj} (h : w.heap[k]? = some x) : (w.alloc o).heap[k]? = some x := by
 rw [Below.heap_alloc _ _ _ (lt_of_block h)]; exact h
theorem Kept.cell {S : Nat → Prop} {w w' : World} (h : Kept S w w') {a : Addr} {v : Value} (hc : w.cell? a = some v) (hn : ¬ S a.block) : w'.cell? a = some v :=
 (World.cell?_of_block (h.block a.block (World.block_lt_of_cell? w a hc) hn)).trans hc
theorem Kept.heap {S : Nat → Prop} {w w' : World} (h : Kept S w w') {b : Nat} {o : Obj} (hc : w.heap[b]? = some o) (hn : ¬ S b) : w'.heap[b]? = some o :=
 (h.block b (lt_of_block hc) hn).trans hc
theorem ret_bool {a b : Bool} (h : a = b) : Ending.returned (.bool a) = .returned (.bool b) := by rw [h]
end Go.Proofs.YtmcajfefagdbnaaGreat
namespace Go.Proofs
abbrev Tryz.muLink : Go.Conc.Locks.MuLink := { lock := 59, unlock := 60, ilock := 87, iunlock := 88, lockSlow := 123, unlockSlow := 126, disable := 119, enable := 121, acquire := 122, relMerge := 124, cas32 := 120, add32 := 125, tMutex := 121, tIMutex := 119, tPMutex := 157, tPIMutex := 179, tPI32 := 181, tUP := 183, tNoCopy := 116, tU32 := 117 }
theorem Tryz.muLib : Go.Conc.Locks.MuLib Tryz.prog Tryz.muLink :=
  ⟨Tryz.func59, Tryz.func60, Tryz.func87, Tryz.func88, Tryz.func119, Tryz.func121, Tryz.func122, Tryz.func124, Tryz.func120, Tryz.func125,
   Tryz.underlying119, Tryz.runUnderlying119, Tryz.sizeOf119, Tryz.isAgg119, Tryz.zeroValue119,
   Tryz.underlying121, Tryz.runUnderlying121, Tryz.sizeOf121, Tryz.isAgg121, Tryz.zeroValue121,
   Tryz.underlying157, Tryz.runUnderlying157, Tryz.sizeOf157, Tryz.isAgg157, Tryz.zeroValue157,
   Tryz.underlying179, Tryz.runUnderlying179, Tryz.sizeOf179, Tryz.isAgg179, Tryz.zeroValue179,
   Tryz.underlying181, Tryz.runUnderlying181, Tryz.sizeOf181, Tryz.isAgg181, Tryz.zeroValue181,
   Tryz.underlying183, Tryz.runUnderlying183, Tryz.sizeOf183, Tryz.isAgg183, Tryz.zeroValue183,
   Tryz.underlying116, Tryz.runUnderlying116, Tryz.sizeOf116, Tryz.isAgg116, Tryz.zeroValue116,
   Tryz.underlying21, Tryz.runUnderlying21, Tryz.sizeOf21, Tryz.isAgg21, Tryz.zeroValue21, (by kernel_rfl)⟩
end Go.Proofs
namespace Go.Proofs.YtmcajfefagdbnaaGreat
open Go.RowKit
def regB (n : Int) : Bool := decide (0 ≤ n) && decide (n < 4)
def opB (k a b : Int) : Bool := if k = 1 then regB b else if k = 2 then regB b else if k = 3 then true else if k = 4 then regB a && regB b else if k = 5 then regB a else false
set_option maxHeartbeats 400000 in
theorem isRegister_any (n : Int) (w : World) : Calls Tryz.prog 171 #[.int .i64 n] w fun e w' => e = .returned (.bool (regB n)) ∧ w' = w := by
 by_cases h0 : 0 ≤ n
 ·by_cases h4 : n < 4
  ·have : regB n = true := by simp [regB, h0, h4]
   rw [this]; clear this
   go_enter Tryz.func171, Tryz.ntmps171
   go_wp2
   go_ret
   exact ⟨rfl, rfl⟩
  ·have : regB n = false := by simp [regB, h4]
   rw [this]; clear this
   go_enter Tryz.func171, Tryz.ntmps171
   go_wp2
   go_ret
   exact ⟨rfl, rfl⟩
 ·have : regB n = false := by simp [regB, h0]
  rw [this]; clear this
  go_enter Tryz.func171, Tryz.ntmps171
  go_wp2
  go_ret
  exact ⟨rfl, rfl⟩
theorem opB_cases (k a b : Int) : (k = 1 ∧ opB k a b = regB b) ∨ (k = 2 ∧ opB k a b = regB b) ∨ (k = 3 ∧ opB k a b = true) ∨ (k = 4 ∧ opB k a b = (regB a && regB b)) ∨ (k = 5 ∧ opB k a b = regB a) ∨
  ((k == 1) = false ∧ (k == 2) = false ∧ (k == 3) = false ∧ (k == 4) = false ∧ (k == 5) = false ∧ opB k a b = false) := by
 by_cases h1 : k = 1
 ·exact .inl ⟨h1, by simp [opB, h1]⟩
 by_cases h2 : k = 2
 ·exact .inr (.inl ⟨h2, by simp [opB, h2]⟩)
 by_cases h3 : k = 3
 ·exact .inr (.inr (.inl ⟨h3, by simp [opB, h3]⟩))
 by_cases h4 : k = 4
 ·exact .inr (.inr (.inr (.inl ⟨h4, by simp [opB, h4]⟩)))
 by_cases h5 : k = 5
 ·exact .inr (.inr (.inr (.inr (.inl ⟨h5, by simp [opB, h5]⟩))))
 exact .inr (.inr (.inr (.inr (.inr ⟨by simp [h1], by simp [h2], by simp [h3], by simp [h4], by simp [h5], by simp [opB, h1, h2, h3, h4, h5]⟩))))
set_option maxHeartbeats 1600000 in
theorem allowed_any (k a b c : Int) (w : World) : Calls Tryz.prog 141 #[.agg #[.int .i64 k, .int .i64 a, .int .i64 b, .int .i64 c]] w fun e w' =>
  e = .returned (.bool (opB k a b)) ∧ w' = w.alloc (.cells #[.int .i64 k, .int .i64 a, .int .i64 b, .int .i64 c] 114) := by
 rcases opB_cases k a b with ⟨rfl, h⟩ | ⟨rfl, h⟩ | ⟨rfl, h⟩ | ⟨rfl, h⟩ | ⟨rfl, h⟩ | ⟨h1, h2, h3, h4, h5, h⟩
 all_goals
  rw [h]; clear h
 case inr.inr.inr.inl =>
  cases hx : regB a
  ·have Hx : Hid _ := hx
   clear hx
   go_enter Tryz.func141, Tryz.ntmps141
   go_wp2_with fail
   refine (isRegister_any _ _).mono ?_; rintro e w' ⟨rfl, rfl⟩
   rw [Hx.out]
   go_wp2_with fail
   go_ret
   exact ⟨by simp, rfl⟩
  ·have Hx : Hid _ := hx
   clear hx
   go_enter Tryz.func141, Tryz.ntmps141
   go_wp2_with fail
   refine (isRegister_any _ _).mono ?_; rintro e w' ⟨rfl, rfl⟩
   rw [Hx.out]
   go_wp2_with fail
   refine (isRegister_any _ _).mono ?_; rintro e w' ⟨rfl, rfl⟩
   go_wp2_with fail
   go_ret
   exact ⟨by simp, rfl⟩
 all_goals
  go_enter Tryz.func141, Tryz.ntmps141
  go_wp2_with (go_at_call 171; refine (isRegister_any _ _).mono ?_; rintro e w' ⟨rfl, rfl⟩)
  go_ret
  exact ⟨rfl, rfl⟩
end Go.Proofs.YtmcajfefagdbnaaGreat
namespace Go.Proofs.YtmcajfefagdbnaaGreat
open Go Go.RowKit
def capOf : Value → Nat | .slice _ _ c => c | _ => 0
structure FromMem (w : World) (size : Nat) (x : Value) (m : Nat) (news : List Value) : Prop where
 shape : ∃ ao c, x = .slice ao m c ∧ (ao = none → m = 0) ∧ ∀ ad, ao = some ad → ∀ j u, news[j]? = some u → w.cell? (ad.add j) = some u
 len : news.length = m * size
 one : ∀ u ∈ news, u.oneCell' = true
theorem FromMem.src {P : Program} {w : World} {size : Nat} {x : Value} {m : Nat} {news : List Value} (h : FromMem w size x m news) {t e : TypeId} (ht : P.underlying t = some (.slice e)) : Src P size t x m news w := by
 obtain ⟨⟨ao, c, rfl, hn, hc⟩, hl, h1⟩ := h
 cases ao with
 | none =>
  obtain rfl := hn rfl
  obtain rfl : news = [] := List.eq_nil_of_length_eq_zero (by simpa using hl)
  exact Src.ofNil w ht c
 | some ad => exact Src.ofSlice w ht ad m c news hl (hc ad rfl) h1
def Moved (w w' : World) (v v' : Value) (need : Nat) : Prop :=
 (v'.ownBlock = v.ownBlock ∧ capOf v' = capOf v ∧ need ≤ capOf v ∧ Kept (fun k => v.ownBlock = some k) w w') ∨ (capOf v < need ∧ v'.ownBlock = some w.heap.size ∧ Kept NoBlk w w')
theorem run_append_at {P : Program} (w : World) (t ty e : TypeId) (i : TypeInfo) (z : Value) (size bytes : Nat) (ht : P.underlying t = some (.slice e)) (hi : P.info? e = some i) (hz : i.zero = some z)
  (hsize : i.size = size) (hby : i.bytes = bytes) (hzs : z.cells.size = size)
  (v : Value) (n : Nat) (xs : List Value) (hown : w.ownsRow 0 e size v n xs) (x : Value) (m : Nat) (news : List Value) (hx : FromMem w size x m news)
  (h63 : n + m ≤ maxLen) (hbytes : (n + m) * bytes ≤ 140737488355328) :
  ∃ v' w', (Builtin.append_ #[t, t] ty #[v, x]).run P w = .ok v' w' ∧ w'.ownsRow 0 e size v' (n + m) (xs ++ news) ∧ Moved w w' v v' (n + m) := by
 subst hsize
 subst hby
 have hsrc := hx.src (P := P) ht
 have hlen : (xs ++ news).length = (n + m) * i.size := by rw [List.length_append, hown.1, hx.len, Nat.add_mul]
 have hsmall : ((n + m : Nat) : Int) ≤ 9223372036854775807 := by simp only [maxLen] at h63; omega
 have grown : ∀ (base : Option Addr) (old : Nat), old < n + m → v = .slice base n old → (Builtin.firstCells i.size n (.slice base n old)).run P w.drew = .ok xs.toArray w.drew →
   ∃ v' w', (Builtin.append_ #[t, t] ty #[v, x]).run P w = .ok v' w' ∧ w'.ownsRow 0 e i.size v' (n + m) (xs ++ news) ∧ Moved w w' v v' (n + m) := by
  intro base old ho hv hold
  subst hv
  have hr := run_append_grow_src (P := P) w t t ty e i z ht hi hz base n old xs hold x m news hsrc ho hsmall (growslice_fits ho hbytes)
  have hge := grownCap_ge w (n + m) old e
  have hcm : grownCap w (n + m) old e ≤ maxLen := grownCap_le_maxLen w (n + m) old e h63
  refine ⟨_, _, hr, ⟨hlen, .inr ⟨w.heap.size, _, _, rfl, Nat.zero_le _, heap_alloc_new w.drew _, hge, hcm, ?_, ?_⟩⟩, .inr ⟨ho, rfl, ?_⟩⟩
  ·simp only [Array.size_append, List.size_toArray, size_zeroCells, hzs, hlen, ← Nat.add_mul]
   congr 1
   omega
  ·simp only [Array.toList_append]
   rw [← hlen]
   exact List.take_left
  ·exact ((Kept.refl NoBlk w).drew).alloc _
 rcases hown.2 with ⟨rfl, rfl⟩ | ⟨g, cap, cur, rfl, hbg, hg, hnc, hcm, hcs, htake⟩
 ·have hxs : xs = [] := List.eq_nil_of_length_eq_zero (by simpa using hown.1)
  subst hxs
  by_cases hm : m = 0
  ·subst hm
   obtain rfl : news = [] := List.eq_nil_of_length_eq_zero (by simpa using hx.len)
   refine ⟨.slice none 0 0, w, ?_, by simpa using World.ownsRow_nil w 0 e i.size, .inl ⟨rfl, rfl, by simp, Kept.refl _ _⟩⟩
   simp [Builtin.append_, run_underlying ht, sizeOf, typeInfo, hi, hsrc.len]
   simp [hsrc.cells]
  ·exact grown none 0 (by omega) rfl (run_firstCells_none w.drew i.size 0 0 0)
 ·by_cases hroom : n + m ≤ cap
  ·have hfit : n * i.size + news.length ≤ cur.size := by rw [hx.len, hcs, ← Nat.add_mul]; exact Nat.mul_le_mul_right _ hroom
   have hst := run_storeCells_at P g (n * i.size) e news 0 cur w hg (by simpa using hfit) hx.one
   simp only [Nat.add_zero] at hst
   have hr : (Builtin.append_ #[t, t] ty #[.slice (some ⟨g, 0, none⟩) n cap, x]).run P w =
     .ok (.slice (some ⟨g, 0, none⟩) (n + m) cap) (w.setRow g (cur.toList.take (n * i.size) ++ news ++ cur.toList.drop (n * i.size + news.length)).toArray) := by
    simp [Builtin.append_, run_underlying ht, sizeOf, typeInfo, hi, hsrc.len, hroom, hsrc.cells, Addr.add_lit, hst]
   refine ⟨_, _, hr, ⟨hlen, .inr ⟨g, cap, _, rfl, hbg, setRow_heap w g cur _ e _ hg, hroom, hcm, ?_, ?_⟩⟩, .inl ⟨rfl, rfl, hroom, ⟨rfl, rfl, rfl, by simp, fun k _ hk => setRow_other w g k _ (fun e => hk (by simp [Value.ownBlock, e]))⟩⟩⟩
   ·simp only [List.size_toArray, List.length_append, List.length_take, List.length_drop, Array.length_toList]
    omega
   ·rw [htake, ← hlen]
    exact List.take_left
  ·refine grown (some ⟨g, 0, none⟩) cap (by omega) rfl ?_
   exact run_firstCells_some w.drew i.size n ⟨g, 0, none⟩ n cap xs hown.1 (by simpa using hown.cells (g := g) rfl)
theorem ownsRow_form {w : World} {base : Nat} {e : TypeId} {size : Nat} {v : Value} {n : Nat} {xs : List Value} (h : w.ownsRow base e size v n xs) : ∃ ao c, v = .slice ao n c := by
 rcases h.2 with ⟨rfl, rfl⟩ | ⟨g, cap, cur, rfl, _⟩
 ·exact ⟨none, 0, rfl⟩
 ·exact ⟨_, cap, rfl⟩
theorem ownsRow_of_block {w w' : World} {e : TypeId} {size : Nat} {v : Value} {n : Nat} {xs : List Value} (h : w.ownsRow 0 e size v n xs) (hb : ∀ k, v.ownBlock = some k → w'.heap[k]? = w.heap[k]?) : w'.ownsRow 0 e size v n xs := by
 refine ⟨h.1, ?_⟩
 rcases h.2 with hn | ⟨g, cap, cur, rfl, hb', hg, r⟩
 ·exact .inl hn
 ·exact .inr ⟨g, cap, cur, rfl, hb', by rw [hb g rfl]; exact hg, r⟩
theorem ownsRow_block {w : World} {e : TypeId} {size : Nat} {v : Value} {n : Nat} {xs : List Value} (h : w.ownsRow 0 e size v n xs) {k : Nat} (hk : v.ownBlock = some k) : ∃ cur, w.heap[k]? = some (.cells cur e (0, 0)) := by
 rcases h.2 with ⟨rfl, _⟩ | ⟨g, cap, cur, rfl, _, hg, _⟩
 ·simp [Value.ownBlock] at hk
 ·simp [Value.ownBlock] at hk
  subst hk
  exact ⟨cur, hg⟩
theorem ownsRow_kept {S : Nat → Prop} {w w' : World} {e : TypeId} {size : Nat} {v : Value} {n : Nat} {xs : List Value} (h : w.ownsRow 0 e size v n xs) (hk : Kept S w w') (hn : ∀ k, v.ownBlock = some k → ¬ S k) : w'.ownsRow 0 e size v n xs :=
 ownsRow_of_block h fun k hv => by
  obtain ⟨cur, hc⟩ := ownsRow_block h hv
  exact hk.block k (lt_of_block hc) (hn k hv)
theorem blocks_apart {w : World} {b k : Nat} {cs cs' : Array Value} {t t' : TypeId} {f f' : Nat × Nat} (h : w.heap[b]? = some (.cells cs t f)) (h' : w.heap[k]? = some (.cells cs' t' f')) (hne : t ≠ t') : b ≠ k := by
 intro e
 subst e
 rw [h] at h'
 simp at h'
 exact hne h'.2.1
theorem wpList_append_at {P : Program} {w : World} {ops : Array Oper} {rest : List Oper} {o : Oper} {a : Act} {Q : Exit → Act → World → Prop} (hgd : o.guard = none) (s x : Operand) (t : TypeId)
  (ho : o.op = .call { callee := .builtin .append, args := #[s, x], argTypes := #[t, t] })
  (e : TypeId) (i : TypeInfo) (z : Value) (size bytes : Nat) (ht : P.underlying t = some (.slice e)) (hi : P.info? e = some i) (hz : i.zero = some z)
  (hsize : i.size = size) (hby : i.bytes = bytes) (hzs : z.cells.size = size)
  (v : Value) (n : Nat) (xs : List Value) (hs : a.eval s = v) (hown : w.ownsRow 0 e size v n xs) (xv : Value) (m : Nat) (news : List Value) (hx : a.eval x = xv) (hsrc : FromMem w size xv m news)
  (h63 : n + m ≤ maxLen) (hbytes : (n + m) * bytes ≤ 140737488355328)
  (h : ∀ ao' c' w', w'.ownsRow 0 e size (.slice ao' (n + m) c') (n + m) (xs ++ news) → Moved w w' v (.slice ao' (n + m) c') (n + m) → wpList P ops Q rest (a.put o.dst (.slice ao' (n + m) c')) w') : wpList P ops Q (o :: rest) a w := by
 refine wpList_plain hgd fun K hK => ?_
 obtain ⟨v', w', hr, h2, h3⟩ := run_append_at (P := P) w t o.type e i z size bytes ht hi hz hsize hby hzs v n xs hown xv m news hsrc h63 hbytes
 unfold Oper.wp
 simp only [execOp, ho, resolve, invoke, builtin, Sem.run_bind, Sem.run_pure, Result.andThen_ok, List.map_toArray, List.map_cons, List.map_nil, hs, hx, hr]
 obtain ⟨ao', c', rfl⟩ := ownsRow_form h2
 exact hK _ _ (h ao' c' w' h2 h3)
theorem run_copy_at {P : Program} (w : World) (dT sT ty e : TypeId) (size : Nat) (hu : P.underlying dT = some (.slice e)) (hsz : (P.info? e).map (·.size) = some size) (g dLen dCap : Nat) (cur : Array Value) (t : TypeId)
  (hg : w.heap[g]? = some (.cells cur t (0, 0))) (x : Value) (m : Nat) (cs : List Value) (hx : FromMem w size x m cs) (hm : m ≤ dLen) (hfit : cs.length ≤ cur.size) :
  (Builtin.copy_ #[dT, sT] ty #[.slice (some ⟨g, 0, none⟩) dLen dCap, x]).run P w = .ok (goInt m) (w.setRow g (cs ++ cur.toList.drop cs.length).toArray) := by
 have hst := run_storeCells_at P g 0 t cs 0 cur w hg (by simpa using hfit) hx.one
 simp only [Nat.add_zero, Nat.zero_add, List.take_zero, List.nil_append] at hst
 have hsrc := hx.src (P := P) hu
 have hmin : Nat.min m dLen = m := Nat.min_eq_left hm
 cases hq : P.info? e with
 | none => simp [hq] at hsz
 | some i =>
  have hi : i.size = size := by simpa [hq] using hsz
  simp [Builtin.copy_, run_underlying hu, sizeOf, typeInfo, hq, hi, hsrc.len, hmin, hsrc.cells, hst]
theorem wpList_copy_at {P : Program} {w : World} {ops : Array Oper} {rest : List Oper} {o : Oper} {a : Act} {Q : Exit → Act → World → Prop} (hgd : o.guard = none) (d s : Operand) (dT sT : TypeId)
  (ho : o.op = .call { callee := .builtin .copy, args := #[d, s], argTypes := #[dT, sT] }) (e : TypeId) (size : Nat) (hu : P.underlying dT = some (.slice e)) (hsz : (P.info? e).map (·.size) = some size)
  (g dLen dCap : Nat) (hd : a.eval d = .slice (some ⟨g, 0, none⟩) dLen dCap) (cur : Array Value) (t : TypeId) (hg : w.heap[g]? = some (.cells cur t (0, 0)))
  (x : Value) (m : Nat) (cs : List Value) (hs : a.eval s = x) (hx : FromMem w size x m cs) (hm : m ≤ dLen) (hfit : cs.length ≤ cur.size)
  (h : ∀ w', w'.heap[g]? = some (.cells (cs ++ cur.toList.drop cs.length).toArray t (0, 0)) → Kept (Blk g) w w' → wpList P ops Q rest (a.put o.dst (goInt m)) w') : wpList P ops Q (o :: rest) a w := by
 refine wpList_plain hgd fun K hK => ?_
 have hrun := run_copy_at (P := P) w dT sT o.type e size hu hsz g dLen dCap cur t hg x m cs hx hm hfit
 unfold Oper.wp
 simp only [execOp, ho, resolve, invoke, builtin, Sem.run_bind, Sem.run_pure, Result.andThen_ok, List.map_toArray, List.map_cons, List.map_nil, hd, hs, hrun]
 exact hK _ _ (h _ (setRow_heap w g cur _ t _ hg) ⟨rfl, rfl, rfl, by simp [World.setRow], fun k _ hk => setRow_other w g k _ hk⟩)
theorem wpList_make_at {P : Program} {w : World} {ops : Array Oper} {rest : List Oper} {o : Oper} {a : Act} {Q : Exit → Act → World → Prop}
  (hg : o.guard = none) (l c : Operand) (t : TypeId) (hop : o.op = Op.makeSlice t l c)
  (e : TypeId) (i : TypeInfo) (z : Value) (size : Nat) (h1 : P.underlying t = some (.slice e)) (h2 : P.info? e = some i) (h3 : i.zero = some z) (h4 : i.size = size)
  (kl kc : IntKind) (L C : Int) (n m : Nat) (hl : a.eval l = .int kl L) (hc : a.eval c = .int kc C) (hL : L = (n : Int)) (hC : C = (m : Int)) (hnm : n ≤ m) (b2 : i.bytes * m ≤ 281474976710656) (b3 : m ≤ maxLen)
  (hK : wpList P ops Q rest (a.put o.dst (.slice (some ⟨w.heap.size, 0, none⟩) n m)) (w.alloc (.cells (madeCells z.cells (m * size)) e))) :
  wpList P ops Q (o :: rest) a w := by
 refine wpList_plain hg fun K hK' => ?_
 subst hL
 subst hC
 subst h4
 have h63' : (m : Int) ≤ 9223372036854775807 := by simp only [maxLen] at b3; omega
 have hb' : (i.bytes : Int) * (m : Int) ≤ 281474976710656 := by
  have h : ((i.bytes * m : Nat) : Int) ≤ 281474976710656 := by omega
  rwa [Int.natCast_mul] at h
 have hr := run_make (P := P) w t e i z h1 h2 h3 kl kc n m (by omega) (by omega) hb' h63'
 simp only [Int.toNat_natCast] at hr
 unfold Oper.wp
 simp only [execOp, hop, hl, hc, hr, Sem.run_bind, Sem.run_pure, Result.andThen]
 exact hK' _ _ hK
end Go.Proofs.YtmcajfefagdbnaaGreat
namespace Go.Proofs.YtmcajfefagdbnaaGreat
open Go Go.RowKit Go.Maps
def anyElem (v : Value) : Option (DataW Value × List MemPlace) := some (.held v, [])
theorem anyElem_inv {v : Value} {y : DataW Value × List MemPlace} (h : anyElem v = some y) : y = (.held v, []) := by simp [anyElem] at h; exact h.symm
structure KeyTy (P : Program) (k : TypeId) (κ : Type) where
 law : Keyed P k
 ok : κ → Prop
 va : κ → Value
 lit : κ → Lit
 key : ∀ a, ok a → keyOf P k (va a) = some (lit a)
 inv : ∀ v kl, keyOf P k v = some kl → ∃ a, ok a ∧ v = va a
 inj : ∀ a b, va a = va b → a = b
variable {P : Program} {k : TypeId} {κ : Type}
theorem KeyTy.isKey (T : KeyTy P k κ) {a : κ} (h : T.ok a) : WideAt.IsKeyLit (T.lit a) := T.law.key (T.key a h)
theorem KeyTy.lit_ne (T : KeyTy P k κ) {a b : κ} (ha : T.ok a) (hb : T.ok b) (h : a ≠ b) : T.lit a ≠ T.lit b := fun e =>
 h (T.inj a b (T.law.inj (T.key a ha) (by rw [e]; exact T.key b hb)))
def Says (T : KeyTy P k κ) (D : DataW Value) (g : κ → Option Value) : Prop :=
 ∀ a, T.ok a → match g a with | none => has D (T.lit a) = false | some v => ∀ z, D.atKey (T.lit a) z = .held v
def MapAt (T : KeyTy P k κ) (w : World) (b n : Nat) (g : κ → Option Value) : Prop := ∃ D, w.ownsMap P k anyElem b n D ∧ Says T D g
theorem Says.has {T : KeyTy P k κ} {D : DataW Value} {g : κ → Option Value} (h : Says T D g) {a : κ} (ha : T.ok a) : Maps.has D (T.lit a) = (g a).isSome := by
 have := h a ha
 cases hg : g a with
 | none => rw [hg] at this; simpa using this
 | some v => rw [hg] at this; simpa using has_true_of_atKey this
theorem Says.at {T : KeyTy P k κ} {D : DataW Value} {g : κ → Option Value} (h : Says T D g) {a : κ} (ha : T.ok a) {v : Value} (hz : ∀ z, D.atKey (T.lit a) z = .held v) : g a = some v := by
 have := h a ha
 cases hg : g a with
 | none =>
  rw [hg] at this
  have e := has_true_of_atKey hz
  simp only at this
  rw [this] at e
  cases e
 | some u =>
  rw [hg] at this
  have e := (this .nil).symm.trans (hz .nil)
  cases e
  rfl
theorem MapAt.lt {T : KeyTy P k κ} {w : World} {b n : Nat} {g : κ → Option Value} (h : MapAt T w b n g) : b < w.heap.size := by
 obtain ⟨D, h1, _⟩ := h
 exact h1.lt
theorem MapAt.mono {T : KeyTy P k κ} {w : World} {b n m : Nat} {g : κ → Option Value} (h : MapAt T w b n g) (hm : n ≤ m) : MapAt T w b m g := by
 obtain ⟨D, h1, h2⟩ := h
 exact ⟨D, h1.mono hm, h2⟩
theorem MapAt.of_same {T : KeyTy P k κ} {w w' : World} {b n : Nat} {g : κ → Option Value} (h : MapAt T w b n g) (hb : w'.heap[b]? = w.heap[b]?) : MapAt T w' b n g := by
 obtain ⟨D, ⟨es, clock, h1, h2⟩, h3⟩ := h
 exact ⟨D, ⟨es, clock, hb.trans h1, h2⟩, h3⟩
theorem MapAt.kept {T : KeyTy P k κ} {S : Nat → Prop} {w w' : World} {b n : Nat} {g : κ → Option Value} (h : MapAt T w b n g) (hk : Kept S w w') (hb : ¬ S b) : MapAt T w' b n g :=
 h.of_same (hk.block b h.lt hb)
theorem MapAt.congr {T : KeyTy P k κ} {w : World} {b n : Nat} {g g' : κ → Option Value} (h : MapAt T w b n g) (e : ∀ a, T.ok a → g a = g' a) : MapAt T w b n g' := by
 obtain ⟨D, h1, h2⟩ := h
 exact ⟨D, h1, fun a ha => by rw [← e a ha]; exact h2 a ha⟩
theorem MapAt.isMap {T : KeyTy P k κ} {w : World} {b n : Nat} {g : κ → Option Value} (h : MapAt T w b n g) : ∃ es clock, w.heap[b]? = some (.map es clock) := by
 obtain ⟨D, ⟨es, clock, h1, _⟩, _⟩ := h
 exact ⟨es, clock, h1⟩
theorem MapAt.made (T : KeyTy P k κ) (w : World) : MapAt T (w.alloc (.map #[] 0)) w.heap.size 0 (fun _ => none) :=
 ⟨.map [], World.ownsMap_made _ _ _ _, fun _ _ => rfl⟩
theorem MapAt.look {T : KeyTy P k κ} {w : World} {b n : Nat} {g : κ → Option Value} (h : MapAt T w b n g) {t e : TypeId} (ht : P.underlying t = some (.map k e)) {z : Value} (hz : (zeroValue e).run P w = .ok z w) {a : κ} (ha : T.ok a) :
  (Instr.lookup t (.map (some b)) (T.va a) false).run P w = .ok ((g a).getD z) w := by
 obtain ⟨D, ⟨es, clock, hb, F, _, rfl⟩, hs⟩ := h
 have := hs a ha
 rcases Maps.fit_look false T.law ht hz hb F (T.key a ha) with ⟨hrun, _, hat⟩ | ⟨e0, y, _, _, hrun, hRv, hat, _⟩
 ·have hf := has_false_of_atKey hat
  have : g a = none := by
   have h1 := Says.has hs ha
   rw [hf] at h1
   simpa using h1.symm
  rw [this]; exact hrun
 ·rw [anyElem_inv hRv] at hat
  rw [Says.at hs ha hat]; exact hrun
theorem MapAt.look_ok {T : KeyTy P k κ} {w : World} {b n : Nat} {g : κ → Option Value} (h : MapAt T w b n g) {t e : TypeId} (ht : P.underlying t = some (.map k e)) {z : Value} (hz : (zeroValue e).run P w = .ok z w) {a : κ} (ha : T.ok a) :
  (Instr.lookup t (.map (some b)) (T.va a) true).run P w = .ok (.tuple #[(g a).getD z, .bool (g a).isSome]) w := by
 obtain ⟨D, ⟨es, clock, hb, F, _, rfl⟩, hs⟩ := h
 have := hs a ha
 rcases Maps.fit_look true T.law ht hz hb F (T.key a ha) with ⟨hrun, _, hat⟩ | ⟨e0, y, _, _, hrun, hRv, hat, _⟩
 ·have hf := has_false_of_atKey hat
  have : g a = none := by
   have h1 := Says.has hs ha
   rw [hf] at h1
   simpa using h1.symm
  rw [this]; exact hrun
 ·rw [anyElem_inv hRv] at hat
  rw [Says.at hs ha hat]; exact hrun
def put {β : Type} [DecidableEq κ] (g : κ → Option β) (a : κ) (v : Option β) : κ → Option β := fun c => if c = a then v else g c
theorem MapAt.store [DecidableEq κ] {T : KeyTy P k κ} {w : World} {b n : Nat} {g : κ → Option Value} (h : MapAt T w b n g) {t e : TypeId} (ht : P.underlying t = some (.map k e)) (hn : n < maxLen) {a : κ} (ha : T.ok a) (v : Value) :
  ∃ w', (Instr.mapUpdate t (.map (some b)) (T.va a) v).run P w = .ok () w' ∧ MapAt T w' b (n + 1) (put g a (some v)) ∧ Kept (Blk b) w w' ∧ w'.heap.size = w.heap.size := by
 obtain ⟨D, hown, hs⟩ := h
 have hm := hown.isMap
 obtain ⟨w', hrun, h1, h2⟩ := hown.update T.law ht hn (T.key a ha) (val := v) (d := .held v) (ps := []) rfl
 obtain ⟨es, clock, hb, F, hsz, rfl⟩ := hown
 obtain ⟨es', clock', hrun', _⟩ := Maps.fit_store (R' := anyElem) T.law ht hb F (Nat.lt_of_le_of_lt hsz hn) (fun _ _ _ _ hz => hz) (T.key a ha) (val := v) (yv := (.held v, [])) rfl
 have e1 : w' = ChangeMaps.setBlock w b (.map es' clock') := by
  have := hrun.symm.trans hrun'
  simpa using this
 refine ⟨w', hrun, ⟨_, h1, fun c hc => ?_⟩, ⟨h2.os, h2.tape, h2.output, h2.size, fun i hi hn => h2.block i hi (fun e => hn (by cases e; rfl))⟩, by rw [e1]; simp [ChangeMaps.setBlock]⟩
 by_cases e : c = a
 ·subst e
  simp only [put, if_true]
  exact fun z => atKey_put_same hm (T.isKey ha) _ z
 ·have hne := T.lit_ne hc ha e
  have := hs c hc
  simp only [put, if_neg e]
  cases hg : g c with
  | none =>
   rw [hg] at this
   simp only at this ⊢
   rw [has_put_other hne]; exact this
  | some u =>
   rw [hg] at this
   simp only at this ⊢
   exact fun z => (atKey_put_other hne _ z).trans (this z)
theorem MapAt.drop [DecidableEq κ] {T : KeyTy P k κ} {w : World} {b n : Nat} {g : κ → Option Value} (h : MapAt T w b n g) {t e : TypeId} (ht : P.underlying t = some (.map k e)) {a : κ} (ha : T.ok a) (ty : TypeId) :
  ∃ w', (Builtin.delete_ #[t, k] ty #[.map (some b), T.va a]).run P w = .ok (.tuple #[]) w' ∧ MapAt T w' b n (put g a none) ∧ Kept (Blk b) w w' ∧ w'.heap.size = w.heap.size := by
 obtain ⟨D, hown, hs⟩ := h
 obtain ⟨w', hrun, h1, h2⟩ := hown.drop T.law ht (T.key a ha) ty
 have h3 := h2.grown
 refine ⟨w', hrun, ⟨_, h1, fun c hc => ?_⟩, ⟨h3.os, h3.tape, h3.output, h3.size, fun i hi hn => h3.block i hi (fun e => hn (by cases e; rfl))⟩, ?_⟩
 ·by_cases e : c = a
  ·subst e
   simp only [put, if_true]
   exact has_del_same
  ·have hne := T.lit_ne hc ha e
   have := hs c hc
   simp only [put, if_neg e]
   cases hg : g c with
   | none =>
    rw [hg] at this
    simp only at this ⊢
    rw [has_del_other hne]; exact this
   | some u =>
    rw [hg] at this
    simp only at this ⊢
    exact fun z => (atKey_del_other hne z).trans (this z)
 ·obtain ⟨es, clock, es', clock', _, rfl⟩ := h2
  simp [ChangeMaps.setBlock]
def RangeAt (T : KeyTy P k κ) (w : World) (b r n : Nat) (g : κ → Option Value) (left : κ → Bool) (cnt : Nat) : Prop :=
 ∃ D lf, w.ranges P k anyElem b r n D lf cnt ∧ Says T D g ∧ ∀ a, T.ok a → lf (T.lit a) = left a
theorem RangeAt.map {T : KeyTy P k κ} {w : World} {b r n cnt : Nat} {g : κ → Option Value} {left : κ → Bool} (h : RangeAt T w b r n g left cnt) : MapAt T w b n g := by
 obtain ⟨D, lf, h1, h2, _⟩ := h
 exact ⟨D, h1.owns, h2⟩
theorem RangeAt.left_eq {T : KeyTy P k κ} {w : World} {b r n cnt : Nat} {g : κ → Option Value} {left : κ → Bool} (h : RangeAt T w b r n g left cnt) : w.rangeLeft b r = cnt := by
 obtain ⟨D, lf, h1, h2, _⟩ := h
 exact h1.left_eq
theorem RangeAt.lt {T : KeyTy P k κ} {w : World} {b r n cnt : Nat} {g : κ → Option Value} {left : κ → Bool} (h : RangeAt T w b r n g left cnt) : r < w.heap.size ∧ b < w.heap.size ∧ r ≠ b := by
 obtain ⟨D, lf, h1, h2, _⟩ := h
 exact ⟨h1.lt, h1.owns.lt, h1.ne⟩
theorem RangeAt.kept {T : KeyTy P k κ} {S : Nat → Prop} {w w' : World} {b r n cnt : Nat} {g : κ → Option Value} {left : κ → Bool} (h : RangeAt T w b r n g left cnt) (hk : Kept S w w') (hb : ¬ S b) (hr : ¬ S r) : RangeAt T w' b r n g left cnt := by
 have hl := h.lt
 obtain ⟨D, lf, ⟨es, clock, since, seen, c0, h1, h2, h3, h4, h5, h6⟩, hs⟩ := h
 exact ⟨D, lf, ⟨es, clock, since, seen, c0, (hk.block b hl.2.1 hb).trans h1, h2, h3, h4, (hk.block r hl.1 hr).trans h5, h6⟩, hs⟩
theorem MapAt.range {T : KeyTy P k κ} {w : World} {b n : Nat} {g : κ → Option Value} (h : MapAt T w b n g) {t e : TypeId} (ht : P.underlying t = some (.map k e)) :
  ∃ w' cnt, (Instr.range t (.map (some b))).run P w = .ok (.pointer (some ⟨w.heap.size, 0, none⟩)) w' ∧ RangeAt T w' b w.heap.size n g (fun a => (g a).isSome) cnt ∧ Kept NoBlk w w' ∧ w'.heap.size = w.heap.size + 1 ∧ cnt ≤ n := by
 obtain ⟨D, hown, hs⟩ := h
 have hsz := hown.size_le
 obtain ⟨w', hrun, h1, h2, h3⟩ := hown.range T.law ht
 exact ⟨w', _, hrun, ⟨D, _, h1, hs, fun a ha => hs.has ha⟩, ⟨h2.os, h2.tape, h2.output, h2.size, fun i hi _ => h2.block i hi (by simp)⟩, h3, hsz⟩
theorem RangeAt.next [DecidableEq κ] {T : KeyTy P k κ} {w : World} {b r n cnt : Nat} {g : κ → Option Value} {left : κ → Bool} (h : RangeAt T w b r n g left cnt) (ty : TypeId) :
  (cnt = 0 ∧ (∀ a, T.ok a → left a = false) ∧ (Instr.next (.pointer (some ⟨r, 0, none⟩)) false ty).run P w = .ok (.tuple #[.bool false]) w) ∨
  ∃ a v w' cnt', T.ok a ∧ left a = true ∧ g a = some v ∧ (Instr.next (.pointer (some ⟨r, 0, none⟩)) false ty).run P w = .ok (.tuple #[.bool true, T.va a, v]) w' ∧ RangeAt T w' b r n g (fun c => left c && !decide (c = a)) cnt' ∧ cnt' < cnt ∧
   Kept (Blk r) w w' ∧ w'.heap.size = w.heap.size ∧ (Instr.entry (.pointer (some ⟨r, 0, none⟩))).run P w' = .ok (.tuple #[T.va a, v]) w' := by
 obtain ⟨D, lf, h1, hs, hl⟩ := h
 rcases h1.next T.law ty with ⟨h0, hlf, hrun⟩ | ⟨key, v, kl, y, w', cnt', hkey, hlk, hv, hat, hrun, hrg, hlt, hgr, hsz, hen⟩
 ·exact .inl ⟨h0, fun a ha => by rw [← hl a ha]; exact hlf _, hrun⟩
 ·obtain ⟨a, ha, rfl⟩ := T.inv key kl hkey
  rw [T.key a ha] at hkey
  cases hkey
  rw [anyElem_inv hv] at hat
  refine .inr ⟨a, v, w', cnt', ha, by rw [← hl a ha]; exact hlk, hs.at ha hat, hrun, ⟨D, _, hrg, hs, fun c hc => ?_⟩, hlt, ⟨hgr.os, hgr.tape, hgr.output, hgr.size, fun i hi hn => hgr.block i hi (fun e => hn (by cases e; rfl))⟩, hsz, hen⟩
  simp only
  rw [hl c hc]
  by_cases e : c = a
  ·subst e; simp [WideAt.sameKey_self (T.isKey hc)]
  ·simp [e, sameKey_ne (T.lit_ne hc ha e)]
end Go.Proofs.YtmcajfefagdbnaaGreat
