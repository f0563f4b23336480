import Derived.Test.YtmcajfefagdbnaaGreatQ02
import Derived.Deep.RegionLaw
import Derived.Deep.RegionHeld3
import Derived.Test.YtmcajfefagdbnaaGreatProg
import Derived.DeepKeys4
import Derived.KernelRfl
namespace Go.Proofs.YtmcajfefagdbnaaGreat
open Go.RowKit
structure Op4 where
 k : Int
 a : Int
 b : Int
 c : Int
def Op4.z : Op4 := ⟨0, 0, 0, 0⟩
def Op4.ok (o : Op4) : Bool := opB o.k o.a o.b
def Op4.cells (o : Op4) : List Value := [.int .i64 o.k, .int .i64 o.a, .int .i64 o.b, .int .i64 o.c]
def OpsAt (w : World) (b off : Nat) (l : List Op4) : Prop := ∀ i, i < l.length →
 w.cell? ⟨b, off + i * 4, none⟩ = some (.int .i64 (l.getD i Op4.z).k) ∧ w.cell? ⟨b, off + i * 4 + 1, none⟩ = some (.int .i64 (l.getD i Op4.z).a) ∧
 w.cell? ⟨b, off + i * 4 + 2, none⟩ = some (.int .i64 (l.getD i Op4.z).b) ∧ w.cell? ⟨b, off + i * 4 + 3, none⟩ = some (.int .i64 (l.getD i Op4.z).c)
theorem OpsAt.kept {S : Nat → Prop} {w w' : World} {b off : Nat} {l : List Op4} (h : OpsAt w b off l) (hk : Kept S w w') (hn : ¬ S b) : OpsAt w' b off l := fun i hi =>
 ⟨hk.cell (h i hi).1 hn, hk.cell (h i hi).2.1 hn, hk.cell (h i hi).2.2.1 hn, hk.cell (h i hi).2.2.2 hn⟩
theorem all_take_succ (l : List Op4) (k : Nat) (hk : k < l.length) (h : (l.take k).all Op4.ok = true) : (l.take (k + 1)).all Op4.ok = (l.getD k Op4.z).ok := by
 rw [List.take_succ_eq_append_getElem hk, List.all_append, h]
 simp [List.getD, hk]
theorem all_false_of (l : List Op4) (k : Nat) (hk : k < l.length) (h : (l.getD k Op4.z).ok = false) : l.all Op4.ok = false := by
 rw [List.all_eq_false]
 exact ⟨l[k], List.getElem_mem hk, by simp [List.getD, hk] at h; simp [h]⟩
set_option maxHeartbeats 1600000 in
theorem allAllowed_some (b off cap : Nat) (l : List Op4) (w : World) (h : OpsAt w b off l) (hl : l.length ≤ 1048576) :
  Calls Tryz.prog 106 #[.slice (some ⟨b, off, none⟩) l.length cap] w fun e w' => e = .returned (.bool (l.all Op4.ok)) ∧ Kept NoBlk w w' := by
 generalize hn : l.length = n at hl ⊢
 have Hn : Hid _ := hn
 clear hn
 go_enter Tryz.func106, Tryz.ntmps106
 go_wp2
 go_loopw [7] (fun i wr => ∃ k : Nat, k ≤ n ∧ i = .int .i64 k ∧ (l.take k).all Op4.ok = true ∧ Kept NoBlk w wr) (fun i _ => n - (intOf i).toNat)
 case atStart => exact ⟨0, Nat.zero_le _, rfl, rfl, Kept.refl _ _⟩
 case round =>
  obtain ⟨k, hk, rfl, hall, hkw⟩ := hrel
  by_cases hlt : k < n
  ·have hkl : k < l.length := by rw [Hn.out]; exact hlt
   obtain ⟨g0, g1, g2, g3⟩ := (h.kept hkw (fun x => x)) k hkl
   have Hs : Hid _ := all_take_succ l k hkl hall
   have Hf : Hid _ := all_false_of l k hkl
   have Hk : Hid _ := hkw
   clear hkl h hall hkw
   generalize l.getD k Op4.z = o at *
   go_wp2_with fail
   refine (allowed_any _ _ _ _ _).mono ?_
   rintro e w' ⟨rfl, rfl⟩
   have hko : o.ok = opB o.k o.a o.b := rfl
   have Ho : Hid _ := hko
   clear hko
   generalize opB o.k o.a o.b = x at *
   cases x
   ·go_wp2_with fail
    go_ret
    exact ⟨ret_bool (Hf.out Ho.out).symm, (Hk.out.alloc _).alloc _⟩
   ·go_wp2_with fail
    go_roundw
    case rel => exact ⟨k + 1, by omega, by go_num, Hs.out.trans Ho.out, (Hk.out.alloc _).alloc _⟩
    case measure => simp [intOf]; omega
  ·go_wp2_with fail
   go_ret
   refine ⟨ret_bool ?_, hkw⟩
   rw [← hall, List.take_of_length_le (by rw [Hn.out]; omega)]
end Go.Proofs.YtmcajfefagdbnaaGreat
namespace Go.Proofs.YtmcajfefagdbnaaGreat
open Go Go.RowKit
theorem Kept.set1 (w : World) (b o : Nat) (v : Value) : Kept (Blk b) w (w.setCell ⟨b, o, none⟩ v) := (Kept.refl (Blk b) w).setCell (p := ⟨b, o, none⟩) (.inl rfl) v
theorem Kept.cell0 {w w' : World} (h : Kept NoBlk w w') {a : Addr} {v : Value} (hc : w.cell? a = some v) : w'.cell? a = some v := h.cell hc (fun x => x)
theorem from_new1 (w : World) (x : Value) (ty : TypeId) (h1 : x.oneCell' = true) : FromMem (w.alloc (.cells #[x] ty)) 1 (.slice (some ⟨w.heap.size, 0, none⟩) 1 1) 1 [x] := by
 refine ⟨⟨_, 1, rfl, fun h => by simp at h, ?_⟩, rfl, fun u hu => by simp at hu; subst hu; exact h1⟩
 intro ad had j u hu
 obtain rfl := Option.some.inj had
 match j, hu with
 | 0, hu => simp at hu; subst hu; rw [Addr.add_lit, cell_at (block_alloc_new w _)]; rfl
 | j + 1, hu => simp at hu
theorem Moved.keptOf {w w' : World} {v v' : Value} {need : Nat} (h : Moved w w' v v' need) : Kept (fun k => v.ownBlock = some k) w w' := by
 rcases h with ⟨_, _, _, hk⟩ | ⟨_, _, hk⟩
 ·exact hk
 ·exact hk.mono (fun _ x => x.elim)
theorem Moved.fresh {w w' : World} {v v' : Value} {need : Nat} (h : Moved w w' v v' need) : ∀ k, v'.ownBlock = some k → v.ownBlock = some k ∨ w.heap.size ≤ k := fun k hk => by
 rcases h with ⟨ho, _, _, _⟩ | ⟨_, ho, _⟩
 ·left; rw [← ho]; exact hk
 ·right; rw [hk] at ho; cases ho; exact Nat.le_refl _
theorem ownsRow_lt {w : World} {e : TypeId} {size : Nat} {v : Value} {n : Nat} {xs : List Value} (h : w.ownsRow 0 e size v n xs) : ∀ k, v.ownBlock = some k → k < w.heap.size := fun k hk => by
 obtain ⟨cur, hcur⟩ := ownsRow_block h hk
 exact lt_of_block hcur
end Go.Proofs.YtmcajfefagdbnaaGreat
namespace Go.Proofs.YtmcajfefagdbnaaGreat
open Go Go.RowKit Go.Maps
def inI (a : Int) : Prop := -9223372036854775808 ≤ a ∧ a ≤ 9223372036854775807
theorem wfI {a : Int} : (Lit.int .i64 a).wf = true ↔ inI a := by
 constructor
 ·intro h
  simp only [Lit.wf, Bool.and_eq_true, decide_eq_true_eq] at h
  exact h
 ·exact WalkArith.wf_i64
theorem int_inj {q : IntKind} {a b : Int} (h : Value.int q a = .int q b) : a = b := by cases h; rfl
def keyI : KeyTy Tryz.prog 3 Int where
 law := int_keyed Tryz.underlying3
 ok := inI
 va := Value.int .i64
 lit := Lit.int .i64
 key a h := keyOf_int_mk Tryz.underlying3 (wfI.2 h)
 inv v kl h := by
  obtain ⟨x, rfl, _, hw⟩ := Maps.keyOf_int_inv Tryz.underlying3 h
  exact ⟨x, wfI.1 hw, rfl⟩
 inj a b h := int_inj h
theorem holdRow : (168 : TypeId) < Tryz.prog.types.size := of_decide_eq_true (by kernel_rfl)
theorem holdCells : Tryz.prog.cellsOf 168 = 2 := by kernel_rfl
theorem holdLaid : laidOutB Tryz.prog = true := by kernel_rfl
theorem holdWide : (match Tryz.prog.underlying 168 with | some (.array _ _) | some (.struct _) => true | _ => false) = true := by kernel_rfl
set_option maxRecDepth 100000 in
theorem holdLaw : WideMaps.KeyLaw Tryz.prog 168 := deep_law_laid holdLaid (m := 2) (by omega) holdRow (by kernel_rfl) holdWide
theorem holdKey : Tryz.prog.keyType 168 = true := by kernel_rfl
theorem aboveSome {a n : Nat} (h : a < n) : ∃ m, n = m + 1 := ⟨n - 1, by omega⟩
theorem typesTwo : ∃ m, Tryz.prog.types.size = m + 1 := aboveSome holdRow
theorem intCells : Tryz.prog.cellsOf 3 = 1 := by kernel_rfl
def holdVal (x : Int × Int) : Value := .agg #[.int .i64 x.1, .int .i64 x.2]
def holdLit (x : Int × Int) : Lit := .string (keyBytes [.int .i64 x.1, .int .i64 x.2])
theorem pairKeyOf {P : Program} {k e : TypeId} {f0 f1 : Field} (hu : P.underlying k = some (.struct #[f0, f1])) (t0 : f0.type = e) (t1 : f1.type = e) (o0 : f0.offset = 0) (o1 : f1.offset = 1) (n0 : (f0.name != "_") = true) (n1 : (f1.name != "_") = true)
  (he : P.underlying e = some (.int .i64)) (hc : P.cellsOf e = 1) (hk : P.cellsOf k = 2) (kt : P.keyType k = true) (hsz : ∃ m, P.types.size = m + 1) (x : Int × Int) (h : inI x.1 ∧ inI x.2) : keyOf P k (holdVal x) = some (holdLit x) := by
 obtain ⟨m, hm⟩ := hsz
 have w1 := wfI.2 h.1
 have w2 := wfI.2 h.2
 simp only [bne_iff_ne, ne_eq] at n0 n1
 simp [keyOf, hu, kt, Value.formed, holdVal, hk, Program.keyLits, hm, Value.cells, he, hc, w1, w2, holdLit, t0, t1, o0, o1, n0, n1]
theorem pairInv {P : Program} {k e : TypeId} {f0 f1 : Field} (hu : P.underlying k = some (.struct #[f0, f1])) (t0 : f0.type = e) (t1 : f1.type = e) (o0 : f0.offset = 0) (o1 : f1.offset = 1) (n0 : (f0.name != "_") = true) (n1 : (f1.name != "_") = true)
  (he : P.underlying e = some (.int .i64)) (hc : P.cellsOf e = 1) (hk : P.cellsOf k = 2) (hsz : ∃ m, P.types.size = m + 1) (v : Value) (kl : Lit) (h : keyOf P k v = some kl) : ∃ x : Int × Int, (inI x.1 ∧ inI x.2) ∧ v = holdVal x := by
 obtain ⟨m, hm⟩ := hsz
 simp only [bne_iff_ne, ne_eq] at n0 n1
 simp only [keyOf, hu] at h
 split at h
 ·rename_i hf
  simp only [Bool.and_eq_true] at hf
  have hf2 := hf.2
  cases v <;> simp [Value.formed, hu, hk] at hf2
  rename_i cs
  obtain ⟨c0, c1, rfl⟩ : ∃ c0 c1, cs = #[c0, c1] := by
   obtain ⟨l⟩ := cs
   match l, hf2 with
   | [c0, c1], _ => exact ⟨c0, c1, rfl⟩
  simp [Program.keyLits, hm, Value.cells, hu, he, hc, hk, t0, t1, o0, o1, n0, n1] at h
  cases c0 <;> simp at h
  rename_i q0 a0
  by_cases e0 : q0 = .i64 ∧ (Lit.int .i64 a0).wf = true
  ·obtain ⟨rfl, w0⟩ := e0
   simp only [w0, and_self, if_true, Option.bind_some] at h
   cases c1 <;> simp at h
   rename_i q1 a1
   by_cases e1 : q1 = .i64 ∧ (Lit.int .i64 a1).wf = true
   ·obtain ⟨rfl, w1⟩ := e1
    exact ⟨(a0, a1), ⟨wfI.1 w0, wfI.1 w1⟩, rfl⟩
   ·simp [e1] at h
  ·simp [e0] at h
 ·cases h
theorem holdKeyOf (x : Int × Int) (h : inI x.1 ∧ inI x.2) : keyOf Tryz.prog 168 (holdVal x) = some (holdLit x) :=
 pairKeyOf Tryz.underlying168 rfl rfl rfl rfl (by decide) (by decide) Tryz.underlying3 intCells holdCells holdKey typesTwo x h
theorem holdInv (v : Value) (kl : Lit) (h : keyOf Tryz.prog 168 v = some kl) : ∃ x : Int × Int, (inI x.1 ∧ inI x.2) ∧ v = holdVal x :=
 pairInv Tryz.underlying168 rfl rfl rfl rfl (by decide) (by decide) Tryz.underlying3 intCells holdCells typesTwo v kl h
def keyH : KeyTy Tryz.prog 168 (Int × Int) where
 law := Keyed.of_law holdLaw
 ok x := inI x.1 ∧ inI x.2
 va := holdVal
 lit := holdLit
 key := holdKeyOf
 inv := holdInv
 inj a b h := by
  simp only [holdVal, Value.agg.injEq, Array.mk.injEq, List.cons.injEq, Value.int.injEq, true_and, and_true] at h
  exact Prod.ext h.1 h.2
end Go.Proofs.YtmcajfefagdbnaaGreat
namespace Go.Proofs.YtmcajfefagdbnaaGreat
open Go Go.RowKit
theorem infoOp : (Tryz.prog.info? 114).map (fun i => (i.zero, i.size, i.bytes)) = some (some (.agg #[.int .i64 0, .int .i64 0, .int .i64 0, .int .i64 0]), 4, 32) := by kernel_rfl
theorem infoSeen : (Tryz.prog.info? 105).map (fun i => (i.zero, i.size, i.bytes)) = some (some (.agg #[.int .i64 0, .bool false, .int .i64 0]), 3, 24) := by kernel_rfl
theorem infoInt : (Tryz.prog.info? 3).map (fun i => (i.zero, i.size, i.bytes)) = some (some (.int .i64 0), 1, 8) := by kernel_rfl
set_option maxHeartbeats 800000 in
theorem freshOp (x : Value) (m : Nat) (cs : List Value) (w : World) (hx : FromMem w 4 x m cs) (hm : m ≤ 1048576) :
  Calls Tryz.prog 107 #[x] w fun e w' => e = .returned (.slice (some ⟨w.heap.size, 0, none⟩) m m) ∧ w'.heap[w.heap.size]? = some (.cells cs.toArray 114 (0, 0)) ∧ Kept NoBlk w w' := by
 obtain ⟨i, hi, hz0, hz1, hz2⟩ := info_parts infoOp
 have hsz : (Tryz.prog.info? 114).map (·.size) = some 4 := by rw [hi]; simp [hz1]
 obtain ⟨ao, c, rfl, hn, hc⟩ := hx.shape
 have hx' : FromMem (w.alloc (.cells (madeCells (Value.agg #[.int .i64 0, .int .i64 0, .int .i64 0, .int .i64 0]).cells (m * 4)) 114)) 4 (.slice ao m c) m cs :=
  ⟨⟨ao, c, rfl, hn, fun ad had j u hu => ((Kept.refl NoBlk w).alloc _).cell (hc ad had j u hu) (fun x => x)⟩, hx.len, hx.one⟩
 have HX : Hid _ := hx'
 have HB : Hid (i.bytes * m ≤ 281474976710656) := by unfold Hid; rw [hz2]; omega
 have HM : Hid (m ≤ maxLen) := by unfold Hid maxLen; omega
 have HL : Hid _ := hx.len
 have HS : Hid _ := hsz
 clear hx hx' hn hc hsz
 go_enter Tryz.func107, Tryz.ntmps107
 go_wp2_with (first
  | (at_make; refine wpList_make_at rfl _ _ 39 rfl 114 i _ 4 Tryz.underlying39 hi hz0 hz1 .i64 .i64 _ _ m m rfl rfl rfl rfl (Nat.le_refl _) HB.out HM.out ?_)
  | (refine wpList_copy_at (by rfl) _ _ 39 39 (by rfl) 114 4 Tryz.underlying39 HS.out w.heap.size m m (by rfl) _ 114 (block_alloc_new w _) _ m cs (by rfl) HX.out (Nat.le_refl _) (by rw [size_madeCells, HL.out]; exact Nat.le_refl _) ?_))
 intro w' hg hk
 go_wp2_with fail
 go_ret
 refine ⟨rfl, ?_, ((Kept.refl NoBlk w).alloc _).trans hk (fun i x => .inr (by cases x; exact Nat.le_refl _))⟩
 rw [hg, List.drop_of_length_le (by rw [Array.length_toList, size_madeCells, HL.out]; exact Nat.le_refl _), List.append_nil]
set_option maxHeartbeats 800000 in
theorem freshSeen (x : Value) (m : Nat) (cs : List Value) (w : World) (hx : FromMem w 3 x m cs) (hm : m ≤ 1048576) :
  Calls Tryz.prog 98 #[x] w fun e w' => e = .returned (.slice (some ⟨w.heap.size, 0, none⟩) m m) ∧ w'.heap[w.heap.size]? = some (.cells cs.toArray 105 (0, 0)) ∧ Kept NoBlk w w' := by
 obtain ⟨i, hi, hz0, hz1, hz2⟩ := info_parts infoSeen
 have hsz : (Tryz.prog.info? 105).map (·.size) = some 3 := by rw [hi]; simp [hz1]
 obtain ⟨ao, c, rfl, hn, hc⟩ := hx.shape
 have hx' : FromMem (w.alloc (.cells (madeCells (Value.agg #[.int .i64 0, .bool false, .int .i64 0]).cells (m * 3)) 105)) 3 (.slice ao m c) m cs :=
  ⟨⟨ao, c, rfl, hn, fun ad had j u hu => ((Kept.refl NoBlk w).alloc _).cell (hc ad had j u hu) (fun x => x)⟩, hx.len, hx.one⟩
 have HX : Hid _ := hx'
 have HB : Hid (i.bytes * m ≤ 281474976710656) := by unfold Hid; rw [hz2]; omega
 have HM : Hid (m ≤ maxLen) := by unfold Hid maxLen; omega
 have HL : Hid _ := hx.len
 have HS : Hid _ := hsz
 clear hx hx' hn hc hsz
 go_enter Tryz.func98, Tryz.ntmps98
 go_wp2_with (first
  | (at_make; refine wpList_make_at rfl _ _ 61 rfl 105 i _ 3 Tryz.underlying61 hi hz0 hz1 .i64 .i64 _ _ m m rfl rfl rfl rfl (Nat.le_refl _) HB.out HM.out ?_)
  | (refine wpList_copy_at (by rfl) _ _ 61 61 (by rfl) 105 3 Tryz.underlying61 HS.out w.heap.size m m (by rfl) _ 105 (block_alloc_new w _) _ m cs (by rfl) HX.out (Nat.le_refl _) (by rw [size_madeCells, HL.out]; exact Nat.le_refl _) ?_))
 intro w' hg hk
 go_wp2_with fail
 go_ret
 refine ⟨rfl, ?_, ((Kept.refl NoBlk w).alloc _).trans hk (fun i x => .inr (by cases x; exact Nat.le_refl _))⟩
 rw [hg, List.drop_of_length_le (by rw [Array.length_toList, size_madeCells, HL.out]; exact Nat.le_refl _), List.append_nil]
set_option maxHeartbeats 800000 in
theorem freshInt (x : Value) (m : Nat) (cs : List Value) (w : World) (hx : FromMem w 1 x m cs) (hm : m ≤ 1048576) :
  Calls Tryz.prog 68 #[x] w fun e w' => e = .returned (.slice (some ⟨w.heap.size, 0, none⟩) m m) ∧ w'.heap[w.heap.size]? = some (.cells cs.toArray 3 (0, 0)) ∧ Kept NoBlk w w' := by
 obtain ⟨i, hi, hz0, hz1, hz2⟩ := info_parts infoInt
 have hsz : (Tryz.prog.info? 3).map (·.size) = some 1 := by rw [hi]; simp [hz1]
 obtain ⟨ao, c, rfl, hn, hc⟩ := hx.shape
 have hx' : FromMem (w.alloc (.cells (madeCells (Value.int .i64 0).cells m) 3)) 1 (.slice ao m c) m cs :=
  ⟨⟨ao, c, rfl, hn, fun ad had j u hu => ((Kept.refl NoBlk w).alloc _).cell (hc ad had j u hu) (fun x => x)⟩, hx.len, hx.one⟩
 have HX : Hid _ := hx'
 have HB : Hid (i.bytes * m ≤ 281474976710656) := by unfold Hid; rw [hz2]; omega
 have HM : Hid (m ≤ maxLen) := by unfold Hid maxLen; omega
 have HL : Hid _ := hx.len
 have HS : Hid _ := hsz
 clear hx hx' hn hc hsz
 go_enter Tryz.func68, Tryz.ntmps68
 go_wp2_with (first
  | (at_make; refine wpList_make_at rfl _ _ 45 rfl 3 i _ 1 Tryz.underlying45 hi hz0 hz1 .i64 .i64 _ _ m m rfl rfl rfl rfl (Nat.le_refl _) HB.out HM.out ?_)
  | (refine wpList_copy_at (by rfl) _ _ 45 45 (by rfl) 3 1 Tryz.underlying45 HS.out w.heap.size m m (by rfl) _ 3 (block_alloc_new w _) _ m cs (by rfl) HX.out (Nat.le_refl _) (by rw [size_madeCells, HL.out]; omega) ?_))
 intro w' hg hk
 go_wp2_with fail
 go_ret
 refine ⟨rfl, ?_, ((Kept.refl NoBlk w).alloc _).trans hk (fun i x => .inr (by cases x; exact Nat.le_refl _))⟩
 rw [hg, List.drop_of_length_le (by rw [Array.length_toList, size_madeCells, HL.out]; omega), List.append_nil]
end Go.Proofs.YtmcajfefagdbnaaGreat
namespace Go.Proofs.YtmcajfefagdbnaaGreat
def upd {α β : Type} [DecidableEq α] (f : α → β) (i : α) (x : β) : α → β := fun j => if j = i then x else f j
@[simp] theorem upd_same {α β : Type} [DecidableEq α] (f : α → β) (i : α) (x : β) : upd f i x i = x := by simp [upd]
theorem upd_other {α β : Type} [DecidableEq α] (f : α → β) (i j : α) (x : β) (h : j ≠ i) : upd f i x j = f j := by simp [upd, h]
structure Saw where
 key : Int
 there : Bool
 val : Int
structure Tx where
 stamp : Int
 state : Int
 ops : List Op4
 next : Nat
 wounded : Bool
 waits : Option Int
 agains : Int
 regs : Int → Int
 reads : List Saw
 undo : List Saw
def Tx.op (t : Tx) : Op4 := t.ops.getD t.next Op4.z
structure Lk where
 h : Nat → Int
 q : List (Nat × Int)
structure St where
 clock : Int
 rows : Int → Option Int
 n : Nat
 tx : Nat → Tx
 lk : Int → Lk
 act : List Int
 wins : List Nat
def conf (a b : Int) : Bool := a == 2 || b == 2
def hind (n : Nat) (h : Nat → Int) (i : Nat) (m : Int) : Bool := (List.range (n + 1)).any fun j => j != i && h j != 0 && conf (h j) m
def settle (n : Nat) : (Nat → Int) → List (Nat × Int) → Lk
 | h, [] => ⟨h, []⟩
 | h, (i, m) :: q => if hind n h i m then ⟨h, (i, m) :: q⟩ else settle n (upd h i m) q
def Lk.drop (l : Lk) (i : Nat) : Lk := ⟨upd l.h i 0, l.q.filter (fun x => x.1 != i)⟩
def Lk.freed (l : Lk) (n i : Nat) : Lk := settle n (l.drop i).h (l.drop i).q
def Lk.live (l : Lk) (n : Nat) : Bool := !l.q.isEmpty || (List.range (n + 1)).any fun j => l.h j != 0
def Tx.look (t : Tx) (lk : Int → Lk) (j : Nat) : Tx :=
  { t with waits := match t.waits with
    | none => none
    | some k => if (lk k).q.any (fun x => x.1 == j) then some k else none }
def St.freed (s : St) (i : Nat) : St :=
  { s with lk := fun k => (s.lk k).freed s.n i, act := s.act.filter (fun k => ((s.lk k).freed s.n i).live s.n), tx := fun j => (s.tx j).look (fun k => (s.lk k).freed s.n i) j }
def Saw.old (b : Saw) : Option Int := if b.there then some b.val else none
def back (f : Int → Option Int) (l : List Saw) : Int → Option Int := l.foldl (fun f b => upd f b.key b.old) f
def Tx.anew (t : Tx) : Tx := { t with undo := [], next := 0, wounded := false, waits := none, regs := fun _ => 0, reads := [] }
def St.undone (s : St) (i : Nat) : St := St.freed { s with rows := back s.rows (s.tx i).undo, tx := upd s.tx i (s.tx i).anew } i
def St.setTx (s : St) (i : Nat) (f : Tx → Tx) : St := { s with tx := upd s.tx i (f (s.tx i)) }
def St.again (s : St) (i : Nat) : St := (s.undone i).setTx i fun t => { t with agains := t.agains + 1 }
def St.fell (s : St) (i : Nat) (z : Int) : St := (s.undone i).setTx i fun t => { t with state := z }
def St.commit (s : St) (i : Nat) : St := St.freed { s.setTx i (fun t => { t with state := 1 }) with wins := s.wins ++ [i] } i
def St.crowded (s : St) (k : Int) : Bool := !s.act.contains k && decide (16 ≤ s.act.length)
def addKey (l : List Int) (k : Int) : List Int := if l.contains k then l else l ++ [k]
def St.grant (s : St) (i : Nat) (k m : Int) : St :=
  { s with lk := upd s.lk k ⟨upd (s.lk k).h i m, (s.lk k).q⟩, act := addKey s.act k }
def St.hit (s : St) (i : Nat) (k m : Int) (j : Nat) : Bool :=
 j != i && decide ((s.tx i).stamp < (s.tx j).stamp) && ((s.lk k).h j != 0 && conf ((s.lk k).h j) m || (s.lk k).q.any (fun x => x.1 == j && conf x.2 m))
def St.enq (s : St) (i : Nat) (k m : Int) : St :=
  { s with lk := upd s.lk k ⟨(s.lk k).h, (s.lk k).q ++ [(i, m)]⟩, act := addKey s.act k,
           tx := fun j => if j = i then { s.tx j with waits := some k } else if s.hit i k m j then { s.tx j with wounded := true } else s.tx j }
def modeOf (o : Op4) : Int := if o.k = 1 then 1 else if o.k = 2 ∨ o.k = 3 then 2 else 0
def sawOf (f : Int → Option Int) (k : Int) : Saw := ⟨k, (f k).isSome, (f k).getD 0⟩
def St.doOp (s : St) (i : Nat) (o : Op4) : St :=
 let t := s.tx i
 if o.k = 1 then s.setTx i fun t => { t with next := t.next + 1, regs := upd t.regs o.b ((s.rows o.a).getD 0), reads := t.reads ++ [sawOf s.rows o.a] }
 else if o.k = 2 then { s.setTx i (fun t => { t with next := t.next + 1, undo := sawOf s.rows o.a :: t.undo }) with rows := upd s.rows o.a (some (t.regs o.b)) }
 else if o.k = 3 then { s.setTx i (fun t => { t with next := t.next + 1, undo := sawOf s.rows o.a :: t.undo }) with rows := upd s.rows o.a none }
 else if o.k = 4 then s.setTx i fun t => { t with next := t.next + 1, regs := upd t.regs o.a (IntKind.wrap .i64 (IntKind.wrap .i64 (t.regs o.a + t.regs o.b) + o.c)) }
 else s.setTx i fun t => { t with next := t.next + 1 }
def St.actOn (s : St) (i : Nat) (o : Op4) : St × Int :=
 if o.k = 5 ∧ (s.tx i).regs o.a = 0 then (s.fell i 2, 4) else (s.doOp i o, 1)
def St.go (s : St) (i : Nat) : St × Int :=
 if (s.tx i).wounded then (s.again i, 3)
 else if (s.tx i).waits.isSome then (s, 2)
 else if (s.tx i).next = (s.tx i).ops.length then (s.commit i, 6)
 else
  let o := (s.tx i).op
  if 0 < modeOf o ∧ (s.lk o.a).h i < modeOf o then
   if s.crowded o.a then (s.fell i 3, 5)
   else if (s.lk o.a).q.isEmpty && !hind s.n (s.lk o.a).h i (modeOf o) then (s.grant i o.a (modeOf o)).actOn i o
   else (s.enq i o.a (modeOf o), 2)
  else s.actOn i o
def St.there (s : St) (id : Int) : Int := if id < 1 ∨ id > s.n then 5 else if (s.tx id.toNat).state ≠ 0 then 6 else 0
def St.step (s : St) (id : Int) : St × Int × Int := if s.there id ≠ 0 then (s, 0, s.there id) else ((s.go id.toNat).1, (s.go id.toNat).2, 0)
def St.admit (s : St) (ops : List Op4) : St :=
  { s with clock := s.clock + 1, n := s.n + 1, tx := upd s.tx (s.n + 1) ⟨s.clock + 1, 0, ops, 0, false, none, 0, fun _ => 0, [], []⟩ }
end Go.Proofs.YtmcajfefagdbnaaGreat
namespace Go.Proofs.YtmcajfefagdbnaaGreat
open Go Go.RowKit
def RowAt (w : World) (e : TypeId) (size : Nat) (v : Value) (n : Nat) (xs : List Value) : Prop :=
 xs.length = n * size ∧ ((v = .slice none 0 0 ∧ n = 0) ∨ ∃ g off cap cur, v = .slice (some ⟨g, off, none⟩) n cap ∧ w.heap[g]? = some (.cells cur e (0, 0)) ∧ n ≤ cap ∧ cap ≤ maxLen ∧ off + cap * size ≤ cur.size ∧ ∀ j u, xs[j]? = some u → cur[off + j]? = some u)
theorem RowAt.nil (w : World) (e : TypeId) (size : Nat) : RowAt w e size (.slice none 0 0) 0 [] := ⟨by simp, .inl ⟨rfl, rfl⟩⟩
theorem RowAt.form {w : World} {e : TypeId} {size : Nat} {v : Value} {n : Nat} {xs : List Value} (h : RowAt w e size v n xs) : ∃ ao c, v = .slice ao n c ∧ n ≤ c ∧ c ≤ maxLen := by
 rcases h.2 with ⟨rfl, rfl⟩ | ⟨g, off, cap, cur, rfl, _, h1, h2, _⟩
 ·exact ⟨none, 0, rfl, Nat.le_refl _, Nat.zero_le _⟩
 ·exact ⟨_, cap, rfl, h1, h2⟩
theorem RowAt.owns {w : World} {e : TypeId} {size : Nat} {v : Value} {n : Nat} {xs : List Value} (h : w.ownsRow 0 e size v n xs) : RowAt w e size v n xs := by
 refine ⟨h.1, ?_⟩
 rcases h.2 with h0 | ⟨g, cap, cur, rfl, _, hg, h1, h2, h3, h4⟩
 ·exact .inl h0
 ·refine .inr ⟨g, 0, cap, cur, rfl, hg, h1, h2, by omega, fun j u hu => ?_⟩
  have hj : j < xs.length := (List.getElem?_eq_some_iff.1 hu).1
  rw [← h4, List.getElem?_take] at hu
  split at hu
  ·simpa using hu
  ·cases hu
theorem RowAt.of_block {w w' : World} {e : TypeId} {size : Nat} {v : Value} {n : Nat} {xs : List Value} (h : RowAt w e size v n xs) (hb : ∀ k, v.ownBlock = some k → w'.heap[k]? = w.heap[k]?) : RowAt w' e size v n xs := by
 refine ⟨h.1, ?_⟩
 rcases h.2 with h0 | ⟨g, off, cap, cur, rfl, hg, r⟩
 ·exact .inl h0
 ·exact .inr ⟨g, off, cap, cur, rfl, by rw [hb g rfl]; exact hg, r⟩
theorem RowAt.block {w : World} {e : TypeId} {size : Nat} {v : Value} {n : Nat} {xs : List Value} (h : RowAt w e size v n xs) {k : Nat} (hk : v.ownBlock = some k) : ∃ cur, w.heap[k]? = some (.cells cur e (0, 0)) := by
 rcases h.2 with ⟨rfl, _⟩ | ⟨g, off, cap, cur, rfl, hg, _⟩
 ·simp [Value.ownBlock] at hk
 ·simp [Value.ownBlock] at hk
  subst hk
  exact ⟨cur, hg⟩
theorem RowAt.lt {w : World} {e : TypeId} {size : Nat} {v : Value} {n : Nat} {xs : List Value} (h : RowAt w e size v n xs) : ∀ k, v.ownBlock = some k → k < w.heap.size := fun k hk => by
 obtain ⟨cur, hcur⟩ := h.block hk
 exact lt_of_block hcur
theorem RowAt.kept {S : Nat → Prop} {w w' : World} {e : TypeId} {size : Nat} {v : Value} {n : Nat} {xs : List Value} (h : RowAt w e size v n xs) (hk : Kept S w w') (hn : ∀ k, v.ownBlock = some k → ¬ S k) : RowAt w' e size v n xs :=
 h.of_block fun k hv => hk.block k (h.lt k hv) (hn k hv)
theorem RowAt.cell {w : World} {e : TypeId} {size : Nat} {n : Nat} {xs : List Value} {g off cap : Nat} (h : RowAt w e size (.slice (some ⟨g, off, none⟩) n cap) n xs) (j : Nat) {u : Value} (hu : xs[j]? = some u) : w.cell? ⟨g, off + j, none⟩ = some u := by
 rcases h.2 with ⟨h0, _⟩ | ⟨g', off', cap', cur, h0, hg, _, _, _, h1⟩
 ·cases h0
 ·simp only [Value.slice.injEq, Option.some.injEq, Addr.mk.injEq, and_true, true_and] at h0
  obtain ⟨⟨rfl, rfl⟩, rfl⟩ := h0
  rw [cell_at hg]
  exact h1 j u hu
theorem RowAt.unfrozen {w : World} {e : TypeId} {size : Nat} {n : Nat} {xs : List Value} {g off cap : Nat} (h : RowAt w e size (.slice (some ⟨g, off, none⟩) n cap) n xs) (j : Nat) : w.frozen? ⟨g, j, none⟩ = false := by
 obtain ⟨cur, hc⟩ := h.block (k := g) rfl
 exact frozen_at hc j
theorem RowAt.mem {w : World} {e : TypeId} {size : Nat} {v : Value} {n : Nat} {xs : List Value} (h : RowAt w e size v n xs) (h1 : ∀ u ∈ xs, u.oneCell' = true) : FromMem w size v n xs := by
 have hl := h.1
 rcases h.2 with ⟨rfl, rfl⟩ | ⟨g, off, cap, cur, rfl, hg, _, _, _, hc⟩
 ·exact ⟨⟨none, 0, rfl, fun _ => rfl, fun ad had => by cases had⟩, hl, h1⟩
 ·refine ⟨⟨_, cap, rfl, fun h0 => (by cases h0), fun ad had j u hu => ?_⟩, hl, h1⟩
  obtain rfl := Option.some.inj had
  rw [Addr.add_lit, cell_at hg]
  exact hc j u hu
theorem RowAt.empty {w : World} {e : TypeId} {size : Nat} {n : Nat} {xs : List Value} {g off cap : Nat} (h : RowAt w e size (.slice (some ⟨g, off, none⟩) n cap) n xs) : RowAt w e size (.slice (some ⟨g, off, none⟩) 0 0) 0 [] := by
 rcases h.2 with ⟨h0, _⟩ | ⟨g', off', cap', cur, h0, hg, h1, h2, h3, h4⟩
 ·cases h0
 ·simp only [Value.slice.injEq, Option.some.injEq, Addr.mk.injEq, and_true, true_and] at h0
  obtain ⟨⟨rfl, rfl⟩, rfl⟩ := h0
  exact ⟨by simp, .inr ⟨g, off, 0, cur, rfl, hg, Nat.le_refl _, Nat.zero_le _, by omega, fun j u hu => by simp at hu⟩⟩
theorem RowAt.drop {w : World} {e : TypeId} {size : Nat} {n : Nat} {xs : List Value} {g off cap : Nat} (h : RowAt w e size (.slice (some ⟨g, off, none⟩) n cap) n xs) (m : Nat) (hm : m ≤ n) :
  RowAt w e size (.slice (some ⟨g, off + m * size, none⟩) (n - m) (cap - m)) (n - m) (xs.drop (m * size)) := by
 rcases h.2 with ⟨h0, _⟩ | ⟨g', off', cap', cur, h0, hg, h1, h2, h3, h4⟩
 ·cases h0
 ·simp only [Value.slice.injEq, Option.some.injEq, Addr.mk.injEq, and_true, true_and] at h0
  obtain ⟨⟨rfl, rfl⟩, rfl⟩ := h0
  have hl := h.1
  refine ⟨by rw [List.length_drop, hl, ← Nat.sub_mul], .inr ⟨g, off + m * size, cap - m, cur, rfl, hg, by omega, by omega, ?_, fun j u hu => ?_⟩⟩
  ·rw [Nat.sub_mul]
   have : m * size ≤ cap * size := Nat.mul_le_mul_right _ (by omega)
   omega
  ·rw [List.getElem?_drop] at hu
   have := h4 _ _ hu
   rw [← Nat.add_assoc] at this
   exact this
theorem run_append_row {P : Program} (w : World) (t ty e : TypeId) (i : TypeInfo) (z : Value) (size bytes : Nat) (ht : P.underlying t = some (.slice e)) (hi : P.info? e = some i) (hz : i.zero = some z)
  (hsize : i.size = size) (hby : i.bytes = bytes) (hzs : z.cells.size = size)
  (v : Value) (n : Nat) (xs : List Value) (hown : RowAt w e size v n xs) (x : Value) (m : Nat) (news : List Value) (hx : FromMem w size x m news)
  (h63 : n + m ≤ maxLen) (hbytes : (n + m) * bytes ≤ 140737488355328) :
  ∃ v' w', (Builtin.append_ #[t, t] ty #[v, x]).run P w = .ok v' w' ∧ RowAt w' e size v' (n + m) (xs ++ news) ∧ Moved w w' v v' (n + m) := by
 subst hsize
 subst hby
 have hsrc := hx.src (P := P) ht
 have hlen : (xs ++ news).length = (n + m) * i.size := by rw [List.length_append, hown.1, hx.len, Nat.add_mul]
 have hsmall : ((n + m : Nat) : Int) ≤ 9223372036854775807 := by simp only [maxLen] at h63; omega
 have grown : ∀ (base : Option Addr) (old : Nat), old < n + m → v = .slice base n old → (Builtin.firstCells i.size n (.slice base n old)).run P w.drew = .ok xs.toArray w.drew →
   ∃ v' w', (Builtin.append_ #[t, t] ty #[v, x]).run P w = .ok v' w' ∧ RowAt w' e i.size v' (n + m) (xs ++ news) ∧ Moved w w' v v' (n + m) := by
  intro base old ho hv hold
  subst hv
  have hr := run_append_grow_src (P := P) w t t ty e i z ht hi hz base n old xs hold x m news hsrc ho hsmall (growslice_fits ho hbytes)
  have hge := grownCap_ge w (n + m) old e
  have hcm : grownCap w (n + m) old e ≤ maxLen := grownCap_le_maxLen w (n + m) old e h63
  refine ⟨_, _, hr, ⟨hlen, .inr ⟨w.heap.size, 0, _, _, rfl, heap_alloc_new w.drew _, hge, hcm, ?_, ?_⟩⟩, .inr ⟨ho, rfl, ?_⟩⟩
  ·simp only [Array.size_append, List.size_toArray, size_zeroCells, hzs, hlen, ← Nat.add_mul, Nat.zero_add]
   refine Nat.mul_le_mul_right _ ?_
   omega
  ·intro j u hu
   have hj : j < (xs ++ news).length := (List.getElem?_eq_some_iff.1 hu).1
   rw [Nat.zero_add, Array.getElem?_append_left (by simpa using hj)]
   simpa using hu
  ·exact ((Kept.refl NoBlk w).drew).alloc _
 rcases hown.2 with ⟨rfl, rfl⟩ | ⟨g, off, cap, cur, rfl, hg, hnc, hcm, hcs, htake⟩
 ·have hxs : xs = [] := List.eq_nil_of_length_eq_zero (by simpa using hown.1)
  subst hxs
  by_cases hm : m = 0
  ·subst hm
   obtain rfl : news = [] := List.eq_nil_of_length_eq_zero (by simpa using hx.len)
   refine ⟨.slice none 0 0, w, ?_, by simpa using RowAt.nil w e i.size, .inl ⟨rfl, rfl, by simp, Kept.refl _ _⟩⟩
   simp [Builtin.append_, run_underlying ht, sizeOf, typeInfo, hi, hsrc.len]
   simp [hsrc.cells]
  ·exact grown none 0 (by omega) rfl (run_firstCells_none w.drew i.size 0 0 0)
 ·by_cases hroom : n + m ≤ cap
  ·have hle : (n + m) * i.size ≤ cap * i.size := Nat.mul_le_mul_right _ hroom
   have hfit : off + n * i.size + news.length ≤ cur.size := by rw [hx.len, Nat.add_assoc, ← Nat.add_mul]; omega
   have hst := run_storeCells_at P g (off + n * i.size) e news 0 cur w hg (by simpa using hfit) hx.one
   simp only [Nat.add_zero] at hst
   have hr : (Builtin.append_ #[t, t] ty #[.slice (some ⟨g, off, none⟩) n cap, x]).run P w =
     .ok (.slice (some ⟨g, off, none⟩) (n + m) cap) (w.setRow g (cur.toList.take (off + n * i.size) ++ news ++ cur.toList.drop (off + n * i.size + news.length)).toArray) := by
    simp [Builtin.append_, run_underlying ht, sizeOf, typeInfo, hi, hsrc.len, hroom, hsrc.cells, Addr.add_lit, hst]
   refine ⟨_, _, hr, ⟨hlen, .inr ⟨g, off, cap, _, rfl, setRow_heap w g cur _ e _ hg, hroom, hcm, ?_, ?_⟩⟩, .inl ⟨rfl, rfl, hroom, ⟨rfl, rfl, rfl, by simp, fun k _ hk => setRow_other w g k _ (fun e => hk (by simp [Value.ownBlock, e]))⟩⟩⟩
   ·simp only [List.size_toArray, List.length_append, List.length_take, List.length_drop, Array.length_toList]
    omega
   ·intro j u hu
    have hxl := hown.1
    have hnl : off + n * i.size ≤ cur.size := by omega
    by_cases hj : j < xs.length
    ·rw [List.getElem?_append_left hj] at hu
     have := htake j u hu
     simp only [List.getElem?_toArray]
     rw [List.append_assoc, List.getElem?_append_left (by simp; omega), List.getElem?_take_of_lt (by omega)]
     simpa using this
    ·rw [List.getElem?_append_right (by omega)] at hu
     have hj2 : j - xs.length < news.length := (List.getElem?_eq_some_iff.1 hu).1
     simp only [List.getElem?_toArray]
     rw [List.append_assoc, List.getElem?_append_right (by simp; omega), List.getElem?_append_left (by simp; omega)]
     rw [← hu]
     congr 1
     simp
     omega
  ·refine grown (some ⟨g, off, none⟩) cap (by omega) rfl ?_
   refine run_firstCells_some w.drew i.size n ⟨g, off, none⟩ n cap xs hown.1 (fun j u hu => ?_)
   show w.cell? _ = _
   rw [Addr.add_lit, cell_at hg]
   exact htake j u hu
theorem wpList_append_row {P : Program} {w : World} {ops : Array Oper} {rest : List Oper} {o : Oper} {a : Act} {Q : Exit → Act → World → Prop} (hgd : o.guard = none) (s x : Operand) (t : TypeId)
  (ho : o.op = .call { callee := .builtin .append, args := #[s, x], argTypes := #[t, t] })
  (e : TypeId) (i : TypeInfo) (z : Value) (size bytes : Nat) (ht : P.underlying t = some (.slice e)) (hi : P.info? e = some i) (hz : i.zero = some z)
  (hsize : i.size = size) (hby : i.bytes = bytes) (hzs : z.cells.size = size)
  (v : Value) (n : Nat) (xs : List Value) (hs : a.eval s = v) (hown : RowAt w e size v n xs) (xv : Value) (m : Nat) (news : List Value) (hx : a.eval x = xv) (hsrc : FromMem w size xv m news)
  (h63 : n + m ≤ maxLen) (hbytes : (n + m) * bytes ≤ 140737488355328)
  (h : ∀ ao' c' w', RowAt w' e size (.slice ao' (n + m) c') (n + m) (xs ++ news) → Moved w w' v (.slice ao' (n + m) c') (n + m) → wpList P ops Q rest (a.put o.dst (.slice ao' (n + m) c')) w') : wpList P ops Q (o :: rest) a w := by
 refine wpList_plain hgd fun K hK => ?_
 obtain ⟨v', w', hr, h2, h3⟩ := run_append_row (P := P) w t o.type e i z size bytes ht hi hz hsize hby hzs v n xs hown xv m news hsrc h63 hbytes
 unfold Oper.wp
 simp only [execOp, ho, resolve, invoke, builtin, Sem.run_bind, Sem.run_pure, Result.andThen_ok, List.map_toArray, List.map_cons, List.map_nil, hs, hx, hr]
 obtain ⟨ao', c', rfl, _⟩ := h2.form
 exact hK _ _ (h ao' c' w' h2 h3)
theorem step_append_row {P : Program} {w : World} {ops : Array Oper} {o : Oper} {a : Act} {K : Act → World → Prop} {Q : Exit → Act → World → Prop} {E : Prop} (hgd : o.guard = none) (s x : Operand) (t : TypeId)
  (ho : o.op = .call { callee := .builtin .append, args := #[s, x], argTypes := #[t, t] })
  (e : TypeId) (i : TypeInfo) (z : Value) (size bytes : Nat) (ht : P.underlying t = some (.slice e)) (hi : P.info? e = some i) (hz : i.zero = some z)
  (hsize : i.size = size) (hby : i.bytes = bytes) (hzs : z.cells.size = size)
  (v : Value) (n : Nat) (xs : List Value) (hs : a.eval s = v) (hown : RowAt w e size v n xs) (xv : Value) (m : Nat) (news : List Value) (hx : a.eval x = xv) (hsrc : FromMem w size xv m news)
  (h63 : n + m ≤ maxLen) (hbytes : (n + m) * bytes ≤ 140737488355328)
  (h : ∀ ao' c' w', RowAt w' e size (.slice ao' (n + m) c') (n + m) (xs ++ news) → Moved w w' v (.slice ao' (n + m) c') (n + m) → K (a.put o.dst (.slice ao' (n + m) c')) w') :
  if Region.wanted o (yielded ops a.tmps) = true then Oper.wp P o a w K Q else E := by
 have hw : Region.wanted o (yielded ops a.tmps) = true := by simp [Region.wanted, hgd]
 rw [if_pos hw]
 obtain ⟨v', w', hr, h2, h3⟩ := run_append_row (P := P) w t o.type e i z size bytes ht hi hz hsize hby hzs v n xs hown xv m news hsrc h63 hbytes
 unfold Oper.wp
 simp only [execOp, ho, resolve, invoke, builtin, Sem.run_bind, Sem.run_pure, Result.andThen_ok, List.map_toArray, List.map_cons, List.map_nil, hs, hx, hr]
 obtain ⟨ao', c', rfl, _⟩ := h2.form
 exact h ao' c' w' h2 h3
end Go.Proofs.YtmcajfefagdbnaaGreat
