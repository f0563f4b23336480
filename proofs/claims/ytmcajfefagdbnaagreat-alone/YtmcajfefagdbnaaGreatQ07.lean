import Derived.Test.YtmcajfefagdbnaaGreatQ05
import Derived.Test.YtmcajfefagdbnaaGreatQ04
namespace Go.Proofs.YtmcajfefagdbnaaGreat
open Go Go.RowKit Go.Sort Go.Lib
def hvals (H : Int × Int → Option Int) : Int × Int → Option Value := fun k => (H k).map (Value.int .i64)
def Got (H : Int × Int → Option Int) (row : Int) (left : Int × Int → Bool) (l : List (Int × Int)) : Prop :=
 (l.map Prod.fst).Nodup ∧ ∀ t md, (t, md) ∈ l ↔ H (row, t) = some md ∧ left (row, t) = false
theorem Got.start (H : Int × Int → Option Int) (row : Int) : Got H row (fun a => (hvals H a).isSome) [] := by
 refine ⟨by simp, fun t md => ?_⟩
 simp only [List.not_mem_nil, false_iff, not_and, hvals, Option.isSome_map]
 intro h
 simp [h]
theorem Got.other {H : Int × Int → Option Int} {row : Int} {left : Int × Int → Bool} {l : List (Int × Int)} (h : Got H row left l) {a : Int × Int} (ha : a.1 ≠ row) : Got H row (fun c => left c && !decide (c = a)) l := by
 refine ⟨h.1, fun t md => ?_⟩
 rw [h.2 t md]
 have : (row, t) ≠ a := fun e => ha (by rw [← e])
 simp [this]
theorem Got.more {H : Int × Int → Option Int} {row : Int} {left : Int × Int → Bool} {l : List (Int × Int)} (h : Got H row left l) {t0 md0 : Int} (hl : left (row, t0) = true) (hH : H (row, t0) = some md0) : Got H row (fun c => left c && !decide (c = (row, t0))) (l ++ [(t0, md0)]) := by
 refine ⟨?_, fun t md => ?_⟩
 ·rw [List.map_append, List.nodup_append]
  refine ⟨h.1, by simp, ?_⟩
  intro a ha b hb e
  simp at hb
  subst hb
  subst e
  obtain ⟨x, hx, rfl⟩ := List.mem_map.1 ha
  have := ((h.2 x.1 x.2).1 hx).2
  rw [hl] at this
  cases this
 ·rw [List.mem_append, h.2 t md]
  simp only [List.mem_singleton, Prod.mk.injEq, Bool.and_eq_false_iff, Bool.not_eq_false', decide_eq_true_eq, true_and]
  constructor
  ·rintro (⟨h1, h2⟩ | ⟨rfl, rfl⟩)
   ·exact ⟨h1, .inl h2⟩
   ·exact ⟨hH, .inr rfl⟩
  ·rintro ⟨h1, h2 | rfl⟩
   ·exact .inl ⟨h1, h2⟩
   ·rw [hH] at h1
    cases h1
    exact .inr ⟨rfl, rfl⟩
def HoldsL (H : Int × Int → Option Int) (row : Int) (l : List (Int × Int)) : Prop := l.Pairwise (fun x y => x.1 < y.1) ∧ ∀ t md, (t, md) ∈ l ↔ H (row, t) = some md
theorem Got.sorted {H : Int × Int → Option Int} {row : Int} {left : Int × Int → Bool} {l l' : List (Int × Int)} (h : Got H row left l) (hlf : ∀ a, keyH.ok a → left a = false) (hok : ∀ a, (H a).isSome = true → keyH.ok a) (hp : l'.Perm l) (hs : l'.Pairwise (fun x y => x.1 ≤ y.1)) : HoldsL H row l' := by
 have hn : (l'.map Prod.fst).Nodup := ((hp.map Prod.fst).nodup_iff).2 h.1
 refine ⟨?_, fun t md => ?_⟩
 ·have hn' : l'.Pairwise (fun x y => x.1 ≠ y.1) := by rw [List.Nodup, List.pairwise_map] at hn; exact hn
  exact (hs.and hn').imp (fun {x y} h => by have := h.1; have := h.2; omega)
 ·rw [hp.mem_iff, h.2 t md]
  constructor
  ·exact fun x => x.1
  ·exact fun x => ⟨x, hlf _ (hok _ (by rw [x]; rfl))⟩
theorem Got.few {H : Int × Int → Option Int} {row : Int} {left : Int × Int → Bool} {l : List (Int × Int)} (h : Got H row left l) (hfew : ∀ l : List Int, l.Nodup → (∀ t ∈ l, (H (row, t)).isSome = true) → l.length ≤ 12) : l.length ≤ 12 := by
 have := hfew (l.map Prod.fst) h.1 (fun t ht => by
  obtain ⟨x, hx, rfl⟩ := List.mem_map.1 ht
  rw [((h.2 x.1 x.2).1 hx).1]
  rfl)
 simpa using this
theorem lkc_snoc (l : List (Int × Int)) (t md : Int) : lkc (l ++ [(t, md)]) = lkc l ++ [.int .i64 t, .int .i64 md] := by simp [lkc]
theorem from_new2 (w : World) (x y : Value) (ty : TypeId) (h1 : x.oneCell' = true) (h2 : y.oneCell' = true) : FromMem (w.alloc (.cells #[x, y] ty)) 2 (.slice (some ⟨w.heap.size, 0, none⟩) 1 1) 1 [x, y] := by
 refine ⟨⟨_, 1, rfl, fun h => by simp at h, ?_⟩, rfl, fun u hu => by simp at hu; rcases hu with rfl | rfl <;> assumption⟩
 intro ad had j u hu
 obtain rfl := Option.some.inj had
 match j, hu with
 | 0, hu => simp at hu; subst hu; rw [Addr.add_lit, cell_at (block_alloc_new w _)]; rfl
 | 1, hu => simp at hu; subst hu; rw [Addr.add_lit, cell_at (block_alloc_new w _)]; rfl
 | j + 2, hu => simp at hu
theorem from_new2' (w : World) (o : Obj) (x y : Value) (ty : TypeId) (h1 : x.oneCell' = true) (h2 : y.oneCell' = true) : FromMem ((w.alloc o).alloc (.cells #[x, y] ty)) 2 (.slice (some ⟨w.heap.size + 1, 0, none⟩) 1 1) 1 [x, y] := by
 have := from_new2 (w.alloc o) x y ty h1 h2
 rw [alloc_size] at this
 exact this
theorem infoLk : (Tryz.prog.info? 107).map (fun i => (i.zero, i.size, i.bytes)) = some (some (.agg #[.int .i64 0, .int .i64 0]), 2, 16) := by kernel_rfl
set_option maxHeartbeats 3200000 in
set_option maxRecDepth 20000 in
theorem holders_any (p hb m : Nat) (row : Int) (H : Int × Int → Option Int) (w : World) (hp : w.cell? ⟨p, 6, none⟩ = some (.map (some hb))) (hm : MapAt keyH w hb m (hvals H)) (hr : inI row)
  (hok : ∀ a, (H a).isSome = true → keyH.ok a) (hfew : ∀ l : List Int, l.Nodup → (∀ t ∈ l, (H (row, t)).isSome = true) → l.length ≤ 12) :
  Calls Tryz.prog 66 #[.pointer (some ⟨p, 0, none⟩), .int .i64 row] w fun e w' => ∃ v l, e = .returned v ∧ w'.ownsRow 0 107 2 v l.length (lkc l) ∧ (∀ b, v.ownBlock = some b → w.heap.size ≤ b) ∧ HoldsL H row l ∧ Kept NoBlk w w' := by
 have hpl := World.block_lt_of_cell? w _ hp
 obtain ⟨w1, cnt, hrun, hR, hk1, hsz1, hcnt⟩ := hm.range Tryz.underlying124
 have HR : Hid _ := hR
 have HK1 : Hid _ := hk1
 have HHB : Hid (hb < w.heap.size) := hm.lt
 have HOK : Hid _ := hok
 have HFEW : Hid _ := hfew
 obtain ⟨i1, hi1, hy0, hy1, hy2⟩ := info_parts infoLk
 have HI : Hid (Tryz.prog.info? 107 = some i1 ∧ i1.zero = some (.agg #[.int .i64 0, .int .i64 0]) ∧ i1.size = 2 ∧ i1.bytes = 16) := ⟨hi1, hy0, hy1, hy2⟩
 clear hR hk1 hm hok hfew hi1 hy0 hy1 hy2
 go_enter Tryz.func66, Tryz.ntmps66
 go_wp2_with fail
 go_loopw [5] (fun v wr => ∃ (l : List (Int × Int)) (ao : Option Addr) (c : Nat) (left : Int × Int → Bool) (cnt : Nat), v = .slice ao l.length c ∧ wr.ownsRow 0 107 2 (.slice ao l.length c) l.length (lkc l) ∧ (∀ b, (Value.slice ao l.length c).ownBlock = some b → w.heap.size < b) ∧
  RangeAt keyH wr hb w.heap.size m (hvals H) left cnt ∧ Got H row left l ∧ Kept NoBlk w wr) (fun _ wr => wr.rangeLeft hb w.heap.size)
 case atStart => exact ⟨[], none, 0, _, cnt, rfl, World.ownsRow_nil _ _ _ _, fun b hb => by simp [Value.ownBlock] at hb, HR.out, Got.start H row, HK1.out⟩
 case round =>
  obtain ⟨l, ao, c, left, cnt', rfl, hown, hbl, hrg, hgot, hkw⟩ := hrel
  have hleft := hrg.left_eq
  have hmap := hrg.map
  rcases hrg.next 0 with ⟨h0, hlf, hnx⟩ | ⟨a, v, w2, cnt2, ha, hla, hga, hnx, hrg2, hlt, hk2, hsz2, hen⟩
  ·have HL : Hid _ := hlf
   have HG : Hid (Got H row left l) := hgot
   have HO : Hid (wr.ownsRow 0 107 2 (.slice ao l.length c) l.length (lkc l)) := hown
   have HB : Hid _ := hbl
   have HKW : Hid _ := hkw
   clear hlf hgot hown hbl hkw hleft hmap hrg HR HK1
   go_wp2_with fail
   refine (sortLocks _ l.length l wr HO.out (Got.few HG.out HFEW.out)).mono ?_
   rintro e w' ⟨l', rfl, hperm, hsort, hown', hk'⟩
   have HF : Hid (HoldsL H row l') := Got.sorted HG.out HL.out HOK.out hperm hsort
   have HFX : True := trivial
   have HO' : Hid (w'.ownsRow 0 107 2 (.slice ao l.length c) l.length (lkc l')) := hown'
   have HK' : Hid _ := hk'
   have HLN : Hid (l.length = l'.length) := hperm.length_eq.symm
   clear hperm hsort hown' hk'
   go_wp2_with fail
   go_ret
   refine ⟨_, l', rfl, ?_, fun b hb => Nat.le_of_lt (HB.out b hb), HF.out, HKW.out.trans HK'.out (fun k hk => .inr (Nat.le_of_lt (HB.out k hk)))⟩
   have := HO'.out
   rw [HLN.out] at this ⊢
   exact this
  ·obtain ⟨r0, t0⟩ := a
   obtain ⟨md, hmd, rfl⟩ : ∃ md, H (r0, t0) = some md ∧ v = .int .i64 md := by
    simp only [hvals] at hga
    cases hH : H (r0, t0) with
    | none => rw [hH] at hga; cases hga
    | some md => rw [hH] at hga; exact ⟨md, rfl, by cases hga; rfl⟩
   have hnx' : (Instr.next (.pointer (some ⟨w.heap.size, 0, none⟩)) false 0).run Tryz.prog wr = .ok (.tuple #[.bool true, .agg #[.int .i64 r0, .int .i64 t0], .int .i64 md]) w2 := hnx
   have hen' : (Instr.entry (.pointer (some ⟨w.heap.size, 0, none⟩))).run Tryz.prog w2 = .ok (.tuple #[.agg #[.int .i64 r0, .int .i64 t0], .int .i64 md]) w2 := hen
   have hkw2 : Kept NoBlk w w2 := hkw.trans hk2 (fun k hk => .inr (by cases hk; exact Nat.le_refl _))
   have hown2 : w2.ownsRow 0 107 2 (.slice ao l.length c) l.length (lkc l) := ownsRow_kept hown hk2 (fun k hk e => by have := hbl k hk; unfold Blk at e; omega)
   have HMD : Hid _ := hmd
   have HLA : Hid _ := hla
   have HRG : Hid (RangeAt keyH w2 hb w.heap.size m (hvals H) (fun c => left c && !decide (c = (r0, t0))) cnt2) := hrg2
   have HLT : Hid (cnt2 < wr.rangeLeft hb w.heap.size) := by rw [hleft]; exact hlt
   have HG : Hid (Got H row left l) := hgot
   have HO : Hid (w2.ownsRow 0 107 2 (.slice ao l.length c) l.length (lkc l)) := hown2
   have HB : Hid _ := hbl
   have HKW : Hid _ := hkw2
   have HWS : Hid (w.heap.size < w2.heap.size) := hrg2.lt.1
   clear hnx hen hkw2 hown2 hown hbl hrg hgot hkw hleft hmap hla hga hrg2 hlt hk2 hsz2 hmd ha HR HK1
   by_cases hrow : r0 = row
   ·subst hrow
    have HB0 : Hid (l.length + 1 ≤ maxLen) := by have := Got.few HG.out HFEW.out; unfold Hid maxLen; omega
    have HB1 : Hid ((l.length + 1) * 16 ≤ 140737488355328) := by have := Got.few HG.out HFEW.out; unfold Hid; omega
    go_wp2_with (at_builtin; refine wpList_append_at (by rfl) _ _ 74 (by rfl) 107 i1 _ 2 16 Tryz.underlying74 HI.out.1 HI.out.2.1 HI.out.2.2.1 HI.out.2.2.2 (by rfl) (.slice ao l.length c) l.length (lkc l) (by rfl) (ownsRow_kept HO.out (((Kept.refl NoBlk w2).alloc _).alloc _) (fun _ _ x => x)) (.slice (some ⟨w2.heap.size + 1, 0, none⟩) 1 1) 1 [.int .i64 t0, .int .i64 md] (by rfl) (from_new2' w2 _ _ _ _ rfl rfl) HB0.out HB1.out ?_; intro ao' c' w3 hown3 hmv3)
    have hka : Kept NoBlk w2 ((w2.alloc (Obj.cells #[Value.int IntKind.i64 r0, Value.int IntKind.i64 t0] 168)).alloc (Obj.cells #[Value.int IntKind.i64 t0, Value.int IntKind.i64 md] 107)) := ((Kept.refl _ _).alloc _).alloc _
    have hkb := hmv3.keptOf
    have hnb : ∀ k, k ≤ w.heap.size → ¬ (Value.slice ao l.length c).ownBlock = some k := fun k hk e => by have := HB.out k e; omega
    have hrg3 := (RangeAt.kept HRG.out hka (fun x => x) (fun x => x)).kept hkb (hnb _ (Nat.le_of_lt HHB.out)) (hnb _ (Nat.le_refl _))
    refine ⟨⟨l ++ [(t0, md)], ao', c', _, cnt2, ?_, ?_, ?_, hrg3, Got.more HG.out HLA.out HMD.out, ?_⟩, ?_⟩
    ·simp
    ·rw [lkc_snoc]; simpa using hown3
    ·intro b hb
     have : (Value.slice ao' (l.length + 1) c').ownBlock = some b := by simpa [Value.ownBlock] using hb
     rcases hmv3.fresh b this with h | h
     ·exact HB.out b h
     ·have := HWS.out
      have h5 := hka.size
      omega
    ·exact (HKW.out.trans' hka).trans hkb (fun k hk => .inr (Nat.le_of_lt (HB.out k hk)))
    ·rw [hrg3.left_eq]; exact HLT.out
   ·go_wp2_with fail
    have hka : Kept NoBlk w2 (w2.alloc (Obj.cells #[Value.int IntKind.i64 r0, Value.int IntKind.i64 t0] 168)) := (Kept.refl _ _).alloc _
    have hrg3 := RangeAt.kept HRG.out hka (fun x => x) (fun x => x)
    exact ⟨⟨l, ao, c, _, cnt2, rfl, ownsRow_kept HO.out hka (fun _ _ x => x), HB.out, hrg3, Got.other HG.out hrow, HKW.out.trans' hka⟩, by rw [hrg3.left_eq]; exact HLT.out⟩
end Go.Proofs.YtmcajfefagdbnaaGreat
namespace Go.Proofs.YtmcajfefagdbnaaGreat
open Go Go.RowKit
def Backs (w : World) (T : Nat → Prop) (p : Nat) : List Saw → List (FuncId × Array Value) → Prop
 | [], [] => True
 | b :: us, x :: xs => PutsBack w T p (fnOf x) b.key b.old ∧ inI b.key ∧ Backs w T p us xs
 | _, _ => False
theorem Backs.of_same {T T' : Nat → Prop} {p : Nat} {w w' : World} (hT : ∀ k, k < w.heap.size → T k → T' k) (hb : ∀ k, k < w.heap.size → T k → w'.heap[k]? = w.heap[k]?) : ∀ {us : List Saw} {xs : List (FuncId × Array Value)}, Backs w T p us xs → Backs w' T' p us xs
 | [], [], _ => trivial
 | _ :: _, _ :: _, h => ⟨h.1.of_same hT hb, h.2.1, Backs.of_same hT hb h.2.2⟩
 | [], _ :: _, h => h.elim
 | _ :: _, [], h => h.elim
theorem Backs.length {w : World} {T : Nat → Prop} {p : Nat} : ∀ {us : List Saw} {xs : List (FuncId × Array Value)}, Backs w T p us xs → us.length = xs.length
 | [], [], _ => rfl
 | _ :: _, _ :: _, h => by simp [Backs.length h.2.2]
 | [], _ :: _, h => h.elim
 | _ :: _, [], h => h.elim
theorem leaves_back (fn : Func) (tmps : Array Value) (p vb : Nat) (T : Nat → Prop) (hT : ¬ T vb) (hpv : p ≠ vb) (hres : ∀ w, (results fn tmps).run Tryz.prog w = .ok (.tuple #[]) w) : ∀ (us : List Saw) (xs : List (FuncId × Array Value)) (f : Int → Option Int) (m : Nat) (w : World) (R : Ending → World → Prop),
  Backs w T p us xs → w.cell? ⟨p, 3, none⟩ = some (.map (some vb)) → MapAt keyI w vb m (ivals f) → m + us.length ≤ maxLen →
  (∀ w', MapAt keyI w' vb (m + us.length) (ivals (back f us)) → Kept (Blk vb) w w' → R (.returned (.tuple #[])) w') → Leaves Tryz.prog fn tmps R (xs.map dfr) .returning w
 | [], [], f, m, w, R, _, _, hm, _, hR => ⟨_, hres w, hR w hm (Kept.refl _ _)⟩
 | b :: us, x :: xs, f, m, w, R, hB, hp, hm, hl, hR => by
  obtain ⟨hb, hi, hB'⟩ := hB
  simp only [List.length_cons] at hl
  have go : ∀ w', MapAt keyI w' vb (m + 1) (ivals (upd f b.key b.old)) → Kept (Blk vb) w w' → Leaves Tryz.prog fn tmps R (xs.map dfr) .returning w' := by
   intro w' hm' hk
   refine leaves_back fn tmps p vb T hT hpv hres us xs (upd f b.key b.old) (m + 1) w' R (Backs.of_same (fun _ _ h => h) (fun k hk1 h => hk.block k hk1 (fun e => hT (by cases e; exact h))) hB') (hk.cell hp hpv) hm' (by omega) ?_
   intro w'' h1 h2
   refine hR w'' ?_ (hk.trans' h2)
   have e : m + (us.length + 1) = m + 1 + us.length := by omega
   simp only [List.length_cons, e]
   exact h1
  obtain ⟨f0, caps⟩ := x
  rw [List.map_cons]
  cases ho : b.old with
  | none =>
   rw [ho] at hb go
   obtain ⟨s, r, h1, h2, h3, _, _⟩ := hb
   simp only [fnOf, Value.func.injEq, Fn.func.injEq, true_and] at h1
   obtain ⟨rfl, rfl⟩ := h1
   refine leaves_cons (f := 155) (args := #[.pointer (some ⟨s, 0, none⟩), .pointer (some ⟨r, 0, none⟩)]) (by simp) (by simp [go_sem]) ?_
   refine (back_none p vb m s r b.key f .returning w hp hm hi h2 h3).mono ?_
   rintro e u' w' ⟨rfl, ⟨v, rfl⟩, hm', hk⟩
   exact go w' hm' hk
  | some v =>
   rw [ho] at hb go
   obtain ⟨x, s, r, h1, h0, h2, h3, _, _, _⟩ := hb
   simp only [fnOf, Value.func.injEq, Fn.func.injEq, true_and] at h1
   obtain ⟨rfl, rfl⟩ := h1
   refine leaves_cons (f := 156) (args := #[.pointer (some ⟨x, 0, none⟩), .pointer (some ⟨s, 0, none⟩), .pointer (some ⟨r, 0, none⟩)]) (by simp) (by simp [go_sem]) ?_
   refine (back_some p vb m x s r b.key v f .returning w hp hm (by omega) hi h0 h2 h3).mono ?_
   rintro e u' w' ⟨rfl, ⟨v, rfl⟩, hm', hk⟩
   exact go w' hm' hk
 | [], _ :: _, _, _, _, _, h, _, _, _, _ => h.elim
 | _ :: _, [], _, _, _, _, h, _, _, _, _ => h.elim
theorem runDeferred_ok (t p vb m n : Nat) (dv : Value) (us : List Saw) (cs : List (FuncId × Array Value)) (f : Int → Option Int) (T : Nat → Prop) (w : World) (hd : w.cell? ⟨t, 13, none⟩ = some dv) (hr : RowAt w 1 1 dv n (cs.map fnOf)) (hn : n ≤ 12)
  (hB : Backs w T p us cs.reverse) (hT : ¬ T vb) (hpv : p ≠ vb) (hp : w.cell? ⟨p, 3, none⟩ = some (.map (some vb))) (hm : MapAt keyI w vb m (ivals f)) (hl : m + 12 ≤ maxLen) :
  Calls Tryz.prog 139 #[.pointer (some ⟨t, 5, none⟩)] w fun e w' => e = .returned (.tuple #[]) ∧ MapAt keyI w' vb (m + 12) (ivals (back f us)) ∧ Kept (Blk vb) w w' := by
 have h1 := hB.length
 have h2 : cs.length = n := by have := hr.1; simpa using this
 have h3 : us.length ≤ 12 := by simp at h1; omega
 refine runDeferred_any t n dv cs w _ hd hr hn (fun tmps => ?_)
 rw [← List.map_reverse]
 refine leaves_back _ tmps p vb T hT hpv (fun w => results_none rfl _ _ _) us cs.reverse f m w _ hB hp hm (by omega) ?_
 intro w' h4 h5
 exact ⟨rfl, h4.mono (by omega), h5⟩
end Go.Proofs.YtmcajfefagdbnaaGreat
