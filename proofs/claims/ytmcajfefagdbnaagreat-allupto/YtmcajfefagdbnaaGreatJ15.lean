import Derived.Test.YtmcajfefagdbnaaGreatJ12
import Derived.Test.YtmcajfefagdbnaaGreatJ13
import Derived.Test.YtmcajfefagdbnaaGreatJ14
namespace Go.Proofs.YtmcajfefagdbnaaGreat
open Go Go.RowKit Go.Sort Go.Lib
def GotR (H : Int × Int → Option Int) (i : Int) (left : Int × Int → Bool) (l : List Int) : Prop :=
 l.Nodup ∧ ∀ k, k ∈ l ↔ (H (k, i)).isSome = true ∧ left (k, i) = false
theorem GotR.start (H : Int × Int → Option Int) (i : Int) : GotR H i (fun a => (hvals H a).isSome) [] := by
 refine ⟨by simp, fun k => ?_⟩
 simp only [List.not_mem_nil, false_iff, not_and, hvals, Option.isSome_map]
 intro h
 simp [h]
theorem GotR.other {H : Int × Int → Option Int} {i : Int} {left : Int × Int → Bool} {l : List Int} (h : GotR H i left l) {a : Int × Int} (ha : a.2 ≠ i) : GotR H i (fun c => left c && !decide (c = a)) l := by
 refine ⟨h.1, fun k => ?_⟩
 rw [h.2 k]
 have : (k, i) ≠ a := fun e => ha (by rw [← e])
 simp [this]
theorem GotR.more {H : Int × Int → Option Int} {i : Int} {left : Int × Int → Bool} {l : List Int} (h : GotR H i left l) {k0 : Int} (hl : left (k0, i) = true) (hH : (H (k0, i)).isSome = true) : GotR H i (fun c => left c && !decide (c = (k0, i))) (l ++ [k0]) := by
 refine ⟨?_, fun k => ?_⟩
 ·rw [List.nodup_append]
  refine ⟨h.1, by simp, ?_⟩
  intro a ha b hb e
  simp at hb
  subst hb
  subst e
  have := ((h.2 a).1 ha).2
  rw [hl] at this
  cases this
 ·rw [List.mem_append, h.2 k]
  simp only [List.mem_singleton, Prod.mk.injEq, Bool.and_eq_false_iff, Bool.not_eq_false', decide_eq_true_eq, and_true]
  constructor
  ·rintro (⟨h1, h2⟩ | rfl)
   ·exact ⟨h1, .inl h2⟩
   ·exact ⟨hH, .inr rfl⟩
  ·rintro ⟨h1, h2 | rfl⟩
   ·exact .inl ⟨h1, h2⟩
   ·exact .inr rfl
def RowsL (H : Int × Int → Option Int) (i : Int) (l : List Int) : Prop := l.Pairwise (· < ·) ∧ ∀ k, k ∈ l ↔ (H (k, i)).isSome = true
theorem sortedI_le (l : List Int) : (sortedI l).Pairwise (· ≤ ·) := by
 have := List.pairwise_mergeSort (le := fun (x y : Int) => decide (x ≤ y)) (by intro a b c h1 h2; simp at *; omega) (by intro a b; simp; omega) l
 exact this.imp (fun {a b} h => by simpa using h)
theorem sortedI_perm (l : List Int) : (sortedI l).Perm l := List.mergeSort_perm l _
theorem GotR.sorted {H : Int × Int → Option Int} {i : Int} {left : Int × Int → Bool} {l : List Int} (h : GotR H i left l) (hlf : ∀ a, keyH.ok a → left a = false) (hok : ∀ a, (H a).isSome = true → keyH.ok a) : RowsL H i (sortedI l) := by
 have hp := sortedI_perm l
 have hn : (sortedI l).Nodup := hp.nodup_iff.2 h.1
 refine ⟨((sortedI_le l).and hn).imp (fun {x y} h => by have := h.1; have := h.2; omega), fun k => ?_⟩
 rw [hp.mem_iff, h.2 k]
 exact ⟨fun x => x.1, fun x => ⟨x, hlf _ (hok _ x)⟩⟩
theorem infoI : (Tryz.prog.info? 3).map (fun i => (i.zero, i.size, i.bytes)) = some (some (.int .i64 0), 1, 8) := by kernel_rfl
theorem from_new1' (w : World) (o : Obj) (x : Value) (ty : TypeId) (h1 : x.oneCell' = true) : FromMem ((w.alloc o).alloc (.cells #[x] ty)) 1 (.slice (some ⟨w.heap.size + 1, 0, none⟩) 1 1) 1 [x] := by
 have := from_new1 (w.alloc o) x ty h1
 rw [alloc_size] at this
 exact this
theorem FromMem.drew {w : World} {size : Nat} {x : Value} {m : Nat} {news : List Value} (h : FromMem w size x m news) : FromMem w.drew size x m news := ⟨h.shape, h.len, h.one⟩
set_option maxHeartbeats 3200000 in
set_option maxRecDepth 20000 in
theorem rowsHeldBy_any (p hb m t : Nat) (i : Int) (H : Int × Int → Option Int) (w : World) (hp : w.cell? ⟨p, 6, none⟩ = some (.map (some hb))) (hm : MapAt keyH w hb m (hvals H)) (ht : w.cell? ⟨t, 0, none⟩ = some (.int .i64 i))
  (hok : ∀ a, (H a).isSome = true → keyH.ok a) (hmm : m ≤ 1099511627776) :
  Calls Tryz.prog 150 #[.pointer (some ⟨p, 0, none⟩), .pointer (some ⟨t, 0, none⟩)] w fun e w' => ∃ v l, e = .returned v ∧ w'.ownsRow 0 3 1 v l.length (l.map (Value.int .i64)) ∧ (∀ b, v.ownBlock = some b → w.heap.size ≤ b) ∧ RowsL H i l ∧ Kept NoBlk w w' := by
 have hpl := World.block_lt_of_cell? w _ hp
 obtain ⟨w1, cnt, hrun, hR, hk1, hsz1, hcnt⟩ := hm.range Tryz.underlying124
 have HR : Hid (RangeAt keyH w1 hb w.heap.size m (hvals H) (fun a => (hvals H a).isSome) cnt) := hR
 have HK1 : Hid (Kept NoBlk w w1) := hk1
 have HHB : Hid (hb < w.heap.size) := hm.lt
 have HOK : Hid (∀ a, (H a).isSome = true → keyH.ok a) := hok
 have HMM : Hid (m ≤ 1099511627776) := hmm
 have HCNT : Hid (cnt ≤ m) := hcnt
 have HT : Hid (w.cell? ⟨t, 0, none⟩ = some (.int .i64 i)) := ht
 obtain ⟨i1, hi1, hy0, hy1, hy2⟩ := info_parts infoI
 have HI : Hid (Tryz.prog.info? 3 = some i1 ∧ i1.zero = some (.int .i64 0) ∧ i1.size = 1 ∧ i1.bytes = 8) := ⟨hi1, hy0, hy1, hy2⟩
 clear hR hk1 hm hok hi1 hy0 hy1 hy2 hmm hcnt
 go_enter Tryz.func150, Tryz.ntmps150
 go_wp2_with fail
 go_loopw [5] (fun v wr => ∃ (l : List Int) (ao : Option Addr) (c : Nat) (left : Int × Int → Bool) (cnt : Nat), v = .slice ao l.length c ∧ wr.ownsRow 0 3 1 (.slice ao l.length c) l.length (l.map (Value.int .i64)) ∧ (∀ b, (Value.slice ao l.length c).ownBlock = some b → w.heap.size < b) ∧
  RangeAt keyH wr hb w.heap.size m (hvals H) left cnt ∧ GotR H i left l ∧ l.length + cnt ≤ m ∧ Kept NoBlk w wr) (fun _ wr => wr.rangeLeft hb w.heap.size)
 case atStart => exact ⟨[], none, 0, _, cnt, rfl, World.ownsRow_nil _ _ _ _, fun b hb => by simp [Value.ownBlock] at hb, HR.out, GotR.start H i, by have := HCNT.out; simpa using this, HK1.out⟩
 case round =>
  obtain ⟨l, ao, c, left, cnt', rfl, hown, hbl, hrg, hgot, hlc, hkw⟩ := hrel
  have hleft := hrg.left_eq
  have ht' := hkw.cell0 HT.out
  rcases hrg.next 0 with ⟨h0, hlf, hnx⟩ | ⟨a, v, w2, cnt2, ha, hla, hga, hnx, hrg2, hlt, hk2, hsz2, hen⟩
  ·have HF : Hid (RowsL H i (sortedI l)) := hgot.sorted hlf HOK.out
   have HO : Hid (wr.ownsRow 0 3 1 (.slice ao l.length c) l.length (l.map (Value.int .i64))) := hown
   have HB : Hid _ := hbl
   have HKW : Hid (Kept NoBlk w wr) := hkw
   have HLC : Hid (l.length < 4611686018427387904) := by have := HMM.out; unfold Hid; omega
   clear hlf hgot hown hbl hkw hleft hrg HR HK1 hlc
   go_wp2_with fail
   refine (sortInts _ l.length l wr HO.out HLC.out).mono ?_
   rintro e w' ⟨rfl, hown', hk'⟩
   have HO' : Hid (w'.ownsRow 0 3 1 (.slice ao l.length c) l.length ((sortedI l).map (Value.int .i64))) := hown'
   have HK' : Hid _ := hk'
   clear hown' hk'
   go_wp2_with fail
   go_ret
   refine ⟨_, sortedI l, rfl, ?_, fun b hb => Nat.le_of_lt (HB.out b hb), HF.out, HKW.out.trans HK'.out (fun k hk => .inr (Nat.le_of_lt (HB.out k hk)))⟩
   have := HO'.out
   have e : (sortedI l).length = l.length := by simp [sortedI]
   rw [e]
   exact this
  ·obtain ⟨r0, t0⟩ := a
   obtain ⟨md, hmd, rfl⟩ : ∃ md, H (r0, t0) = some md ∧ v = .int .i64 md := by
    simp only [hvals] at hga
    cases hH : H (r0, t0) with
    | none => rw [hH] at hga; cases hga
    | some md => rw [hH] at hga; exact ⟨md, rfl, by cases hga; rfl⟩
   have hnx' : (Instr.next (.pointer (some ⟨w.heap.size, 0, none⟩)) false 0).run Tryz.prog wr = .ok (.tuple #[.bool true, .agg #[.int .i64 r0, .int .i64 t0], .int .i64 md]) w2 := hnx
   have hen' : (Instr.entry (.pointer (some ⟨w.heap.size, 0, none⟩))).run Tryz.prog w2 = .ok (.tuple #[.agg #[.int .i64 r0, .int .i64 t0], .int .i64 md]) w2 := hen
   have hkw2 : Kept NoBlk w w2 := hkw.trans hk2 (fun k hk => .inr (by cases hk; exact Nat.le_refl _))
   have hown2 : w2.ownsRow 0 3 1 (.slice ao l.length c) l.length (l.map (Value.int .i64)) := ownsRow_kept hown hk2 (fun k hk e => by have := hbl k hk; unfold Blk at e; omega)
   have ht2 := hkw2.cell0 HT.out
   have htl := World.block_lt_of_cell? _ _ ht2
   have HMD : Hid (H (r0, t0) = some md) := hmd
   have HLA : Hid _ := hla
   have HRG : Hid (RangeAt keyH w2 hb w.heap.size m (hvals H) (fun c => left c && !decide (c = (r0, t0))) cnt2) := hrg2
   have HLT : Hid (cnt2 < wr.rangeLeft hb w.heap.size) := by rw [hleft]; exact hlt
   have HLC : Hid (l.length + 1 + cnt2 ≤ m) := by unfold Hid; omega
   have HG : Hid (GotR H i left l) := hgot
   have HO : Hid (w2.ownsRow 0 3 1 (.slice ao l.length c) l.length (l.map (Value.int .i64))) := hown2
   have HB : Hid _ := hbl
   have HKW : Hid (Kept NoBlk w w2) := hkw2
   have HWS : Hid (w.heap.size < w2.heap.size) := hrg2.lt.1
   clear hnx hen hkw2 hown2 hown hbl hrg hgot hkw hleft hla hga hrg2 hlt hk2 hsz2 hmd ha HR HK1 hlc ht'
   by_cases hrow : t0 = i
   ·subst hrow
    have HB0 : Hid (l.length + 1 ≤ maxLen) := by have := HLC.out; have := HMM.out; unfold Hid maxLen; omega
    have HB1 : Hid ((l.length + 1) * 8 ≤ 140737488355328) := by have := HLC.out; have := HMM.out; unfold Hid; omega
    go_wp2_with fail
    go_region
    go_wp2_with (at_builtin; refine wpList_append_at (by rfl) _ _ 45 (by rfl) 3 i1 _ 1 8 Tryz.underlying45 HI.out.1 HI.out.2.1 HI.out.2.2.1 HI.out.2.2.2 (by rfl) (.slice ao l.length c) l.length (l.map (Value.int .i64)) (by rfl) (ownsRow_kept HO.out (((Kept.refl NoBlk w2).alloc _).alloc _).drew (fun _ _ x => x)) (.slice (some ⟨w2.heap.size + 1, 0, none⟩) 1 1) 1 [.int .i64 r0] (by rfl) (from_new1' w2 _ _ _ rfl).drew HB0.out HB1.out ?_; intro ao' c' w3 hown3 hmv3)
    have hka : Kept NoBlk w2 ((w2.alloc (Obj.cells #[Value.int IntKind.i64 r0, Value.int IntKind.i64 t0] 168)).alloc (Obj.cells #[Value.int IntKind.i64 r0] 3)).drew := (((Kept.refl _ _).alloc _).alloc _).drew
    have hkb := hmv3.keptOf
    have hnb : ∀ k, k ≤ w.heap.size → ¬ (Value.slice ao l.length c).ownBlock = some k := fun k hk e => by have := HB.out k e; omega
    have hrg3 := (RangeAt.kept HRG.out hka (fun x => x) (fun x => x)).kept hkb (hnb _ (Nat.le_of_lt HHB.out)) (hnb _ (Nat.le_refl _))
    refine ⟨⟨l ++ [r0], ao', c', _, cnt2, ?_, ?_, ?_, hrg3, GotR.more HG.out HLA.out (by rw [HMD.out]; rfl), by simpa using HLC.out, ?_⟩, ?_⟩
    ·simp
    ·rw [List.map_append]; simpa using hown3
    ·intro b hb
     have : (Value.slice ao' (l.length + 1) c').ownBlock = some b := by simpa [Value.ownBlock] using hb
     rcases hmv3.fresh b this with h | h
     ·exact HB.out b h
     ·have := HWS.out
      have h5 := hka.size
      omega
    ·exact (HKW.out.trans' hka).trans hkb (fun k hk => .inr (Nat.le_of_lt (HB.out k hk)))
    ·rw [hrg3.left_eq]; exact HLT.out
   ·go_wp2_with fail
    go_region
    go_wp2_with fail
    have hka : Kept NoBlk w2 (w2.alloc (Obj.cells #[Value.int IntKind.i64 r0, Value.int IntKind.i64 t0] 168)).drew := ((Kept.refl _ _).alloc _).drew
    have hrg3 := RangeAt.kept HRG.out hka (fun x => x) (fun x => x)
    exact ⟨⟨l, ao, c, _, cnt2, rfl, ownsRow_kept HO.out hka (fun _ _ x => x), HB.out, hrg3, GotR.other HG.out hrow, by have := HLC.out; omega, HKW.out.trans' hka⟩, by rw [hrg3.left_eq]; exact HLT.out⟩
end Go.Proofs.YtmcajfefagdbnaaGreat
namespace Go.Proofs.YtmcajfefagdbnaaGreat
open Go Go.RowKit
theorem from_part {w : World} {e : TypeId} {g n cap : Nat} {cl : List Cl} (h : w.ownsRow 0 e 4 (.slice (some ⟨g, 0, none⟩) n cap) n (clCells cl)) (i m c : Nat) (him : i + m ≤ cl.length) :
  FromMem w 4 (.slice (some ⟨g, i * 4, none⟩) m c) m (clCells ((cl.drop i).take m)) := by
 have hlen : ((cl.drop i).take m).length = m := by simp; omega
 refine ⟨⟨_, c, rfl, (fun h => by cases h), ?_⟩, by rw [clCells_len, hlen], clCells_one _⟩
 intro ad had j u hu
 obtain rfl := Option.some.inj had
 have hj : j < m * 4 := by
  have := (List.getElem?_eq_some_iff.mp hu).1
  rw [clCells_len, hlen] at this
  exact this
 have hc := h.cells (g := g) rfl (i * 4 + j) u ?_
 ·rw [Addr.add_lit] at hc ⊢
  rw [show i * 4 + j = 0 + (i * 4 + j) from by omega]
  exact hc
 ·have e1 : j = j / 4 * 4 + j % 4 := by omega
  have e2 : i * 4 + j = (i + j / 4) * 4 + j % 4 := by omega
  rw [e1, clCells_at _ (j / 4) (by rw [hlen]; omega) (j % 4) (by omega)] at hu
  rw [e2, clCells_at cl (i + j / 4) (by omega) (j % 4) (by omega)]
  rw [← hu]
  congr 2
  simp only [List.getD]
  rw [List.getElem?_take_of_lt (by omega), List.getElem?_drop]
set_option maxRecDepth 20000 in
set_option maxHeartbeats 1600000 in
theorem wwithout (p : Nat) (cl : List Cl) (rv tv cv wv c : Value) (i : Nat) (w : World) (hp : w.heap[p]? = some (.cells #[rv, tv, cv, wv, c] 47 (0, 0)))
  (hown : w.ownsRow 0 109 4 cv cl.length (clCells cl)) (hn : cl.length ≤ 1099511627776) (hi : i < cl.length) :
  Calls Tryz.prog 111 #[.pointer (some ⟨p, 0, none⟩), .int .i64 (i : Nat)] w fun e w' => e = .returned (.tuple #[]) ∧
   ∃ cv', w'.heap[p]? = some (.cells #[rv, tv, cv', wv, c] 47 (0, 0)) ∧ w'.ownsRow 0 109 4 cv' (cl.eraseIdx i).length (clCells (cl.eraseIdx i)) ∧
    (∀ k, cv'.ownBlock = some k → w.heap.size ≤ k) ∧ Kept (fun k => k = p) w w' := by
 have HO : Hid _ := hown
 have HP : Hid _ := hp
 have hc2 : w.cell? ⟨p, 2, none⟩ = some cv := by rw [cell_at hp]; rfl
 obtain ⟨g, cp, cur, rfl, -, -, hcap, -⟩ : ∃ g cap cur, cv = .slice (some ⟨g, 0, none⟩) cl.length cap ∧ 0 ≤ g ∧ w.heap[g]? = some (.cells cur 109 (0, 0)) ∧ cl.length ≤ cap ∧ cap ≤ maxLen := by
  rcases hown.2 with ⟨_, h0⟩ | ⟨g, cap, cur, h1, h2, h3, h4, h5, _⟩
  ·omega
  ·exact ⟨g, cap, cur, h1, h2, h3, h4, h5⟩
 generalize hn' : cl.length = n at hown hn hp hi hc2 hcap ⊢
 have Hn : Hid _ := hn'
 have hpl := World.block_lt_of_cell? w _ hc2
 have i0 : (0 : Int) ≤ (i : Int) := by omega
 have i1 : (i : Int) ≤ (n : Int) := by omega
 have i2 : (i : Int) + 1 ≤ (n : Int) := by omega
 clear hn' hown hp
 go_enter Tryz.func111, Tryz.ntmps111
 obtain ⟨i0', hi0, hz0, hz1, hz2⟩ := info_parts infoClaim
 have HX : Hid (FromMem w 4 (.slice (some ⟨g, 0, none⟩) i cp) i (clCells (cl.take i))) := by
  have := from_part (Hn.out ▸ HO.out) 0 i cp (by rw [Hn.out]; omega)
  unfold Hid
  simpa using this
 have HB1 : Hid ((0 + i) * 32 ≤ 140737488355328) := by unfold Hid; omega
 have HB0 : Hid (0 + i ≤ maxLen) := by unfold Hid maxLen; omega
 go_wp2_with (at_builtin; refine wpList_append_at (by rfl) _ _ 44 (by rfl) 109 i0' _ 4 32 Tryz.underlying44 hi0 hz0 hz1 hz2 (by rfl) (.slice none 0 0) 0 [] (by rfl) (World.ownsRow_nil _ _ _ _) (.slice (some ⟨g, 0, none⟩) i cp) i (clCells (cl.take i)) (by rfl) HX.out HB0.out HB1.out ?_)
 intro ao' c' W1 hown1 hmv1
 have hk1 : Kept NoBlk w W1 := by
  refine hmv1.keptOf.mono (fun k x => ?_)
  simp [Value.ownBlock] at x
 have hc3 := hk1.cell0 hc2
 have hp1 := hk1.heap HP.out (fun x => x)
 have hf1 : W1.frozen? ⟨p, 2, none⟩ = false := frozen_at hp1 _
 have HK1 : Hid _ := hk1
 have HO1 : Hid (W1.ownsRow 0 109 4 (.slice ao' i c') i (clCells (cl.take i))) := hown1
 have HN1 : Hid (∀ k, (Value.slice ao' i c').ownBlock = some k → w.heap.size ≤ k) := fun k hk => by
  rcases hmv1.fresh k hk with h | h
  ·simp [Value.ownBlock] at h
  ·exact h
 have HP1 : Hid _ := hp1
 clear hown1 hmv1 hp1 hk1 HX
 have hO1 : W1.ownsRow 0 109 4 (.slice (some ⟨g, 0, none⟩) n cp) n (clCells cl) := by
  have := ownsRow_kept HO.out HK1.out (fun _ _ x => x)
  rw [Hn.out] at this
  exact this
 have HX2 : Hid (FromMem W1 4 (.slice (some ⟨g, (i + 1) * 4, none⟩) (n - (i + 1)) (cp - (i + 1))) (n - (i + 1)) (clCells (cl.drop (i + 1)))) := by
  have hn2 := Hn.out
  have hd : (cl.drop (i + 1)).take (n - (i + 1)) = cl.drop (i + 1) := by rw [List.take_of_length_le]; simp; omega
  have := from_part hO1 (i + 1) (n - (i + 1)) (cp - (i + 1)) (by omega)
  rw [hd] at this
  exact this
 have HX3 : Hid (cp = i + 1 → FromMem W1 4 (.slice (some ⟨g, 0, none⟩) (n - (i + 1)) 0) (n - (i + 1)) (clCells (cl.drop (i + 1)))) := fun hcp => by
  have hn2 := Hn.out
  have h0 : n - (i + 1) = 0 := by omega
  have h1 : cl.drop (i + 1) = [] := by rw [List.drop_eq_nil_iff]; omega
  have := from_part hO1 0 0 0 (by omega)
  rw [h0, h1]
  simpa [clCells] using this
 clear hO1
 have HB3 : Hid ((i + (n - (i + 1))) * 32 ≤ 140737488355328) := by unfold Hid; omega
 have HB2 : Hid (i + (n - (i + 1)) ≤ maxLen) := by unfold Hid maxLen; omega
 go_wp2_with (at_builtin; refine wpList_append_at (by rfl) _ _ 44 (by rfl) 109 i0' _ 4 32 Tryz.underlying44 hi0 hz0 hz1 hz2 (by rfl) (.slice ao' i c') i (clCells (cl.take i)) (by rfl) HO1.out _ (n - (i + 1)) (clCells (cl.drop (i + 1))) (by rfl) ?hx HB2.out HB3.out ?hk)
 all_goals first | exact HX2.out | exact HX3.out (by omega) | skip
 all_goals (
 intro ao2 c2 W2 hown2 hmv2
 have hpl1 := HK1.out.size
 have hpne : (Value.slice ao' i c').ownBlock ≠ some p := fun e => by have := HN1.out p e; have := lt_of_block HP.out; omega
 have hp2 := hmv2.keptOf.heap HP1.out hpne
 have hc4 : W2.cell? ⟨p, 2, none⟩ = some (.slice (some ⟨g, 0, none⟩) n cp) := by rw [← Hn.out, cell_at hp2]; rfl
 have hf4 : W2.frozen? ⟨p, 2, none⟩ = false := frozen_at hp2 _
 have HK2 : Hid (Kept (fun k => k = p) w W2) := (HK1.out.mono (S' := fun k => k = p) (fun _ x => x.elim)).trans hmv2.keptOf (fun j x => .inr (HN1.out j x))
 have HN2 : Hid (∀ k, (Value.slice ao2 (i + (n - (i + 1))) c2).ownBlock = some k → w.heap.size ≤ k) := fun k hk => by
  rcases hmv2.fresh k hk with h | h
  ·exact HN1.out k h
  ·exact Nat.le_trans hpl1 h
 have HO2 : Hid (W2.ownsRow 0 109 4 (.slice ao2 (i + (n - (i + 1))) c2) (i + (n - (i + 1))) (clCells (cl.take i) ++ clCells (cl.drop (i + 1)))) := hown2
 have HP2 : Hid _ := hp2
 clear hp2 hown2 hmv2 hc3 hf1 hc2 HX2 HX3 hi0 hz0 hz1 hz2
 go_wp2_with fail
 go_end0
 have e7 := Kept.set1 W2 p 2 (.slice ao2 (i + (n - (i + 1))) c2)
 refine ⟨rfl, _, block_setCell HP2.out _, ?_, HN2.out, HK2.out.setCell (p := ⟨p, 2, none⟩) (.inl rfl) _⟩
 rw [List.length_eraseIdx_of_lt (by rw [Hn.out]; exact hi), Hn.out, List.eraseIdx_eq_take_drop_succ, clCells_append]
 have := ownsRow_kept HO2.out e7 (fun k hk e => by have e' : k = p := e; subst e'; have := HN2.out k hk; have := lt_of_block HP.out; omega)
 rw [show n - 1 = i + (n - (i + 1)) from by omega]
 exact this)
end Go.Proofs.YtmcajfefagdbnaaGreat
namespace Go.Proofs.YtmcajfefagdbnaaGreat
theorem doOp_wins (s : St) (i : Nat) (o : Op4) : (s.doOp i o).wins = s.wins := by
 simp only [St.doOp]
 repeat' split
 all_goals rfl
end Go.Proofs.YtmcajfefagdbnaaGreat
namespace Go.Proofs.YtmcajfefagdbnaaGreat
theorem addKey_len {l : List Int} {k : Int} (h : (!l.contains k && decide (16 ≤ l.length)) = false) (hl : l.length ≤ 16) : (addKey l k).length ≤ 16 := by
 unfold addKey
 split
 ·exact hl
 ·rename_i hc
  rw [List.length_append]
  simp only [Bool.not_eq_true] at hc
  rw [hc] at h
  simp at h
  simp
  omega
theorem undone_act {s : St} {i : Nat} : (s.undone i).act.length ≤ s.act.length := List.length_filter_le _ _
theorem doOp_act {s : St} {i : Nat} {o : Op4} : (s.doOp i o).act = s.act := by
 unfold St.doOp
 repeat' split
 all_goals rfl
theorem actOn_act {s : St} {i : Nat} {o : Op4} (h : s.act.length ≤ 16) : (s.actOn i o).1.act.length ≤ 16 := by
 unfold St.actOn
 split
 ·exact Nat.le_trans (undone_act (s := s) (i := i)) h
 ·show (s.doOp i o).act.length ≤ 16
  rw [doOp_act]; exact h
theorem go_act {s : St} {i : Nat} (h : s.act.length ≤ 16) : (s.go i).1.act.length ≤ 16 := by
 unfold St.go
 split
 ·exact Nat.le_trans (undone_act (s := s) (i := i)) h
 split
 ·exact h
 split
 ·exact Nat.le_trans (List.length_filter_le _ _) h
 simp only
 split
 ·split
  ·exact Nat.le_trans (undone_act (s := s) (i := i)) h
  ·rename_i hc
   have hc' : (!s.act.contains (s.tx i).op.a && decide (16 ≤ s.act.length)) = false := by
    have : s.crowded (s.tx i).op.a = false := by simpa using hc
    exact this
   split
   ·exact actOn_act (addKey_len hc' h)
   ·exact addKey_len hc' h
 ·exact actOn_act h
end Go.Proofs.YtmcajfefagdbnaaGreat
namespace Go.Proofs.YtmcajfefagdbnaaGreat
open Go Go.RowKit
set_option maxRecDepth 100000 in
set_option maxHeartbeats 12800000 in
theorem kept_bk {T : Nat → Prop} {o J : Nat} {w : World} (h : Books T o J w) (hJ : J ≤ 1099511627776) :
  Calls Tryz.prog 17 #[.pointer (some ⟨o, 0, none⟩)] w fun e w' => e = .returned (.bool true) ∧ w' = w := by
 obtain ⟨iv, sv, lv, rv, N, M, K, R, a1, a2, a3, a4, h1, h2, h3, h4, h5, h6⟩ := h.body
 have c0 : w.cell? ⟨o, 0, none⟩ = some iv := by rw [cell_at h1]; rfl
 have c1 : w.cell? ⟨o, 1, none⟩ = some sv := by rw [cell_at h1]; rfl
 have c2 : w.cell? ⟨o, 2, none⟩ = some lv := by rw [cell_at h1]; rfl
 have c3 : w.cell? ⟨o, 3, none⟩ = some rv := by rw [cell_at h1]; rfl
 obtain ⟨vsI, hvI, hlI⟩ := h3.ex
 obtain ⟨aI, kI, rfl⟩ := ownsRow_form hvI
 have HVI : Hid (w.ownsRow 0 45 1 (.slice aI N kI) N vsI) := hvI
 have HLI : Hid (∀ i, i < N → ∃ u n, vsI[i]? = some u ∧ n ≤ 33554440 ∧ RowAt w 3 1 u n (mks (cI (mark i)) n) ∧ ∀ k, u.ownBlock = some k → T k) := hlI
 obtain ⟨vsS, hvS, hlS⟩ := h4.ex
 obtain ⟨aS, kS, rfl⟩ := ownsRow_form hvS
 have HVS : Hid (w.ownsRow 0 61 1 (.slice aS M kS) M vsS) := hvS
 have HLS : Hid (∀ i, i < M → ∃ u n, vsS[i]? = some u ∧ n ≤ 33554440 ∧ RowAt w 105 3 u n (mks (cS (mark i)) n) ∧ ∀ k, u.ownBlock = some k → T k) := hlS
 obtain ⟨vsL, hvL, hlL⟩ := h5.ex
 obtain ⟨aL, kL, rfl⟩ := ownsRow_form hvL
 have HVL : Hid (w.ownsRow 0 74 1 (.slice aL K kL) K vsL) := hvL
 have HLL : Hid (∀ i, i < K → ∃ u n, vsL[i]? = some u ∧ n ≤ 33554440 ∧ RowAt w 107 2 u n (mks (cL (mark i)) n) ∧ ∀ k, u.ownBlock = some k → T k) := hlL
 obtain ⟨vsR, hvR, hlR⟩ := h6.ex
 obtain ⟨aR, kR, rfl⟩ := ownsRow_form hvR
 have HVR : Hid (w.ownsRow 0 22 1 (.slice aR R kR) R vsR) := hvR
 have HLR : Hid (∀ i, i < R → ∃ u n, vsR[i]? = some u ∧ n ≤ 33554440 ∧ RowAt w 95 2 u n (mks (cL (mark i)) n) ∧ ∀ k, u.ownBlock = some k → T k) := hlR
 clear h h1 h2 h3 h4 h5 h6 hvI hlI hvS hlS hvL hlL hvR hlR
 replace a1 : N ≤ 1099511627776 := by omega
 replace a2 : M ≤ 1099511627776 := by omega
 replace a3 : K ≤ 1099511627776 := by omega
 replace a4 : R ≤ 1099511627776 := by omega
 clear hJ
 go_enter Tryz.func17, Tryz.ntmps17
 go_wp2_with fail
 go_loop [3] (fun i => ∃ k : Nat, k ≤ N ∧ i = .int .i64 k) (fun i => N - (intOf i).toNat)
 case atStart => exact ⟨0, Nat.zero_le _, rfl⟩
 case round =>
  obtain ⟨i, hi, rfl⟩ := hrel
  by_cases hlt : i < N
  ·obtain ⟨v, n, hv, hn, hown, _⟩ := HLI.out i hlt
   obtain ⟨g, cap, hform, _, _⟩ := HVI.out.form (by omega)
   simp only [Value.slice.injEq] at hform
   obtain ⟨rfl, _, rfl⟩ := hform
   have hcell : w.cell? ⟨g, i, none⟩ = some v := (HVI.out.cellAt i (by omega)).trans hv
   obtain ⟨va, vc, rfl, _, _⟩ := hown.form
   have HOWN : Hid (RowAt w 3 1 (.slice va n vc) n (mks (cI (mark i)) n)) := hown
   clear hown hv
   go_wp2_with fail
   go_loop [4] (fun j => ∃ k : Nat, k ≤ n ∧ j = .int .i64 k) (fun j => n - (intOf j).toNat)
   case atStart => exact ⟨0, Nat.zero_le _, rfl⟩
   case round =>
    obtain ⟨j, hj, rfl⟩ := hrel
    by_cases hjlt : j < n
    ·obtain ⟨b, off, rfl⟩ := HOWN.out.place (by omega)
     have hx0 : w.cell? ⟨b, off + j, none⟩ = some (.int .i64 (mark i)) := HOWN.out.cell (j) (by have := mks_get (cI (mark i)) n j 0 hjlt (by simp [cI]); simpa [cI] using this)
     have hmk : (mark i != -1000 - (i : Int) / 4) = false := by
      have : mark i = -1000 - (i : Int) / 4 := by unfold mark; omega
      simp [this]
     generalize mark i = mk at *
     go_wp2_with fail
     exact ⟨⟨j + 1, by omega, by go_num⟩, by simp [intOf]; omega⟩
    ·go_wp2_with fail
     exact ⟨⟨i + 1, by omega, by go_num⟩, by simp [intOf]; omega⟩
  ·clear HLI HVI
   go_wp2_with fail
   clear hi hlt
   go_loop [5] (fun i => ∃ k : Nat, k ≤ M ∧ i = .int .i64 k) (fun i => M - (intOf i).toNat)
   case atStart => exact ⟨0, Nat.zero_le _, rfl⟩
   case round =>
    obtain ⟨i, hi, rfl⟩ := hrel
    by_cases hlt : i < M
    ·obtain ⟨v, n, hv, hn, hown, _⟩ := HLS.out i hlt
     obtain ⟨g, cap, hform, _, _⟩ := HVS.out.form (by omega)
     simp only [Value.slice.injEq] at hform
     obtain ⟨rfl, _, rfl⟩ := hform
     have hcell : w.cell? ⟨g, i, none⟩ = some v := (HVS.out.cellAt i (by omega)).trans hv
     obtain ⟨va, vc, rfl, _, _⟩ := hown.form
     have HOWN : Hid (RowAt w 105 3 (.slice va n vc) n (mks (cS (mark i)) n)) := hown
     clear hown hv
     go_wp2_with fail
     go_loop [6] (fun j => ∃ k : Nat, k ≤ n ∧ j = .int .i64 k) (fun j => n - (intOf j).toNat)
     case atStart => exact ⟨0, Nat.zero_le _, rfl⟩
     case round =>
      obtain ⟨j, hj, rfl⟩ := hrel
      by_cases hjlt : j < n
      ·obtain ⟨b, off, rfl⟩ := HOWN.out.place (by omega)
       have hx0 : w.cell? ⟨b, off + j * 3, none⟩ = some (.int .i64 (mark i)) := HOWN.out.cell (j * 3) (by have := mks_get (cS (mark i)) n j 0 hjlt (by simp [cS]); simpa [cS] using this)
       have hx1 : w.cell? ⟨b, off + j * 3 + 1, none⟩ = some (.bool false) := HOWN.out.cell (j * 3 + 1) (by have := mks_get (cS (mark i)) n j 1 hjlt (by simp [cS]); simpa [cS] using this)
       have hx2 : w.cell? ⟨b, off + j * 3 + 2, none⟩ = some (.int .i64 0) := HOWN.out.cell (j * 3 + 2) (by have := mks_get (cS (mark i)) n j 2 hjlt (by simp [cS]); simpa [cS] using this)
       have hmk : (mark i == -1000 - (i : Int) / 4) = true := by
        have : mark i = -1000 - (i : Int) / 4 := by unfold mark; omega
        simp [this]
       generalize mark i = mk at *
       go_wp2_with fail
       exact ⟨⟨j + 1, by omega, by go_num⟩, by simp [intOf]; omega⟩
      ·go_wp2_with fail
       exact ⟨⟨i + 1, by omega, by go_num⟩, by simp [intOf]; omega⟩
    ·clear HLS HVS
     go_wp2_with fail
     clear hi hlt
     go_loop [7] (fun i => ∃ k : Nat, k ≤ K ∧ i = .int .i64 k) (fun i => K - (intOf i).toNat)
     case atStart => exact ⟨0, Nat.zero_le _, rfl⟩
     case round =>
      obtain ⟨i, hi, rfl⟩ := hrel
      by_cases hlt : i < K
      ·obtain ⟨v, n, hv, hn, hown, _⟩ := HLL.out i hlt
       obtain ⟨g, cap, hform, _, _⟩ := HVL.out.form (by omega)
       simp only [Value.slice.injEq] at hform
       obtain ⟨rfl, _, rfl⟩ := hform
       have hcell : w.cell? ⟨g, i, none⟩ = some v := (HVL.out.cellAt i (by omega)).trans hv
       obtain ⟨va, vc, rfl, _, _⟩ := hown.form
       have HOWN : Hid (RowAt w 107 2 (.slice va n vc) n (mks (cL (mark i)) n)) := hown
       clear hown hv
       go_wp2_with fail
       go_loop [8] (fun j => ∃ k : Nat, k ≤ n ∧ j = .int .i64 k) (fun j => n - (intOf j).toNat)
       case atStart => exact ⟨0, Nat.zero_le _, rfl⟩
       case round =>
        obtain ⟨j, hj, rfl⟩ := hrel
        by_cases hjlt : j < n
        ·obtain ⟨b, off, rfl⟩ := HOWN.out.place (by omega)
         have hx0 : w.cell? ⟨b, off + j * 2, none⟩ = some (.int .i64 (mark i)) := HOWN.out.cell (j * 2) (by have := mks_get (cL (mark i)) n j 0 hjlt (by simp [cL]); simpa [cL] using this)
         have hx1 : w.cell? ⟨b, off + j * 2 + 1, none⟩ = some (.int .i64 0) := HOWN.out.cell (j * 2 + 1) (by have := mks_get (cL (mark i)) n j 1 hjlt (by simp [cL]); simpa [cL] using this)
         have hmk : (mark i == -1000 - (i : Int) / 4) = true := by
          have : mark i = -1000 - (i : Int) / 4 := by unfold mark; omega
          simp [this]
         generalize mark i = mk at *
         go_wp2_with fail
         exact ⟨⟨j + 1, by omega, by go_num⟩, by simp [intOf]; omega⟩
        ·go_wp2_with fail
         exact ⟨⟨i + 1, by omega, by go_num⟩, by simp [intOf]; omega⟩
      ·clear HLL HVL
       go_wp2_with fail
       clear hi hlt
       go_loop [9] (fun i => ∃ k : Nat, k ≤ R ∧ i = .int .i64 k) (fun i => R - (intOf i).toNat)
       case atStart => exact ⟨0, Nat.zero_le _, rfl⟩
       case round =>
        obtain ⟨i, hi, rfl⟩ := hrel
        by_cases hlt : i < R
        ·obtain ⟨v, n, hv, hn, hown, _⟩ := HLR.out i hlt
         obtain ⟨g, cap, hform, _, _⟩ := HVR.out.form (by omega)
         simp only [Value.slice.injEq] at hform
         obtain ⟨rfl, _, rfl⟩ := hform
         have hcell : w.cell? ⟨g, i, none⟩ = some v := (HVR.out.cellAt i (by omega)).trans hv
         obtain ⟨va, vc, rfl, _, _⟩ := hown.form
         have HOWN : Hid (RowAt w 95 2 (.slice va n vc) n (mks (cL (mark i)) n)) := hown
         clear hown hv
         go_wp2_with fail
         go_loop [10] (fun j => ∃ k : Nat, k ≤ n ∧ j = .int .i64 k) (fun j => n - (intOf j).toNat)
         case atStart => exact ⟨0, Nat.zero_le _, rfl⟩
         case round =>
          obtain ⟨j, hj, rfl⟩ := hrel
          by_cases hjlt : j < n
          ·obtain ⟨b, off, rfl⟩ := HOWN.out.place (by omega)
           have hx0 : w.cell? ⟨b, off + j * 2, none⟩ = some (.int .i64 (mark i)) := HOWN.out.cell (j * 2) (by have := mks_get (cL (mark i)) n j 0 hjlt (by simp [cL]); simpa [cL] using this)
           have hx1 : w.cell? ⟨b, off + j * 2 + 1, none⟩ = some (.int .i64 0) := HOWN.out.cell (j * 2 + 1) (by have := mks_get (cL (mark i)) n j 1 hjlt (by simp [cL]); simpa [cL] using this)
           have hmk : (mark i == -1000 - (i : Int) / 4) = true := by
            have : mark i = -1000 - (i : Int) / 4 := by unfold mark; omega
            simp [this]
           generalize mark i = mk at *
           go_wp2_with fail
           exact ⟨⟨j + 1, by omega, by go_num⟩, by simp [intOf]; omega⟩
          ·go_wp2_with fail
           exact ⟨⟨i + 1, by omega, by go_num⟩, by simp [intOf]; omega⟩
        ·clear HLR HVR
         go_wp2_with fail
         clear hi hlt
         go_ret
         exact ⟨rfl, rfl⟩
end Go.Proofs.YtmcajfefagdbnaaGreat
