import Derived.Test.YtmcajfefagdbnaaGreatQ06
import Derived.Test.YtmcajfefagdbnaaGreatQ07
import Derived.Test.YtmcajfefagdbnaaGreatQ08
namespace Go.Proofs.YtmcajfefagdbnaaGreat
def K9 (k : Int) : Prop := 0 ≤ k ∧ k < 9
structure In9 (s : St) : Prop where
 rows : ∀ k, s.rows k ≠ none → K9 k
 ops : ∀ j, ∀ o ∈ (s.tx j).ops, 0 < modeOf o → K9 o.a
 undo : ∀ j, ∀ b ∈ (s.tx j).undo, K9 b.key
theorem In9.of {s s' : St} (h : In9 s) (hr : s'.rows = s.rows) (ht : ∀ j, (s'.tx j).ops = (s.tx j).ops ∧ (s'.tx j).undo = (s.tx j).undo) : In9 s' :=
 ⟨fun k => by rw [hr]; exact h.rows k, fun j => by rw [(ht j).1]; exact h.ops j, fun j => by rw [(ht j).2]; exact h.undo j⟩
theorem In9.freed {s : St} (h : In9 s) (i : Nat) : In9 (s.freed i) := h.of rfl (fun _ => ⟨rfl, rfl⟩)
theorem In9.turn {s s' : St} (h : In9 s) (i : Nat) (hr : ∀ k, s'.rows k ≠ none → K9 k) (ht : ∀ j, j ≠ i → s'.tx j = s.tx j) (ho : (s'.tx i).ops = (s.tx i).ops) (hu : ∀ b ∈ (s'.tx i).undo, K9 b.key) : In9 s' := by
 refine ⟨hr, fun j => ?_, fun j => ?_⟩
 ·by_cases e : j = i
  ·subst e; rw [ho]; exact h.ops j
  ·rw [ht j e]; exact h.ops j
 ·by_cases e : j = i
  ·subst e; exact hu
  ·rw [ht j e]; exact h.undo j
theorem In9.setTx {s : St} (h : In9 s) (i : Nat) (f : Tx → Tx) (ho : (f (s.tx i)).ops = (s.tx i).ops) (hu : ∀ b ∈ (f (s.tx i)).undo, K9 b.key) : In9 (s.setTx i f) :=
 h.turn i h.rows (fun _ e => upd_other _ _ _ _ e) (by simpa [St.setTx] using ho) (by simpa [St.setTx] using hu)
theorem back_in : ∀ (l : List Saw) (f : Int → Option Int), (∀ k, f k ≠ none → K9 k) → (∀ b ∈ l, K9 b.key) → ∀ k, back f l k ≠ none → K9 k
 | [], f, hf, _ => hf
 | b :: l, f, hf, hl => by
  refine back_in l (upd f b.key b.old) (fun k hk => ?_) (fun c hc => hl c (by simp [hc]))
  by_cases e : k = b.key
  ·subst e; exact hl b (by simp)
  ·rw [upd_other _ _ _ _ e] at hk; exact hf k hk
theorem In9.undone {s : St} (h : In9 s) (i : Nat) : In9 (s.undone i) := by
 refine In9.freed (s := { s with rows := back s.rows (s.tx i).undo, tx := upd s.tx i (s.tx i).anew }) ?_ i
 refine h.turn i (back_in _ _ h.rows (h.undo i)) (fun _ e => upd_other _ _ _ _ e) ?_ ?_
 ·simp [Tx.anew]
 ·simp [Tx.anew]
theorem In9.fell {s : St} (h : In9 s) (i : Nat) (z : Int) : In9 (s.fell i z) := (h.undone i).setTx i _ rfl ((h.undone i).undo i)
theorem In9.again {s : St} (h : In9 s) (i : Nat) : In9 (s.again i) := (h.undone i).setTx i _ rfl ((h.undone i).undo i)
theorem In9.commit {s : St} (h : In9 s) (i : Nat) : In9 (s.commit i) :=
 In9.freed (s := { s.setTx i (fun t => { t with state := 1 }) with wins := s.wins ++ [i] }) ((h.setTx i (fun t => { t with state := 1 }) rfl (h.undo i)).of rfl (fun _ => ⟨rfl, rfl⟩)) i
theorem In9.doOp {s : St} (h : In9 s) (i : Nat) (o : Op4) (ho : 0 < modeOf o → K9 o.a) : In9 (s.doOp i o) := by
 unfold St.doOp
 split
 ·exact h.setTx i _ rfl (h.undo i)
 split
 ·rename_i h1 h2
  have hk : K9 o.a := ho (by simp [modeOf, h2])
  refine h.turn i (fun k hk' => ?_) (fun _ e => upd_other _ _ _ _ e) (by simp [St.setTx]) (by simp only [St.setTx, upd_same, List.mem_cons, forall_eq_or_imp]; exact ⟨hk, h.undo i⟩)
  by_cases e : k = o.a
  ·subst e; exact hk
  ·simp only [upd_other _ _ _ _ e] at hk'; exact h.rows k hk'
 split
 ·rename_i h1 h2 h3
  have hk : K9 o.a := ho (by simp [modeOf, h3])
  refine h.turn i (fun k hk' => ?_) (fun _ e => upd_other _ _ _ _ e) (by simp [St.setTx]) (by simp only [St.setTx, upd_same, List.mem_cons, forall_eq_or_imp]; exact ⟨hk, h.undo i⟩)
  by_cases e : k = o.a
  ·subst e; exact hk
  ·simp only [upd_other _ _ _ _ e] at hk'; exact h.rows k hk'
 split
 ·exact h.setTx i _ rfl (h.undo i)
 ·exact h.setTx i _ rfl (h.undo i)
theorem In9.actOn {s : St} (h : In9 s) (i : Nat) (o : Op4) (ho : 0 < modeOf o → K9 o.a) : In9 (s.actOn i o).1 := by
 unfold St.actOn
 split
 ·exact h.fell i 2
 ·exact h.doOp i o ho
theorem In9.grant {s : St} (h : In9 s) (i : Nat) (k m : Int) : In9 (s.grant i k m) := h.of rfl (fun _ => ⟨rfl, rfl⟩)
theorem In9.enq {s : St} (h : In9 s) (i : Nat) (k m : Int) : In9 (s.enq i k m) := h.of rfl (fun j => by
 simp only [St.enq]
 split
 ·exact ⟨rfl, rfl⟩
 ·split <;> exact ⟨rfl, rfl⟩)
theorem In9.op {s : St} (h : In9 s) (i : Nat) : 0 < modeOf (s.tx i).op → K9 (s.tx i).op.a := by
 unfold Tx.op
 by_cases hl : (s.tx i).next < (s.tx i).ops.length
 ·simp only [List.getD, List.getElem?_eq_getElem hl, Option.getD_some]
  exact h.ops i _ (List.getElem_mem hl)
 ·simp only [List.getD, List.getElem?_eq_none (by omega : (s.tx i).ops.length ≤ (s.tx i).next), Option.getD_none]
  intro h0
  exact absurd h0 (by decide)
theorem In9.go {s : St} (h : In9 s) (i : Nat) : In9 (s.go i).1 := by
 unfold St.go
 split
 ·exact h.again i
 split
 ·exact h
 split
 ·exact h.commit i
 simp only
 split
 ·split
  ·exact h.fell i 3
  split
  ·exact (h.grant i _ _).actOn i _ (h.op i)
  ·exact h.enq i _ _
 ·exact h.actOn i _ (h.op i)
theorem In9.admit {s : St} (h : In9 s) (l : List Op4) (hl : ∀ o ∈ l, 0 < modeOf o → K9 o.a) : In9 (s.admit l) := by
 refine ⟨h.rows, fun j => ?_, fun j => ?_⟩
 ·by_cases e : j = s.n + 1
  ·subst e; simpa [St.admit] using hl
  ·simp only [St.admit, upd_other _ _ _ _ e]; exact h.ops j
 ·by_cases e : j = s.n + 1
  ·subst e; simp [St.admit]
  ·simp only [St.admit, upd_other _ _ _ _ e]; exact h.undo j
end Go.Proofs.YtmcajfefagdbnaaGreat
namespace Go.Proofs.YtmcajfefagdbnaaGreat
open Go Go.RowKit Go.Sort Go.Lib
def GotR (H : Int × Int → Option Int) (i : Int) (left : Int × Int → Bool) (l : List Int) : Prop :=
 l.Nodup ∧ ∀ k, k ∈ l ↔ (H (k, i)).isSome = true ∧ left (k, i) = false
theorem GotR.start (H : Int × Int → Option Int) (i : Int) : GotR H i (fun a => (hvals H a).isSome) [] := by
 refine ⟨by simp, fun k => ?_⟩
 simp only [List.not_mem_nil, false_iff, not_and, hvals, Option.isSome_map]
 intro h
 simp [h]
theorem GotR.other {H : Int × Int → Option Int} {i : Int} {left : Int × Int → Bool} {l : List Int} (h : GotR H i left l) {a : Int × Int} (ha : a.2 ≠ i) : GotR H i (fun c => left c && !decide (c = a)) l := by
 refine ⟨h.1, fun k => ?_⟩
 rw [h.2 k]
 have : (k, i) ≠ a := fun e => ha (by rw [← e])
 simp [this]
theorem GotR.more {H : Int × Int → Option Int} {i : Int} {left : Int × Int → Bool} {l : List Int} (h : GotR H i left l) {k0 : Int} (hl : left (k0, i) = true) (hH : (H (k0, i)).isSome = true) : GotR H i (fun c => left c && !decide (c = (k0, i))) (l ++ [k0]) := by
 refine ⟨?_, fun k => ?_⟩
 ·rw [List.nodup_append]
  refine ⟨h.1, by simp, ?_⟩
  intro a ha b hb e
  simp at hb
  subst hb
  subst e
  have := ((h.2 a).1 ha).2
  rw [hl] at this
  cases this
 ·rw [List.mem_append, h.2 k]
  simp only [List.mem_singleton, Prod.mk.injEq, Bool.and_eq_false_iff, Bool.not_eq_false', decide_eq_true_eq, and_true]
  constructor
  ·rintro (⟨h1, h2⟩ | rfl)
   ·exact ⟨h1, .inl h2⟩
   ·exact ⟨hH, .inr rfl⟩
  ·rintro ⟨h1, h2 | rfl⟩
   ·exact .inl ⟨h1, h2⟩
   ·exact .inr rfl
def RowsL (H : Int × Int → Option Int) (i : Int) (l : List Int) : Prop := l.Pairwise (· < ·) ∧ ∀ k, k ∈ l ↔ (H (k, i)).isSome = true
theorem sortedI_le (l : List Int) : (sortedI l).Pairwise (· ≤ ·) := by
 have := List.pairwise_mergeSort (le := fun (x y : Int) => decide (x ≤ y)) (by intro a b c h1 h2; simp at *; omega) (by intro a b; simp; omega) l
 exact this.imp (fun {a b} h => by simpa using h)
theorem sortedI_perm (l : List Int) : (sortedI l).Perm l := List.mergeSort_perm l _
theorem GotR.sorted {H : Int × Int → Option Int} {i : Int} {left : Int × Int → Bool} {l : List Int} (h : GotR H i left l) (hlf : ∀ a, keyH.ok a → left a = false) (hok : ∀ a, (H a).isSome = true → keyH.ok a) : RowsL H i (sortedI l) := by
 have hp := sortedI_perm l
 have hn : (sortedI l).Nodup := hp.nodup_iff.2 h.1
 refine ⟨((sortedI_le l).and hn).imp (fun {x y} h => by have := h.1; have := h.2; omega), fun k => ?_⟩
 rw [hp.mem_iff, h.2 k]
 exact ⟨fun x => x.1, fun x => ⟨x, hlf _ (hok _ x)⟩⟩
theorem infoI : (Tryz.prog.info? 3).map (fun i => (i.zero, i.size, i.bytes)) = some (some (.int .i64 0), 1, 8) := by kernel_rfl
theorem from_new1' (w : World) (o : Obj) (x : Value) (ty : TypeId) (h1 : x.oneCell' = true) : FromMem ((w.alloc o).alloc (.cells #[x] ty)) 1 (.slice (some ⟨w.heap.size + 1, 0, none⟩) 1 1) 1 [x] := by
 have := from_new1 (w.alloc o) x ty h1
 rw [alloc_size] at this
 exact this
theorem FromMem.drew {w : World} {size : Nat} {x : Value} {m : Nat} {news : List Value} (h : FromMem w size x m news) : FromMem w.drew size x m news := ⟨h.shape, h.len, h.one⟩
set_option maxHeartbeats 3200000 in
set_option maxRecDepth 20000 in
theorem rowsHeldBy_any (p hb m t : Nat) (i : Int) (H : Int × Int → Option Int) (w : World) (hp : w.cell? ⟨p, 6, none⟩ = some (.map (some hb))) (hm : MapAt keyH w hb m (hvals H)) (ht : w.cell? ⟨t, 0, none⟩ = some (.int .i64 i))
  (hok : ∀ a, (H a).isSome = true → keyH.ok a) (hmm : m ≤ 1099511627776) :
  Calls Tryz.prog 150 #[.pointer (some ⟨p, 0, none⟩), .pointer (some ⟨t, 0, none⟩)] w fun e w' => ∃ v l, e = .returned v ∧ w'.ownsRow 0 3 1 v l.length (l.map (Value.int .i64)) ∧ (∀ b, v.ownBlock = some b → w.heap.size ≤ b) ∧ RowsL H i l ∧ Kept NoBlk w w' := by
 have hpl := World.block_lt_of_cell? w _ hp
 obtain ⟨w1, cnt, hrun, hR, hk1, hsz1, hcnt⟩ := hm.range Tryz.underlying124
 have HR : Hid (RangeAt keyH w1 hb w.heap.size m (hvals H) (fun a => (hvals H a).isSome) cnt) := hR
 have HK1 : Hid (Kept NoBlk w w1) := hk1
 have HHB : Hid (hb < w.heap.size) := hm.lt
 have HOK : Hid (∀ a, (H a).isSome = true → keyH.ok a) := hok
 have HMM : Hid (m ≤ 1099511627776) := hmm
 have HCNT : Hid (cnt ≤ m) := hcnt
 have HT : Hid (w.cell? ⟨t, 0, none⟩ = some (.int .i64 i)) := ht
 obtain ⟨i1, hi1, hy0, hy1, hy2⟩ := info_parts infoI
 have HI : Hid (Tryz.prog.info? 3 = some i1 ∧ i1.zero = some (.int .i64 0) ∧ i1.size = 1 ∧ i1.bytes = 8) := ⟨hi1, hy0, hy1, hy2⟩
 clear hR hk1 hm hok hi1 hy0 hy1 hy2 hmm hcnt
 go_enter Tryz.func150, Tryz.ntmps150
 go_wp2_with fail
 go_loopw [5] (fun v wr => ∃ (l : List Int) (ao : Option Addr) (c : Nat) (left : Int × Int → Bool) (cnt : Nat), v = .slice ao l.length c ∧ wr.ownsRow 0 3 1 (.slice ao l.length c) l.length (l.map (Value.int .i64)) ∧ (∀ b, (Value.slice ao l.length c).ownBlock = some b → w.heap.size < b) ∧
  RangeAt keyH wr hb w.heap.size m (hvals H) left cnt ∧ GotR H i left l ∧ l.length + cnt ≤ m ∧ Kept NoBlk w wr) (fun _ wr => wr.rangeLeft hb w.heap.size)
 case atStart => exact ⟨[], none, 0, _, cnt, rfl, World.ownsRow_nil _ _ _ _, fun b hb => by simp [Value.ownBlock] at hb, HR.out, GotR.start H i, by have := HCNT.out; simpa using this, HK1.out⟩
 case round =>
  obtain ⟨l, ao, c, left, cnt', rfl, hown, hbl, hrg, hgot, hlc, hkw⟩ := hrel
  have hleft := hrg.left_eq
  have ht' := hkw.cell0 HT.out
  rcases hrg.next 0 with ⟨h0, hlf, hnx⟩ | ⟨a, v, w2, cnt2, ha, hla, hga, hnx, hrg2, hlt, hk2, hsz2, hen⟩
  ·have HF : Hid (RowsL H i (sortedI l)) := hgot.sorted hlf HOK.out
   have HO : Hid (wr.ownsRow 0 3 1 (.slice ao l.length c) l.length (l.map (Value.int .i64))) := hown
   have HB : Hid _ := hbl
   have HKW : Hid (Kept NoBlk w wr) := hkw
   have HLC : Hid (l.length < 4611686018427387904) := by have := HMM.out; unfold Hid; omega
   clear hlf hgot hown hbl hkw hleft hrg HR HK1 hlc
   go_wp2_with fail
   refine (sortInts _ l.length l wr HO.out HLC.out).mono ?_
   rintro e w' ⟨rfl, hown', hk'⟩
   have HO' : Hid (w'.ownsRow 0 3 1 (.slice ao l.length c) l.length ((sortedI l).map (Value.int .i64))) := hown'
   have HK' : Hid _ := hk'
   clear hown' hk'
   go_wp2_with fail
   go_ret
   refine ⟨_, sortedI l, rfl, ?_, fun b hb => Nat.le_of_lt (HB.out b hb), HF.out, HKW.out.trans HK'.out (fun k hk => .inr (Nat.le_of_lt (HB.out k hk)))⟩
   have := HO'.out
   have e : (sortedI l).length = l.length := by simp [sortedI]
   rw [e]
   exact this
  ·obtain ⟨r0, t0⟩ := a
   obtain ⟨md, hmd, rfl⟩ : ∃ md, H (r0, t0) = some md ∧ v = .int .i64 md := by
    simp only [hvals] at hga
    cases hH : H (r0, t0) with
    | none => rw [hH] at hga; cases hga
    | some md => rw [hH] at hga; exact ⟨md, rfl, by cases hga; rfl⟩
   have hnx' : (Instr.next (.pointer (some ⟨w.heap.size, 0, none⟩)) false 0).run Tryz.prog wr = .ok (.tuple #[.bool true, .agg #[.int .i64 r0, .int .i64 t0], .int .i64 md]) w2 := hnx
   have hen' : (Instr.entry (.pointer (some ⟨w.heap.size, 0, none⟩))).run Tryz.prog w2 = .ok (.tuple #[.agg #[.int .i64 r0, .int .i64 t0], .int .i64 md]) w2 := hen
   have hkw2 : Kept NoBlk w w2 := hkw.trans hk2 (fun k hk => .inr (by cases hk; exact Nat.le_refl _))
   have hown2 : w2.ownsRow 0 3 1 (.slice ao l.length c) l.length (l.map (Value.int .i64)) := ownsRow_kept hown hk2 (fun k hk e => by have := hbl k hk; unfold Blk at e; omega)
   have ht2 := hkw2.cell0 HT.out
   have htl := World.block_lt_of_cell? _ _ ht2
   have HMD : Hid (H (r0, t0) = some md) := hmd
   have HLA : Hid _ := hla
   have HRG : Hid (RangeAt keyH w2 hb w.heap.size m (hvals H) (fun c => left c && !decide (c = (r0, t0))) cnt2) := hrg2
   have HLT : Hid (cnt2 < wr.rangeLeft hb w.heap.size) := by rw [hleft]; exact hlt
   have HLC : Hid (l.length + 1 + cnt2 ≤ m) := by unfold Hid; omega
   have HG : Hid (GotR H i left l) := hgot
   have HO : Hid (w2.ownsRow 0 3 1 (.slice ao l.length c) l.length (l.map (Value.int .i64))) := hown2
   have HB : Hid _ := hbl
   have HKW : Hid (Kept NoBlk w w2) := hkw2
   have HWS : Hid (w.heap.size < w2.heap.size) := hrg2.lt.1
   clear hnx hen hkw2 hown2 hown hbl hrg hgot hkw hleft hla hga hrg2 hlt hk2 hsz2 hmd ha HR HK1 hlc ht'
   by_cases hrow : t0 = i
   ·subst hrow
    have HB0 : Hid (l.length + 1 ≤ maxLen) := by have := HLC.out; have := HMM.out; unfold Hid maxLen; omega
    have HB1 : Hid ((l.length + 1) * 8 ≤ 140737488355328) := by have := HLC.out; have := HMM.out; unfold Hid; omega
    go_wp2_with fail
    go_region
    go_wp2_with (at_builtin; refine wpList_append_at (by rfl) _ _ 45 (by rfl) 3 i1 _ 1 8 Tryz.underlying45 HI.out.1 HI.out.2.1 HI.out.2.2.1 HI.out.2.2.2 (by rfl) (.slice ao l.length c) l.length (l.map (Value.int .i64)) (by rfl) (ownsRow_kept HO.out (((Kept.refl NoBlk w2).alloc _).alloc _).drew (fun _ _ x => x)) (.slice (some ⟨w2.heap.size + 1, 0, none⟩) 1 1) 1 [.int .i64 r0] (by rfl) (from_new1' w2 _ _ _ rfl).drew HB0.out HB1.out ?_; intro ao' c' w3 hown3 hmv3)
    have hka : Kept NoBlk w2 ((w2.alloc (Obj.cells #[Value.int IntKind.i64 r0, Value.int IntKind.i64 t0] 168)).alloc (Obj.cells #[Value.int IntKind.i64 r0] 3)).drew := (((Kept.refl _ _).alloc _).alloc _).drew
    have hkb := hmv3.keptOf
    have hnb : ∀ k, k ≤ w.heap.size → ¬ (Value.slice ao l.length c).ownBlock = some k := fun k hk e => by have := HB.out k e; omega
    have hrg3 := (RangeAt.kept HRG.out hka (fun x => x) (fun x => x)).kept hkb (hnb _ (Nat.le_of_lt HHB.out)) (hnb _ (Nat.le_refl _))
    refine ⟨⟨l ++ [r0], ao', c', _, cnt2, ?_, ?_, ?_, hrg3, GotR.more HG.out HLA.out (by rw [HMD.out]; rfl), by simpa using HLC.out, ?_⟩, ?_⟩
    ·simp
    ·rw [List.map_append]; simpa using hown3
    ·intro b hb
     have : (Value.slice ao' (l.length + 1) c').ownBlock = some b := by simpa [Value.ownBlock] using hb
     rcases hmv3.fresh b this with h | h
     ·exact HB.out b h
     ·have := HWS.out
      have h5 := hka.size
      omega
    ·exact (HKW.out.trans' hka).trans hkb (fun k hk => .inr (Nat.le_of_lt (HB.out k hk)))
    ·rw [hrg3.left_eq]; exact HLT.out
   ·go_wp2_with fail
    go_region
    go_wp2_with fail
    have hka : Kept NoBlk w2 (w2.alloc (Obj.cells #[Value.int IntKind.i64 r0, Value.int IntKind.i64 t0] 168)).drew := ((Kept.refl _ _).alloc _).drew
    have hrg3 := RangeAt.kept HRG.out hka (fun x => x) (fun x => x)
    exact ⟨⟨l, ao, c, _, cnt2, rfl, ownsRow_kept HO.out hka (fun _ _ x => x), HB.out, hrg3, GotR.other HG.out hrow, by have := HLC.out; omega, HKW.out.trans' hka⟩, by rw [hrg3.left_eq]; exact HLT.out⟩
end Go.Proofs.YtmcajfefagdbnaaGreat
namespace Go.Proofs.YtmcajfefagdbnaaGreat
structure Pr where
 f : Int → Option Int
 regs : Int → Int
 reads : List Saw
 undo : List Saw
def Pr.op (p : Pr) (o : Op4) : Pr :=
 if o.k = 1 then { p with regs := upd p.regs o.b ((p.f o.a).getD 0), reads := p.reads ++ [sawOf p.f o.a] }
 else if o.k = 2 then { p with f := upd p.f o.a (some (p.regs o.b)), undo := sawOf p.f o.a :: p.undo }
 else if o.k = 3 then { p with f := upd p.f o.a none, undo := sawOf p.f o.a :: p.undo }
 else if o.k = 4 then { p with regs := upd p.regs o.a (IntKind.wrap .i64 (IntKind.wrap .i64 (p.regs o.a + p.regs o.b) + o.c)) }
 else p
def runP (D : Int → Option Int) (l : List Op4) : Pr := l.foldl Pr.op ⟨D, fun _ => 0, [], []⟩
theorem runP_snoc (D : Int → Option Int) (l : List Op4) (o : Op4) : runP D (l ++ [o]) = (runP D l).op o := by simp [runP]
def clean (D : Int → Option Int) (l : List Op4) : Prop := ∀ pre o post, l = pre ++ o :: post → o.k = 5 → (runP D pre).regs o.a ≠ 0
theorem clean_nil (D : Int → Option Int) : clean D [] := fun pre o post e => by cases pre <;> cases e
theorem clean_snoc {D : Int → Option Int} {l : List Op4} {o : Op4} (h : clean D l) (ho : o.k = 5 → (runP D l).regs o.a ≠ 0) : clean D (l ++ [o]) := by
 intro pre o' post e h5
 by_cases hp : post = []
 ·subst hp
  have := List.append_inj' e rfl
  obtain ⟨rfl, h2⟩ := this
  simp only [List.cons.injEq, and_true] at h2
  subst h2
  exact ho h5
 ·have e' := congrArg List.dropLast e
  rw [List.dropLast_concat, List.dropLast_append_of_ne_nil (by simp), List.dropLast_cons_of_ne_nil hp] at e'
  exact h pre o' post.dropLast e' h5
theorem sawOf_old (f : Int → Option Int) (k : Int) : (sawOf f k).old = f k := by
 show (if (f k).isSome = true then some ((f k).getD 0) else none) = f k
 by_cases h : (f k).isSome = true
 ·rw [if_pos h]
  obtain ⟨v, hv⟩ := Option.isSome_iff_exists.mp h
  rw [hv]; rfl
 ·rw [if_neg h]
  have : f k = none := by simpa using h
  rw [this]
theorem back_at (l : List Saw) (f g : Int → Option Int) (k : Int) (h : f k = g k) : back f l k = back g l k := by
 induction l generalizing f g with
 | nil => exact h
 | cons b l ih =>
  simp only [back, List.foldl_cons]
  refine ih _ _ ?_
  by_cases e : k = b.key
  ·subst e; simp
  ·rw [upd_other _ _ _ _ e, upd_other _ _ _ _ e]; exact h
theorem back_not (l : List Saw) (f : Int → Option Int) (k : Int) (h : ∀ b, b ∈ l → b.key ≠ k) : back f l k = f k := by
 induction l generalizing f with
 | nil => rfl
 | cons b l ih =>
  simp only [back, List.foldl_cons]
  have := ih (upd f b.key b.old) (fun b' hb => h b' (List.mem_cons_of_mem _ hb))
  simp only [back] at this
  rw [this, upd_other _ _ _ _ (fun e => h b List.mem_cons_self e.symm)]
theorem op_back (p : Pr) (o : Op4) : back (p.op o).f (p.op o).undo = back p.f p.undo := by
 have key : ∀ (v : Option Int), back (upd p.f o.a v) (sawOf p.f o.a :: p.undo) = back p.f p.undo := by
  intro v
  funext k
  simp only [back, List.foldl_cons]
  refine back_at p.undo _ _ k ?_
  rw [sawOf_old]
  by_cases e : k = (sawOf p.f o.a).key
  ·subst e; simp [sawOf]
  ·rw [upd_other _ _ _ _ e]
   exact upd_other _ _ _ _ e
 simp only [Pr.op]
 split
 ·rfl
 split
 ·exact key _
 split
 ·exact key _
 split <;> rfl
theorem runP_back (D : Int → Option Int) (l : List Op4) : back (runP D l).f (runP D l).undo = D := by
 have : ∀ (l : List Op4) (p : Pr), back (l.foldl Pr.op p).f (l.foldl Pr.op p).undo = back p.f p.undo := by
  intro l
  induction l with
  | nil => intro p; rfl
  | cons o l ih => intro p; rw [List.foldl_cons, ih, op_back]
 rw [runP, this]
 rfl
theorem runP_not (D : Int → Option Int) (l : List Op4) (k : Int) (h : ∀ o, o ∈ l → modeOf o = 2 → o.a ≠ k) : (runP D l).f k = D k ∧ ∀ b, b ∈ (runP D l).undo → b.key ≠ k := by
 have : ∀ (l : List Op4) (p : Pr), (∀ o, o ∈ l → modeOf o = 2 → o.a ≠ k) → (∀ b, b ∈ p.undo → b.key ≠ k) → (l.foldl Pr.op p).f k = p.f k ∧ ∀ b, b ∈ (l.foldl Pr.op p).undo → b.key ≠ k := by
  intro l
  induction l with
  | nil => intro p _ hu; exact ⟨rfl, hu⟩
  | cons o l ih =>
   intro p hl hu
   rw [List.foldl_cons]
   have hl' := fun o' ho' => hl o' (List.mem_cons_of_mem _ ho')
   have ho := hl o List.mem_cons_self
   simp only [Pr.op]
   split
   ·exact ih _ hl' hu
   rename_i h1
   split
   ·rename_i h2
    have hk := ho (by simp [modeOf, h2])
    have := ih { p with f := upd p.f o.a (some (p.regs o.b)), undo := sawOf p.f o.a :: p.undo } hl' (fun b hb => by
     rcases List.mem_cons.mp hb with rfl | hb
     ·exact hk
     ·exact hu b hb)
    exact ⟨by rw [this.1]; exact upd_other _ _ _ _ (fun e => hk e.symm), this.2⟩
   split
   ·rename_i h2 h3
    have hk := ho (by simp [modeOf, h3])
    have := ih { p with f := upd p.f o.a none, undo := sawOf p.f o.a :: p.undo } hl' (fun b hb => by
     rcases List.mem_cons.mp hb with rfl | hb
     ·exact hk
     ·exact hu b hb)
    exact ⟨by rw [this.1]; exact upd_other _ _ _ _ (fun e => hk e.symm), this.2⟩
   split
   ·exact ih _ hl' hu
   ·exact ih _ hl' hu
 exact this l _ h (fun b hb => by cases hb)
theorem runP_same (D D' : Int → Option Int) (l : List Op4) (h : ∀ o, o ∈ l → 0 < modeOf o → D o.a = D' o.a) :
  (runP D' l).regs = (runP D l).regs ∧ (runP D' l).reads = (runP D l).reads ∧ (runP D' l).undo = (runP D l).undo ∧ ∀ k, D k = D' k → (runP D' l).f k = (runP D l).f k := by
 have : ∀ (l : List Op4) (p p' : Pr), p'.regs = p.regs → p'.reads = p.reads → p'.undo = p.undo → (∀ k, D k = D' k → p'.f k = p.f k) → (∀ o, o ∈ l → 0 < modeOf o → D o.a = D' o.a) →
   (l.foldl Pr.op p').regs = (l.foldl Pr.op p).regs ∧ (l.foldl Pr.op p').reads = (l.foldl Pr.op p).reads ∧ (l.foldl Pr.op p').undo = (l.foldl Pr.op p).undo ∧ ∀ k, D k = D' k → (l.foldl Pr.op p').f k = (l.foldl Pr.op p).f k := by
  intro l
  induction l with
  | nil => intro p p' h1 h2 h3 h4 _; exact ⟨h1, h2, h3, h4⟩
  | cons o l ih =>
   intro p p' h1 h2 h3 h4 hl
   rw [List.foldl_cons, List.foldl_cons]
   have hl' := fun o' ho' => hl o' (List.mem_cons_of_mem _ ho')
   have ho := hl o List.mem_cons_self
   have saw : 0 < modeOf o → sawOf p'.f o.a = sawOf p.f o.a := fun h => by simp only [sawOf, h4 o.a (ho h)]
   refine ih _ _ ?_ ?_ ?_ ?_ hl'
   ·simp only [Pr.op]
    by_cases k1 : o.k = 1
    ·simp only [k1, if_true]; rw [h1, h4 o.a (ho (by simp [modeOf, k1]))]
    by_cases k2 : o.k = 2
    ·simp only [k2]; simp [h1]
    by_cases k3 : o.k = 3
    ·simp only [k3]; simp [h1]
    by_cases k4 : o.k = 4
    ·simp only [k4]; simp [h1]
    simp only [k1, k2, k3, k4, if_false]; exact h1
   ·simp only [Pr.op]
    by_cases k1 : o.k = 1
    ·simp only [k1, if_true]; rw [h2, saw (by simp [modeOf, k1])]
    by_cases k2 : o.k = 2
    ·simp only [k2]; simp [h2]
    by_cases k3 : o.k = 3
    ·simp only [k3]; simp [h2]
    by_cases k4 : o.k = 4
    ·simp only [k4]; simp [h2]
    simp only [k1, k2, k3, k4, if_false]; exact h2
   ·simp only [Pr.op]
    by_cases k1 : o.k = 1
    ·simp only [k1, if_true]; exact h3
    by_cases k2 : o.k = 2
    ·have := saw (by simp [modeOf, k2])
     simp only [k2]; simp [h3, this]
    by_cases k3 : o.k = 3
    ·have := saw (by simp [modeOf, k3])
     simp only [k3]; simp [h3, this]
    by_cases k4 : o.k = 4
    ·simp only [k4]; simp [h3]
    simp only [k1, k2, k3, k4, if_false]; exact h3
   ·intro k hk
    have up : ∀ v, upd p'.f o.a v k = upd p.f o.a v k := fun v => by
     by_cases e : k = o.a
     ·rw [e, upd_same, upd_same]
     ·rw [upd_other _ _ _ _ e, upd_other _ _ _ _ e]; exact h4 k hk
    simp only [Pr.op]
    by_cases k1 : o.k = 1
    ·simp only [k1, if_true]; exact h4 k hk
    by_cases k2 : o.k = 2
    ·simp only [k2]; simp [h1, up]
    by_cases k3 : o.k = 3
    ·simp only [k3]; simp [up]
    by_cases k4 : o.k = 4
    ·simp only [k4]; simp [h4 k hk]
    simp only [k1, k2, k3, k4, if_false]; exact h4 k hk
 exact this l _ _ rfl rfl rfl (fun k e => e.symm) h
theorem clean_same {D D' : Int → Option Int} {l : List Op4} (h : ∀ o, o ∈ l → 0 < modeOf o → D o.a = D' o.a) (hc : clean D l) : clean D' l := by
 intro pre o post e h5
 have := (runP_same D D' pre (fun o' ho' => h o' (by rw [e]; simp [ho']))).1
 rw [this]
 exact hc pre o post e h5
def St.pr (s : St) (D : Int → Option Int) (i : Nat) : Pr := runP D ((s.tx i).ops.take (s.tx i).next)
structure Ser (s : St) (D : Int → Option Int) : Prop where
 own : ∀ i, Lives s i → (s.tx i).regs = (s.pr D i).regs ∧ (s.tx i).reads = (s.pr D i).reads ∧ (s.tx i).undo = (s.pr D i).undo ∧ clean D ((s.tx i).ops.take (s.tx i).next)
 locks : ∀ i, Lives s i → ∀ o, o ∈ (s.tx i).ops.take (s.tx i).next → 0 < modeOf o → modeOf o ≤ (s.lk o.a).h i
 held : ∀ i k, (s.lk k).h i = 2 → s.rows k = (s.pr D i).f k
 free : ∀ k, (∀ i, (s.lk k).h i ≠ 2) → s.rows k = D k
theorem Inv.live {s : St} (hs : Inv s) {k : Int} {i : Nat} (h : (s.lk k).h i ≠ 0) : Lives s i := ⟨((hs.row k).hold i h).1, ((hs.row k).hold i h).2, hs.holds k i h⟩
theorem Inv.whole {s : St} (hs : Inv s) {k : Int} {i j : Nat} (h : (s.lk k).h i = 2) (hne : j ≠ i) : (s.lk k).h j = 0 := by
 rcases Classical.em ((s.lk k).h j = 0) with hj | hj
 ·exact hj
 ·have := (hs.row k).apart j i hne hj (by rw [h]; decide)
  simp [conf, h] at this
theorem Ser.unwritten {s : St} {D : Int → Option Int} (hS : Ser s D) {i : Nat} (hi : Lives s i) {k : Int} (h : (s.lk k).h i ≠ 2) (hs : Inv s) : (s.pr D i).f k = D k ∧ ∀ b, b ∈ (s.pr D i).undo → b.key ≠ k := by
 refine runP_not D _ k (fun o ho hm => ?_)
 intro e
 have := hS.locks i hi o ho (by omega)
 rw [e, hm] at this
 rcases (hs.row k).mode i with h0 | h0 | h0 <;> omega
theorem Ser.sees {s : St} {D : Int → Option Int} (hS : Ser s D) (hs : Inv s) {i : Nat} (hi : Lives s i) {k : Int} (h : ∀ j, j ≠ i → (s.lk k).h j ≠ 2) : s.rows k = (s.pr D i).f k := by
 by_cases e : (s.lk k).h i = 2
 ·exact hS.held i k e
 ·rw [(hS.unwritten hi e hs).1]
  refine hS.free k (fun j => ?_)
  by_cases ej : j = i
  ·subst ej; exact e
  ·exact h j ej
end Go.Proofs.YtmcajfefagdbnaaGreat
namespace Go.Proofs.YtmcajfefagdbnaaGreat
theorem doOp_agains (s : St) (i : Nat) (o : Op4) : ((s.doOp i o).tx i).agains = (s.tx i).agains := by
 unfold St.doOp
 simp only
 repeat' split
 all_goals simp [St.setTx]
theorem fell_agains (s : St) (i : Nat) (z : Int) : ((s.fell i z).tx i).agains = (s.tx i).agains ∧ (s.fell i z).wins = s.wins := by
 constructor
 ·simp [St.fell, St.setTx, St.undone, St.freed, Tx.look, Tx.anew]
 ·rfl
theorem actOn_ans (s : St) (i : Nat) (o : Op4) (h0 : (s.tx i).state = 0) : (s.actOn i o).2 ≠ 3 ∧ 1 ≤ (s.actOn i o).2 ∧ (s.actOn i o).2 ≤ 6 ∧ (4 ≤ (s.actOn i o).2 → ((s.actOn i o).1.tx i).state ≠ 0) ∧ (¬ 4 ≤ (s.actOn i o).2 → ((s.actOn i o).1.tx i).state = 0) ∧ (s.actOn i o).1.wins = s.wins ∧ ((s.actOn i o).1.tx i).agains = (s.tx i).agains := by
 unfold St.actOn
 split
 ·refine ⟨by simp, by simp, by simp, fun _ => ?_, fun h => absurd (by simp) h, (fell_agains s i 2).2, (fell_agains s i 2).1⟩
  rw [(fell_self s i 2).2.1]; omega
 ·refine ⟨by simp, by simp, by simp, fun h => absurd h (by simp), fun _ => ?_, doOp_wins s i o, doOp_agains s i o⟩
  rw [(doOp_next s i o).2.1]; exact h0
theorem go_ans (s : St) (i : Nat) (h0 : (s.tx i).state = 0) : 1 ≤ (s.go i).2 ∧ (s.go i).2 ≤ 6 ∧ (4 ≤ (s.go i).2 → ((s.go i).1.tx i).state ≠ 0) ∧ (¬ 4 ≤ (s.go i).2 → ((s.go i).1.tx i).state = 0) ∧ (s.go i).1.wins.length ≤ s.wins.length + 1 ∧ ((s.go i).1.tx i).agains = (s.tx i).agains + (if (s.tx i).wounded then 1 else 0) := by
 unfold St.go
 by_cases hw : (s.tx i).wounded = true
 ·rw [if_pos hw, if_pos hw]
  refine ⟨by simp, by simp, fun h => absurd h (by simp), fun _ => ?_, ?_, ?_⟩
  ·rw [(again_self s i).2.1]; exact h0
  ·show (s.again i).wins.length ≤ _
   exact Nat.le_succ _
  ·simp [St.again, St.setTx, St.undone, St.freed, Tx.look, Tx.anew]
 rw [if_neg hw, if_neg hw, Int.add_zero]
 by_cases hq : (s.tx i).waits.isSome = true
 ·rw [if_pos hq]
  exact ⟨by simp, by simp, fun h => absurd h (by simp), fun _ => h0, Nat.le_succ _, rfl⟩
 rw [if_neg hq]
 by_cases hn : (s.tx i).next = (s.tx i).ops.length
 ·rw [if_pos hn]
  refine ⟨by simp, by simp, fun _ => ?_, fun h => absurd (by simp) h, ?_, ?_⟩
  ·rw [(commit_self s i).2.1]; omega
  ·show (s.wins ++ [i]).length ≤ _
   simp
  ·simp [St.commit, St.setTx, St.freed, Tx.look]
 rw [if_neg hn]
 simp only
 split
 ·split
  ·refine ⟨by simp, by simp, fun _ => ?_, fun h => absurd (by simp) h, ?_, (fell_agains s i 3).1⟩
   ·rw [(fell_self s i 3).2.1]; omega
   ·rw [(fell_agains s i 3).2]; exact Nat.le_succ _
  ·split
   ·have h := actOn_ans (s.grant i (s.tx i).op.a (modeOf (s.tx i).op)) i (s.tx i).op h0
    refine ⟨h.2.1, h.2.2.1, h.2.2.2.1, h.2.2.2.2.1, ?_, h.2.2.2.2.2.2⟩
    rw [h.2.2.2.2.2.1]; exact Nat.le_succ _
   ·refine ⟨by simp, by simp, fun h => absurd h (by simp), fun _ => ?_, Nat.le_succ _, ?_⟩
    ·simp [St.enq, h0]
    ·simp [St.enq]
 ·have h := actOn_ans s i (s.tx i).op h0
  refine ⟨h.2.1, h.2.2.1, h.2.2.2.1, h.2.2.2.2.1, ?_, h.2.2.2.2.2.2⟩
  rw [h.2.2.2.2.2.1]; exact Nat.le_succ _
def alive (s : St) : Nat := ((List.range' 1 s.n).filter fun i => (s.tx i).state == 0).length
theorem filter_one {p q : Nat → Bool} {i : Nat} (hp : p i = true) (hq : q i = false) : ∀ (l : List Nat), l.Nodup → (∀ j ∈ l, j ≠ i → p j = q j) → (i ∈ l → (l.filter p).length = (l.filter q).length + 1) ∧ (i ∉ l → (l.filter p).length = (l.filter q).length)
 | [], _, _ => ⟨fun h => (by cases h), fun _ => rfl⟩
 | x :: l, hn, h => by
  obtain ⟨h1, h2⟩ := List.nodup_cons.1 hn
  obtain ⟨i1, i2⟩ := filter_one hp hq l h2 (fun j hj => h j (by simp [hj]))
  by_cases e : x = i
  ·subst e
   constructor
   ·intro _
    rw [List.filter_cons_of_pos hp, List.filter_cons_of_neg (by simp [hq]), List.length_cons, i2 h1]
   ·intro hc; exact absurd (by simp) hc
  ·have hx := h x (by simp) e
   constructor
   ·intro hi
    have hi' : i ∈ l := by
     rcases List.mem_cons.1 hi with h | h
     ·exact absurd h.symm e
     ·exact h
    cases hpx : p x
    ·rw [List.filter_cons_of_neg (by simp [hpx]), List.filter_cons_of_neg (by rw [← hx]; simp [hpx])]; exact i1 hi'
    ·rw [List.filter_cons_of_pos hpx, List.filter_cons_of_pos (by rw [← hx]; exact hpx), List.length_cons, List.length_cons, i1 hi']
   ·intro hi
    have hi' : i ∉ l := fun x => hi (by simp [x])
    cases hpx : p x
    ·rw [List.filter_cons_of_neg (by simp [hpx]), List.filter_cons_of_neg (by rw [← hx]; simp [hpx])]; exact i2 hi'
    ·rw [List.filter_cons_of_pos hpx, List.filter_cons_of_pos (by rw [← hx]; exact hpx), List.length_cons, List.length_cons, i2 hi']
theorem alive_go {s : St} {i : Nat} (hl : Lives s i) : (alive (s.go i).1 : Int) = (if 4 ≤ (s.go i).2 then (alive s : Int) - 1 else (alive s : Int)) := by
 obtain ⟨a1, a2, a3, a4, _⟩ := go_ans s i hl.lives
 have hoth : ∀ j, j ≠ i → ((s.go i).1.tx j).state = (s.tx j).state := fun j hj => (base_eq (go_oth s hj).base).2.1
 have hn := (go_n s i).1
 unfold alive
 rw [hn]
 by_cases h : 4 ≤ (s.go i).2
 ·rw [if_pos h]
  have := (filter_one (p := fun j => (s.tx j).state == 0) (q := fun j => ((s.go i).1.tx j).state == 0) (i := i) (by simp [hl.lives]) (by simpa using a3 h) (List.range' 1 s.n) List.nodup_range' (fun j _ hj => by rw [hoth j hj])).1 (by rw [List.mem_range'_1]; have := hl.low; have := hl.high; omega)
  omega
 ·rw [if_neg h]
  congr 2
  apply List.filter_congr
  intro j _
  by_cases e : j = i
  ·subst e; rw [a4 h, hl.lives]
  ·rw [hoth j e]
theorem alive_le (s : St) : alive s ≤ s.n := by
 unfold alive
 exact Nat.le_trans (List.length_filter_le _ _) (by simp)
theorem alive_pos {s : St} {i : Nat} (hl : Lives s i) : 1 ≤ alive s := by
 unfold alive
 exact List.length_pos_of_mem (a := i) (List.mem_filter.2 ⟨by rw [List.mem_range'_1]; have := hl.low; have := hl.high; omega, by simp [hl.lives]⟩)
end Go.Proofs.YtmcajfefagdbnaaGreat
