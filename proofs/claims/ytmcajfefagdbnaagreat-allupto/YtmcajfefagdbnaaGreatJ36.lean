import Derived.Test.YtmcajfefagdbnaaGreatJ34
import Derived.Test.YtmcajfefagdbnaaGreatJ06
import Derived.Test.YtmcajfefagdbnaaGreatJ35
namespace Go.Proofs.YtmcajfefagdbnaaGreat
open Go Go.RowKit
theorem rows_src {w : World} {v : Value} {l : List Row2} (h : w.ownsRow 0 95 2 v l.length (rowCells l)) : RowsSrc w v l := by
 obtain ⟨ao, c, rfl⟩ := ownsRow_form h
 refine ⟨ao, c, rfl, fun h0 => ?_⟩
 obtain ⟨g, cap, hform, _, _⟩ := h.form h0
 simp only [Value.slice.injEq] at hform
 obtain ⟨rfl, _, rfl⟩ := hform
 refine ⟨g, 0, rfl, fun i hi => ?_⟩
 have := rowCells_get l i hi
 rw [Nat.zero_add, h.cellAt (i * 2) (by omega), h.cellAt (i * 2 + 1) (by omega)]
 exact this
structure OutI (w : World) (H : Nat) (bx : Obj) (o : List Row2) (v : Value) (wr : World) : Prop where
 own : wr.ownsRow 0 95 2 v o.length (rowCells o)
 new : ∀ b, v.ownBlock = some b → H < b
 kept : Kept NoBlk w wr
 box : wr.heap[H]? = some bx
theorem OutI.keep0 {w : World} {H : Nat} {bx : Obj} {o : List Row2} {v : Value} {wr W : World} (h : OutI w H bx o v wr) (hk : Kept NoBlk wr W) : OutI w H bx o v W :=
 ⟨ownsRow_kept h.own hk (fun _ _ x => x), h.new, h.kept.trans' hk, hk.heap h.box (fun x => x)⟩
theorem OutI.from {w : World} {H : Nat} {bx : Obj} {o : List Row2} {v : Value} {wr : World} (h : OutI w H bx o v wr) (x : Row2) : (wr.alloc (.cells #[.int .i64 x.k, .int .i64 x.v] 95)).ownsRow 0 95 2 v o.length (rowCells o) ∧ FromMem (wr.alloc (.cells #[.int .i64 x.k, .int .i64 x.v] 95)) 2 (.slice (some ⟨wr.heap.size, 0, none⟩) 1 1) 1 [.int .i64 x.k, .int .i64 x.v] :=
 ⟨ownsRow_kept h.own ((Kept.refl NoBlk wr).alloc _) (fun _ _ x => x), from_new wr [.int .i64 x.k, .int .i64 x.v] _ 2 1 (by rfl) (by simp [Value.oneCell'])⟩
theorem lt_of_box {w : World} {b : Nat} {o : Obj} (h : w.heap[b]? = some o) : b < w.heap.size := (Array.getElem?_eq_some_iff.1 h).1
theorem OutI.push {w : World} {H : Nat} {bx : Obj} {o : List Row2} {v v' : Value} {wr W : World} (h : OutI w H bx o v wr) (hs : w.heap.size = H) (x : Row2) {m : Nat} (hm : m = o.length + 1) (hown : W.ownsRow 0 95 2 v' m (rowCells o ++ [.int .i64 x.k, .int .i64 x.v])) (hmv : Moved (wr.alloc (.cells #[.int .i64 x.k, .int .i64 x.v] 95)) W v v' m) : OutI w H bx (o ++ [x]) v' W := by
 have hk := hmv.keptOf
 have h1 := h.keep0 ((Kept.refl NoBlk wr).alloc (.cells #[.int .i64 x.k, .int .i64 x.v] 95))
 have hlt := lt_of_box h.box
 refine ⟨?_, fun b hb => ?_, h1.kept.trans hk (fun k e => .inr (by have := h.new k e; omega)), hk.heap h1.box (fun e => by have := h.new _ e; omega)⟩
 ·rw [rowCells_snocL]
  subst hm
  simpa using hown
 ·rcases hmv.fresh b hb with e | e
  ·exact h.new b e
  ·rw [alloc_size] at e; omega
theorem OutI.fin {w : World} {H : Nat} {bx : Obj} {o : List Row2} {v : Value} {W : World} (h : OutI w H bx o v W) (hs : w.heap.size = H) {p : Nat} {rv tv cv wv c : Value} (hp : w.heap[p]? = some (.cells #[rv, tv, cv, wv, c] 47 (0, 0))) :
  (W.setCell ⟨p, 0, none⟩ v).heap[p]? = some (.cells #[v, tv, cv, wv, c] 47 (0, 0)) ∧ (W.setCell ⟨p, 0, none⟩ v).ownsRow 0 95 2 v o.length (rowCells o) ∧ (∀ k, v.ownBlock = some k → w.heap.size ≤ k) ∧ Kept (Blk p) w (W.setCell ⟨p, 0, none⟩ v) := by
 have h1 := h.kept.heap hp (fun x => x)
 have hk := Kept.set1 W p 0 v
 exact ⟨block_setCell h1 _, ownsRow_kept h.own hk (fun k hk' e => by
  obtain ⟨cur, hc⟩ := ownsRow_block h.own hk'
  exact blocks_apart hc h1 (by decide) e), fun k hk' => by have := h.new k hk'; omega, (h.kept.mono (fun _ x => x.elim)).trans' hk⟩
set_option maxRecDepth 20000 in
set_option maxHeartbeats 3200000 in
theorem wset (p : Nat) (l : List Row2) (rv tv cv wv c : Value) (key val : Int) (there : Bool) (w : World) (hp : w.heap[p]? = some (.cells #[rv, tv, cv, wv, c] 47 (0, 0)))
  (h : w.ownsRow 0 95 2 rv l.length (rowCells l)) (hn : l.length ≤ 1099511627775) (hs : l.Pairwise (fun a b => a.k < b.k)) :
  Calls Tryz.prog 110 #[.pointer (some ⟨p, 0, none⟩), .agg #[.int .i64 key, .bool there, .int .i64 val]] w fun e w' => e = .returned (.tuple #[]) ∧ ∃ rv', w'.heap[p]? = some (.cells #[rv', tv, cv, wv, c] 47 (0, 0)) ∧ w'.ownsRow 0 95 2 rv' (setL l key there val).length (rowCells (setL l key there val)) ∧ (∀ k, rv'.ownBlock = some k → w.heap.size ≤ k) ∧ Kept (Blk p) w w' := by
 have HP : Hid (w.heap[p]? = some (.cells #[rv, tv, cv, wv, c] 47 (0, 0))) := hp
 have HSRC : Hid (RowsSrc w rv l) := rows_src h
 obtain ⟨ao, cp, rfl⟩ := ownsRow_form h
 generalize hn' : l.length = n at *
 have HN : Hid (l.length = n) := hn'
 have HSO : Hid (l.Pairwise (fun a b => a.k < b.k)) := hs
 obtain ⟨i1, hi1, hy0, hy1, hy2⟩ := info_parts infoRowR
 have HI : Hid (Tryz.prog.info? 95 = some i1 ∧ i1.zero = some (.agg #[.int .i64 0, .int .i64 0]) ∧ i1.size = 2 ∧ i1.bytes = 16) := ⟨hi1, hy0, hy1, hy2⟩
 clear h hs hn' hp hi1 hy0 hy1 hy2
 go_enter Tryz.func110, Tryz.ntmps110
 have HB0 : Hid ((w.alloc (.cells #[.int .i64 key, .bool there, .int .i64 val] 174)).heap[w.heap.size]? = some (.cells #[.int .i64 key, .bool there, .int .i64 val] 174 (0, 0)) ∧ Kept NoBlk w (w.alloc (.cells #[.int .i64 key, .bool there, .int .i64 val] 174))) := ⟨block_alloc_new w _, (Kept.refl _ _).alloc _⟩
 have hpl : p < w.heap.size := lt_of_block HP.out
 go_wp2_with fail
 generalize w.alloc (.cells #[.int .i64 key, .bool there, .int .i64 val] 174) = W0 at *
 generalize hH : w.heap.size = H at *
 have HH : Hid (w.heap.size = H) := hH
 clear hH
 go_loopw [4, 5, 6] (fun out dn i wr => ∃ (k : Nat) (o : List Row2) (d : Bool) (oa : Option Addr) (oc : Nat), k ≤ n ∧ i = .int .i64 k ∧ out = .slice oa o.length oc ∧ dn = .bool d ∧ (l.take k).foldl (setStep key val) ([], !there) = (o, d) ∧ OutI w H (.cells #[.int .i64 key, .bool there, .int .i64 val] 174) o (.slice oa o.length oc) wr) (fun _ _ i _ => n - (intOf i).toNat)
 case atStart => exact ⟨0, [], !there, none, 0, Nat.zero_le _, rfl, rfl, rfl, rfl, World.ownsRow_nil _ _ _ _, fun b hb => by simp [Value.ownBlock] at hb, HB0.out.2, HB0.out.1⟩
 case round =>
  clear HB0
  obtain ⟨k, o, d, oa, oc, hk, rfl, rfl, rfl, hfo, hw⟩ := hrel
  have hp' := hw.kept.heap HP.out (fun x => x)
  have hbx := hw.box
  have c0 : wr.cell? ⟨p, 0, none⟩ = some (.slice ao n cp) := by rw [cell_at hp']; rfl
  have b0 : wr.cell? ⟨H, 0, none⟩ = some (.int .i64 key) := by rw [cell_at hbx]; rfl
  have b2 : wr.cell? ⟨H, 2, none⟩ = some (.int .i64 val) := by rw [cell_at hbx]; rfl
  have hlen : o.length ≤ k + 1 := by
   have := setStep_len key val (l.take k) ([], !there)
   rw [hfo] at this
   simp only [List.length_nil, List.length_take] at this
   split at this <;> split at this <;> omega
  have HW : Hid (OutI w H (.cells #[.int .i64 key, .bool there, .int .i64 val] 174) o (.slice oa o.length oc) wr) := hw
  have HFO : Hid ((l.take k).foldl (setStep key val) ([], !there) = (o, d)) := hfo
  clear hw hbx hp' hfo
  by_cases hlt : k < n
  ·obtain ⟨ao', cp', hv, hss⟩ := HSRC.out.kept HW.out.kept (fun _ _ x => x)
   obtain ⟨b, off, hb, hat⟩ := hss (by rw [HN.out]; omega)
   simp only [Value.slice.injEq] at hv
   obtain ⟨rfl, hxx, rfl⟩ := hv
   clear hxx
   subst hb
   obtain ⟨g0, g1⟩ := hat k (by rw [HN.out]; exact hlt)
   have HNX : Hid ((l.take (k + 1)).foldl (setStep key val) ([], !there) = setStep key val (o, d) (l.getD k Row2.z)) := by
    have := setL_take l key val ([], !there) k (by rw [HN.out]; exact hlt)
    rw [HFO.out] at this
    exact this
   have HCL : Hid (∀ (o' : List Row2) (v' : Value) (W : World), OutI w H (.cells #[.int .i64 key, .bool there, .int .i64 val] 174) o' v' W → W.cell? ⟨p, 0, none⟩ = some (.slice (some ⟨b, off, none⟩) n cp) ∧ W.cell? ⟨b, off + k * 2, none⟩ = some (.int .i64 (l.getD k Row2.z).k) ∧ W.cell? ⟨b, off + k * 2 + 1, none⟩ = some (.int .i64 (l.getD k Row2.z).v) ∧ W.cell? ⟨H, 0, none⟩ = some (.int .i64 key) ∧ W.cell? ⟨H, 2, none⟩ = some (.int .i64 val)) := fun o' v' W hW => by
    have hpW := hW.kept.heap HP.out (fun x => x)
    obtain ⟨ao2, cp2, hv2, hss2⟩ := HSRC.out.kept hW.kept (fun _ _ x => x)
    obtain ⟨b', off', hb', hat2⟩ := hss2 (by rw [HN.out]; omega)
    simp only [Value.slice.injEq] at hv2
    obtain ⟨hv3, _, _⟩ := hv2
    rw [← hv3] at hb'
    simp only [Option.some.injEq, Addr.mk.injEq, and_true] at hb'
    obtain ⟨rfl, rfl⟩ := hb'
    obtain ⟨q0, q1⟩ := hat2 k (by rw [HN.out]; exact hlt)
    exact ⟨by rw [cell_at hpW]; rfl, q0, q1, by rw [cell_at hW.box]; rfl, by rw [cell_at hW.box]; rfl⟩
   clear hss hat
   generalize l.getD k Row2.z = r at *
   have j0 : (0 : Int) ≤ (k : Int) := by omega
   have j1 : (k : Int) < (n : Int) := by omega
   generalize hol : o.length = ol at *
   have HOL : Hid (o.length = ol) := hol
   clear hol
   have HB1 : Hid (ol + 1 ≤ maxLen ∧ (ol + 1) * 16 ≤ 140737488355328 ∧ ol + 1 + 1 ≤ maxLen ∧ (ol + 1 + 1) * 16 ≤ 140737488355328) := by unfold Hid maxLen; omega
   cases d
   ·by_cases hge : key ≤ r.k
    ·have hd1 : decide (key ≤ r.k) = true := by simpa using hge
     go_wp2_with fail
     go_quiet (fail)
     have HWq : Hid (OutI w H (.cells #[.int .i64 key, .bool there, .int .i64 val] 174) (o) (.slice oa ol oc) (wr.drewN nq)) := HW.out.keep0 ((Kept.refl NoBlk _).drewN _)
     generalize wr.drewN nq = Wq at *
     clear g0 g1 c0 b0 b2 HW
     obtain ⟨c0, g0, g1, b0, b2⟩ := HCL.out _ _ _ HWq.out
     have HFR : Hid ((Wq.alloc (.cells #[.int .i64 key, .int .i64 val] 95)).ownsRow 0 95 2 (.slice oa ol oc) ol (rowCells (o)) ∧ FromMem (Wq.alloc (.cells #[.int .i64 key, .int .i64 val] 95)) 2 (.slice (some ⟨Wq.heap.size, 0, none⟩) 1 1) 1 [.int .i64 key, .int .i64 val]) := by
      have := HWq.out.from ⟨key, val⟩
      rw [HOL.out] at this
      exact this
     go_wp2_with (at_builtin; refine wpList_append_at (by rfl) _ _ 22 (by rfl) 95 i1 _ 2 16 Tryz.underlying22 HI.out.1 HI.out.2.1 HI.out.2.2.1 HI.out.2.2.2 (by rfl) (.slice oa ol oc) ol (rowCells (o)) (by rfl) HFR.out.1 (.slice (some ⟨Wq.heap.size, 0, none⟩) 1 1) 1 [.int .i64 key, .int .i64 val] (by rfl) HFR.out.2 HB1.out.1 HB1.out.2.1 ?_)
     intro a1 c1 W1 hown1 hmv1
     have HW1 : Hid (OutI w H (.cells #[.int .i64 key, .bool there, .int .i64 val] 174) (o ++ [⟨key, val⟩]) (.slice a1 (ol + 1) c1) W1) := HWq.out.push HH.out ⟨key, val⟩ (by rw [HOL.out]) hown1 hmv1
     clear hown1 hmv1 HFR HWq g0 g1 c0 b0 b2
     obtain ⟨c0, g0, g1, b0, b2⟩ := HCL.out _ _ _ HW1.out
     go_wp2_with fail
     by_cases heq : r.k = key
     ·have hne : (r.k != key) = false := by simp [heq]
      go_quiet (fail)
      have HW2 : Hid (OutI w H (.cells #[.int .i64 key, .bool there, .int .i64 val] 174) (o ++ [⟨key, val⟩]) (.slice a1 (ol + 1) c1) (W1.drewN nq)) := HW1.out.keep0 ((Kept.refl NoBlk _).drewN _)
      generalize W1.drewN nq = W2 at *
      clear g0 g1 c0 b0 b2 HW1
      obtain ⟨c0, g0, g1, b0, b2⟩ := HCL.out _ _ _ HW2.out
      go_wp2_with fail
      go_roundw
      case rel =>
       have hle : (o ++ [(⟨key, val⟩ : Row2)]).length = ol + 1 := by simp only [List.length_append, List.length_cons, List.length_nil, Nat.zero_add, HOL.out]
       exact ⟨k + 1, o ++ [⟨key, val⟩], true, a1, c1, by omega, by go_num, by rw [hle], rfl, by rw [HNX.out]; unfold setStep; simp [heq], by rw [hle]; exact HW2.out⟩
      case measure => simp [intOf]; omega
     ·have hne : (r.k != key) = true := by simpa using heq
      go_quiet (fail)
      have HW2 : Hid (OutI w H (.cells #[.int .i64 key, .bool there, .int .i64 val] 174) (o ++ [⟨key, val⟩]) (.slice a1 (ol + 1) c1) (W1.drewN nq)) := HW1.out.keep0 ((Kept.refl NoBlk _).drewN _)
      generalize W1.drewN nq = W2 at *
      clear g0 g1 c0 b0 b2 HW1
      obtain ⟨c0, g0, g1, b0, b2⟩ := HCL.out _ _ _ HW2.out
      have HOL2 : Hid ((o ++ [(⟨key, val⟩ : Row2)]).length = ol + 1) := by unfold Hid; simp only [List.length_append, List.length_cons, List.length_nil, Nat.zero_add, HOL.out]
      have HFR : Hid ((W2.alloc (.cells #[.int .i64 r.k, .int .i64 r.v] 95)).ownsRow 0 95 2 (.slice a1 (ol + 1) c1) (ol + 1) (rowCells (o ++ [⟨key, val⟩])) ∧ FromMem (W2.alloc (.cells #[.int .i64 r.k, .int .i64 r.v] 95)) 2 (.slice (some ⟨W2.heap.size, 0, none⟩) 1 1) 1 [.int .i64 r.k, .int .i64 r.v]) := by
       have := HW2.out.from r
       rw [HOL2.out] at this
       exact this
      go_wp2_with (at_builtin; refine wpList_append_at (by rfl) _ _ 22 (by rfl) 95 i1 _ 2 16 Tryz.underlying22 HI.out.1 HI.out.2.1 HI.out.2.2.1 HI.out.2.2.2 (by rfl) (.slice a1 (ol + 1) c1) (ol + 1) (rowCells (o ++ [⟨key, val⟩])) (by rfl) HFR.out.1 (.slice (some ⟨W2.heap.size, 0, none⟩) 1 1) 1 [.int .i64 r.k, .int .i64 r.v] (by rfl) HFR.out.2 HB1.out.2.2.1 HB1.out.2.2.2 ?_)
      intro a2 c2 W3 hown1 hmv1
      have HW3 : Hid (OutI w H (.cells #[.int .i64 key, .bool there, .int .i64 val] 174) (o ++ [⟨key, val⟩] ++ [r]) (.slice a2 ((ol + 1) + 1) c2) W3) := HW2.out.push HH.out r (by rw [HOL2.out]) hown1 hmv1
      clear hown1 hmv1 HFR HW2 g0 g1 c0 b0 b2
      obtain ⟨c0, g0, g1, b0, b2⟩ := HCL.out _ _ _ HW3.out
      go_wp2_with fail
      go_roundw
      case rel =>
       have hle : (o ++ [(⟨key, val⟩ : Row2)] ++ [r]).length = ol + 1 + 1 := by simp only [List.length_append, List.length_cons, List.length_nil, Nat.zero_add, HOL.out]
       exact ⟨k + 1, o ++ [⟨key, val⟩] ++ [r], true, a2, c2, by omega, by go_num, by rw [hle], rfl, by rw [HNX.out]; unfold setStep; simp [heq, hge], by rw [hle]; exact HW3.out⟩
      case measure => simp [intOf]; omega
    ·have hd1 : decide (key ≤ r.k) = false := by simpa using hge
     have hne : (r.k != key) = true := by simp; omega
     go_wp2_with fail
     go_quiet (fail)
     have HWq : Hid (OutI w H (.cells #[.int .i64 key, .bool there, .int .i64 val] 174) (o) (.slice oa ol oc) (wr.drewN nq)) := HW.out.keep0 ((Kept.refl NoBlk _).drewN _)
     generalize wr.drewN nq = Wq at *
     clear g0 g1 c0 b0 b2 HW
     obtain ⟨c0, g0, g1, b0, b2⟩ := HCL.out _ _ _ HWq.out
     go_wp2_with fail
     go_quiet (fail)
     have HW2 : Hid (OutI w H (.cells #[.int .i64 key, .bool there, .int .i64 val] 174) (o) (.slice oa ol oc) (Wq.drewN nq)) := HWq.out.keep0 ((Kept.refl NoBlk _).drewN _)
     generalize Wq.drewN nq = W2 at *
     clear g0 g1 c0 b0 b2 HWq
     obtain ⟨c0, g0, g1, b0, b2⟩ := HCL.out _ _ _ HW2.out
     have HFR : Hid ((W2.alloc (.cells #[.int .i64 r.k, .int .i64 r.v] 95)).ownsRow 0 95 2 (.slice oa ol oc) ol (rowCells (o)) ∧ FromMem (W2.alloc (.cells #[.int .i64 r.k, .int .i64 r.v] 95)) 2 (.slice (some ⟨W2.heap.size, 0, none⟩) 1 1) 1 [.int .i64 r.k, .int .i64 r.v]) := by
      have := HW2.out.from r
      rw [HOL.out] at this
      exact this
     go_wp2_with (at_builtin; refine wpList_append_at (by rfl) _ _ 22 (by rfl) 95 i1 _ 2 16 Tryz.underlying22 HI.out.1 HI.out.2.1 HI.out.2.2.1 HI.out.2.2.2 (by rfl) (.slice oa ol oc) ol (rowCells (o)) (by rfl) HFR.out.1 (.slice (some ⟨W2.heap.size, 0, none⟩) 1 1) 1 [.int .i64 r.k, .int .i64 r.v] (by rfl) HFR.out.2 HB1.out.1 HB1.out.2.1 ?_)
     intro a2 c2 W3 hown1 hmv1
     have HW3 : Hid (OutI w H (.cells #[.int .i64 key, .bool there, .int .i64 val] 174) (o ++ [r]) (.slice a2 (ol + 1) c2) W3) := HW2.out.push HH.out r (by rw [HOL.out]) hown1 hmv1
     clear hown1 hmv1 HFR HW2 g0 g1 c0 b0 b2
     obtain ⟨c0, g0, g1, b0, b2⟩ := HCL.out _ _ _ HW3.out
     go_wp2_with fail
     go_roundw
     case rel =>
      have hle : (o ++ [r]).length = ol + 1 := by simp only [List.length_append, List.length_cons, List.length_nil, Nat.zero_add, HOL.out]
      exact ⟨k + 1, o ++ [r], false, a2, c2, by omega, by go_num, by rw [hle], rfl, by rw [HNX.out]; (have h2 : ¬ r.k = key := by omega); unfold setStep; simp [h2, hge], by rw [hle]; exact HW3.out⟩
     case measure => simp [intOf]; omega
   ·go_wp2_with fail
    go_quiet (fail)
    have HWq : Hid (OutI w H (.cells #[.int .i64 key, .bool there, .int .i64 val] 174) (o) (.slice oa ol oc) (wr.drewN nq)) := HW.out.keep0 ((Kept.refl NoBlk _).drewN _)
    generalize wr.drewN nq = Wq at *
    clear g0 g1 c0 b0 b2 HW
    obtain ⟨c0, g0, g1, b0, b2⟩ := HCL.out _ _ _ HWq.out
    go_wp2_with fail
    by_cases heq : r.k = key
    ·have hne : (r.k != key) = false := by simp [heq]
     go_quiet (fail)
     have HW2 : Hid (OutI w H (.cells #[.int .i64 key, .bool there, .int .i64 val] 174) (o) (.slice oa ol oc) (Wq.drewN nq)) := HWq.out.keep0 ((Kept.refl NoBlk _).drewN _)
     generalize Wq.drewN nq = W2 at *
     clear g0 g1 c0 b0 b2 HWq
     obtain ⟨c0, g0, g1, b0, b2⟩ := HCL.out _ _ _ HW2.out
     go_wp2_with fail
     go_roundw
     case rel =>
      have hle : (o).length = ol := HOL.out
      exact ⟨k + 1, o, true, oa, oc, by omega, by go_num, by rw [hle], rfl, by rw [HNX.out]; unfold setStep; simp [heq], by rw [hle]; exact HW2.out⟩
     case measure => simp [intOf]; omega
    ·have hne : (r.k != key) = true := by simpa using heq
     go_quiet (fail)
     have HW2 : Hid (OutI w H (.cells #[.int .i64 key, .bool there, .int .i64 val] 174) (o) (.slice oa ol oc) (Wq.drewN nq)) := HWq.out.keep0 ((Kept.refl NoBlk _).drewN _)
     generalize Wq.drewN nq = W2 at *
     clear g0 g1 c0 b0 b2 HWq
     obtain ⟨c0, g0, g1, b0, b2⟩ := HCL.out _ _ _ HW2.out
     have HFR : Hid ((W2.alloc (.cells #[.int .i64 r.k, .int .i64 r.v] 95)).ownsRow 0 95 2 (.slice oa ol oc) ol (rowCells (o)) ∧ FromMem (W2.alloc (.cells #[.int .i64 r.k, .int .i64 r.v] 95)) 2 (.slice (some ⟨W2.heap.size, 0, none⟩) 1 1) 1 [.int .i64 r.k, .int .i64 r.v]) := by
      have := HW2.out.from r
      rw [HOL.out] at this
      exact this
     go_wp2_with (at_builtin; refine wpList_append_at (by rfl) _ _ 22 (by rfl) 95 i1 _ 2 16 Tryz.underlying22 HI.out.1 HI.out.2.1 HI.out.2.2.1 HI.out.2.2.2 (by rfl) (.slice oa ol oc) ol (rowCells (o)) (by rfl) HFR.out.1 (.slice (some ⟨W2.heap.size, 0, none⟩) 1 1) 1 [.int .i64 r.k, .int .i64 r.v] (by rfl) HFR.out.2 HB1.out.1 HB1.out.2.1 ?_)
     intro a2 c2 W3 hown1 hmv1
     have HW3 : Hid (OutI w H (.cells #[.int .i64 key, .bool there, .int .i64 val] 174) (o ++ [r]) (.slice a2 (ol + 1) c2) W3) := HW2.out.push HH.out r (by rw [HOL.out]) hown1 hmv1
     clear hown1 hmv1 HFR HW2 g0 g1 c0 b0 b2
     obtain ⟨c0, g0, g1, b0, b2⟩ := HCL.out _ _ _ HW3.out
     go_wp2_with fail
     go_roundw
     case rel =>
      have hle : (o ++ [r]).length = ol + 1 := by simp only [List.length_append, List.length_cons, List.length_nil, Nat.zero_add, HOL.out]
      exact ⟨k + 1, o ++ [r], true, a2, c2, by omega, by go_num, by rw [hle], rfl, by rw [HNX.out]; unfold setStep; simp [heq], by rw [hle]; exact HW3.out⟩
     case measure => simp [intOf]; omega
  ·have HFIN : Hid (l.foldl (setStep key val) ([], !there) = (o, d)) := by
    have h1 := HFO.out
    rw [show k = l.length by rw [HN.out]; omega, List.take_length] at h1
    exact h1
   have hpf : ∀ (o' : List Row2) (v' : Value) (W : World), OutI w H (.cells #[.int .i64 key, .bool there, .int .i64 val] 174) o' v' W → W.cell? ⟨p, 0, none⟩ = some (.slice ao n cp) ∧ ∀ j, W.frozen? ⟨p, j, none⟩ = false := fun o' v' W hW => by
    have h1 := hW.kept.heap HP.out (fun x => x)
    exact ⟨by rw [cell_at h1]; rfl, frozen_at h1⟩
   have HPF : Hid (∀ (o' : List Row2) (v' : Value) (W : World), OutI w H (.cells #[.int .i64 key, .bool there, .int .i64 val] 174) o' v' W → W.cell? ⟨p, 0, none⟩ = some (.slice ao n cp) ∧ ∀ j, W.frozen? ⟨p, j, none⟩ = false) := hpf
   generalize hol : o.length = ol at *
   have HOL : Hid (o.length = ol) := hol
   have HB1 : Hid (ol + 1 ≤ maxLen ∧ (ol + 1) * 16 ≤ 140737488355328) := by unfold Hid maxLen; omega
   clear hol hpf
   cases d
   ·have HFR : Hid ((wr.alloc (.cells #[.int .i64 key, .int .i64 val] 95)).ownsRow 0 95 2 (.slice oa ol oc) ol (rowCells o) ∧ FromMem (wr.alloc (.cells #[.int .i64 key, .int .i64 val] 95)) 2 (.slice (some ⟨wr.heap.size, 0, none⟩) 1 1) 1 [.int .i64 key, .int .i64 val]) := by
     have := HW.out.from ⟨key, val⟩
     rw [HOL.out] at this
     exact this
    go_wp2_with (at_builtin; refine wpList_append_at (by rfl) _ _ 22 (by rfl) 95 i1 _ 2 16 Tryz.underlying22 HI.out.1 HI.out.2.1 HI.out.2.2.1 HI.out.2.2.2 (by rfl) (.slice oa ol oc) ol (rowCells o) (by rfl) HFR.out.1 (.slice (some ⟨wr.heap.size, 0, none⟩) 1 1) 1 [.int .i64 key, .int .i64 val] (by rfl) HFR.out.2 HB1.out.1 HB1.out.2 ?_)
    intro a1 c1 W1 hown1 hmv1
    have HW1 : Hid (OutI w H (.cells #[.int .i64 key, .bool there, .int .i64 val] 174) (o ++ [⟨key, val⟩]) (.slice a1 (ol + 1) c1) W1) := HW.out.push HH.out ⟨key, val⟩ (by rw [HOL.out]) hown1 hmv1
    obtain ⟨c0', f0'⟩ := HPF.out _ _ _ HW1.out
    clear hown1 hmv1 HFR HW c0 b0 b2
    go_wp2_with fail
    go_end0
    have hsl : setL l key there val = o ++ [⟨key, val⟩] := by unfold setL; rw [HFIN.out]; rfl
    refine ⟨rfl, .slice a1 (ol + 1) c1, ?_⟩
    rw [hsl]
    exact HW1.out.fin HH.out HP.out
   ·obtain ⟨c0', f0'⟩ := HPF.out _ _ _ HW.out
    clear c0 b0 b2
    go_wp2_with fail
    go_end0
    have hsl : setL l key there val = o := by unfold setL; rw [HFIN.out]; rfl
    refine ⟨rfl, .slice oa ol oc, ?_⟩
    rw [hsl]
    exact HW.out.fin HH.out HP.out
end Go.Proofs.YtmcajfefagdbnaaGreat
namespace Go.Proofs.YtmcajfefagdbnaaGreat
open Go Go.RowKit Go.Sort Go.Lib
theorem infoSeenD : (Tryz.prog.info? 105).map (fun i => (i.zero, i.size, i.bytes)) = some (some (.agg #[.int .i64 0, .bool false, .int .i64 0]), 3, 24) := by kernel_rfl
set_option maxRecDepth 20000 in
set_option maxHeartbeats 1600000 in
theorem pdo_read {L : Lay} {bs : Nat → Nat} {A : List Nat} {ow : Ow} {m : Nat} {mu lv : Int} {s : St} {w : World} (h : PSt L bs A ow m mu lv s w) (i : Nat) (hi : i ∈ A) (hst : (s.tx i).state = 0) (hnx : (s.tx i).next < (s.tx i).ops.length) (h12 : (s.tx i).ops.length ≤ 12) (a d : Int) (b : Nat) (ha : inI a) (hb : b < 4) :
  Calls Tryz.prog 97 #[.pointer (some ⟨L.p, 0, none⟩), .pointer (some ⟨bs i, 0, none⟩), .agg #[.int .i64 1, .int .i64 a, .int .i64 (b : Int), .int .i64 d]] w fun e w' => e = .returned (.tuple #[]) ∧ (∃ ow', PSt L bs A ow' (m + 1) mu lv (s.doOp i ⟨1, a, b, d⟩) w' ∧ AgreeP w ow ow') ∧ Kept (OwnP ow) w w' := by
 have hin := h.among i hi
 have hk0 : Kept NoBlk w (w.alloc (.cells #[.int .i64 1, .int .i64 a, .int .i64 (b : Int), .int .i64 d] 114)) := (Kept.refl _ _).alloc _
 have hbx := block_alloc_new w (.cells #[.int .i64 1, .int .i64 a, .int .i64 (b : Int), .int .i64 d] 114)
 have z0 : (w.alloc (.cells #[.int .i64 1, .int .i64 a, .int .i64 (b : Int), .int .i64 d] 114)).cell? ⟨w.heap.size, 0, none⟩ = some (.int .i64 1) := by rw [cell_at hbx]; rfl
 have z1 : (w.alloc (.cells #[.int .i64 1, .int .i64 a, .int .i64 (b : Int), .int .i64 d] 114)).cell? ⟨w.heap.size, 1, none⟩ = some (.int .i64 a) := by rw [cell_at hbx]; rfl
 have z2 : (w.alloc (.cells #[.int .i64 1, .int .i64 a, .int .i64 (b : Int), .int .i64 d] 114)).cell? ⟨w.heap.size, 2, none⟩ = some (.int .i64 (b : Int)) := by rw [cell_at hbx]; rfl
 have h0 := h.kept0 hk0
 obtain ⟨u, tv, wv, b1, c3, c6, c7, c4, b2⟩ := h0.cells
 have HH : Hid (PSt L bs A ow m mu lv s w) := h
 have HH0 : Hid (PSt L bs A ow m mu lv s (w.alloc (.cells #[.int .i64 1, .int .i64 a, .int .i64 (b : Int), .int .i64 d] 114))) := h0
 have HK0 : Hid (Kept NoBlk w (w.alloc (.cells #[.int .i64 1, .int .i64 a, .int .i64 (b : Int), .int .i64 d] 114))) := hk0
 have HIN : Hid (1 ≤ i ∧ i ≤ s.n) := hin
 have HHY : Hid ((s.tx i).state = 0 ∧ (s.tx i).next < (s.tx i).ops.length ∧ (s.tx i).ops.length ≤ 12) := ⟨hst, hnx, h12⟩
 have HLK : Hid (∀ W : World, Kept NoBlk (w.alloc (.cells #[.int .i64 1, .int .i64 a, .int .i64 (b : Int), .int .i64 d] 114)) W → (Instr.lookup 122 (.map (some L.vb)) (.int .i64 a) true).run Tryz.prog W = .ok (.tuple #[.int .i64 ((s.rows a).getD 0), .bool (s.rows a).isSome]) W) := by
  intro W hk
  have hl := (h0.vals.kept hk (fun x => x)).look_ok Tryz.underlying122 (zeroInt _) (a := a) ha
  cases e : s.rows a <;> (simp only [ivals, e, Option.map_none, Option.map_some, Option.getD_none, Option.getD_some, Option.isSome_none, Option.isSome_some] at hl ⊢; exact hl)
 have hl0 := HLK.out _ (Kept.refl _ _)
 have hl1 := HLK.out _ (Kept.refl _ _).drew
 obtain ⟨c5, cr, cf⟩ := h0.tcells hin
 have cb := cr b hb
 clear h h0 hk0 hbx b1 b2 c6 c7 c4 hin hst hnx h12 cr
 go_enter Tryz.func97, Tryz.ntmps97
 go_wp2_with fail
 generalize w.alloc (.cells #[.int .i64 1, .int .i64 a, .int .i64 (b : Int), .int .i64 d] 114) = W0 at *
 go_region
 clear hl0 hl1
 generalize hv : (s.rows a).getD 0 = v at *
 generalize hth : (s.rows a).isSome = th at *
 have HV : Hid ((s.rows a).getD 0 = v ∧ (s.rows a).isSome = th) := ⟨hv, hth⟩
 clear hv hth
 go_wp2_with fail
 go_region
 obtain ⟨ov, rv, dv, y1, y2, y3, y4, y5⟩ := (HH0.out : PSt L bs A ow m mu lv s W0).txs i HIN.out.1 HIN.out.2
 obtain ⟨ar, cap, rfl, _, _⟩ := y3.1.form
 obtain ⟨ye, yl⟩ := y5 HHY.out.1
 have hwb : w.heap.size ≠ bs i := fun e => by
  have h1 := (HH.out : PSt L bs A ow m mu lv s w).lt (bs i) (by rw [y2]; exact tagNe (by omega))
  omega
 have HB1 : Hid ((W0.setCell ⟨bs i, 8 + b, none⟩ (.int .i64 v)).drew.drew.heap[bs i]? = some (.cells ((#[.int .i64 (i : Int), ov, .int .i64 (s.tx i).stamp, .int .i64 (s.tx i).state, .int .i64 (s.tx i).agains, .int .i64 ((s.tx i).next : Int), .bool (s.tx i).wounded, .bool (s.tx i).waits.isSome, .int .i64 ((s.tx i).regs 0), .int .i64 ((s.tx i).regs 1), .int .i64 ((s.tx i).regs 2), .int .i64 ((s.tx i).regs 3), .slice ar (s.tx i).reads.length cap, dv] : Array Value).setIfInBounds (8 + b) (.int .i64 v)) 146 (0, 0))) := block_setCell y1 _
 have HK1 : Hid (Kept (Blk (bs i)) W0 (W0.setCell ⟨bs i, 8 + b, none⟩ (.int .i64 v)).drew.drew) := (Kept.set1 W0 (bs i) (8 + b) (.int .i64 v)).drew.drew
 have d12 : (W0.setCell ⟨bs i, 8 + b, none⟩ (.int .i64 v)).drew.drew.cell? ⟨bs i, 12, none⟩ = some (.slice ar (s.tx i).reads.length cap) := (World.cell?_setCell_other W0 ⟨bs i, 8 + b, none⟩ ⟨bs i, 12, none⟩ (.int .i64 v) (by intro e; simp only [Addr.mk.injEq] at e; omega)).trans (by rw [cell_at y1]; rfl)
 have d5 : (W0.setCell ⟨bs i, 8 + b, none⟩ (.int .i64 v)).drew.drew.cell? ⟨bs i, 5, none⟩ = some (.int .i64 ((s.tx i).next : Int)) := (World.cell?_setCell_other W0 ⟨bs i, 8 + b, none⟩ ⟨bs i, 5, none⟩ (.int .i64 v) (by intro e; simp only [Addr.mk.injEq] at e; omega)).trans c5
 have dz : (W0.setCell ⟨bs i, 8 + b, none⟩ (.int .i64 v)).drew.drew.cell? ⟨w.heap.size, 1, none⟩ = some (.int .i64 a) := (World.cell?_setCell_other W0 ⟨bs i, 8 + b, none⟩ ⟨w.heap.size, 1, none⟩ (.int .i64 v) (by intro e; simp only [Addr.mk.injEq] at e; exact hwb e.1.symm)).trans z1
 have HY1 : Hid (W0.heap[bs i]? = some (.cells #[.int .i64 (i : Int), ov, .int .i64 (s.tx i).stamp, .int .i64 (s.tx i).state, .int .i64 (s.tx i).agains, .int .i64 ((s.tx i).next : Int), .bool (s.tx i).wounded, .bool (s.tx i).waits.isSome, .int .i64 ((s.tx i).regs 0), .int .i64 ((s.tx i).regs 1), .int .i64 ((s.tx i).regs 2), .int .i64 ((s.tx i).regs 3), .slice ar (s.tx i).reads.length cap, dv] 146 (0, 0))) := y1
 have HY2 : Hid (ow (bs i) = (8, (i : Int))) := y2
 have HY3 : Hid (RowT ow (9, i) W0 105 3 (.slice ar (s.tx i).reads.length cap) (s.tx i).reads.length (seenCells (s.tx i).reads)) := y3
 have HY5 : Hid ((s.tx i).reads.length ≤ (s.tx i).next ∧ LiveAt ow L.p W0 i (s.tx i) ov dv) := ⟨ye, yl⟩
 have HPR : Hid (¬ (Value.slice ar (s.tx i).reads.length cap).ownBlock = some (bs i)) := fun e => by have := y3.2 _ e; rw [y2] at this; exact tagNe (by omega) this
 have HROW : Hid (RowAt (W0.setCell ⟨bs i, 8 + b, none⟩ (.int .i64 v)).drew.drew 105 3 (.slice ar (s.tx i).reads.length cap) (s.tx i).reads.length (seenCells (s.tx i).reads)) := y3.1.kept HK1.out (fun k hk e => by unfold Blk at e; subst e; exact HPR.out hk)
 have HLE : Hid ((s.tx i).next ≤ 12 ∧ (s.tx i).reads.length + 1 ≤ maxLen ∧ ((s.tx i).reads.length + 1) * 24 ≤ 140737488355328) := by
  have h1 := HHY.out
  have h2 := HY5.out.1
  refine ⟨by omega, by unfold maxLen; omega, by omega⟩
 clear y1 y2 y3 y4 y5 ye yl c5 c3 z0 z1 z2 cf cb hwb
 generalize (W0.setCell ⟨bs i, 8 + b, none⟩ (.int .i64 v)).drew.drew = W1 at *
 generalize hnr : (s.tx i).reads.length = n at *
 have e12 : ∀ o, (W1.alloc o).cell? ⟨bs i, 12, none⟩ = some (.slice ar n cap) := fun o => ((Kept.refl NoBlk W1).alloc o).cell0 d12
 have ez : ∀ o, (W1.alloc o).cell? ⟨w.heap.size, 1, none⟩ = some (.int .i64 a) := fun o => ((Kept.refl NoBlk W1).alloc o).cell0 dz
 obtain ⟨i1, hi1, hy0, hy1, hy2⟩ := info_parts infoSeenD
 have HI : Hid (Tryz.prog.info? 105 = some i1 ∧ i1.zero = some (.agg #[.int .i64 0, .bool false, .int .i64 0]) ∧ i1.size = 3 ∧ i1.bytes = 24) := ⟨hi1, hy0, hy1, hy2⟩
 have HD12 : Hid (W1.cell? ⟨bs i, 12, none⟩ = some (.slice ar n cap)) := d12
 have HD5 : Hid (W1.cell? ⟨bs i, 5, none⟩ = some (.int .i64 ((s.tx i).next : Int))) := d5
 have HNR : Hid ((s.tx i).reads.length = n) := hnr
 clear hi1 hy0 hy1 hy2 d5 hnr
 go_wp2_with fail
 refine' cutB2 (X := Option Addr) (Y := Nat) _ (fun ao' c' w6 => ∃ w5, RowAt w5 105 3 (.slice ao' (n + 1) c') (n + 1) (seenCells (s.tx i).reads ++ [.int .i64 a, .bool th, .int .i64 v]) ∧ Moved (W1.alloc (.cells #[.int .i64 a, .bool th, .int .i64 v] 105)).drew w5 (.slice ar n cap) (.slice ao' (n + 1) c') (n + 1) ∧ w6 = w5.setCell ⟨bs i, 12, none⟩ (.slice ao' (n + 1) c')) ?_ ?_
 rotate_left
 ·go_region_law (refine step_append_row (by rfl) _ _ 61 (by rfl) 105 i1 _ 3 24 Tryz.underlying61 HI.out.1 HI.out.2.1 HI.out.2.2.1 HI.out.2.2.2 (by rfl) (.slice ar n cap) n (seenCells (s.tx i).reads) (by rfl) (RowAt.kept HROW.out ((Kept.refl NoBlk W1).alloc _).drew (fun _ _ x => x)) (.slice (some ⟨W1.heap.size, 0, none⟩) 1 1) 1 [.int .i64 a, .bool th, .int .i64 v] (by rfl) (FromMem.drew (from_new3 W1 _ _ _ _ rfl rfl rfl)) HLE.out.2.1 HLE.out.2.2 ?_; intro ao' c' w5 hrow5 hmv5; have q12 := hmv5.keptOf.cell ((((Kept.refl NoBlk W1).alloc _).drew).cell0 HD12.out) HPR.out; have qf12 : w5.frozen? ⟨bs i, 12, none⟩ = false := frozen_at (hmv5.keptOf.heap ((((Kept.refl NoBlk W1).alloc _).drew).heap HB1.out (fun x => x)) HPR.out) 12)
  all_goals (refine ⟨ao', c', ?_, w5, hrow5, hmv5, rfl⟩; exact rfl)
 rintro ao' c' w6 ⟨w5, hrow5, hmv5, rfl⟩
 have hb5 := hmv5.keptOf.heap ((((Kept.refl NoBlk W1).alloc _).drew).heap HB1.out (fun x => x)) HPR.out
 have hb6 := block_setCell (o := 12) hb5 (.slice ao' (n + 1) c')
 have g5 : (w5.setCell ⟨bs i, 12, none⟩ (.slice ao' (n + 1) c')).cell? ⟨bs i, 5, none⟩ = some (.int .i64 ((s.tx i).next : Int)) :=
  (World.cell?_setCell_other w5 ⟨bs i, 12, none⟩ ⟨bs i, 5, none⟩ _ (by intro e; simp only [Addr.mk.injEq] at e; omega)).trans (hmv5.keptOf.cell ((((Kept.refl NoBlk W1).alloc _).drew).cell0 HD5.out) HPR.out)
 have gf5 : (w5.setCell ⟨bs i, 12, none⟩ (.slice ao' (n + 1) c')).frozen? ⟨bs i, 5, none⟩ = false := frozen_at hb6 5
 have hb7 := block_setCell (o := 5) hb6 (.int .i64 (((s.tx i).next : Int) + 1))
 have HF : Hid ((∃ ow', PSt L bs A ow' (m + 1) mu lv (s.doOp i ⟨1, a, b, d⟩) ((w5.setCell ⟨bs i, 12, none⟩ (.slice ao' (n + 1) c')).setCell ⟨bs i, 5, none⟩ (.int .i64 (((s.tx i).next : Int) + 1))) ∧ AgreeP w ow ow') ∧ Kept (OwnP ow) w ((w5.setCell ⟨bs i, 12, none⟩ (.slice ao' (n + 1) c')).setCell ⟨bs i, 5, none⟩ (.int .i64 (((s.tx i).next : Int) + 1)))) := by
  obtain ⟨hv, hth⟩ := HV.out
  have hx : sawOf s.rows a = ⟨a, th, v⟩ := by unfold sawOf; rw [hv, hth]
  obtain ⟨z1, z2⟩ := (HH0.out : PSt L bs A ow m mu lv s W0).readT i HIN.out HHY.out.2.1 (upd (s.tx i).regs (b : Int) v) ⟨a, th, v⟩ HNR.out HY5.out.1 HY3.out HY5.out.2 HK1.out ((Kept.refl NoBlk W1).alloc _).drew hmv5 hrow5 ((Kept.set1 w5 (bs i) 12 _).trans' (Kept.set1 _ (bs i) 5 (.int .i64 (((s.tx i).next : Int) + 1)))) (by
   rw [hb7]
   match b, hb with
   | 0, _ => rfl
   | 1, _ => rfl
   | 2, _ => rfl
   | 3, _ => rfl)
  refine ⟨⟨_, (z1.mono (Nat.le_succ _)).congr rfl rfl rfl rfl ?_ rfl, fun k hk => giveAll_agree ow W0 _ _ k (Nat.lt_of_lt_of_le hk HK0.out.size)⟩, (HK0.out.mono (fun _ x => x.elim)).trans' z2⟩
  show upd s.tx i _ = upd s.tx i _
  rw [hx, hv]
 have HN : Hid ((s.tx i).next ≤ 12) := HLE.out.1
 have hn12 : (s.tx i).next ≤ 12 := HLE.out.1
 clear hb5 hb6 hb7 hrow5 hmv5
 generalize w5.setCell ⟨bs i, 12, none⟩ (.slice ao' (n + 1) c') = W6 at *
 generalize (s.tx i).next = nx at *
 go_wp2_with fail
 go_end0
 exact ⟨rfl, HF.out⟩
end Go.Proofs.YtmcajfefagdbnaaGreat
