import Derived.Test.YtmcajfefagdbnaaGreatQ05
import Derived.Test.YtmcajfefagdbnaaGreatQ03
namespace Go.Proofs.YtmcajfefagdbnaaGreat
open Go Go.RowKit
def mkOp (stops : Bool) (o : Op4) : Op4 :=
 if 1 + pickI o.k 5 = 4 then ⟨4, pickI o.a 4, pickI o.b 4, o.c⟩
 else if 1 + pickI o.k 5 = 5 then (if stops then ⟨5, pickI o.a 4, pickI o.b 4, o.c⟩ else ⟨4, 0, 0, 1⟩)
 else ⟨1 + pickI o.k 5, pickI o.a 5, pickI o.b 4, o.c⟩
def mkOps (stops : Bool) (most : Nat) (l : List Op4) : List Op4 := (l.take most).map (mkOp stops)
def OpsIn (l : List Op4) : Prop := ∀ o ∈ l, inI o.k ∧ inI o.a ∧ inI o.b ∧ inI o.c
theorem from_newL (w : World) (xs : List Value) (ty : TypeId) (size : Nat) (hl : xs.length = size) (h1 : xs.all (fun u => u.oneCell') = true) : FromMem (w.alloc (.cells xs.toArray ty)) size (.slice (some ⟨w.heap.size, 0, none⟩) 1 1) 1 xs := by
 refine ⟨⟨_, 1, rfl, fun h => by simp at h, ?_⟩, by omega, fun u hu => (List.all_eq_true.1 h1) u hu⟩
 intro ad had j u hu
 obtain rfl := Option.some.inj had
 rw [Addr.add_lit, cell_at (block_alloc_new w _)]
 simpa using hu
theorem infoOp2 : (Tryz.prog.info? 114).map (fun i => (i.zero, i.size, i.bytes)) = some (some (.agg #[.int .i64 0, .int .i64 0, .int .i64 0, .int .i64 0]), 4, 32) := by kernel_rfl
set_option maxRecDepth 20000 in
set_option maxHeartbeats 3200000 in
theorem operations_any (v : Value) (l : List Op4) (most : Nat) (stops : Bool) (w : World) (hv : OpsSrc w v l) (hl : l.length ≤ 17592186044416) (hin : OpsIn l) (hm : most ≤ 6) :
  Calls Tryz.prog 58 #[v, .int .i64 (most : Int), .bool stops] w fun e w' => ∃ x, e = .returned x ∧ RowAt w' 114 4 x (mkOps stops most l).length (opCells (mkOps stops most l)) ∧ (∀ k, x.ownBlock = some k → w.heap.size ≤ k) ∧ Kept NoBlk w w' := by
 obtain ⟨ao, c, rfl, hv⟩ := hv
 have HV : Hid (0 < l.length → ∃ b off, ao = some ⟨b, off, none⟩ ∧ OpsAt w b off l) := hv
 have HIN : Hid (OpsIn l) := hin
 clear hv hin
 generalize hn : l.length = n at *
 have HN : Hid (l.length = n) := hn
 clear hn
 go_enter Tryz.func58, Tryz.ntmps58
 go_wp2_with fail
 go_loopw [7, 8] (fun x i wr => ∃ k : Nat, k ≤ n ∧ k ≤ most ∧ i = .int .i64 k ∧ RowAt wr 114 4 x k (opCells ((l.take k).map (mkOp stops))) ∧ (∀ j, x.ownBlock = some j → w.heap.size ≤ j) ∧ Kept NoBlk w wr) (fun _ i _ => n - (intOf i).toNat)
 case atStart => exact ⟨0, Nat.zero_le _, Nat.zero_le _, rfl, RowAt.nil _ _ _, fun j hj => by simp [Value.ownBlock] at hj, Kept.refl _ _⟩
 case round =>
  obtain ⟨k, hk, hkm, rfl, hrow, hfr, hkw⟩ := hrel
  by_cases hlt : k < n ∧ k < most
  ·obtain ⟨b, off, rfl, hat⟩ := HV.out (by omega)
   have hkl : k < l.length := by rw [HN.out]; exact hlt.1
   obtain ⟨g0, g1, g2, g3⟩ := (hat.kept hkw (fun x => x)) k hkl
   have hio : inI (l.getD k Op4.z).k ∧ inI (l.getD k Op4.z).a ∧ inI (l.getD k Op4.z).b ∧ inI (l.getD k Op4.z).c := HIN.out _ (by rw [List.getD_eq_getElem?_getD, List.getElem?_eq_getElem hkl]; exact List.getElem_mem hkl)
   have hsn : opCells ((l.take (k + 1)).map (mkOp stops)) = opCells ((l.take k).map (mkOp stops)) ++ (mkOp stops (l.getD k Op4.z)).cells := by
    rw [List.take_add_one, List.getElem?_eq_getElem hkl, List.getD_eq_getElem?_getD, List.getElem?_eq_getElem hkl, List.map_append, opCells, List.flatMap_append]
    simp [opCells]
   have HSN : Hid (opCells ((l.take (k + 1)).map (mkOp stops)) = opCells ((l.take k).map (mkOp stops)) ++ (mkOp stops (l.getD k Op4.z)).cells) := hsn
   have HRW : Hid (RowAt wr 114 4 u7 k (opCells ((l.take k).map (mkOp stops))) ∧ (∀ j, u7.ownBlock = some j → w.heap.size ≤ j) ∧ Kept NoBlk w wr) := ⟨hrow, hfr, hkw⟩
   have hp1 : ∀ W, Calls Tryz.prog 34 #[.int .i64 (l.getD k Op4.z).k, .int .i64 5] W fun e w' => e = .returned (.int .i64 (pickI (l.getD k Op4.z).k 5)) ∧ w' = W := fun W => pick_any _ 5 W hio.1 ⟨by omega, by omega⟩
   have hp2 : ∀ W, Calls Tryz.prog 34 #[.int .i64 (l.getD k Op4.z).b, .int .i64 4] W fun e w' => e = .returned (.int .i64 (pickI (l.getD k Op4.z).b 4)) ∧ w' = W := fun W => pick_any _ 4 W hio.2.2.1 ⟨by omega, by omega⟩
   clear hrow hfr hkw hsn hkl hat
   generalize opCells ((l.take k).map (mkOp stops)) = xs at *
   generalize l.getD k Op4.z = o at *
   have q1 := pickI_ge o.k (n := 5) (by omega)
   have q2 := pickI_lt o.k (n := 5) (by omega)
   go_wp2_with fail
   have n0 := World.new_ne wr _ g0
   have n1 := World.new_ne wr _ g1
   have n2 := World.new_ne wr _ g2
   have n3 := World.new_ne wr _ g3
   have i0 : (0 : Int) ≤ (k : Int) := by omega
   have i1 : (k : Int) < (n : Int) := by omega
   have HQ1 : Hid (∀ W, Calls Tryz.prog 34 #[.int .i64 o.k, .int .i64 5] W fun e w' => e = .returned (.int .i64 (pickI o.k 5)) ∧ w' = W) := hp1
   have HQ2 : Hid (∀ W, Calls Tryz.prog 34 #[.int .i64 o.b, .int .i64 4] W fun e w' => e = .returned (.int .i64 (pickI o.b 4)) ∧ w' = W) := hp2
   clear hp1 hp2
   have hwr : IntKind.wrap .i64 (1 + pickI o.k 5) = 1 + pickI o.k 5 := by rw [IntKind.wrap_i64]; omega
   have HWR : Hid (IntKind.wrap .i64 (1 + pickI o.k 5) = 1 + pickI o.k 5) := hwr
   clear hwr
   refine' kcut0 _ (fun w3 => w3.heap[wr.heap.size]? = some (.cells #[.int .i64 (1 + pickI o.k 5), .int .i64 o.a, .int .i64 (pickI o.b 4), .int .i64 o.c] 114 (0, 0)) ∧ Kept NoBlk wr w3) ?_ ?_
   rotate_left
   ·go_region_held3 (fun w' => w'.cell? ⟨b, off + k * 4, none⟩ = some (.int .i64 o.k) ∧ w'.cell? ⟨b, off + k * 4 + 1, none⟩ = some (.int .i64 o.a) ∧ w'.cell? ⟨b, off + k * 4 + 2, none⟩ = some (.int .i64 o.b) ∧ w'.cell? ⟨b, off + k * 4 + 3, none⟩ = some (.int .i64 o.c)) (go_keep) (first | (go_at_call 34; (with_reducible refine (HQ1.out _).mono ?_); rintro e w2 ⟨rfl, rfl⟩) | (go_at_call 34; (with_reducible refine (HQ2.out _).mono ?_); rintro e w2 ⟨rfl, rfl⟩))
    all_goals
     refine ⟨?_, by rw [HWR.out]; exact block_alloc_new wr _, ((Kept.refl NoBlk wr).alloc _).drew⟩
     exact rfl
   rintro w3 ⟨hb3, hk3⟩
   have HB3 : Hid (w3.heap[wr.heap.size]? = some (.cells #[.int .i64 (1 + pickI o.k 5), .int .i64 o.a, .int .i64 (pickI o.b 4), .int .i64 o.c] 114 (0, 0))) := hb3
   have HK3 : Hid (Kept NoBlk wr w3) := hk3
   have HLT : Hid (k < n ∧ k < most) := hlt
   have HSZ : Hid (w.heap.size ≤ wr.heap.size) := HRW.out.2.2.size
   have HB5 : Hid ((k + 1) * 32 ≤ 140737488355328) := by unfold Hid; omega
   have HB6 : Hid (k + 1 ≤ maxLen) := by unfold Hid maxLen; omega
   obtain ⟨i1, hi1, hy0, hy1, hy2⟩ := info_parts infoOp2
   have HI : Hid (Tryz.prog.info? 114 = some i1 ∧ i1.zero = some (.agg #[.int .i64 0, .int .i64 0, .int .i64 0, .int .i64 0]) ∧ i1.size = 4 ∧ i1.bytes = 32) := ⟨hi1, hy0, hy1, hy2⟩
   have HIO : Hid (inI o.a) := hio.2.1
   clear hi1 hy0 hy1 hy2 hb3 hk3 g0 g1 g2 g3 n0 n1 n2 n3 i0 hio
   generalize hHH : wr.heap.size = H at *
   have HQ : Hid (∀ m : Int, 0 < m ∧ m ≤ 1048576 → ∀ W, Calls Tryz.prog 34 #[.int .i64 o.a, .int .i64 m] W fun e w' => e = .returned (.int .i64 (pickI o.a m)) ∧ w' = W) := fun m hm W => pick_any _ m W HIO.out hm
   have c1 : w3.cell? ⟨H, 1, none⟩ = some (.int .i64 o.a) := by rw [cell_at HB3.out]; rfl
   have c2 : w3.cell? ⟨H, 2, none⟩ = some (.int .i64 (pickI o.b 4)) := by rw [cell_at HB3.out]; rfl
   have c3 : w3.cell? ⟨H, 3, none⟩ = some (.int .i64 o.c) := by rw [cell_at HB3.out]; rfl
   have c0 : w3.cell? ⟨H, 0, none⟩ = some (.int .i64 (1 + pickI o.k 5)) := by rw [cell_at HB3.out]; rfl
   have cf : ∀ j, w3.frozen? ⟨H, j, none⟩ = false := frozen_at HB3.out
   have HHE : Hid (wr.heap.size = H) := hHH
   have HHB : Hid (∀ j, Blk H j → NoBlk j ∨ wr.heap.size ≤ j) := fun j e => .inr (by unfold Blk at e; omega)
   clear hHH
   by_cases h4 : 1 + pickI o.k 5 = 4
   ·rw [h4] at c0
    have HMK : Hid (mkOp stops o = ⟨4, pickI o.a 4, pickI o.b 4, o.c⟩) := by
     unfold Hid mkOp
     rw [if_pos h4]
    clear h4
    have HFM : Hid (FromMem ((w3.setCell ⟨H, 1, none⟩ (.int .i64 (pickI o.a 4))).alloc (.cells #[.int .i64 4, .int .i64 (pickI o.a 4), .int .i64 (pickI o.b 4), .int .i64 o.c] 114)) 4 (.slice (some ⟨w3.heap.size, 0, none⟩) 1 1) 1 [.int .i64 4, .int .i64 (pickI o.a 4), .int .i64 (pickI o.b 4), .int .i64 o.c]) := by
     have := from_newL (w3.setCell ⟨H, 1, none⟩ (.int .i64 (pickI o.a 4))) [.int .i64 4, .int .i64 (pickI o.a 4), .int .i64 (pickI o.b 4), .int .i64 o.c] 114 4 rfl rfl
     rw [show ((w3.setCell ⟨H, 1, none⟩ (.int .i64 (pickI o.a 4)))).heap.size = w3.heap.size from by simp] at this
     exact this
    have HK4 : Hid (Kept NoBlk wr (w3.setCell ⟨H, 1, none⟩ (.int .i64 (pickI o.a 4)))) := HK3.out.trans (Kept.set1 w3 H 1 _) (fun j e => .inr (by unfold Blk at e; have := HHE.out; omega))
    have HRW4 : Hid (RowAt ((w3.setCell ⟨H, 1, none⟩ (.int .i64 (pickI o.a 4))).alloc (.cells #[.int .i64 4, .int .i64 (pickI o.a 4), .int .i64 (pickI o.b 4), .int .i64 o.c] 114)) 114 4 u7 k xs) := HRW.out.1.kept (HK4.out.alloc _) (fun _ _ x => x)
    go_wp2_with (first
     | (go_at_call 34; refine (HQ.out 4 (by omega) _).mono ?_; rintro e w2 ⟨rfl, rfl⟩)
     | (at_builtin; refine wpList_append_row (by rfl) _ _ 39 (by rfl) 114 i1 _ 4 32 Tryz.underlying39 HI.out.1 HI.out.2.1 HI.out.2.2.1 HI.out.2.2.2 (by rfl) u7 k xs (by rfl) HRW4.out (.slice (some ⟨w2.heap.size, 0, none⟩) 1 1) 1 [.int .i64 4, .int .i64 (pickI o.a 4), .int .i64 (pickI o.b 4), .int .i64 o.c] (by rfl) HFM.out HB6.out HB5.out ?_))
    intro ao2 c2 W6 hown6 hmv6
    have hk6 := hmv6.keptOf
    have hn6 := hmv6.fresh
    have HF6 : Hid (RowAt W6 114 4 (.slice ao2 (k + 1) c2) (k + 1) (opCells ((l.take (k + 1)).map (mkOp stops))) ∧ (∀ j, (Value.slice ao2 (k + 1) c2).ownBlock = some j → w.heap.size ≤ j) ∧ Kept NoBlk w W6) := by
     have hsz := HRW.out.2.2.size
     have hsz4 := (HK4.out.alloc (.cells #[.int .i64 4, .int .i64 (pickI o.a 4), .int .i64 (pickI o.b 4), .int .i64 o.c] 114)).size
     refine ⟨by rw [HSN.out, HMK.out]; exact hown6, fun j hj => ?_, (HRW.out.2.2.trans' (HK4.out.alloc (.cells #[.int .i64 4, .int .i64 (pickI o.a 4), .int .i64 (pickI o.b 4), .int .i64 o.c] 114))).trans hk6 (fun j hj => .inr (HRW.out.2.1 j hj))⟩
     rcases hn6 j hj with h | h
     ·exact HRW.out.2.1 j h
     ·exact Nat.le_trans hsz (Nat.le_trans hsz4 h)
    clear hk6 hn6 hown6 hmv6
    go_wp2_with fail
    go_roundw
    case rel => exact ⟨k + 1, by have := HLT.out; omega, by have := HLT.out; omega, by go_num, HF6.out⟩
    case measure => have := HLT.out; simp [intOf]; omega
   ·by_cases h5 : 1 + pickI o.k 5 = 5
    ·rw [h5] at c0
     cases stops with
     | true =>
      have HMK : Hid (mkOp true o = ⟨5, pickI o.a 4, pickI o.b 4, o.c⟩) := by
       unfold Hid mkOp
       rw [if_neg h4, if_pos h5]; rfl
      clear h4 h5
      have HFM : Hid (FromMem ((w3.setCell ⟨H, 1, none⟩ (.int .i64 (pickI o.a 4))).alloc (.cells #[.int .i64 5, .int .i64 (pickI o.a 4), .int .i64 (pickI o.b 4), .int .i64 o.c] 114)) 4 (.slice (some ⟨w3.heap.size, 0, none⟩) 1 1) 1 [.int .i64 5, .int .i64 (pickI o.a 4), .int .i64 (pickI o.b 4), .int .i64 o.c]) := by
       have := from_newL (w3.setCell ⟨H, 1, none⟩ (.int .i64 (pickI o.a 4))) [.int .i64 5, .int .i64 (pickI o.a 4), .int .i64 (pickI o.b 4), .int .i64 o.c] 114 4 rfl rfl
       rw [show ((w3.setCell ⟨H, 1, none⟩ (.int .i64 (pickI o.a 4)))).heap.size = w3.heap.size from by simp] at this
       exact this
      have HK4 : Hid (Kept NoBlk wr (w3.setCell ⟨H, 1, none⟩ (.int .i64 (pickI o.a 4)))) := HK3.out.trans (Kept.set1 w3 H 1 _) (fun j e => .inr (by unfold Blk at e; have := HHE.out; omega))
      have HRW4 : Hid (RowAt ((w3.setCell ⟨H, 1, none⟩ (.int .i64 (pickI o.a 4))).alloc (.cells #[.int .i64 5, .int .i64 (pickI o.a 4), .int .i64 (pickI o.b 4), .int .i64 o.c] 114)) 114 4 u7 k xs) := HRW.out.1.kept (HK4.out.alloc _) (fun _ _ x => x)
      go_wp2_with (first
       | (go_at_call 34; refine (HQ.out 4 (by omega) _).mono ?_; rintro e w2 ⟨rfl, rfl⟩)
       | (at_builtin; refine wpList_append_row (by rfl) _ _ 39 (by rfl) 114 i1 _ 4 32 Tryz.underlying39 HI.out.1 HI.out.2.1 HI.out.2.2.1 HI.out.2.2.2 (by rfl) u7 k xs (by rfl) HRW4.out (.slice (some ⟨w2.heap.size, 0, none⟩) 1 1) 1 [.int .i64 5, .int .i64 (pickI o.a 4), .int .i64 (pickI o.b 4), .int .i64 o.c] (by rfl) HFM.out HB6.out HB5.out ?_))
      intro ao2 c2 W6 hown6 hmv6
      have hk6 := hmv6.keptOf
      have hn6 := hmv6.fresh
      have HF6 : Hid (RowAt W6 114 4 (.slice ao2 (k + 1) c2) (k + 1) (opCells ((l.take (k + 1)).map (mkOp true))) ∧ (∀ j, (Value.slice ao2 (k + 1) c2).ownBlock = some j → w.heap.size ≤ j) ∧ Kept NoBlk w W6) := by
       have hsz := HRW.out.2.2.size
       have hsz4 := (HK4.out.alloc (.cells #[.int .i64 5, .int .i64 (pickI o.a 4), .int .i64 (pickI o.b 4), .int .i64 o.c] 114)).size
       refine ⟨by rw [HSN.out, HMK.out]; exact hown6, fun j hj => ?_, (HRW.out.2.2.trans' (HK4.out.alloc (.cells #[.int .i64 5, .int .i64 (pickI o.a 4), .int .i64 (pickI o.b 4), .int .i64 o.c] 114))).trans hk6 (fun j hj => .inr (HRW.out.2.1 j hj))⟩
       rcases hn6 j hj with h | h
       ·exact HRW.out.2.1 j h
       ·exact Nat.le_trans hsz (Nat.le_trans hsz4 h)
      clear hk6 hn6 hown6 hmv6
      go_wp2_with fail
      go_roundw
      case rel => exact ⟨k + 1, by have := HLT.out; omega, by have := HLT.out; omega, by go_num, HF6.out⟩
      case measure => have := HLT.out; simp [intOf]; omega
     | false =>
      have HMK : Hid (mkOp false o = ⟨4, 0, 0, 1⟩) := by
       unfold Hid mkOp
       rw [if_neg h4, if_pos h5]; rfl
      clear h4 h5
      have HFM : Hid (FromMem ((((((w3.setCell ⟨H, 1, none⟩ (.int .i64 (pickI o.a 4))).setCell ⟨H, 0, none⟩ (.int .i64 4)).setCell ⟨H, 1, none⟩ (.int .i64 0)).setCell ⟨H, 2, none⟩ (.int .i64 0)).setCell ⟨H, 3, none⟩ (.int .i64 1)).alloc (.cells #[.int .i64 4, .int .i64 0, .int .i64 0, .int .i64 1] 114)) 4 (.slice (some ⟨w3.heap.size, 0, none⟩) 1 1) 1 [.int .i64 4, .int .i64 0, .int .i64 0, .int .i64 1]) := by
       have := from_newL (((((w3.setCell ⟨H, 1, none⟩ (.int .i64 (pickI o.a 4))).setCell ⟨H, 0, none⟩ (.int .i64 4)).setCell ⟨H, 1, none⟩ (.int .i64 0)).setCell ⟨H, 2, none⟩ (.int .i64 0)).setCell ⟨H, 3, none⟩ (.int .i64 1)) [.int .i64 4, .int .i64 0, .int .i64 0, .int .i64 1] 114 4 rfl rfl
       rw [show ((((((w3.setCell ⟨H, 1, none⟩ (.int .i64 (pickI o.a 4))).setCell ⟨H, 0, none⟩ (.int .i64 4)).setCell ⟨H, 1, none⟩ (.int .i64 0)).setCell ⟨H, 2, none⟩ (.int .i64 0)).setCell ⟨H, 3, none⟩ (.int .i64 1))).heap.size = w3.heap.size from by simp] at this
       exact this
      have HK4 : Hid (Kept NoBlk wr (((((w3.setCell ⟨H, 1, none⟩ (.int .i64 (pickI o.a 4))).setCell ⟨H, 0, none⟩ (.int .i64 4)).setCell ⟨H, 1, none⟩ (.int .i64 0)).setCell ⟨H, 2, none⟩ (.int .i64 0)).setCell ⟨H, 3, none⟩ (.int .i64 1))) := ((((HK3.out.trans (Kept.set1 w3 H 1 _) HHB.out).trans (Kept.set1 _ H 0 _) HHB.out).trans (Kept.set1 _ H 1 _) HHB.out).trans (Kept.set1 _ H 2 _) HHB.out).trans (Kept.set1 _ H 3 _) HHB.out
      have HRW4 : Hid (RowAt ((((((w3.setCell ⟨H, 1, none⟩ (.int .i64 (pickI o.a 4))).setCell ⟨H, 0, none⟩ (.int .i64 4)).setCell ⟨H, 1, none⟩ (.int .i64 0)).setCell ⟨H, 2, none⟩ (.int .i64 0)).setCell ⟨H, 3, none⟩ (.int .i64 1)).alloc (.cells #[.int .i64 4, .int .i64 0, .int .i64 0, .int .i64 1] 114)) 114 4 u7 k xs) := HRW.out.1.kept (HK4.out.alloc _) (fun _ _ x => x)
      go_wp2_with (first
       | (go_at_call 34; refine (HQ.out 4 (by omega) _).mono ?_; rintro e w2 ⟨rfl, rfl⟩)
       | (at_builtin; refine wpList_append_row (by rfl) _ _ 39 (by rfl) 114 i1 _ 4 32 Tryz.underlying39 HI.out.1 HI.out.2.1 HI.out.2.2.1 HI.out.2.2.2 (by rfl) u7 k xs (by rfl) HRW4.out (.slice (some ⟨w2.heap.size, 0, none⟩) 1 1) 1 [.int .i64 4, .int .i64 0, .int .i64 0, .int .i64 1] (by rfl) HFM.out HB6.out HB5.out ?_))
      intro ao2 c2 W6 hown6 hmv6
      have hk6 := hmv6.keptOf
      have hn6 := hmv6.fresh
      have HF6 : Hid (RowAt W6 114 4 (.slice ao2 (k + 1) c2) (k + 1) (opCells ((l.take (k + 1)).map (mkOp false))) ∧ (∀ j, (Value.slice ao2 (k + 1) c2).ownBlock = some j → w.heap.size ≤ j) ∧ Kept NoBlk w W6) := by
       have hsz := HRW.out.2.2.size
       have hsz4 := (HK4.out.alloc (.cells #[.int .i64 4, .int .i64 0, .int .i64 0, .int .i64 1] 114)).size
       refine ⟨by rw [HSN.out, HMK.out]; exact hown6, fun j hj => ?_, (HRW.out.2.2.trans' (HK4.out.alloc (.cells #[.int .i64 4, .int .i64 0, .int .i64 0, .int .i64 1] 114))).trans hk6 (fun j hj => .inr (HRW.out.2.1 j hj))⟩
       rcases hn6 j hj with h | h
       ·exact HRW.out.2.1 j h
       ·exact Nat.le_trans hsz (Nat.le_trans hsz4 h)
      clear hk6 hn6 hown6 hmv6
      go_wp2_with fail
      go_roundw
      case rel => exact ⟨k + 1, by have := HLT.out; omega, by have := HLT.out; omega, by go_num, HF6.out⟩
      case measure => have := HLT.out; simp [intOf]; omega
    ·have h4' : (1 + pickI o.k 5 == 4) = false := by rw [beq_eq_false_iff_ne]; exact h4
     have h5' : (1 + pickI o.k 5 == 5) = false := by rw [beq_eq_false_iff_ne]; exact h5
     have HMK : Hid (mkOp stops o = ⟨1 + pickI o.k 5, pickI o.a 5, pickI o.b 4, o.c⟩) := by
      unfold Hid mkOp
      rw [if_neg h4, if_neg h5]
     clear h4 h5
     have HFM : Hid (FromMem ((w3.setCell ⟨H, 1, none⟩ (.int .i64 (pickI o.a 5))).alloc (.cells #[.int .i64 (1 + pickI o.k 5), .int .i64 (pickI o.a 5), .int .i64 (pickI o.b 4), .int .i64 o.c] 114)) 4 (.slice (some ⟨w3.heap.size, 0, none⟩) 1 1) 1 [.int .i64 (1 + pickI o.k 5), .int .i64 (pickI o.a 5), .int .i64 (pickI o.b 4), .int .i64 o.c]) := by
      have := from_newL (w3.setCell ⟨H, 1, none⟩ (.int .i64 (pickI o.a 5))) [.int .i64 (1 + pickI o.k 5), .int .i64 (pickI o.a 5), .int .i64 (pickI o.b 4), .int .i64 o.c] 114 4 rfl rfl
      rw [show ((w3.setCell ⟨H, 1, none⟩ (.int .i64 (pickI o.a 5)))).heap.size = w3.heap.size from by simp] at this
      exact this
     have HK4 : Hid (Kept NoBlk wr (w3.setCell ⟨H, 1, none⟩ (.int .i64 (pickI o.a 5)))) := HK3.out.trans (Kept.set1 w3 H 1 _) (fun j e => .inr (by unfold Blk at e; have := HHE.out; omega))
     have HRW4 : Hid (RowAt ((w3.setCell ⟨H, 1, none⟩ (.int .i64 (pickI o.a 5))).alloc (.cells #[.int .i64 (1 + pickI o.k 5), .int .i64 (pickI o.a 5), .int .i64 (pickI o.b 4), .int .i64 o.c] 114)) 114 4 u7 k xs) := HRW.out.1.kept (HK4.out.alloc _) (fun _ _ x => x)
     go_wp2_with (first
      | (go_at_call 34; refine (HQ.out 5 (by omega) _).mono ?_; rintro e w2 ⟨rfl, rfl⟩)
      | (at_builtin; refine wpList_append_row (by rfl) _ _ 39 (by rfl) 114 i1 _ 4 32 Tryz.underlying39 HI.out.1 HI.out.2.1 HI.out.2.2.1 HI.out.2.2.2 (by rfl) u7 k xs (by rfl) HRW4.out (.slice (some ⟨w2.heap.size, 0, none⟩) 1 1) 1 [.int .i64 (1 + pickI o.k 5), .int .i64 (pickI o.a 5), .int .i64 (pickI o.b 4), .int .i64 o.c] (by rfl) HFM.out HB6.out HB5.out ?_))
     intro ao2 c2 W6 hown6 hmv6
     have hk6 := hmv6.keptOf
     have hn6 := hmv6.fresh
     have HF6 : Hid (RowAt W6 114 4 (.slice ao2 (k + 1) c2) (k + 1) (opCells ((l.take (k + 1)).map (mkOp stops))) ∧ (∀ j, (Value.slice ao2 (k + 1) c2).ownBlock = some j → w.heap.size ≤ j) ∧ Kept NoBlk w W6) := by
      have hsz := HRW.out.2.2.size
      have hsz4 := (HK4.out.alloc (.cells #[.int .i64 (1 + pickI o.k 5), .int .i64 (pickI o.a 5), .int .i64 (pickI o.b 4), .int .i64 o.c] 114)).size
      refine ⟨by rw [HSN.out, HMK.out]; exact hown6, fun j hj => ?_, (HRW.out.2.2.trans' (HK4.out.alloc (.cells #[.int .i64 (1 + pickI o.k 5), .int .i64 (pickI o.a 5), .int .i64 (pickI o.b 4), .int .i64 o.c] 114))).trans hk6 (fun j hj => .inr (HRW.out.2.1 j hj))⟩
      rcases hn6 j hj with h | h
      ·exact HRW.out.2.1 j h
      ·exact Nat.le_trans hsz (Nat.le_trans hsz4 h)
     clear hk6 hn6 hown6 hmv6
     go_wp2_with fail
     go_roundw
     case rel => exact ⟨k + 1, by have := HLT.out; omega, by have := HLT.out; omega, by go_num, HF6.out⟩
     case measure => have := HLT.out; simp [intOf]; omega
  ·have hlast : (k : Int) = n ∨ (k : Int) = most := by omega
   have HF : Hid (RowAt wr 114 4 u7 (mkOps stops most l).length (opCells (mkOps stops most l)) ∧ (∀ j, u7.ownBlock = some j → w.heap.size ≤ j) ∧ Kept NoBlk w wr) := by
    have e1 : l.take most = l.take k := by
     have h1 := HN.out
     rcases hlast with h | h
     ·rw [List.take_of_length_le (by omega), List.take_of_length_le (by omega)]
     ·rw [show most = k by omega]
    have e2 : (mkOps stops most l).length = k := by unfold mkOps; rw [e1, List.length_map, List.length_take]; have h1 := HN.out; omega
    rw [e2]
    unfold mkOps
    rw [e1]
    exact ⟨hrow, hfr, hkw⟩
   clear hrow hfr hkw
   by_cases hkn : k < n
   ·have hkm' : ¬ k < most := fun x => hlt ⟨hkn, x⟩
    go_wp2_with fail
    go_ret
    exact ⟨_, rfl, HF.out⟩
   ·go_wp2_with fail
    go_ret
    exact ⟨_, rfl, HF.out⟩
end Go.Proofs.YtmcajfefagdbnaaGreat
namespace Go.Proofs.YtmcajfefagdbnaaGreat
theorem modeOf_cases (o : Op4) : modeOf o = 0 ∨ modeOf o = 1 ∨ modeOf o = 2 := by
 simp only [modeOf]; split; simp; split <;> simp
theorem modeOf_pos {o : Op4} (h : 0 < modeOf o) : modeOf o = 1 ∨ modeOf o = 2 := by
 rcases modeOf_cases o with e | e
 ·omega
 ·exact e
theorem Inv.undone {s : St} (hs : Inv s) (i : Nat) : Inv (s.undone i) ∧ Out (s.undone i) i := hs.freed i (s.tx i).anew (back s.rows (s.tx i).undo) s.wins rfl (fun _ => rfl)
theorem Inv.setTx {s : St} (hs : Inv s) (i : Nat) (f : Tx → Tx) (h1 : (f (s.tx i)).stamp = (s.tx i).stamp) (h2 : (f (s.tx i)).state = (s.tx i).state ∨ Out s i) (h3 : (f (s.tx i)).wounded = (s.tx i).wounded) (h4 : (f (s.tx i)).waits = (s.tx i).waits)
  (h5 : (f (s.tx i)).ops = (s.tx i).ops ∧ (f (s.tx i)).next = (s.tx i).next ∨ (s.tx i).waits = none) (r : Int → Option Int) : Inv { s.setTx i f with rows := r } := by
 have k0 : ({ s.setTx i f with rows := r } : St).tx i = f (s.tx i) := upd_same _ _ _
 have k1 : ∀ j, j ≠ i → ({ s.setTx i f with rows := r } : St).tx j = s.tx j := fun j e => upd_other _ _ _ _ e
 refine hs.turn rfl rfl rfl rfl (fun j => ?_) (fun j => ?_) (fun j => ?_) (fun j => ?_) (fun j => ?_)
 ·by_cases e : j = i
  ·rw [e, k0]; exact h1
  ·rw [k1 j e]
 ·by_cases e : j = i
  ·rw [e, k0]; exact h2
  ·rw [k1 j e]; exact .inl rfl
 ·by_cases e : j = i
  ·rw [e, k0]; exact .inl (fun h => by rw [h3]; exact h)
  ·rw [k1 j e]; exact .inl (fun h => h)
 ·by_cases e : j = i
  ·rw [e, k0]; exact h4
  ·rw [k1 j e]
 ·by_cases e : j = i
  ·rw [e, k0]; exact h5
  ·rw [k1 j e]; exact .inl ⟨rfl, rfl⟩
theorem Inv.setTx' {s : St} (hs : Inv s) (i : Nat) (f : Tx → Tx) (h1 : (f (s.tx i)).stamp = (s.tx i).stamp) (h2 : (f (s.tx i)).state = (s.tx i).state ∨ Out s i) (h3 : (f (s.tx i)).wounded = (s.tx i).wounded) (h4 : (f (s.tx i)).waits = (s.tx i).waits)
  (h5 : (f (s.tx i)).ops = (s.tx i).ops ∧ (f (s.tx i)).next = (s.tx i).next ∨ (s.tx i).waits = none) : Inv (s.setTx i f) := hs.setTx i f h1 h2 h3 h4 h5 s.rows
theorem Inv.again {s : St} (hs : Inv s) (i : Nat) : Inv (s.again i) := (hs.undone i).1.setTx' i _ rfl (.inl rfl) rfl rfl (.inl ⟨rfl, rfl⟩)
theorem Inv.fell {s : St} (hs : Inv s) (i : Nat) (z : Int) : Inv (s.fell i z) := (hs.undone i).1.setTx' i _ rfl (.inr (hs.undone i).2) rfl rfl (.inl ⟨rfl, rfl⟩)
theorem Inv.commit {s : St} (hs : Inv s) {i : Nat} (hi : i ≤ s.n) : Inv (s.commit i) ∧ Out (s.commit i) i :=
 hs.freed i { s.tx i with state := 1 } s.rows (s.wins ++ [i]) rfl (fun h => absurd h (Nat.not_lt.mpr hi))
theorem Inv.doOp {s : St} (hs : Inv s) (i : Nat) (o : Op4) (hw : (s.tx i).waits = none) : Inv (s.doOp i o) := by
 simp only [St.doOp]
 split
 ·exact hs.setTx' i _ rfl (.inl rfl) rfl rfl (.inr hw)
 split
 ·exact hs.setTx i _ rfl (.inl rfl) rfl rfl (.inr hw) _
 split
 ·exact hs.setTx i _ rfl (.inl rfl) rfl rfl (.inr hw) _
 split
 ·exact hs.setTx' i _ rfl (.inl rfl) rfl rfl (.inr hw)
 ·exact hs.setTx' i _ rfl (.inl rfl) rfl rfl (.inr hw)
theorem Inv.actOn {s : St} (hs : Inv s) (i : Nat) (o : Op4) (hw : (s.tx i).waits = none) : Inv (s.actOn i o).1 := by
 simp only [St.actOn]
 split
 ·exact hs.fell i 2
 ·exact hs.doOp i o hw
theorem Inv.go {s : St} (hs : Inv s) {i : Nat} (hi : 1 ≤ i ∧ i ≤ s.n) (hl : (s.tx i).state = 0) (hx : (s.tx i).next ≤ (s.tx i).ops.length) : Inv (s.go i).1 := by
 simp only [St.go]
 split
 ·exact hs.again i
 split
 ·exact hs
 split
 ·exact (hs.commit hi.2).1
 rename_i hw hn
 have hw' : (s.tx i).waits = none := by simpa using hw
 split
 ·rename_i hm
  split
  ·exact hs.fell i 3
  split
  ·rename_i hf
   simp only [Bool.and_eq_true, List.isEmpty_iff, Bool.not_eq_true'] at hf
   exact (hs.grant hi hl (modeOf_pos hm.1) hf.1 hf.2).actOn i _ hw'
  ·rename_i hf
   simp only [Bool.and_eq_true, List.isEmpty_iff, Bool.not_eq_true', not_and, Bool.not_eq_false] at hf
   refine hs.enq hi hl hw' (modeOf_pos hm.1) hm.2 ⟨by omega, rfl, rfl⟩ ?_
   by_cases hq : (s.lk (s.tx i).op.a).q = []
   ·exact .inr (hf hq)
   ·exact .inl hq
 ·exact hs.actOn i _ hw'
def Tx.base (t : Tx) : Tx := { t with wounded := false, waits := none }
structure Oth (s s' : St) (i j : Nat) : Prop where
 base : (s'.tx j).base = (s.tx j).base
 wound : (s'.tx j).wounded = (s.tx j).wounded ∨ ((s'.tx j).wounded = true ∧ (s.tx i).stamp < (s.tx j).stamp)
 waits : (s'.tx j).waits = (s.tx j).waits ∨ (s'.tx j).waits = none
theorem look_oth (t : Tx) (lk : Int → Lk) (j : Nat) : (t.look lk j).base = t.base ∧ (t.look lk j).wounded = t.wounded ∧ ((t.look lk j).waits = t.waits ∨ (t.look lk j).waits = none) := by
 refine ⟨rfl, rfl, ?_⟩
 simp only [Tx.look]
 cases t.waits with
 | none => exact .inl rfl
 | some k => simp only; split; exact .inl rfl; exact .inr rfl
theorem freed_oth (s s' : St) (i j : Nat) (h : s'.tx j = s.tx j) : Oth s (s'.freed i) i j := by
 have := look_oth (s'.tx j) (fun k => (s'.lk k).freed s'.n i) j
 rw [h] at this
 simp only [St.freed]
 exact ⟨by show (Tx.look _ _ _).base = _; rw [h]; exact this.1, by left; show (Tx.look _ _ _).wounded = _; rw [h]; exact this.2.1, by show (Tx.look _ _ _).waits = _ ∨ (Tx.look _ _ _).waits = _; rw [h]; exact this.2.2⟩
theorem undone_oth (s : St) {i j : Nat} (h : j ≠ i) : Oth s (s.undone i) i j := freed_oth s _ i j (upd_other _ _ _ _ h)
theorem setTx_tx (s : St) {i j : Nat} (f : Tx → Tx) (h : j ≠ i) : (s.setTx i f).tx j = s.tx j := upd_other _ _ _ _ h
theorem Oth.eq {s s' s'' : St} {i j : Nat} (h : Oth s s' i j) (e : s''.tx j = s'.tx j) : Oth s s'' i j := ⟨by rw [e]; exact h.base, by rw [e]; exact h.wound, by rw [e]; exact h.waits⟩
theorem Oth.refl {s s' : St} {i j : Nat} (e : s'.tx j = s.tx j) : Oth s s' i j := ⟨by rw [e], by rw [e]; exact .inl rfl, by rw [e]; exact .inl rfl⟩
theorem doOp_tx (s : St) {i j : Nat} (o : Op4) (h : j ≠ i) : (s.doOp i o).tx j = s.tx j := by
 simp only [St.doOp]
 split
 ·exact upd_other _ _ _ _ h
 split
 ·exact upd_other _ _ _ _ h
 split
 ·exact upd_other _ _ _ _ h
 split <;> exact upd_other _ _ _ _ h
theorem fell_oth (s : St) {i j : Nat} (z : Int) (h : j ≠ i) : Oth s (s.fell i z) i j := (undone_oth s h).eq (setTx_tx _ _ h)
theorem actOn_oth (s : St) {i j : Nat} (o : Op4) (h : j ≠ i) : Oth s (s.actOn i o).1 i j := by
 simp only [St.actOn]
 split
 ·exact fell_oth s 2 h
 ·exact Oth.refl (doOp_tx s o h)
theorem go_oth (s : St) {i j : Nat} (h : j ≠ i) : Oth s (s.go i).1 i j := by
 simp only [St.go]
 split
 ·exact (undone_oth s h).eq (s'' := s.again i) (setTx_tx _ _ h)
 split
 ·exact Oth.refl rfl
 split
 ·exact freed_oth s _ i j (upd_other _ _ _ _ h)
 split
 ·split
  ·exact fell_oth s 3 h
  split
  ·have := actOn_oth (s.grant i (s.tx i).op.a (modeOf (s.tx i).op)) (s.tx i).op h
   exact ⟨this.base, this.wound, this.waits⟩
  ·simp only [St.enq]
   constructor
   ·simp only [if_neg h]; split <;> rfl
   ·simp only [if_neg h]
    split
    ·rename_i hh
     simp only [St.hit, Bool.and_eq_true, decide_eq_true_eq] at hh
     exact .inr ⟨rfl, hh.1.2⟩
    ·exact .inl rfl
   ·simp only [if_neg h]; split <;> exact .inl rfl
 ·exact actOn_oth s _ h
theorem go_self (s : St) (i : Nat) : ((s.go i).1.tx i).stamp = (s.tx i).stamp ∧ ((s.go i).1.tx i).ops = (s.tx i).ops := by
 have ha : ∀ s' o, (((St.actOn s' i o).1.tx i).stamp = (s'.tx i).stamp ∧ ((St.actOn s' i o).1.tx i).ops = (s'.tx i).ops) := by
  intro s' o
  simp only [St.actOn]
  split
  ·simp [St.fell, St.setTx, St.undone, St.freed, Tx.look, Tx.anew]
  ·simp only [St.doOp]
   repeat' split
   all_goals simp [St.setTx]
 simp only [St.go]
 split
 ·simp [St.again, St.setTx, St.undone, St.freed, Tx.look, Tx.anew]
 split
 ·exact ⟨rfl, rfl⟩
 split
 ·simp [St.commit, St.setTx, St.freed, Tx.look]
 split
 ·split
  ·simp [St.fell, St.setTx, St.undone, St.freed, Tx.look, Tx.anew]
  split
  ·exact ha _ _
  ·simp [St.enq]
 ·exact ha _ _
theorem go_n (s : St) (i : Nat) : (s.go i).1.n = s.n ∧ (s.go i).1.clock = s.clock := by
 have ha : ∀ s' o, (St.actOn s' i o).1.n = s'.n ∧ (St.actOn s' i o).1.clock = s'.clock := by
  intro s' o
  simp only [St.actOn]
  split
  ·exact ⟨rfl, rfl⟩
  ·simp only [St.doOp]
   repeat' split
   all_goals exact ⟨rfl, rfl⟩
 simp only [St.go]
 split
 ·exact ⟨rfl, rfl⟩
 split
 ·exact ⟨rfl, rfl⟩
 split
 ·exact ⟨rfl, rfl⟩
 split
 ·split
  ·exact ⟨rfl, rfl⟩
  split
  ·exact ha _ _
  ·exact ⟨rfl, rfl⟩
 ·exact ha _ _
theorem modeOf_stop {o : Op4} (h : 0 < modeOf o) : o.k ≠ 5 := by
 intro e
 simp [modeOf, e] at h
theorem doOp_lk (s : St) (i : Nat) (o : Op4) : (s.doOp i o).lk = s.lk ∧ (s.doOp i o).act = s.act := by
 simp only [St.doOp]
 repeat' split
 all_goals exact ⟨rfl, rfl⟩
theorem actOn_lk (s : St) (i : Nat) (o : Op4) (k : Int) : (s.actOn i o).1.lk k = s.lk k ∨ (s.actOn i o).1.lk k = (s.lk k).freed s.n i := by
 simp only [St.actOn]
 split
 ·exact .inr rfl
 ·exact .inl (by rw [(doOp_lk s i o).1])
theorem go_lk (s : St) (i : Nat) (k : Int) : (s.go i).1.lk k = s.lk k ∨ (s.go i).1.lk k = (s.lk k).freed s.n i ∨
  (∃ m, (s.lk k).q = [] ∧ (s.lk k).h i < m ∧ (s.go i).1.lk k = ⟨upd (s.lk k).h i m, (s.lk k).q⟩) ∨ (∃ m, (s.go i).1.lk k = ⟨(s.lk k).h, (s.lk k).q ++ [(i, m)]⟩) := by
 simp only [St.go]
 split
 ·exact .inr (.inl rfl)
 split
 ·exact .inl rfl
 split
 ·exact .inr (.inl rfl)
 split
 ·rename_i hm
  split
  ·exact .inr (.inl rfl)
  split
  ·rename_i hf
   simp only [Bool.and_eq_true, List.isEmpty_iff, Bool.not_eq_true'] at hf
   simp only [St.actOn, modeOf_stop hm.1, false_and, if_false]
   rw [(doOp_lk _ _ _).1]
   by_cases e : k = (s.tx i).op.a
   ·subst e
    exact .inr (.inr (.inl ⟨_, hf.1, hm.2, upd_same _ _ _⟩))
   ·exact .inl (upd_other _ _ _ _ e)
  ·by_cases e : k = (s.tx i).op.a
   ·subst e
    exact .inr (.inr (.inr ⟨_, upd_same _ _ _⟩))
   ·exact .inl (upd_other _ _ _ _ e)
 ·rcases actOn_lk s i (s.tx i).op k with h | h
  ·exact .inl h
  ·exact .inr (.inl h)
theorem go_wounded (s : St) (i : Nat) (hw : (s.tx i).wounded = true) : s.go i = (s.again i, 3) := by simp only [St.go, hw, if_true]
theorem doOp_next (s : St) (i : Nat) (o : Op4) : ((s.doOp i o).tx i).next = (s.tx i).next + 1 ∧ ((s.doOp i o).tx i).state = (s.tx i).state ∧ ((s.doOp i o).tx i).wounded = (s.tx i).wounded ∧ ((s.doOp i o).tx i).waits = (s.tx i).waits ∧ ((s.doOp i o).tx i).ops = (s.tx i).ops := by
 simp only [St.doOp]
 repeat' split
 all_goals simp [St.setTx]
theorem again_self (s : St) (i : Nat) : ((s.again i).tx i).next = 0 ∧ ((s.again i).tx i).state = (s.tx i).state ∧ ((s.again i).tx i).wounded = false ∧ ((s.again i).tx i).waits = none ∧ ((s.again i).tx i).ops = (s.tx i).ops := by
 simp [St.again, St.setTx, St.undone, St.freed, Tx.look, Tx.anew]
theorem fell_self (s : St) (i : Nat) (z : Int) : ((s.fell i z).tx i).next = 0 ∧ ((s.fell i z).tx i).state = z ∧ ((s.fell i z).tx i).wounded = false ∧ ((s.fell i z).tx i).waits = none ∧ ((s.fell i z).tx i).ops = (s.tx i).ops := by
 simp [St.fell, St.setTx, St.undone, St.freed, Tx.look, Tx.anew]
theorem commit_self (s : St) (i : Nat) : ((s.commit i).tx i).next = (s.tx i).next ∧ ((s.commit i).tx i).state = 1 ∧ ((s.commit i).tx i).ops = (s.tx i).ops := by
 simp [St.commit, St.setTx, St.freed, Tx.look]
end Go.Proofs.YtmcajfefagdbnaaGreat
