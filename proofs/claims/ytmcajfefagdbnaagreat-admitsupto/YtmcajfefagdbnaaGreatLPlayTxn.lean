import Derived.Test.YtmcajfefagdbnaaGreatLPlay
import Derived.Test.YtmcajfefagdbnaaGreatLTxnAns
import Derived.Test.YtmcajfefagdbnaaGreatLBInv
namespace Go.Proofs.YtmcajfefagdbnaaGreat
open Go Go.RowKit
attribute [local go_sem ↓] Go.wp_at_zero Go.wp_at_succ

theorem room8 {w : World} {V : Nat} {y0 y1 y2 y3 y4 y5 y6 y7 : Value} {t : TypeId} (h : w.heap[V]? = some (.cells #[y0, y1, y2, y3, y4, y5, y6, y7] t (0, 0))) :
    w.cell? ⟨V, 0, none⟩ = some y0 ∧ w.cell? ⟨V, 1, none⟩ = some y1 ∧ w.cell? ⟨V, 2, none⟩ = some y2 ∧ w.cell? ⟨V, 3, none⟩ = some y3 ∧ w.cell? ⟨V, 4, none⟩ = some y4 ∧ w.cell? ⟨V, 5, none⟩ = some y5 ∧ w.cell? ⟨V, 6, none⟩ = some y6 ∧ w.cell? ⟨V, 7, none⟩ = some y7 ∧ ∀ o, w.frozen? ⟨V, o, none⟩ = false := by
  refine ⟨?_, ?_, ?_, ?_, ?_, ?_, ?_, ?_, fun o => frozen_at h o⟩ <;> (rw [cell_at h]; rfl)

def zT : Obj := .cells #[.int .i64 0, .int .i64 0, .int .i64 0, .bool false, .bool false, .int .i64 0, .slice none 0 0, .slice none 0 0] 69 (0, 0)

theorem room_kept {S : Nat → Prop} {W0 w2 : World} (hk : Kept S (W0.alloc zT).drew w2) (hV : ¬ S W0.heap.size) : w2.heap[W0.heap.size]? = some zT := hk.heap (b := W0.heap.size) (show (W0.alloc zT).drew.heap[W0.heap.size]? = some zT from block_alloc_new W0 zT) hV

set_option maxRecDepth 100000 in
set_option maxHeartbeats 6400000 in
theorem play_txn (x p q o N M : Nat) (S T : Nat → Prop) (c n s : Int) (ao : Option Addr) (k kc : Nat) (sts : List Int) (w : World) (h : QInv x p q o S c sts w) (hB : BInv T o N M w) (hN : N ≤ 16777000) (hM : M ≤ 16777000) (hd : Disj S T) :
    Calls Tryz.prog 16 #[.pointer (some ⟨x, 0, none⟩), .agg #[.int .i64 5, .int .i64 n, .int .i64 s, .slice ao k kc]] w fun e w' => e = .returned (.bool true) ∧ Kept (fun k => S k ∨ T k) w w' ∧ QInv x p q o S c sts w' ∧
      ∃ T', BInv T' o (N + 4) (M + 4) w' ∧ ∀ k, T' k → T k ∨ w.heap.size ≤ k := by
  obtain ⟨Sp, Sw, h1, h2, h3, h4, h5, h6, h7, h8, h9⟩ := h.body
  have hk0 : Kept NoBlk w (w.alloc (.cells #[.int .i64 5, .int .i64 n, .int .i64 s, .slice ao k kc] 41)) := (Kept.refl _ _).alloc _
  have HX0 : Hid _ := hk0.heap h1 (fun x => x)
  have HO0 : Hid ((w.alloc (.cells #[.int .i64 5, .int .i64 n, .int .i64 s, .slice ao k kc] 41)).heap[w.heap.size]? = some (.cells #[.int .i64 5, .int .i64 n, .int .i64 s, .slice ao k kc] 41 (0, 0))) := block_alloc_new w _
  have HP0 : Hid (PInv Sp p c sts (w.alloc (.cells #[.int .i64 5, .int .i64 n, .int .i64 s, .slice ao k kc] 41))) := h5.kept hk0 (fun _ _ x => x)
  have HW0 : Hid (WInv Sw q c sts (w.alloc (.cells #[.int .i64 5, .int .i64 n, .int .i64 s, .slice ao k kc] 41))) := h6.kept hk0 (fun _ _ x => x)
  have HB0 : Hid (BInv T o N M (w.alloc (.cells #[.int .i64 5, .int .i64 n, .int .i64 s, .slice ao k kc] 41))) := hB.kept hk0 (fun _ _ x => x)
  have HK0 : Hid _ := hk0
  have H2 : Hid (S x ∧ ¬ Sp x ∧ ¬ Sw x) := ⟨h2, h3, h4⟩
  have H7 : Hid (Disj Sp Sw ∧ (∀ k, Sp k → S k) ∧ (∀ k, Sw k → S k)) := ⟨h7, h8, h9⟩
  have HL : Hid ((∀ k, S k → k < w.heap.size) ∧ ∀ k, T k → k < w.heap.size) := ⟨h.lt, hB.lt⟩
  have HD : Hid (Disj S T) := hd
  clear h h1 h2 h3 h4 h5 h6 h7 h8 h9 hk0 hd hB
  go_enter Tryz.func16, Tryz.ntmps16
  go_wp2_with fail
  generalize w.alloc (.cells #[.int .i64 5, .int .i64 n, .int .i64 s, .slice ao k kc] 41) = W0 at *
  generalize hH : w.heap.size = H at HO0 ⊢
  have HH : Hid _ := hH
  clear hH
  have hSpH : ¬ Sp H := fun hs => by have := HL.out.1 H (H7.out.2.1 H hs); have := HH.out; omega
  have hW0 : w.heap.size ≤ W0.heap.size := HK0.out.size
  have hSpV : ¬ Sp W0.heap.size := fun hs => by have := HL.out.1 _ (H7.out.2.1 _ hs); omega
  have x0 : W0.cell? ⟨x, 0, none⟩ = some (.pointer (some ⟨p, 0, none⟩)) := by rw [cell_at HX0.out]; rfl
  have n0 : W0.cell? ⟨H, 1, none⟩ = some (.int .i64 n) := by rw [cell_at HO0.out]; rfl
  have hxV : ¬ x = W0.heap.size := fun e => by have := lt_of_block HX0.out; omega
  have hxV' : ¬ W0.heap.size = x := fun e => hxV e.symm
  have hHV : ¬ H = W0.heap.size := fun e => by have := lt_of_block HO0.out; omega
  have hHV' : ¬ W0.heap.size = H := fun e => hHV e.symm
  have HCA : Hid (Calls Tryz.prog 23 #[.pointer (some ⟨p, 0, none⟩), .int .i64 n] W0.drew fun e w' => ∃ ra sa, e = .returned (.tuple #[.agg #[.int .i64 (txnSt sts n), .int .i64 0, .int .i64 0, .bool false, .bool false, .int .i64 0, .slice ra (txnRn sts n) (txnRn sts n), .slice sa 0 0], .int .i64 (txnErr sts n)]) ∧ PInv Sp p c sts w' ∧ Kept Sp W0 w' ∧ w'.ownsRow 0 3 1 (.slice ra (txnRn sts n) (txnRn sts n)) (txnRn sts n) (List.replicate (txnRn sts n) (.int .i64 0)) ∧ w'.ownsRow 0 105 3 (.slice sa 0 0) 0 [] ∧ (∀ k, (Value.slice ra (txnRn sts n) (txnRn sts n)).ownBlock = some k ∨ (Value.slice sa 0 0).ownBlock = some k → W0.heap.size ≤ k) ∧ (∀ k, (Value.slice ra (txnRn sts n) (txnRn sts n)).ownBlock = some k → ¬ (Value.slice sa 0 0).ownBlock = some k)) := by
    refine (ptxn_ans Sp p c n sts W0.drew (HP0.out.of_same (Nat.le_refl _) (fun _ _ => rfl))).mono ?_
    rintro e w2 ⟨ra, sa, rfl, hP2, hk2, hr2, hs2, hf2, hd2⟩
    exact ⟨ra, sa, rfl, hP2, (Kept.refl Sp W0).drew.trans' hk2, hr2, hs2, hf2, hd2⟩
  have HCB : Hid (Calls Tryz.prog 23 #[.pointer (some ⟨p, 0, none⟩), .int .i64 n] (W0.alloc (.cells #[.int .i64 0, .int .i64 0, .int .i64 0, .bool false, .bool false, .int .i64 0, .slice none 0 0, .slice none 0 0] 69)).drew fun e w' => w'.heap[W0.heap.size]? = some (.cells #[.int .i64 0, .int .i64 0, .int .i64 0, .bool false, .bool false, .int .i64 0, .slice none 0 0, .slice none 0 0] 69 (0, 0)) ∧ ∃ ra sa, e = .returned (.tuple #[.agg #[.int .i64 (txnSt sts n), .int .i64 0, .int .i64 0, .bool false, .bool false, .int .i64 0, .slice ra (txnRn sts n) (txnRn sts n), .slice sa 0 0], .int .i64 (txnErr sts n)]) ∧ PInv Sp p c sts w' ∧ Kept Sp W0 w' ∧ w'.ownsRow 0 3 1 (.slice ra (txnRn sts n) (txnRn sts n)) (txnRn sts n) (List.replicate (txnRn sts n) (.int .i64 0)) ∧ w'.ownsRow 0 105 3 (.slice sa 0 0) 0 [] ∧ (∀ k, (Value.slice ra (txnRn sts n) (txnRn sts n)).ownBlock = some k ∨ (Value.slice sa 0 0).ownBlock = some k → W0.heap.size + 1 ≤ k) ∧ (∀ k, (Value.slice ra (txnRn sts n) (txnRn sts n)).ownBlock = some k → ¬ (Value.slice sa 0 0).ownBlock = some k)) := by
    have ha : Kept Sp W0 (W0.alloc (.cells #[.int .i64 0, .int .i64 0, .int .i64 0, .bool false, .bool false, .int .i64 0, .slice none 0 0, .slice none 0 0] 69)).drew := ((Kept.refl Sp W0).alloc _).drew
    refine (ptxn_ans Sp p c n sts (W0.alloc (.cells #[.int .i64 0, .int .i64 0, .int .i64 0, .bool false, .bool false, .int .i64 0, .slice none 0 0, .slice none 0 0] 69)).drew (HP0.out.kept (((Kept.refl NoBlk W0).alloc _).drew) (fun _ _ x => x))).mono ?_
    rintro e w2 ⟨ra, sa, rfl, hP2, hk2, hr2, hs2, hf2, hd2⟩
    refine ⟨room_kept hk2 hSpV, ra, sa, rfl, hP2, ha.trans' hk2, hr2, hs2, fun k hk => ?_, hd2⟩
    have := hf2 k hk
    rw [show (W0.alloc (.cells #[.int .i64 0, .int .i64 0, .int .i64 0, .bool false, .bool false, .int .i64 0, .slice none 0 0, .slice none 0 0] 69)).drew.heap.size = W0.heap.size + 1 from by simp] at this
    exact this
  go_region_held3 (fun w' => w'.cell? ⟨x, 0, none⟩ = some (.pointer (some ⟨p, 0, none⟩)) ∧ w'.cell? ⟨H, 1, none⟩ = some (.int .i64 n))
    (first | with_reducible exact ⟨hx2, hn2⟩ | with_reducible exact ⟨x0, n0⟩ | go_keep)
    (first
      | (go_at_call 23; with_reducible refine HCA.out.mono ?_; rintro e w2 ⟨ra, sa, rfl, hP2, hk2, hr2, hs2, hf2, hd2⟩; have hx2 := hk2.cell x0 H2.out.2.1; have hn2 := hk2.cell n0 hSpH)
      | (go_at_call 23; with_reducible refine HCB.out.mono ?_; rintro e w2 ⟨hv2, ra, sa, rfl, hP2, hk2, hr2, hs2, hf2, hd2⟩; have hx2 := hk2.cell x0 H2.out.2.1; have hn2 := hk2.cell n0 hSpH; obtain ⟨z0, z1, z2, z3, z4, z5, z6, z7, zf⟩ := room8 hv2))
  all_goals first
    | (have hb := set8_kept w2 W0.heap.size (.int .i64 (txnSt sts n)) (.int .i64 0) (.int .i64 0) (.bool false) (.bool false) (.int .i64 0) (.slice ra (txnRn sts n) (txnRn sts n)) (.slice sa 0 0)
       have HV : Hid _ := set8_at w2 W0.heap.size (.int .i64 (txnSt sts n)) (.int .i64 0) (.int .i64 0) (.bool false) (.bool false) (.int .i64 0) (.slice ra (txnRn sts n) (txnRn sts n)) (.slice sa 0 0) _ _ _ _ _ _ _ _ _ hv2
       have HKV : Hid (Kept Sp W0 (set8 w2 W0.heap.size (.int .i64 (txnSt sts n)) (.int .i64 0) (.int .i64 0) (.bool false) (.bool false) (.int .i64 0) (.slice ra (txnRn sts n) (txnRn sts n)) (.slice sa 0 0))) := hk2.trans hb (fun i x => .inr (by cases x; exact Nat.le_refl _))
       have HP3 : Hid (PInv Sp p c sts (set8 w2 W0.heap.size (.int .i64 (txnSt sts n)) (.int .i64 0) (.int .i64 0) (.bool false) (.bool false) (.int .i64 0) (.slice ra (txnRn sts n) (txnRn sts n)) (.slice sa 0 0))) := hP2.kept hb (fun k hs e => hSpV (by cases e; exact hs))
       have HR3 : Hid ((set8 w2 W0.heap.size (.int .i64 (txnSt sts n)) (.int .i64 0) (.int .i64 0) (.bool false) (.bool false) (.int .i64 0) (.slice ra (txnRn sts n) (txnRn sts n)) (.slice sa 0 0)).ownsRow 0 3 1 (.slice ra (txnRn sts n) (txnRn sts n)) (txnRn sts n) (List.replicate (txnRn sts n) (.int .i64 0))) := ownsRow_kept hr2 hb (fun k hk e => by have := hf2 k (.inl hk); unfold Blk at e; omega)
       have HS3 : Hid ((set8 w2 W0.heap.size (.int .i64 (txnSt sts n)) (.int .i64 0) (.int .i64 0) (.bool false) (.bool false) (.int .i64 0) (.slice ra (txnRn sts n) (txnRn sts n)) (.slice sa 0 0)).ownsRow 0 105 3 (.slice sa 0 0) 0 []) := ownsRow_kept hs2 hb (fun k hk e => by have := hf2 k (.inr hk); unfold Blk at e; omega)
       have HF3 : Hid (∀ k, (Value.slice ra (txnRn sts n) (txnRn sts n)).ownBlock = some k ∨ (Value.slice sa 0 0).ownBlock = some k → W0.heap.size ≤ k) := fun k hk => by have := hf2 k hk; omega
       have HD3 : Hid _ := hd2
       rw [show ((((((((w2.setCell ⟨W0.heap.size, 0, none⟩ (.int .i64 (txnSt sts n))).setCell ⟨W0.heap.size, 1, none⟩ (.int .i64 0)).setCell ⟨W0.heap.size, 2, none⟩ (.int .i64 0)).setCell ⟨W0.heap.size, 3, none⟩ (.bool false)).setCell ⟨W0.heap.size, 4, none⟩ (.bool false)).setCell ⟨W0.heap.size, 5, none⟩ (.int .i64 0)).setCell ⟨W0.heap.size, 6, none⟩ (.slice ra (txnRn sts n) (txnRn sts n))).setCell ⟨W0.heap.size, 7, none⟩ (.slice sa 0 0)) = set8 w2 W0.heap.size (.int .i64 (txnSt sts n)) (.int .i64 0) (.int .i64 0) (.bool false) (.bool false) (.int .i64 0) (.slice ra (txnRn sts n) (txnRn sts n)) (.slice sa 0 0) from rfl]
       clear hP2 hk2 hr2 hs2 hf2 hd2 hx2 hn2 hb hv2 z0 z1 z2 z3 z4 z5 z6 z7 zf x0 n0
       generalize set8 w2 W0.heap.size (.int .i64 (txnSt sts n)) (.int .i64 0) (.int .i64 0) (.bool false) (.bool false) (.int .i64 0) (.slice ra (txnRn sts n) (txnRn sts n)) (.slice sa 0 0) = W3 at *
       generalize hVV : W0.heap.size = V at HV ⊢
       have HVs : Hid (W0.heap.size ≤ V) := Nat.le_of_eq hVV
       clear hVV)
    | (have ha : Kept NoBlk w2 (w2.alloc (.cells #[.int .i64 (txnSt sts n), .int .i64 0, .int .i64 0, .bool false, .bool false, .int .i64 0, .slice ra (txnRn sts n) (txnRn sts n), .slice sa 0 0] 69)) := (Kept.refl _ _).alloc _
       have HV : Hid _ := block_alloc_new w2 (.cells #[.int .i64 (txnSt sts n), .int .i64 0, .int .i64 0, .bool false, .bool false, .int .i64 0, .slice ra (txnRn sts n) (txnRn sts n), .slice sa 0 0] 69)
       have HVs : Hid (W0.heap.size ≤ w2.heap.size) := hk2.size
       have HKV : Hid (Kept Sp W0 (w2.alloc (.cells #[.int .i64 (txnSt sts n), .int .i64 0, .int .i64 0, .bool false, .bool false, .int .i64 0, .slice ra (txnRn sts n) (txnRn sts n), .slice sa 0 0] 69))) := hk2.alloc _
       have HP3 : Hid (PInv Sp p c sts (w2.alloc (.cells #[.int .i64 (txnSt sts n), .int .i64 0, .int .i64 0, .bool false, .bool false, .int .i64 0, .slice ra (txnRn sts n) (txnRn sts n), .slice sa 0 0] 69))) := hP2.kept ha (fun _ _ x => x)
       have HR3 : Hid ((w2.alloc (.cells #[.int .i64 (txnSt sts n), .int .i64 0, .int .i64 0, .bool false, .bool false, .int .i64 0, .slice ra (txnRn sts n) (txnRn sts n), .slice sa 0 0] 69)).ownsRow 0 3 1 (.slice ra (txnRn sts n) (txnRn sts n)) (txnRn sts n) (List.replicate (txnRn sts n) (.int .i64 0))) := ownsRow_kept hr2 ha (fun _ _ x => x)
       have HS3 : Hid ((w2.alloc (.cells #[.int .i64 (txnSt sts n), .int .i64 0, .int .i64 0, .bool false, .bool false, .int .i64 0, .slice ra (txnRn sts n) (txnRn sts n), .slice sa 0 0] 69)).ownsRow 0 105 3 (.slice sa 0 0) 0 []) := ownsRow_kept hs2 ha (fun _ _ x => x)
       have HF3 : Hid (∀ k, (Value.slice ra (txnRn sts n) (txnRn sts n)).ownBlock = some k ∨ (Value.slice sa 0 0).ownBlock = some k → W0.heap.size ≤ k) := hf2
       have HD3 : Hid _ := hd2
       clear hP2 hk2 hr2 hs2 hf2 hd2 hx2 hn2 ha x0 n0
       generalize w2.alloc (.cells #[.int .i64 (txnSt sts n), .int .i64 0, .int .i64 0, .bool false, .bool false, .int .i64 0, .slice ra (txnRn sts n) (txnRn sts n), .slice sa 0 0] 69) = W3 at *
       generalize w2.heap.size = V at *)
  all_goals
    have hX3 := HKV.out.heap HX0.out H2.out.2.1
    have HX3 : Hid _ := hX3
    have hO3 := HKV.out.heap HO0.out hSpH
    have x1 : W3.cell? ⟨x, 1, none⟩ = some (.pointer (some ⟨q, 0, none⟩)) := by rw [cell_at hX3]; rfl
    have n1 : W3.cell? ⟨H, 1, none⟩ = some (.int .i64 n) := by rw [cell_at hO3]; rfl
    have hW3 : WInv Sw q c sts W3 := HW0.out.kept HKV.out (fun k hw hp => H7.out.1 k hp hw)
    have HWI3 : Hid (WInv Sw q c sts W3) := hW3
    have HZ3 : Hid (W0.heap.size ≤ W3.heap.size) := HKV.out.size
    have hxV3 : ¬ x = W3.heap.size := fun e => by have := lt_of_block hX3; omega
    have hxV3' : ¬ W3.heap.size = x := fun e => hxV3 e.symm
    have hHV3 : ¬ H = W3.heap.size := fun e => by have := lt_of_block hO3; omega
    have hHV3' : ¬ W3.heap.size = H := fun e => hHV3 e.symm
    have HCA2 : Hid (Calls Tryz.prog 46 #[.pointer (some ⟨q, 0, none⟩), .int .i64 n] W3.drew fun e w' => ∃ rb, e = .returned (.tuple #[.agg #[.int .i64 (txnSt sts n), .int .i64 0, .int .i64 0, .bool false, .bool false, .int .i64 0, .slice rb (txnRn sts n) (txnRn sts n), .slice none 0 0], .int .i64 (txnErr sts n)]) ∧ Kept NoBlk W3 w' ∧ w'.ownsRow 0 3 1 (.slice rb (txnRn sts n) (txnRn sts n)) (txnRn sts n) (List.replicate (txnRn sts n) (.int .i64 0))) := by
      refine (wtxn_ans Sw q c n sts W3.drew (hW3.of_same (Nat.le_refl _) (fun _ _ => rfl))).mono ?_
      rintro e w4 ⟨rb, rfl, hk4, hr4⟩
      exact ⟨rb, rfl, (Kept.refl NoBlk W3).drew.trans' hk4, hr4⟩
    have HCB2 : Hid (Calls Tryz.prog 46 #[.pointer (some ⟨q, 0, none⟩), .int .i64 n] (W3.alloc (.cells #[.int .i64 0, .int .i64 0, .int .i64 0, .bool false, .bool false, .int .i64 0, .slice none 0 0, .slice none 0 0] 69)).drew fun e w' => w'.heap[W3.heap.size]? = some (.cells #[.int .i64 0, .int .i64 0, .int .i64 0, .bool false, .bool false, .int .i64 0, .slice none 0 0, .slice none 0 0] 69 (0, 0)) ∧ ∃ rb, e = .returned (.tuple #[.agg #[.int .i64 (txnSt sts n), .int .i64 0, .int .i64 0, .bool false, .bool false, .int .i64 0, .slice rb (txnRn sts n) (txnRn sts n), .slice none 0 0], .int .i64 (txnErr sts n)]) ∧ Kept NoBlk W3 w' ∧ w'.ownsRow 0 3 1 (.slice rb (txnRn sts n) (txnRn sts n)) (txnRn sts n) (List.replicate (txnRn sts n) (.int .i64 0))) := by
      refine (wtxn_ans Sw q c n sts (W3.alloc (.cells #[.int .i64 0, .int .i64 0, .int .i64 0, .bool false, .bool false, .int .i64 0, .slice none 0 0, .slice none 0 0] 69)).drew (hW3.kept (((Kept.refl NoBlk W3).alloc _).drew) (fun _ _ x => x))).mono ?_
      rintro e w4 ⟨rb, rfl, hk4, hr4⟩
      exact ⟨room_kept hk4 (fun x => x), rb, rfl, (((Kept.refl NoBlk W3).alloc _).drew).trans' hk4, hr4⟩
    clear hX3 hO3 hW3
    go_wp2_with fail
    go_region_held3 (fun w' => w'.cell? ⟨x, 1, none⟩ = some (.pointer (some ⟨q, 0, none⟩)) ∧ w'.cell? ⟨H, 1, none⟩ = some (.int .i64 n))
      (first | with_reducible exact ⟨hx4, hn4⟩ | with_reducible exact ⟨x1, n1⟩ | go_keep)
      (first
        | (go_at_call 46; with_reducible refine HCA2.out.mono ?_; rintro e w4 ⟨rb, rfl, hk4, hr4⟩; have hx4 := hk4.cell0 x1; have hn4 := hk4.cell0 n1)
        | (go_at_call 46; with_reducible refine HCB2.out.mono ?_; rintro e w4 ⟨hv4, rb, rfl, hk4, hr4⟩; have hx4 := hk4.cell0 x1; have hn4 := hk4.cell0 n1; obtain ⟨z0, z1, z2, z3, z4, z5, z6, z7, zf⟩ := room8 hv4))
    all_goals first
      | (have hb := set8_kept w4 W3.heap.size (.int .i64 (txnSt sts n)) (.int .i64 0) (.int .i64 0) (.bool false) (.bool false) (.int .i64 0) (.slice rb (txnRn sts n) (txnRn sts n)) (.slice none 0 0)
         have HV5 : Hid _ := set8_at w4 W3.heap.size (.int .i64 (txnSt sts n)) (.int .i64 0) (.int .i64 0) (.bool false) (.bool false) (.int .i64 0) (.slice rb (txnRn sts n) (txnRn sts n)) (.slice none 0 0) _ _ _ _ _ _ _ _ _ hv4
         have HK5 : Hid (Kept NoBlk W3 (set8 w4 W3.heap.size (.int .i64 (txnSt sts n)) (.int .i64 0) (.int .i64 0) (.bool false) (.bool false) (.int .i64 0) (.slice rb (txnRn sts n) (txnRn sts n)) (.slice none 0 0))) := hk4.trans hb (fun i x => .inr (by cases x; exact Nat.le_refl _))
         have HR5 : Hid ((set8 w4 W3.heap.size (.int .i64 (txnSt sts n)) (.int .i64 0) (.int .i64 0) (.bool false) (.bool false) (.int .i64 0) (.slice rb (txnRn sts n) (txnRn sts n)) (.slice none 0 0)).ownsRow 0 3 1 (.slice rb (txnRn sts n) (txnRn sts n)) (txnRn sts n) (List.replicate (txnRn sts n) (.int .i64 0))) := ownsRow_kept hr4 hb (fun k hk e => by
           obtain ⟨cur, hcur⟩ := ownsRow_block hr4 hk
           exact blocks_apart hcur hv4 (by decide) e)
         rw [show ((((((((w4.setCell ⟨W3.heap.size, 0, none⟩ (.int .i64 (txnSt sts n))).setCell ⟨W3.heap.size, 1, none⟩ (.int .i64 0)).setCell ⟨W3.heap.size, 2, none⟩ (.int .i64 0)).setCell ⟨W3.heap.size, 3, none⟩ (.bool false)).setCell ⟨W3.heap.size, 4, none⟩ (.bool false)).setCell ⟨W3.heap.size, 5, none⟩ (.int .i64 0)).setCell ⟨W3.heap.size, 6, none⟩ (.slice rb (txnRn sts n) (txnRn sts n))).setCell ⟨W3.heap.size, 7, none⟩ (.slice none 0 0)) = set8 w4 W3.heap.size (.int .i64 (txnSt sts n)) (.int .i64 0) (.int .i64 0) (.bool false) (.bool false) (.int .i64 0) (.slice rb (txnRn sts n) (txnRn sts n)) (.slice none 0 0) from rfl]
         clear hk4 hr4 hb hv4 z0 z1 z2 z3 z4 z5 z6 z7 zf x1 n1 hx4 hn4
         generalize set8 w4 W3.heap.size (.int .i64 (txnSt sts n)) (.int .i64 0) (.int .i64 0) (.bool false) (.bool false) (.int .i64 0) (.slice rb (txnRn sts n) (txnRn sts n)) (.slice none 0 0) = W5 at *
         generalize hV5 : W3.heap.size = V5 at HV5 ⊢
         clear hV5)
      | (have ha : Kept NoBlk w4 (w4.alloc (.cells #[.int .i64 (txnSt sts n), .int .i64 0, .int .i64 0, .bool false, .bool false, .int .i64 0, .slice rb (txnRn sts n) (txnRn sts n), .slice none 0 0] 69)) := (Kept.refl _ _).alloc _
         have HV5 : Hid _ := block_alloc_new w4 (.cells #[.int .i64 (txnSt sts n), .int .i64 0, .int .i64 0, .bool false, .bool false, .int .i64 0, .slice rb (txnRn sts n) (txnRn sts n), .slice none 0 0] 69)
         have HK5 : Hid (Kept NoBlk W3 (w4.alloc (.cells #[.int .i64 (txnSt sts n), .int .i64 0, .int .i64 0, .bool false, .bool false, .int .i64 0, .slice rb (txnRn sts n) (txnRn sts n), .slice none 0 0] 69))) := hk4.alloc _
         have HR5 : Hid ((w4.alloc (.cells #[.int .i64 (txnSt sts n), .int .i64 0, .int .i64 0, .bool false, .bool false, .int .i64 0, .slice rb (txnRn sts n) (txnRn sts n), .slice none 0 0] 69)).ownsRow 0 3 1 (.slice rb (txnRn sts n) (txnRn sts n)) (txnRn sts n) (List.replicate (txnRn sts n) (.int .i64 0))) := ownsRow_kept hr4 ha (fun _ _ x => x)
         clear hk4 hr4 ha x1 n1 hx4 hn4
         generalize w4.alloc (.cells #[.int .i64 (txnSt sts n), .int .i64 0, .int .i64 0, .bool false, .bool false, .int .i64 0, .slice rb (txnRn sts n) (txnRn sts n), .slice none 0 0] 69) = W5 at *
         generalize w4.heap.size = V5 at *)
    all_goals
      have hrn : txnRn sts n ≤ 4 := by unfold txnRn; split <;> omega
      generalize txnRn sts n = rn at *
      generalize txnSt sts n = st at *
      generalize txnErr sts n = er at *
      have hV := HK5.out.heap HV.out (fun x => x)
      obtain ⟨a0, a1, a2, a3, a4, a5, a6, a7, _⟩ := room8 hV
      obtain ⟨b0, b1, b2, b3, b4, b5, b6, b7, _⟩ := room8 HV5.out
      have hRa5 : W5.ownsRow 0 3 1 (.slice ra rn rn) rn (List.replicate rn (.int .i64 0)) := ownsRow_kept HR3.out HK5.out (fun _ _ x => x)
      have HST : Hid (Calls Tryz.prog 47 #[.agg #[.int .i64 st, .int .i64 0, .int .i64 0, .bool false, .bool false, .int .i64 0, .slice ra rn rn, .slice sa 0 0], .agg #[.int .i64 st, .int .i64 0, .int .i64 0, .bool false, .bool false, .int .i64 0, .slice rb rn rn, .slice none 0 0]] W5 fun e w' => e = .returned (.bool true) ∧ Kept NoBlk W5 w') := sameTxn_rows st ra rb sa none rn W5 (by omega) hRa5 HR5.out
      have HRa5 : Hid (W5.ownsRow 0 3 1 (.slice ra rn rn) rn (List.replicate rn (.int .i64 0))) := hRa5
      have HV5' : Hid _ := hV
      clear hV hRa5 HCA HCB HCA2 HCB2
      go_wp2_with fail
      with_reducible refine HST.out.mono ?_
      rintro e w6 ⟨rfl, hk6⟩
      have hK36 : Kept NoBlk W3 w6 := HK5.out.trans' hk6
      have hX6 := hK36.heap HX3.out (fun x => x)
      have hV6 := hk6.heap HV5'.out (fun x => x)
      have x2 : w6.cell? ⟨x, 2, none⟩ = some (.pointer (some ⟨o, 0, none⟩)) := by rw [cell_at hX6]; rfl
      have v6 : w6.cell? ⟨V, 6, none⟩ = some (.slice ra rn rn) := by rw [cell_at hV6]; rfl
      have hB6 : BInv T o N M w6 := ((HB0.out.kept HKV.out (fun k ht hs => HD.out k (H7.out.2.1 k hs) ht)).kept hK36 (fun _ _ x => x))
      have hRa6 : w6.ownsRow 0 3 1 (.slice ra rn rn) rn (List.replicate rn (.int .i64 0)) := ownsRow_kept HRa5.out hk6 (fun _ _ x => x)
      have hSa6 : w6.ownsRow 0 105 3 (.slice sa 0 0) 0 [] := ownsRow_kept HS3.out hK36 (fun _ _ x => x)
      have hHw := HH.out
      have hxw := HL.out.1 x H2.out.1
      have hz3 := HZ3.out
      have hz6 : W3.heap.size ≤ w6.heap.size := hK36.size
      have hvs := HVs.out
      have hVl : V < W3.heap.size := lt_of_block HV.out
      have hRaT : ∀ k, (Value.slice ra rn rn).ownBlock = some k → ¬ T k := fun k hk ht => by have := HF3.out k (.inl hk); have := HL.out.2 k ht; omega
      have hxRa : ¬ (T x ∨ (Value.slice ra rn rn).ownBlock = some x) := fun e => by
        rcases e with e | e
        · exact HD.out x H2.out.1 e
        · have := HF3.out x (.inl e); omega
      have hVRa : ¬ (T V ∨ (Value.slice ra rn rn).ownBlock = some V) := fun e => by
        rcases e with e | e
        · have := HL.out.2 V e; omega
        · obtain ⟨cur, hcur⟩ := ownsRow_block hRa6 e
          exact blocks_apart hcur hV6 (by decide) rfl
      have HTI : Hid (Calls Tryz.prog 48 #[.pointer (some ⟨o, 0, none⟩), .slice ra rn rn] w6.drew fun e w' => e = .returned (.tuple #[]) ∧ Kept (fun k => T k ∨ (Value.slice ra rn rn).ownBlock = some k) w6 w' ∧
          ∃ S', BInv S' o (N + 4) M w' ∧ ∀ k, S' k → T k ∨ (Value.slice ra rn rn).ownBlock = some k ∨ w6.heap.size ≤ k) := by
        refine (takeInts_inv T o N M rn ra _ w6.drew (hB6.of_same (Nat.le_refl _) (fun _ _ => rfl)) (by omega) (by omega) hRa6 hRaT).mono ?_
        rintro e w7 ⟨rfl, hk7, T1, hB7, hT1⟩
        exact ⟨rfl, (Kept.refl _ _).drew.trans' hk7, T1, hB7, hT1⟩
      have HX6 : Hid _ := hX6
      have HV6 : Hid _ := hV6
      have HSa6 : Hid (w6.ownsRow 0 105 3 (.slice sa 0 0) 0 []) := hSa6
      have HK36 : Hid _ := hK36
      have HNN : Hid (¬ (T x ∨ (Value.slice ra rn rn).ownBlock = some x) ∧ ¬ (T V ∨ (Value.slice ra rn rn).ownBlock = some V)) := ⟨hxRa, hVRa⟩
      have HNUM : Hid (x < w.heap.size ∧ w.heap.size ≤ W0.heap.size ∧ W0.heap.size ≤ W3.heap.size ∧ W3.heap.size ≤ w6.heap.size ∧ V < W3.heap.size ∧ W0.heap.size ≤ V) := ⟨hxw, hW0, hz3, hz6, hVl, hvs⟩
      clear hK36 hX6 hV6 hB6 hRa6 hSa6 hHw hxw hz3 hz6 hvs hVl hRaT hxRa hVRa hk6 a0 a1 a2 a3 a4 a5 a6 a7 b0 b1 b2 b3 b4 b5 b6 b7 HST
      go_wp2_with fail
      go_region_held3 (fun w' => w'.cell? ⟨x, 2, none⟩ = some (.pointer (some ⟨o, 0, none⟩)) ∧ w'.cell? ⟨V, 6, none⟩ = some (.slice ra rn rn))
        (first | with_reducible exact ⟨hx7, hv7⟩ | with_reducible exact ⟨x2, v6⟩ | go_keep)
        (first
          | (go_at_call 48; with_reducible refine HTI.out.mono ?_; rintro e w7 ⟨rfl, hk7, T1, hB7, hT1⟩; have hx7 := hk7.cell x2 HNN.out.1; have hv7 := hk7.cell v6 HNN.out.2))
      have hX7 := hk7.heap HX6.out HNN.out.1
      have hV7 := hk7.heap HV6.out HNN.out.2
      have x3 : w7.cell? ⟨x, 2, none⟩ = some (.pointer (some ⟨o, 0, none⟩)) := by rw [cell_at hX7]; rfl
      have v7 : w7.cell? ⟨V, 7, none⟩ = some (.slice sa 0 0) := by rw [cell_at hV7]; rfl
      have hSa7 : w7.ownsRow 0 105 3 (.slice sa 0 0) 0 [] := ownsRow_kept HSa6.out hk7 (fun k hk e => by
        rcases e with e | e
        · have := HF3.out k (.inr hk); have := HL.out.2 k e; have := HNUM.out; omega
        · exact HD3.out k e hk)
      have hz7 : w6.heap.size ≤ w7.heap.size := hk7.size
      have hxT1 : ¬ T1 x := fun e => by
        rcases hT1 x e with e | e | e
        · exact HNN.out.1 (.inl e)
        · exact HNN.out.1 (.inr e)
        · have := HNUM.out; omega
      have hVT1 : ¬ T1 V := fun e => by
        rcases hT1 V e with e | e | e
        · exact HNN.out.2 (.inl e)
        · exact HNN.out.2 (.inr e)
        · have := HNUM.out; omega
      have HTS : Hid (Calls Tryz.prog 49 #[.pointer (some ⟨o, 0, none⟩), .slice sa 0 0] w7.drew fun e w' => e = .returned (.tuple #[]) ∧ Kept T1 w7 w' ∧
          ∃ S', BInv S' o (N + 4) (M + 4) w' ∧ ∀ k, S' k → T1 k ∨ (Value.slice sa 0 0).ownBlock = some k ∨ w7.heap.size ≤ k) := by
        refine (takeSeen_inv T1 o (N + 4) M sa w7.drew (hB7.of_same (Nat.le_refl _) (fun _ _ => rfl)) (by omega) hSa7).mono ?_
        rintro e w8 ⟨rfl, hk8, T2, hB8, hT2⟩
        exact ⟨rfl, (Kept.refl _ _).drew.trans' hk8, T2, hB8, hT2⟩
      have HX7 : Hid _ := hX7
      have HT1 : Hid _ := hT1
      have HK7 : Hid _ := hk7
      have HN1 : Hid (¬ T1 x ∧ ¬ T1 V) := ⟨hxT1, hVT1⟩
      have HZ7 : Hid _ := hz7
      clear hX7 hV7 hSa7 hz7 hxT1 hVT1 hk7 hB7 hT1 x2 v6 hx7 hv7 HTI
      go_wp2_with fail
      go_region_held3 (fun w' => w'.cell? ⟨x, 2, none⟩ = some (.pointer (some ⟨o, 0, none⟩)) ∧ w'.cell? ⟨V, 7, none⟩ = some (.slice sa 0 0))
        (first | with_reducible exact ⟨hx8, hv8⟩ | with_reducible exact ⟨x3, v7⟩ | go_keep)
        (first
          | (go_at_call 49; with_reducible refine HTS.out.mono ?_; rintro e w8 ⟨rfl, hk8, T2, hB8, hT2⟩; have hx8 := hk8.cell x3 HN1.out.1; have hv8 := hk8.cell v7 HN1.out.2))
      have HB8 : Hid (BInv T2 o (N + 4) (M + 4) w8) := hB8
      have HK8 : Hid _ := hk8
      have HT2 : Hid _ := hT2
      clear hB8 hk8 hT2 x3 v7 hx8 hv8 HTS
      have ee : (er == er) = true := by simp
      go_wp2_with fail
      go_ret
      have hnum := HNUM.out
      have hz7 := HZ7.out
      have hSlt : ∀ k, S k → k < w.heap.size := HL.out.1
      have hST7 : ∀ k, S k → ¬ (T k ∨ (Value.slice ra rn rn).ownBlock = some k) := fun k hs e => by
        rcases e with e | e
        · exact HD.out k hs e
        · have := HF3.out k (.inl e); have := hSlt k hs; omega
      have hST8 : ∀ k, S k → ¬ T1 k := fun k hs e => by
        rcases HT1.out k e with e | e | e
        · exact HD.out k hs e
        · have := HF3.out k (.inl e); have := hSlt k hs; omega
        · have := hSlt k hs; omega
      have hX8 := HK8.out.heap HX7.out HN1.out.1
      have hP8 := ((HP3.out.kept HK36.out (fun _ _ x => x)).kept HK7.out (fun k hs => hST7 k (H7.out.2.1 k hs))).kept HK8.out (fun k hs => hST8 k (H7.out.2.1 k hs))
      have hW8 := ((HWI3.out.kept HK36.out (fun _ _ x => x)).kept HK7.out (fun k hs => hST7 k (H7.out.2.2 k hs))).kept HK8.out (fun k hs => hST8 k (H7.out.2.2 k hs))
      have hKa : Kept (fun k => S k ∨ T k) w w8 := by
        refine ((((HK0.out.mono (fun _ x => x.elim)).trans (HKV.out) (fun k x => .inl (.inl (H7.out.2.1 k x)))).trans HK36.out (fun _ x => x.elim)).trans HK7.out ?_).trans HK8.out ?_
        · intro k e
          rcases e with e | e
          · exact .inl (.inr e)
          · right; have := HF3.out k (.inl e); omega
        · intro k e
          rcases HT1.out k e with e | e | e
          · exact .inl (.inr e)
          · right; have := HF3.out k (.inl e); omega
          · right; omega
      refine ⟨ret_boolT (by simp), hKa, ⟨fun k hk => Nat.lt_of_lt_of_le (hSlt k hk) hKa.size, Sp, Sw, hX8, H2.out.1, H2.out.2.1, H2.out.2.2, hP8, hW8, H7.out.1, H7.out.2.1, H7.out.2.2⟩, T2, HB8.out, ?_⟩
      intro k hk
      rcases HT2.out k hk with e | e | e
      · rcases HT1.out k e with e | e | e
        · exact .inl e
        · right; have := HF3.out k (.inl e); omega
        · right; omega
      · right; have := HF3.out k (.inr e); omega
      · right; omega
end Go.Proofs.YtmcajfefagdbnaaGreat
