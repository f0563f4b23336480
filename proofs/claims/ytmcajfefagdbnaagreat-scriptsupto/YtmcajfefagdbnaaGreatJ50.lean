import Derived.Test.YtmcajfefagdbnaaGreatJ48
import Derived.Test.YtmcajfefagdbnaaGreatJ49
import Derived.Test.YtmcajfefagdbnaaGreatJ31
namespace Go.Proofs.YtmcajfefagdbnaaGreat
open Go Go.RowKit
attribute [local go_sem ↓] Go.wp_at_zero Go.wp_at_succ
theorem room8t {w : World} {V : Nat} {y0 y1 y2 y3 y4 y5 y6 y7 : Value} {t : TypeId} (h : w.heap[V]? = some (.cells #[y0, y1, y2, y3, y4, y5, y6, y7] t (0, 0))) :
  w.cell? ⟨V, 0, none⟩ = some y0 ∧ w.cell? ⟨V, 1, none⟩ = some y1 ∧ w.cell? ⟨V, 2, none⟩ = some y2 ∧ w.cell? ⟨V, 3, none⟩ = some y3 ∧ w.cell? ⟨V, 4, none⟩ = some y4 ∧ w.cell? ⟨V, 5, none⟩ = some y5 ∧ w.cell? ⟨V, 6, none⟩ = some y6 ∧ w.cell? ⟨V, 7, none⟩ = some y7 ∧ ∀ o, w.frozen? ⟨V, o, none⟩ = false := by
 refine ⟨?_, ?_, ?_, ?_, ?_, ?_, ?_, ?_, fun o => frozen_at h o⟩ <;> (rw [cell_at h]; rfl)
def zTx : Obj := .cells #[.int .i64 0, .int .i64 0, .int .i64 0, .bool false, .bool false, .int .i64 0, .slice none 0 0, .slice none 0 0] 69 (0, 0)
theorem room_keptT {S : Nat → Prop} {W0 w2 : World} (hk : Kept S (W0.alloc zTx).drew w2) (hV : ¬ S W0.heap.size) : w2.heap[W0.heap.size]? = some zTx := hk.heap (b := W0.heap.size) (show (W0.alloc zTx).drew.heap[W0.heap.size]? = some zTx from block_alloc_new W0 zTx) hV
set_option maxRecDepth 100000 in
set_option maxHeartbeats 12800000 in
theorem play_txn4 (x p q o N0 j J : Nat) (S T : Nat → Prop) (n z : Int) (ao : Option Addr) (k kc : Nat) (s : St) (cl : List Cl) (w : World) (h : Pair x p q o S N0 j s cl w) (hB : Books T o J w) (hd : Disj S T) (hj : j ≤ 1048576) (hJ : J ≤ 1099511000000) :
    Calls Tryz.prog 16 #[.pointer (some ⟨x, 0, none⟩), .agg #[.int .i64 5, .int .i64 n, .int .i64 z, .slice ao k kc]] w fun e w' => e = .returned (.bool true) ∧ ToldAft x p q o S T N0 j J s cl w w' := by
  obtain ⟨Sp, Sw, h1, h2, h3, h4, h5, h6, h7, h8, h9⟩ := h.body
  have HQ : Hid (Pair x p q o S N0 j s cl w ∧ Books T o J w ∧ Disj S T) := ⟨h, hB, hd⟩
  have HTL : Hid ((told s n).rg.length ≤ 4 ∧ (told s n).rd.length ≤ 12) := told_len h5.fine n
  have hsn : s.n ≤ 1048576 := by have := h5.fine.n; omega
  have hk0 : Kept NoBlk w (w.alloc (.cells #[.int .i64 5, .int .i64 n, .int .i64 z, .slice ao k kc] 41)) := (Kept.refl _ _).alloc _
  have HX0 : Hid _ := hk0.heap h1 (fun x => x)
  have HO0 : Hid ((w.alloc (.cells #[.int .i64 5, .int .i64 n, .int .i64 z, .slice ao k kc] 41)).heap[w.heap.size]? = some (.cells #[.int .i64 5, .int .i64 n, .int .i64 z, .slice ao k kc] 41 (0, 0))) := block_alloc_new w _
  have HP0 : Hid (PI Sp p N0 j s (w.alloc (.cells #[.int .i64 5, .int .i64 n, .int .i64 z, .slice ao k kc] 41))) := h5.kept hk0 (fun _ _ x => x)
  have HW0 : Hid (WI Sw q N0 j s cl (w.alloc (.cells #[.int .i64 5, .int .i64 n, .int .i64 z, .slice ao k kc] 41))) := h6.kept hk0 (fun _ _ x => x)
  have HK0 : Hid _ := hk0
  have H2 : Hid (S x ∧ ¬ Sp x ∧ ¬ Sw x) := ⟨h2, h3, h4⟩
  have H7 : Hid (Disj Sp Sw ∧ (∀ k, Sp k → S k) ∧ (∀ k, Sw k → S k)) := ⟨h7, h8, h9⟩
  have HPC : Hid (∀ W, PI Sp p N0 j s W → Calls Tryz.prog 23 #[.pointer (some ⟨p, 0, none⟩), .int .i64 n] W _) := fun W hW => pi_txn hW n
  have HWC : Hid (∀ W, WI Sw q N0 j s cl W → Calls Tryz.prog 46 #[.pointer (some ⟨q, 0, none⟩), .int .i64 n] W _) := fun W hW => wi_txn hW n hsn
  generalize told s n = tv at HPC HWC HTL
  obtain ⟨st, sz, ne, ag, wo, wa, rg, rd, er⟩ := tv
  clear h h1 h2 h3 h4 h5 h6 h7 h8 h9 hk0 hB hd hsn
  go_enter Tryz.func16, Tryz.ntmps16
  go_wp2_with fail
  generalize w.alloc (.cells #[.int .i64 5, .int .i64 n, .int .i64 z, .slice ao k kc] 41) = W0 at *
  generalize hH : w.heap.size = H at HO0 ⊢
  have HH : Hid _ := hH
  clear hH
  have hSpH : ¬ Sp H := fun hs => by have := HQ.out.1.lt H (H7.out.2.1 H hs); have := HH.out; omega
  have hW0 : w.heap.size ≤ W0.heap.size := HK0.out.size
  have hSpV : ¬ Sp W0.heap.size := fun hs => by have := HQ.out.1.lt _ (H7.out.2.1 _ hs); omega
  have x0 : W0.cell? ⟨x, 0, none⟩ = some (.pointer (some ⟨p, 0, none⟩)) := by rw [cell_at HX0.out]; rfl
  have n0 : W0.cell? ⟨H, 1, none⟩ = some (.int .i64 n) := by rw [cell_at HO0.out]; rfl
  have hxV : ¬ x = W0.heap.size := fun e => by have := lt_of_block HX0.out; omega
  have hxV' : ¬ W0.heap.size = x := fun e => hxV e.symm
  have hHV : ¬ H = W0.heap.size := fun e => by have := lt_of_block HO0.out; omega
  have hHV' : ¬ W0.heap.size = H := fun e => hHV e.symm
  have HCA : Hid (Calls Tryz.prog 23 #[.pointer (some ⟨p, 0, none⟩), .int .i64 n] W0.drew fun e w' => ∃ ra sa, e = .returned (.tuple #[.agg #[.int .i64 st, .int .i64 sz, .int .i64 ne, .bool wo, .bool wa, .int .i64 ag, .slice ra rg.length rg.length, .slice sa rd.length rd.length], .int .i64 er]) ∧ RowAt w' 3 1 (.slice ra rg.length rg.length) rg.length (iCells rg) ∧ RowAt w' 105 3 (.slice sa rd.length rd.length) rd.length (sawCells rd) ∧ (∀ k, (Value.slice ra rg.length rg.length).ownBlock = some k ∨ (Value.slice sa rd.length rd.length).ownBlock = some k → W0.heap.size ≤ k) ∧ PI Sp p N0 j s w' ∧ Kept Sp W0 w') := by
    refine (HPC.out W0.drew (HP0.out.kept ((Kept.refl NoBlk W0).drew) (fun _ _ x => x))).mono ?_
    rintro e w2 ⟨ra, sa, rfl, hr2, hs2, hf2, hP2, hk2⟩
    exact ⟨ra, sa, rfl, hr2, hs2, hf2, hP2, (Kept.refl Sp W0).drew.trans' hk2⟩
  have HCB : Hid (Calls Tryz.prog 23 #[.pointer (some ⟨p, 0, none⟩), .int .i64 n] (W0.alloc (.cells #[.int .i64 0, .int .i64 0, .int .i64 0, .bool false, .bool false, .int .i64 0, .slice none 0 0, .slice none 0 0] 69)).drew fun e w' => w'.heap[W0.heap.size]? = some (.cells #[.int .i64 0, .int .i64 0, .int .i64 0, .bool false, .bool false, .int .i64 0, .slice none 0 0, .slice none 0 0] 69 (0, 0)) ∧ ∃ ra sa, e = .returned (.tuple #[.agg #[.int .i64 st, .int .i64 sz, .int .i64 ne, .bool wo, .bool wa, .int .i64 ag, .slice ra rg.length rg.length, .slice sa rd.length rd.length], .int .i64 er]) ∧ RowAt w' 3 1 (.slice ra rg.length rg.length) rg.length (iCells rg) ∧ RowAt w' 105 3 (.slice sa rd.length rd.length) rd.length (sawCells rd) ∧ (∀ k, (Value.slice ra rg.length rg.length).ownBlock = some k ∨ (Value.slice sa rd.length rd.length).ownBlock = some k → W0.heap.size + 1 ≤ k) ∧ PI Sp p N0 j s w' ∧ Kept Sp W0 w') := by
    have ha : Kept Sp W0 (W0.alloc (.cells #[.int .i64 0, .int .i64 0, .int .i64 0, .bool false, .bool false, .int .i64 0, .slice none 0 0, .slice none 0 0] 69)).drew := ((Kept.refl Sp W0).alloc _).drew
    refine (HPC.out (W0.alloc (.cells #[.int .i64 0, .int .i64 0, .int .i64 0, .bool false, .bool false, .int .i64 0, .slice none 0 0, .slice none 0 0] 69)).drew (HP0.out.kept (((Kept.refl NoBlk W0).alloc _).drew) (fun _ _ x => x))).mono ?_
    rintro e w2 ⟨ra, sa, rfl, hr2, hs2, hf2, hP2, hk2⟩
    refine ⟨room_keptT hk2 hSpV, ra, sa, rfl, hr2, hs2, fun k hk => ?_, hP2, ha.trans' hk2⟩
    have := hf2 k hk
    rw [show (W0.alloc (.cells #[.int .i64 0, .int .i64 0, .int .i64 0, .bool false, .bool false, .int .i64 0, .slice none 0 0, .slice none 0 0] 69)).drew.heap.size = W0.heap.size + 1 from by simp] at this
    exact this
  clear HPC
  go_region_held3 (fun w' => w'.cell? ⟨x, 0, none⟩ = some (.pointer (some ⟨p, 0, none⟩)) ∧ w'.cell? ⟨H, 1, none⟩ = some (.int .i64 n))
    (first | with_reducible exact ⟨hx2, hn2⟩ | with_reducible exact ⟨x0, n0⟩ | go_keep)
    (first
      | (go_at_call 23; with_reducible refine HCA.out.mono ?_; rintro e w2 ⟨ra, sa, rfl, hr2, hs2, hf2, hP2, hk2⟩; have hx2 := hk2.cell x0 H2.out.2.1; have hn2 := hk2.cell n0 hSpH)
      | (go_at_call 23; with_reducible refine HCB.out.mono ?_; rintro e w2 ⟨hv2, ra, sa, rfl, hr2, hs2, hf2, hP2, hk2⟩; have hx2 := hk2.cell x0 H2.out.2.1; have hn2 := hk2.cell n0 hSpH; obtain ⟨z0, z1, z2, z3, z4, z5, z6, z7, zf⟩ := room8t hv2))
  all_goals first
    | (have hb := set8_kept w2 W0.heap.size (.int .i64 st) (.int .i64 sz) (.int .i64 ne) (.bool wo) (.bool wa) (.int .i64 ag) (.slice ra rg.length rg.length) (.slice sa rd.length rd.length)
       have HV : Hid _ := set8_at w2 W0.heap.size (.int .i64 st) (.int .i64 sz) (.int .i64 ne) (.bool wo) (.bool wa) (.int .i64 ag) (.slice ra rg.length rg.length) (.slice sa rd.length rd.length) _ _ _ _ _ _ _ _ _ hv2
       have HKV : Hid (Kept Sp W0 (set8 w2 W0.heap.size (.int .i64 st) (.int .i64 sz) (.int .i64 ne) (.bool wo) (.bool wa) (.int .i64 ag) (.slice ra rg.length rg.length) (.slice sa rd.length rd.length))) := hk2.trans hb (fun i x => .inr (by cases x; exact Nat.le_refl _))
       have HP3 : Hid (PI Sp p N0 j s (set8 w2 W0.heap.size (.int .i64 st) (.int .i64 sz) (.int .i64 ne) (.bool wo) (.bool wa) (.int .i64 ag) (.slice ra rg.length rg.length) (.slice sa rd.length rd.length))) := hP2.kept hb (fun k hs e => hSpV (by cases e; exact hs))
       have HR3 : Hid (RowAt (set8 w2 W0.heap.size (.int .i64 st) (.int .i64 sz) (.int .i64 ne) (.bool wo) (.bool wa) (.int .i64 ag) (.slice ra rg.length rg.length) (.slice sa rd.length rd.length)) 3 1 (.slice ra rg.length rg.length) rg.length (iCells rg)) := hr2.kept hb (fun k hk e => by have := hf2 k (.inl hk); unfold Blk at e; omega)
       have HS3 : Hid (RowAt (set8 w2 W0.heap.size (.int .i64 st) (.int .i64 sz) (.int .i64 ne) (.bool wo) (.bool wa) (.int .i64 ag) (.slice ra rg.length rg.length) (.slice sa rd.length rd.length)) 105 3 (.slice sa rd.length rd.length) rd.length (sawCells rd)) := hs2.kept hb (fun k hk e => by have := hf2 k (.inr hk); unfold Blk at e; omega)
       have HF3 : Hid (∀ k, (Value.slice ra rg.length rg.length).ownBlock = some k ∨ (Value.slice sa rd.length rd.length).ownBlock = some k → W0.heap.size ≤ k) := fun k hk => by have := hf2 k hk; omega
       rw [show ((((((((w2.setCell ⟨W0.heap.size, 0, none⟩ (.int .i64 st)).setCell ⟨W0.heap.size, 1, none⟩ (.int .i64 sz)).setCell ⟨W0.heap.size, 2, none⟩ (.int .i64 ne)).setCell ⟨W0.heap.size, 3, none⟩ (.bool wo)).setCell ⟨W0.heap.size, 4, none⟩ (.bool wa)).setCell ⟨W0.heap.size, 5, none⟩ (.int .i64 ag)).setCell ⟨W0.heap.size, 6, none⟩ (.slice ra rg.length rg.length)).setCell ⟨W0.heap.size, 7, none⟩ (.slice sa rd.length rd.length)) = set8 w2 W0.heap.size (.int .i64 st) (.int .i64 sz) (.int .i64 ne) (.bool wo) (.bool wa) (.int .i64 ag) (.slice ra rg.length rg.length) (.slice sa rd.length rd.length) from rfl]
       clear hP2 hk2 hr2 hs2 hf2 hx2 hn2 hb hv2 z0 z1 z2 z3 z4 z5 z6 z7 zf x0 n0
       generalize set8 w2 W0.heap.size (.int .i64 st) (.int .i64 sz) (.int .i64 ne) (.bool wo) (.bool wa) (.int .i64 ag) (.slice ra rg.length rg.length) (.slice sa rd.length rd.length) = W3 at *
       generalize hVV : W0.heap.size = V at HV ⊢
       have HVs : Hid (W0.heap.size ≤ V) := Nat.le_of_eq hVV
       clear hVV)
    | (have ha : Kept NoBlk w2 (w2.alloc (.cells #[.int .i64 st, .int .i64 sz, .int .i64 ne, .bool wo, .bool wa, .int .i64 ag, .slice ra rg.length rg.length, .slice sa rd.length rd.length] 69)) := (Kept.refl _ _).alloc _
       have HV : Hid _ := block_alloc_new w2 (.cells #[.int .i64 st, .int .i64 sz, .int .i64 ne, .bool wo, .bool wa, .int .i64 ag, .slice ra rg.length rg.length, .slice sa rd.length rd.length] 69)
       have HVs : Hid (W0.heap.size ≤ w2.heap.size) := hk2.size
       have HKV : Hid (Kept Sp W0 (w2.alloc (.cells #[.int .i64 st, .int .i64 sz, .int .i64 ne, .bool wo, .bool wa, .int .i64 ag, .slice ra rg.length rg.length, .slice sa rd.length rd.length] 69))) := hk2.alloc _
       have HP3 : Hid (PI Sp p N0 j s (w2.alloc (.cells #[.int .i64 st, .int .i64 sz, .int .i64 ne, .bool wo, .bool wa, .int .i64 ag, .slice ra rg.length rg.length, .slice sa rd.length rd.length] 69))) := hP2.kept ha (fun _ _ x => x)
       have HR3 : Hid (RowAt (w2.alloc (.cells #[.int .i64 st, .int .i64 sz, .int .i64 ne, .bool wo, .bool wa, .int .i64 ag, .slice ra rg.length rg.length, .slice sa rd.length rd.length] 69)) 3 1 (.slice ra rg.length rg.length) rg.length (iCells rg)) := hr2.kept ha (fun _ _ x => x)
       have HS3 : Hid (RowAt (w2.alloc (.cells #[.int .i64 st, .int .i64 sz, .int .i64 ne, .bool wo, .bool wa, .int .i64 ag, .slice ra rg.length rg.length, .slice sa rd.length rd.length] 69)) 105 3 (.slice sa rd.length rd.length) rd.length (sawCells rd)) := hs2.kept ha (fun _ _ x => x)
       have HF3 : Hid (∀ k, (Value.slice ra rg.length rg.length).ownBlock = some k ∨ (Value.slice sa rd.length rd.length).ownBlock = some k → W0.heap.size ≤ k) := hf2
       clear hP2 hk2 hr2 hs2 hf2 hx2 hn2 ha x0 n0
       generalize w2.alloc (.cells #[.int .i64 st, .int .i64 sz, .int .i64 ne, .bool wo, .bool wa, .int .i64 ag, .slice ra rg.length rg.length, .slice sa rd.length rd.length] 69) = W3 at *
       generalize w2.heap.size = V at *)
  all_goals
    have hX3 := HKV.out.heap HX0.out H2.out.2.1
    have HX3 : Hid _ := hX3
    have hO3 := HKV.out.heap HO0.out hSpH
    have x1 : W3.cell? ⟨x, 1, none⟩ = some (.pointer (some ⟨q, 0, none⟩)) := by rw [cell_at hX3]; rfl
    have n1 : W3.cell? ⟨H, 1, none⟩ = some (.int .i64 n) := by rw [cell_at hO3]; rfl
    have hW3 : WI Sw q N0 j s cl W3 := HW0.out.kept HKV.out (fun k hw hp => H7.out.1 k hp hw)
    have HZ3 : Hid (W0.heap.size ≤ W3.heap.size) := HKV.out.size
    have hxV3 : ¬ x = W3.heap.size := fun e => by have := lt_of_block hX3; omega
    have hxV3' : ¬ W3.heap.size = x := fun e => hxV3 e.symm
    have hHV3 : ¬ H = W3.heap.size := fun e => by have := lt_of_block hO3; omega
    have hHV3' : ¬ W3.heap.size = H := fun e => hHV3 e.symm
    have HCA2 : Hid (Calls Tryz.prog 46 #[.pointer (some ⟨q, 0, none⟩), .int .i64 n] W3.drew fun e w' => ∃ rb rc sb sc, e = .returned (.tuple #[.agg #[.int .i64 st, .int .i64 sz, .int .i64 ne, .bool wo, .bool wa, .int .i64 ag, .slice rb rg.length rc, .slice sb rd.length sc], .int .i64 er]) ∧ RowAt w' 3 1 (.slice rb rg.length rc) rg.length (iCells rg) ∧ RowAt w' 105 3 (.slice sb rd.length sc) rd.length (sawCells rd) ∧ Kept NoBlk W3 w') := by
      refine (HWC.out W3.drew (hW3.kept ((Kept.refl NoBlk W3).drew) (fun _ _ x => x))).mono ?_
      rintro e w4 ⟨rb, rc, sb, sc, rfl, hr4, hs4, hk4⟩
      exact ⟨rb, rc, sb, sc, rfl, hr4, hs4, (Kept.refl NoBlk W3).drew.trans' hk4⟩
    have HCB2 : Hid (Calls Tryz.prog 46 #[.pointer (some ⟨q, 0, none⟩), .int .i64 n] (W3.alloc (.cells #[.int .i64 0, .int .i64 0, .int .i64 0, .bool false, .bool false, .int .i64 0, .slice none 0 0, .slice none 0 0] 69)).drew fun e w' => w'.heap[W3.heap.size]? = some (.cells #[.int .i64 0, .int .i64 0, .int .i64 0, .bool false, .bool false, .int .i64 0, .slice none 0 0, .slice none 0 0] 69 (0, 0)) ∧ ∃ rb rc sb sc, e = .returned (.tuple #[.agg #[.int .i64 st, .int .i64 sz, .int .i64 ne, .bool wo, .bool wa, .int .i64 ag, .slice rb rg.length rc, .slice sb rd.length sc], .int .i64 er]) ∧ RowAt w' 3 1 (.slice rb rg.length rc) rg.length (iCells rg) ∧ RowAt w' 105 3 (.slice sb rd.length sc) rd.length (sawCells rd) ∧ Kept NoBlk W3 w') := by
      refine (HWC.out (W3.alloc (.cells #[.int .i64 0, .int .i64 0, .int .i64 0, .bool false, .bool false, .int .i64 0, .slice none 0 0, .slice none 0 0] 69)).drew (hW3.kept (((Kept.refl NoBlk W3).alloc _).drew) (fun _ _ x => x))).mono ?_
      rintro e w4 ⟨rb, rc, sb, sc, rfl, hr4, hs4, hk4⟩
      exact ⟨room_keptT hk4 (fun x => x), rb, rc, sb, sc, rfl, hr4, hs4, (((Kept.refl NoBlk W3).alloc _).drew).trans' hk4⟩
    clear hX3 hO3 hW3 HWC
    go_wp2_with fail
    go_region_held3 (fun w' => w'.cell? ⟨x, 1, none⟩ = some (.pointer (some ⟨q, 0, none⟩)) ∧ w'.cell? ⟨H, 1, none⟩ = some (.int .i64 n))
      (first | with_reducible exact ⟨hx4, hn4⟩ | with_reducible exact ⟨x1, n1⟩ | go_keep)
      (first
        | (go_at_call 46; with_reducible refine HCA2.out.mono ?_; rintro e w4 ⟨rb, rc, sb, sc, rfl, hr4, hs4, hk4⟩; have hx4 := hk4.cell0 x1; have hn4 := hk4.cell0 n1)
        | (go_at_call 46; with_reducible refine HCB2.out.mono ?_; rintro e w4 ⟨hv4, rb, rc, sb, sc, rfl, hr4, hs4, hk4⟩; have hx4 := hk4.cell0 x1; have hn4 := hk4.cell0 n1; obtain ⟨z0, z1, z2, z3, z4, z5, z6, z7, zf⟩ := room8t hv4))
    all_goals first
      | (have hb := set8_kept w4 W3.heap.size (.int .i64 st) (.int .i64 sz) (.int .i64 ne) (.bool wo) (.bool wa) (.int .i64 ag) (.slice rb rg.length rc) (.slice sb rd.length sc)
         have HV5 : Hid _ := set8_at w4 W3.heap.size (.int .i64 st) (.int .i64 sz) (.int .i64 ne) (.bool wo) (.bool wa) (.int .i64 ag) (.slice rb rg.length rc) (.slice sb rd.length sc) _ _ _ _ _ _ _ _ _ hv4
         have HK5 : Hid (Kept NoBlk W3 (set8 w4 W3.heap.size (.int .i64 st) (.int .i64 sz) (.int .i64 ne) (.bool wo) (.bool wa) (.int .i64 ag) (.slice rb rg.length rc) (.slice sb rd.length sc))) := hk4.trans hb (fun i x => .inr (by cases x; exact Nat.le_refl _))
         have HR5 : Hid (RowAt (set8 w4 W3.heap.size (.int .i64 st) (.int .i64 sz) (.int .i64 ne) (.bool wo) (.bool wa) (.int .i64 ag) (.slice rb rg.length rc) (.slice sb rd.length sc)) 3 1 (.slice rb rg.length rc) rg.length (iCells rg)) := hr4.kept hb (fun k hk e => by
           obtain ⟨cur, hcur⟩ := hr4.block hk
           exact blocks_apart hcur hv4 (by decide) e)
         have HS5 : Hid (RowAt (set8 w4 W3.heap.size (.int .i64 st) (.int .i64 sz) (.int .i64 ne) (.bool wo) (.bool wa) (.int .i64 ag) (.slice rb rg.length rc) (.slice sb rd.length sc)) 105 3 (.slice sb rd.length sc) rd.length (sawCells rd)) := hs4.kept hb (fun k hk e => by
           obtain ⟨cur, hcur⟩ := hs4.block hk
           exact blocks_apart hcur hv4 (by decide) e)
         rw [show ((((((((w4.setCell ⟨W3.heap.size, 0, none⟩ (.int .i64 st)).setCell ⟨W3.heap.size, 1, none⟩ (.int .i64 sz)).setCell ⟨W3.heap.size, 2, none⟩ (.int .i64 ne)).setCell ⟨W3.heap.size, 3, none⟩ (.bool wo)).setCell ⟨W3.heap.size, 4, none⟩ (.bool wa)).setCell ⟨W3.heap.size, 5, none⟩ (.int .i64 ag)).setCell ⟨W3.heap.size, 6, none⟩ (.slice rb rg.length rc)).setCell ⟨W3.heap.size, 7, none⟩ (.slice sb rd.length sc)) = set8 w4 W3.heap.size (.int .i64 st) (.int .i64 sz) (.int .i64 ne) (.bool wo) (.bool wa) (.int .i64 ag) (.slice rb rg.length rc) (.slice sb rd.length sc) from rfl]
         clear hk4 hr4 hs4 hb hv4 z0 z1 z2 z3 z4 z5 z6 z7 zf x1 n1 hx4 hn4
         generalize set8 w4 W3.heap.size (.int .i64 st) (.int .i64 sz) (.int .i64 ne) (.bool wo) (.bool wa) (.int .i64 ag) (.slice rb rg.length rc) (.slice sb rd.length sc) = W5 at *
         generalize hV5 : W3.heap.size = V5 at HV5 ⊢
         clear hV5)
      | (have ha : Kept NoBlk w4 (w4.alloc (.cells #[.int .i64 st, .int .i64 sz, .int .i64 ne, .bool wo, .bool wa, .int .i64 ag, .slice rb rg.length rc, .slice sb rd.length sc] 69)) := (Kept.refl _ _).alloc _
         have HV5 : Hid _ := block_alloc_new w4 (.cells #[.int .i64 st, .int .i64 sz, .int .i64 ne, .bool wo, .bool wa, .int .i64 ag, .slice rb rg.length rc, .slice sb rd.length sc] 69)
         have HK5 : Hid (Kept NoBlk W3 (w4.alloc (.cells #[.int .i64 st, .int .i64 sz, .int .i64 ne, .bool wo, .bool wa, .int .i64 ag, .slice rb rg.length rc, .slice sb rd.length sc] 69))) := hk4.alloc _
         have HR5 : Hid (RowAt (w4.alloc (.cells #[.int .i64 st, .int .i64 sz, .int .i64 ne, .bool wo, .bool wa, .int .i64 ag, .slice rb rg.length rc, .slice sb rd.length sc] 69)) 3 1 (.slice rb rg.length rc) rg.length (iCells rg)) := hr4.kept ha (fun _ _ x => x)
         have HS5 : Hid (RowAt (w4.alloc (.cells #[.int .i64 st, .int .i64 sz, .int .i64 ne, .bool wo, .bool wa, .int .i64 ag, .slice rb rg.length rc, .slice sb rd.length sc] 69)) 105 3 (.slice sb rd.length sc) rd.length (sawCells rd)) := hs4.kept ha (fun _ _ x => x)
         clear hk4 hr4 hs4 ha x1 n1 hx4 hn4
         generalize w4.alloc (.cells #[.int .i64 st, .int .i64 sz, .int .i64 ne, .bool wo, .bool wa, .int .i64 ag, .slice rb rg.length rc, .slice sb rd.length sc] 69) = W5 at *
         generalize w4.heap.size = V5 at *)
    all_goals
      have hV := HK5.out.heap HV.out (fun x => x)
      obtain ⟨a0, a1, a2, a3, a4, a5, a6, a7, _⟩ := room8t hV
      obtain ⟨b0, b1, b2, b3, b4, b5, b6, b7, _⟩ := room8t HV5.out
      have htl1 : rg.length ≤ 4 := HTL.out.1
      have htl2 : rd.length ≤ 12 := HTL.out.2
      have hRa5 := HR3.out.kept HK5.out (fun _ _ x => x)
      have hSa5 := HS3.out.kept HK5.out (fun _ _ x => x)
      have HST : Hid (Calls Tryz.prog 47 #[.agg #[.int .i64 st, .int .i64 sz, .int .i64 ne, .bool wo, .bool wa, .int .i64 ag, .slice ra rg.length rg.length, .slice sa rd.length rd.length], .agg #[.int .i64 st, .int .i64 sz, .int .i64 ne, .bool wo, .bool wa, .int .i64 ag, .slice rb rg.length rc, .slice sb rd.length sc]] W5 fun e w' => e = .returned (.bool true) ∧ Kept NoBlk W5 w') := by
        refine sameTxn_true st sz ne ag wo wa _ _ _ _ W5 (fun W hk => ?_) (fun W hk => ?_)
        · exact sameInts_row _ _ rg.length (iCells rg) (fun k => rg.getD k 0) W (by omega) (hRa5.kept hk (fun _ _ x => x)) (HR5.out.kept hk (fun _ _ x => x)) (fun k hk => iCells_at rg k hk)
        · exact sameSeen_row _ _ rd.length (sawCells rd) (fun k => (rd.getD k ⟨0, false, 0⟩).key) (fun k => (rd.getD k ⟨0, false, 0⟩).there) (fun k => (rd.getD k ⟨0, false, 0⟩).val) W (by omega) (hSa5.kept hk (fun _ _ x => x)) (HS5.out.kept hk (fun _ _ x => x)) (fun k hk => sawCells_at3 rd k hk)
      have HRa5 : Hid (RowAt W5 3 1 (.slice ra rg.length rg.length) rg.length (iCells rg)) := hRa5
      have HSa5 : Hid (RowAt W5 105 3 (.slice sa rd.length rd.length) rd.length (sawCells rd)) := hSa5
      have HV5' : Hid _ := hV
      clear hV hRa5 hSa5 HCA HCB HCA2 HCB2 HTL
      generalize hrn : rg.length = rn at *
      generalize hdn : rd.length = dn at *
      clear hrn hdn
      go_wp2_with fail
      with_reducible refine HST.out.mono ?_
      rintro e w6 ⟨rfl, hk6⟩
      have hK36 : Kept NoBlk W3 w6 := HK5.out.trans' hk6
      have hX6 := hK36.heap HX3.out (fun x => x)
      have hV6 := hk6.heap HV5'.out (fun x => x)
      have x2 : w6.cell? ⟨x, 2, none⟩ = some (.pointer (some ⟨o, 0, none⟩)) := by rw [cell_at hX6]; rfl
      have v6 : w6.cell? ⟨V, 6, none⟩ = some (.slice ra rn rn) := by rw [cell_at hV6]; rfl
      have hB6 : Books T o J w6 := ((HQ.out.2.1.kept HK0.out (fun _ _ x => x)).kept HKV.out (fun k ht hs => HQ.out.2.2 k (H7.out.2.1 k hs) ht)).kept hK36 (fun _ _ x => x)
      have hRa6 := HRa5.out.kept hk6 (fun _ _ x => x)
      have HSa6 : Hid (RowAt w6 105 3 (.slice sa dn dn) dn (sawCells rd)) := HSa5.out.kept hk6 (fun _ _ x => x)
      have hxw := HQ.out.1.lt x H2.out.1
      have hTlt := HQ.out.2.1.lt
      have HFT : Hid (∀ k, (Value.slice ra rn rn).ownBlock = some k ∨ (Value.slice sa dn dn).ownBlock = some k → ¬ T k) := fun k hk ht => by have := HF3.out k hk; have := hTlt k ht; omega
      have hvs := HVs.out
      have hxRa : ¬ (T x ∨ (Value.slice ra rn rn).ownBlock = some x) := fun e => by
        rcases e with e | e
        · exact HQ.out.2.2 x H2.out.1 e
        · have := HF3.out x (.inl e); omega
      have hVRa : ¬ (T V ∨ (Value.slice ra rn rn).ownBlock = some V) := fun e => by
        rcases e with e | e
        · have := hTlt V e; omega
        · obtain ⟨cur, hcur⟩ := hRa6.block e
          exact blocks_apart hcur hV6 (by decide) rfl
      have HTI : Hid (Calls Tryz.prog 48 #[.pointer (some ⟨o, 0, none⟩), .slice ra rn rn] w6.drew fun e w' => e = .returned (.tuple #[]) ∧ Took T o J (.slice ra rn rn) w6.drew w') := takeInts_bk (hB6.kept ((Kept.refl NoBlk w6).drew) (fun _ _ x => x)) (by omega) _ rn (iCells rg) (hRa6.kept ((Kept.refl NoBlk w6).drew) (fun _ _ x => x)) (by omega) (fun k hk => HFT.out k (.inl hk))
      have HX6 : Hid _ := hX6
      have HV6 : Hid _ := hV6
      have HK36 : Hid (Kept NoBlk W3 w6.drew) := hK36.drew
      have HNN : Hid (¬ (T x ∨ (Value.slice ra rn rn).ownBlock = some x) ∧ ¬ (T V ∨ (Value.slice ra rn rn).ownBlock = some V)) := ⟨hxRa, hVRa⟩
      have HXW : Hid (x < w.heap.size ∧ ∀ k, T k → k < w.heap.size) := ⟨hxw, hTlt⟩
      clear hK36 hX6 hV6 hB6 hRa6 hxw hTlt hvs hxRa hVRa hk6 a0 a1 a2 a3 a4 a5 a6 a7 b0 b1 b2 b3 b4 b5 b6 b7 HST
      go_wp2_with fail
      go_region_held3 (fun w' => w'.cell? ⟨x, 2, none⟩ = some (.pointer (some ⟨o, 0, none⟩)) ∧ w'.cell? ⟨V, 6, none⟩ = some (.slice ra rn rn))
        (first | with_reducible exact ⟨hx7, hv7⟩ | with_reducible exact ⟨x2, v6⟩ | go_keep)
        (first
          | (go_at_call 48; (with_reducible refine HTI.out.mono ?_); rintro e w7 ⟨rfl, t1, T1, t2, t3⟩; have hx7 := t1.cell (show w6.drew.cell? ⟨x, 2, none⟩ = some (.pointer (some ⟨o, 0, none⟩)) from x2) HNN.out.1; have hv7 := t1.cell (show w6.drew.cell? ⟨V, 6, none⟩ = some (.slice ra rn rn) from v6) HNN.out.2))
      have hX7 := t1.heap (show w6.drew.heap[x]? = _ from HX6.out) HNN.out.1
      have hV7 := t1.heap (show w6.drew.heap[V]? = _ from HV6.out) HNN.out.2
      have x3 : w7.cell? ⟨x, 2, none⟩ = some (.pointer (some ⟨o, 0, none⟩)) := by rw [cell_at hX7]; rfl
      have v7 : w7.cell? ⟨V, 7, none⟩ = some (.slice sa dn dn) := by rw [cell_at hV7]; rfl
      have hapt : ∀ k, (Value.slice sa dn dn).ownBlock = some k → ¬ (Value.slice ra rn rn).ownBlock = some k := fun k hk e => by
        obtain ⟨cur, hcur⟩ := HSa6.out.block hk
        obtain ⟨cur', hcur'⟩ := (HRa5.out).block e
        obtain ⟨cur2, hcur2⟩ := HSa5.out.block hk
        exact blocks_apart hcur2 hcur' (by decide) rfl
      have hSa7 := HSa6.out.kept (show Kept (fun k => T k ∨ (Value.slice ra rn rn).ownBlock = some k) w6 w7 from ((Kept.refl _ w6).drew.trans' t1)) (fun k hk e => by
        rcases e with e | e
        · exact HFT.out k (.inr hk) e
        · exact hapt k hk e)
      have HTS : Hid (Calls Tryz.prog 49 #[.pointer (some ⟨o, 0, none⟩), .slice sa dn dn] w7.drew fun e w' => e = .returned (.tuple #[]) ∧ Took T1 o (J + 4) (.slice sa dn dn) w7.drew w') := by
        refine takeSeen_bk (t2.kept ((Kept.refl NoBlk w7).drew) (fun _ _ x => x)) (by omega) _ dn (sawCells rd) (hSa7.kept ((Kept.refl NoBlk w7).drew) (fun _ _ x => x)) (by omega) (fun k hk e => ?_)
        rcases t3 k e with e | e | e
        · exact HFT.out k (.inr hk) e
        · exact hapt k hk e
        · have := HSa6.out.lt k hk; have e' : w6.heap.size ≤ k := e; omega
      have hxT1 : ¬ (T1 x ∨ (Value.slice sa dn dn).ownBlock = some x) := fun e => by
        have hxw := HXW.out.1
        have hz3 := HZ3.out
        have hz6 : W3.heap.size ≤ w6.heap.size := HK36.out.size
        rcases e with e | e
        · rcases t3 x e with e | e | e
          · exact HNN.out.1 (.inl e)
          · exact HNN.out.1 (.inr e)
          · have e' : w6.heap.size ≤ x := e; omega
        · have := HF3.out x (.inr e); omega
      have hVl : V < W3.heap.size := lt_of_block HV.out
      have hVT1 : ¬ (T1 V ∨ (Value.slice sa dn dn).ownBlock = some V) := fun e => by
        have hz6 : W3.heap.size ≤ w6.heap.size := HK36.out.size
        rcases e with e | e
        · rcases t3 V e with e | e | e
          · exact HNN.out.2 (.inl e)
          · exact HNN.out.2 (.inr e)
          · have e' : w6.heap.size ≤ V := e; omega
        · obtain ⟨cur, hcur⟩ := HSa6.out.block e
          exact blocks_apart hcur HV6.out (by decide) rfl
      have HT1 : Hid (Kept (fun k => T k ∨ (Value.slice ra rn rn).ownBlock = some k) w6.drew w7 ∧ ∀ k, T1 k → T k ∨ (Value.slice ra rn rn).ownBlock = some k ∨ w6.drew.heap.size ≤ k) := ⟨t1, t3⟩
      have HN1 : Hid (¬ (T1 x ∨ (Value.slice sa dn dn).ownBlock = some x) ∧ ¬ (T1 V ∨ (Value.slice sa dn dn).ownBlock = some V)) := ⟨hxT1, hVT1⟩
      clear hX7 hV7 hSa7 hxT1 hVT1 t1 t2 t3 x2 v6 hx7 hv7 HTI hapt hVl
      go_wp2_with fail
      go_region_held3 (fun w' => w'.cell? ⟨x, 2, none⟩ = some (.pointer (some ⟨o, 0, none⟩)) ∧ w'.cell? ⟨V, 7, none⟩ = some (.slice sa dn dn))
        (first | with_reducible exact ⟨hx8, hv8⟩ | with_reducible exact ⟨x3, v7⟩ | go_keep)
        (first
          | (go_at_call 49; (with_reducible refine HTS.out.mono ?_); rintro e w8 ⟨rfl, ht8⟩; have hx8 := ht8.1.cell (show w7.drew.cell? ⟨x, 2, none⟩ = some (.pointer (some ⟨o, 0, none⟩)) from x3) HN1.out.1; have hv8 := ht8.1.cell (show w7.drew.cell? ⟨V, 7, none⟩ = some (.slice sa dn dn) from v7) HN1.out.2))
      have HA : Hid (ToldAft x p q o S T N0 j J s cl w w8) := HQ.out.1.told2 HQ.out.2.2 HX0.out H2.out.1 H2.out.2.1 H2.out.2.2 H7.out.1 H7.out.2.1 H7.out.2.2 HK0.out HKV.out HP3.out HW0.out (fun k hk => HF3.out k (.inl hk)) (fun k hk => HF3.out k (.inr hk)) HK36.out HT1.out.1 HT1.out.2 ((Kept.refl NoBlk w7).drew) ht8
      clear ht8 x3 v7 hx8 hv8 HTS
      have ee : (er == er) = true := by simp
      go_wp2_with fail
      go_ret
      exact ⟨ret_boolR (by simp), HA.out⟩
end Go.Proofs.YtmcajfefagdbnaaGreat
