import Derived.Test.YtmcajfefagdbnaaGreatJ21
import Derived.Test.YtmcajfefagdbnaaGreatJ09
import Derived.RegionTactic
import Derived.BigRegion
namespace Go.Proofs.YtmcajfefagdbnaaGreat
open Go Go.RowKit
set_option maxRecDepth 20000 in
set_option maxHeartbeats 3200000 in
theorem wwants_no {ow : OwB} {p : Nat} {rl : List Row2} {cl : List Cl} {n : Nat} {tx : Nat → Tx} {wins : List Nat} {c : Int} {w : World} (h : WSt ow p rl cl n tx wins c w) (key mode : Int) (i : Nat) (hi : i < n) (hids : ∀ x ∈ cl, 1 ≤ x.txn ∧ x.txn ≤ n) (h1 : ¬ (waitL cl key < 0 ∧ (cl.find? (isHind key ((i : Int) + 1) mode)).isSome = false)) (hn : cl.length ≤ 1099511627000) (hn2 : n ≤ 1099511627776) :
  Calls Tryz.prog 84 #[.pointer (some ⟨p, 0, none⟩), .int .i64 key, .int .i64 ((i : Int) + 1), .int .i64 mode] w fun e w' => e = .returned (.bool false) ∧ ∃ ow', Agree w ow ow' ∧ WSt ow' p rl (cl ++ [⟨key, (i : Int) + 1, mode, false⟩]) n (upd (woundC cl key (i + 1) mode tx) (i + 1) { woundC cl key (i + 1) mode tx (i + 1) with waits := some key }) wins c w' ∧ Kept (Own ow) w w' := by
 obtain ⟨cv, v1, v2⟩ := h.claimsAt
 have HA : Hid (Calls Tryz.prog 113 #[.pointer (some ⟨p, 0, none⟩), .int .i64 key] w fun e w' => e = .returned (.int .i64 (waitL cl key)) ∧ Kept NoBlk w w') := wwaiting p cl cv key w v1 v2 (by omega)
 have HW : Hid (WSt ow p rl cl n tx wins c w) := h
 have HV : Hid (∀ W, Kept NoBlk w W → Calls Tryz.prog 114 #[.pointer (some ⟨p, 0, none⟩), .int .i64 key, .int .i64 ((i : Int) + 1), .int .i64 mode] W fun e w' => e = .returned (.bool (cl.find? (isHind key ((i : Int) + 1) mode)).isSome) ∧ Kept NoBlk W w') := fun W hk => by
  obtain ⟨cv', u1, u2⟩ := (h.kept0 hk).claimsAt
  exact whindered p cl cv' key _ mode W u1 u2 (by omega)
 have HID : Hid (∀ x ∈ cl, 1 ≤ x.txn ∧ x.txn ≤ n) := hids
 clear h v1 v2 hids
 generalize waitL cl key = wl at *
 generalize (cl.find? (isHind key ((i : Int) + 1) mode)).isSome = hb at *
 generalize hL : cl.length = L at *
 have HL : Hid (cl.length = L) := hL
 clear hL
 have H1 : Hid (¬ (wl < 0 ∧ hb = false)) := h1
 clear h1
 go_enter Tryz.func84, Tryz.ntmps84
 go_wp2_with fail
 refine HA.out.mono ?_
 rintro e w1 ⟨rfl, hk1⟩
 have HK1 : Hid (Kept NoBlk w w1) := hk1
 clear hk1 HA
 go_wp2_with fail
 refine (HV.out w1 HK1.out).mono ?_
 rintro e w2 ⟨rfl, hk2⟩
 have H2 : Hid (WSt ow p rl cl n (woundC (cl.take 0) key (i + 1) mode tx) wins c w2 ∧ Kept (Own ow) w w2) := ⟨HW.out.kept0 (HK1.out.trans' hk2), (HK1.out.trans' hk2).mono (fun _ x => x.elim)⟩
 clear hk2 HV HK1
 have hcond : (¬ wl < 0) ∨ (wl < 0 ∧ hb = true) := by
  by_cases h1 : wl < 0
  ·right; refine ⟨h1, ?_⟩
   cases hb
   ·exact absurd ⟨h1, rfl⟩ H1.out
   ·rfl
  ·exact .inl h1
 obtain ⟨hc2, HC2⟩ : ∃ b : Bool, (decide (wl < 0) && !hb) = b ∧ b = false := ⟨_, rfl, by rcases hcond with h | ⟨h, h'⟩ <;> simp [*]⟩
 rcases hcond with hcn | ⟨hcn, rfl⟩
 ·have hd : decide (wl < 0) = false := by simpa using hcn
  go_wp2_with fail
  go_loopw [11] (fun iv wr => ∃ k : Nat, k ≤ L ∧ iv = .int .i64 k ∧ WSt ow p rl cl n (woundC (cl.take k) key (i + 1) mode tx) wins c wr ∧ Kept (Own ow) w wr) (fun iv _ => L - (intOf iv).toNat)
  case atStart => exact ⟨0, Nat.zero_le _, rfl, H2.out⟩
  case round =>
   clear H2
   obtain ⟨k, hk, rfl, hst, hkw⟩ := hrel
   obtain ⟨cv, v1, ao, cp, rfl, hsrc⟩ := hst.claimsAt
   rw [HL.out] at v1
   by_cases hlt : k < L
   ·obtain ⟨b, off, rfl, hat⟩ := hsrc (by rw [HL.out]; omega)
    obtain ⟨g0, g1, g2, g3⟩ := hat k (by rw [HL.out]; exact hlt)
    have hcm : cl.getD k Cl.z ∈ cl := by
     rw [List.getD_eq_getElem?_getD, List.getElem?_eq_getElem (by rw [HL.out]; exact hlt)]
     exact List.getElem_mem _
    have hid := HID.out _ hcm
    have HNX : Hid (woundC (cl.take (k + 1)) key (i + 1) mode tx = if (decide ((cl.getD k Cl.z).key = key) && !decide ((cl.getD k Cl.z).txn = ((i + 1 : Nat) : Int)) && conf (cl.getD k Cl.z).mode mode && decide ((tx (i + 1)).stamp < (tx (cl.getD k Cl.z).txn.toNat).stamp)) then upd (woundC (cl.take k) key (i + 1) mode tx) (cl.getD k Cl.z).txn.toNat { woundC (cl.take k) key (i + 1) mode tx (cl.getD k Cl.z).txn.toNat with wounded := true } else woundC (cl.take k) key (i + 1) mode tx) := by
     have e : cl.take (k + 1) = cl.take k ++ [cl.getD k Cl.z] := by
      rw [List.take_add_one, List.getElem?_eq_getElem (by rw [HL.out]; exact hlt), List.getD_eq_getElem?_getD, List.getElem?_eq_getElem (by rw [HL.out]; exact hlt)]
      rfl
     unfold Hid
     rw [e]
     exact woundC_snoc _ _ _ _ _ _ (by omega)
    clear hcm hat hsrc
    generalize cl.getD k Cl.z = cc at *
    obtain ⟨ck, ct, cm, ch⟩ := cc
    simp only at g0 g1 g2 g3 hid
    obtain ⟨jj, rfl⟩ : ∃ jj : Nat, ct = (jj : Int) + 1 := ⟨(ct - 1).toNat, by omega⟩
    have hjn : jj < n := by omega
    have ejn : ((jj : Int) + 1).toNat = jj + 1 := by omega
    have HN2 : Hid (woundC (cl.take (k + 1)) key (i + 1) mode tx = if (decide (ck = key) && !decide ((jj : Int) + 1 = ((i + 1 : Nat) : Int)) && conf cm mode && decide ((tx (i + 1)).stamp < (tx (jj + 1)).stamp)) then upd (woundC (cl.take k) key (i + 1) mode tx) (jj + 1) { woundC (cl.take k) key (i + 1) mode tx (jj + 1) with wounded := true } else woundC (cl.take k) key (i + 1) mode tx) := by
     have := HNX.out
     simp only [ejn] at this
     exact this
    have HST1 : Hid ((woundC (cl.take k) key (i + 1) mode tx (i + 1)).stamp = (tx (i + 1)).stamp ∧ (woundC (cl.take k) key (i + 1) mode tx (jj + 1)).stamp = (tx (jj + 1)).stamp) := ⟨woundC_stamp _ _ _ _ _ _, woundC_stamp _ _ _ _ _ _⟩
    clear HNX ejn hid
    generalize hTK1 : woundC (cl.take (k + 1)) key (i + 1) mode tx = tk1 at *
    have HTK1 : Hid (woundC (cl.take (k + 1)) key (i + 1) mode tx = tk1) := hTK1
    clear hTK1
    generalize hTK : woundC (cl.take k) key (i + 1) mode tx = tk at *
    clear hTK
    have HP : Hid (∀ o, WSt ow p rl cl n tk wins c (wr.alloc o) ∧ Kept (Own ow) w (wr.alloc o)) := fun o => ⟨hst.kept0 ((Kept.refl NoBlk wr).alloc o), hkw.alloc o⟩
    have j0 : (0 : Int) ≤ (k : Int) := by omega
    have j1 : (k : Int) < (L : Int) := by omega
    clear hst hkw
    go_wp2_with fail
    refine (wconflict cm mode _).mono ?_
    rintro e w5 ⟨rfl, rfl⟩
    have HB5 : Hid ((wr.alloc (.cells #[.int .i64 ck, .int .i64 ((jj : Int) + 1), .int .i64 cm, .bool ch] 109)).heap[wr.heap.size]? = some (.cells #[.int .i64 ck, .int .i64 ((jj : Int) + 1), .int .i64 cm, .bool ch] 109 (0, 0)) ∧ WSt ow p rl cl n tk wins c (wr.alloc (.cells #[.int .i64 ck, .int .i64 ((jj : Int) + 1), .int .i64 cm, .bool ch] 109)) ∧ Kept (Own ow) w (wr.alloc (.cells #[.int .i64 ck, .int .i64 ((jj : Int) + 1), .int .i64 cm, .bool ch] 109))) := ⟨block_alloc_new wr _, HP.out _⟩
    clear g0 g1 g2 g3 v1 HP
    generalize wr.alloc (.cells #[.int .i64 ck, .int .i64 ((jj : Int) + 1), .int .i64 cm, .bool ch] 109) = W5 at *
    generalize wr.heap.size = ub at *
    have b0 : W5.cell? ⟨ub, 0, none⟩ = some (.int .i64 ck) := by rw [cell_at HB5.out.1]; rfl
    have b1 : W5.cell? ⟨ub, 1, none⟩ = some (.int .i64 ((jj : Int) + 1)) := by rw [cell_at HB5.out.1]; rfl
    generalize conf cm mode = cb at *
    by_cases hck : ck = key
    ·have he1 : (ck == key) = true := by simpa using hck
     by_cases hct : jj = i
     ·have he2 : ((jj : Int) + 1 != (i : Int) + 1) = false := by simp [hct]
      have HE1 : Hid (tk1 = tk) := by unfold Hid; rw [HN2.out, if_neg (by simp [hct])]
      go_wp2_with fail
      go_roundw
      case rel => exact ⟨k + 1, by omega, by go_num, by rw [HTK1.out, HE1.out]; exact HB5.out.2.1, HB5.out.2.2⟩
      case measure => simp [intOf]; omega
     ·have he2 : ((jj : Int) + 1 != (i : Int) + 1) = true := by simp; omega
      cases cb
      ·have HE1 : Hid (tk1 = tk) := by unfold Hid; rw [HN2.out, if_neg (by simp [])]
       go_wp2_with fail
       go_roundw
       case rel => exact ⟨k + 1, by omega, by go_num, by rw [HTK1.out, HE1.out]; exact HB5.out.2.1, HB5.out.2.2⟩
       case measure => simp [intOf]; omega
      ·obtain ⟨g, cap, bi, f1, f2, f3, _⟩ := HB5.out.2.1.find hi
       obtain ⟨g', cap', bj, f1', f2', f3', _⟩ := HB5.out.2.1.find hjn
       rw [f1] at f1'
       simp only [Option.some.injEq, Value.slice.injEq, Addr.mk.injEq, and_true, true_and] at f1'
       obtain ⟨rfl, rfl⟩ := f1'
       obtain ⟨r1, _, _, _, k1, _⟩ := f3
       obtain ⟨r2, _, _, _, k2, _⟩ := f3'
       have s1 : W5.cell? ⟨bi, 0, none⟩ = some (.int .i64 (tk (i + 1)).stamp) := by rw [cell_at k1]; rfl
       have s2 : W5.cell? ⟨bj, 0, none⟩ = some (.int .i64 (tk (jj + 1)).stamp) := by rw [cell_at k2]; rfl
       have HEL : Hid (Calls Tryz.prog 117 #[.pointer (some ⟨p, 0, none⟩), .int .i64 ((i : Int) + 1), .int .i64 ((jj : Int) + 1)] W5 fun e w' => e = .returned (.bool (decide ((tk (i + 1)).stamp < (tk (jj + 1)).stamp))) ∧ Kept NoBlk W5 w') := welder p g n cap i jj bi bj _ _ W5 f1 hi hjn hn2 f2 f2' s1 s2
       clear f1 f2 f2' k1 k2 s1 s2
       rw [HST1.out.1, HST1.out.2] at HEL
       go_wp2_with fail
       refine HEL.out.mono ?_
       rintro e w6 ⟨rfl, hk6⟩
       have H6 : Hid (WSt ow p rl cl n tk wins c w6 ∧ Kept (Own ow) w w6) := ⟨HB5.out.2.1.kept0 hk6, HB5.out.2.2.trans' (hk6.mono (fun _ x => x.elim))⟩
       have b1' : w6.cell? ⟨ub, 1, none⟩ = some (.int .i64 ((jj : Int) + 1)) := hk6.cell0 b1
       clear HEL hk6 b0 b1
       by_cases hst : (tx (i + 1)).stamp < (tx (jj + 1)).stamp
       ·have hds : decide ((tx (i + 1)).stamp < (tx (jj + 1)).stamp) = true := by simpa using hst
        obtain ⟨g, cap, bj, f1, f2, f3, f4⟩ := H6.out.1.find hjn
        have HSE := H6.out.1.setTxn hjn f3 f4 (t' := { tk (jj + 1) with wounded := true }) (j := 3) (v := .bool true) rfl rfl rfl rfl (fun _ _ _ _ => rfl)
        have HS7 : Hid _ := HSE
        clear HSE f4
        obtain ⟨r2, rd2, ov2, uv2, k2, _⟩ := f3
        have s3 : w6.cell? ⟨bj, 3, none⟩ = some (.bool (tk (jj + 1)).wounded) := by rw [cell_at k2]; rfl
        have sf : ∀ j, w6.frozen? ⟨bj, j, none⟩ = false := frozen_at k2
        have hwj : IntKind.wrap .i64 (jj : Int) = (jj : Int) := by rw [IntKind.wrap_i64]; omega
        have j4 : (0 : Int) ≤ (jj : Int) := by omega
        have j5 : (jj : Int) < (n : Int) := by omega
        have HE1 : Hid (tk1 = upd tk (jj + 1) { tk (jj + 1) with wounded := true }) := by unfold Hid; rw [HN2.out, if_pos (by simp [hck, hst]; omega)]
        clear k2
        rw [hds]
        go_wp2_with fail
        go_region
        go_wp2_with fail
        go_roundw
        case rel => exact ⟨k + 1, by omega, by go_num, by rw [HTK1.out, HE1.out]; exact HS7.out.1.kept0 ((Kept.refl _ _).drew), (H6.out.2.trans' HS7.out.2).trans' ((Kept.refl _ _).drew)⟩
        case measure => simp [intOf]; omega
       ·have hds : decide ((tx (i + 1)).stamp < (tx (jj + 1)).stamp) = false := by simpa using hst
        have HE1 : Hid (tk1 = tk) := by unfold Hid; rw [HN2.out, if_neg (by simp [hst])]
        rw [hds]
        go_wp2_with fail
        go_roundw
        case rel => exact ⟨k + 1, by omega, by go_num, by rw [HTK1.out, HE1.out]; exact H6.out.1, H6.out.2⟩
        case measure => simp [intOf]; omega
    ·have he1 : (ck == key) = false := by simpa using hck
     have HE1 : Hid (tk1 = tk) := by unfold Hid; rw [HN2.out, if_neg (by simp [hck])]
     go_wp2_with fail
     go_roundw
     case rel => exact ⟨k + 1, by omega, by go_num, by rw [HTK1.out, HE1.out]; exact HB5.out.2.1, HB5.out.2.2⟩
     case measure => simp [intOf]; omega
   ·have hkl : cl.take k = cl := List.take_of_length_le (by rw [HL.out]; omega)
    rw [hkl] at hst
    have HST : Hid (WSt ow p rl cl n (woundC cl key (i + 1) mode tx) wins c wr ∧ Kept (Own ow) w wr) := ⟨hst, hkw⟩
    obtain ⟨rv, tv, cv, wv, bs, q1, q2, q3, q4, q5, q6, q7, q8⟩ := hst.body
    have hcv : cv = .slice ao L cp := by
     have e : wr.cell? ⟨p, 2, none⟩ = some cv := by rw [cell_at q1]; rfl
     rw [v1] at e
     exact (Option.some.inj e).symm
    subst hcv
    have HQ : Hid (wr.heap[p]? = some (.cells #[rv, tv, .slice ao L cp, wv, .int .i64 c] 47 (0, 0)) ∧ wr.ownsRow 0 109 4 (.slice ao L cp) L (clCells cl)) := ⟨q1, by have := q6.1; rw [HL.out] at this; exact this⟩
    have pf : ∀ j, wr.frozen? ⟨p, j, none⟩ = false := frozen_at q1
    obtain ⟨i1, hi1, hy0, hy1, hy2⟩ := info_parts infoClaim
    have HI : Hid (Tryz.prog.info? 109 = some i1 ∧ i1.zero = some (.agg #[.int .i64 0, .int .i64 0, .int .i64 0, .bool false]) ∧ i1.size = 4 ∧ i1.bytes = 32) := ⟨hi1, hy0, hy1, hy2⟩
    have HB1 : Hid (L + 1 ≤ maxLen ∧ (L + 1) * 32 ≤ 140737488355328) := by unfold Hid maxLen; omega
    have HFR : Hid ((wr.alloc (.cells #[.int .i64 key, .int .i64 ((i : Int) + 1), .int .i64 mode, .bool false] 109)).ownsRow 0 109 4 (.slice ao L cp) L (clCells cl) ∧ FromMem (wr.alloc (.cells #[.int .i64 key, .int .i64 ((i : Int) + 1), .int .i64 mode, .bool false] 109)) 4 (.slice (some ⟨wr.heap.size, 0, none⟩) 1 1) 1 [.int .i64 key, .int .i64 ((i : Int) + 1), .int .i64 mode, .bool false]) := ⟨ownsRow_kept HQ.out.2 ((Kept.refl NoBlk wr).alloc _) (fun _ _ x => x), from_newN wr [.int .i64 key, .int .i64 ((i : Int) + 1), .int .i64 mode, .bool false] _ 4 rfl (by simp [Value.oneCell'])⟩
    clear hst hkw hsrc q1 q2 q3 q4 q5 q6 q7 q8 hi1 hy0 hy1 hy2 hkl
    go_wp2_with (at_builtin; refine wpList_append_at (by rfl) _ _ 44 (by rfl) 109 i1 _ 4 32 Tryz.underlying44 HI.out.1 HI.out.2.1 HI.out.2.2.1 HI.out.2.2.2 (by rfl) (.slice ao L cp) L (clCells cl) (by rfl) HFR.out.1 (.slice (some ⟨wr.heap.size, 0, none⟩) 1 1) 1 [.int .i64 key, .int .i64 ((i : Int) + 1), .int .i64 mode, .bool false] (by rfl) HFR.out.2 HB1.out.1 HB1.out.2 ?_)
    intro a1 c1 W1 hown1 hmv1
    have hpW1 : W1.heap[p]? = some (.cells #[rv, tv, .slice ao L cp, wv, .int .i64 c] 47 (0, 0)) := hmv1.keptOf.heap (((Kept.refl NoBlk wr).alloc _).heap HQ.out.1 (fun x => x)) (fun e => by
     obtain ⟨cur, hc⟩ := ownsRow_block HQ.out.2 e
     exact blocks_apart HQ.out.1 hc (by decide) rfl)
    have hlx : (cl ++ [(⟨key, (i : Int) + 1, mode, false⟩ : Cl)]).length = L + 1 := by rw [List.length_append, HL.out]; rfl
    have hkk : Kept (fun k => k = p ∨ (Value.slice ao L cp).ownBlock = some k) wr (W1.setCell ⟨p, 2, none⟩ (.slice a1 (L + 1) c1)) := (((Kept.refl _ wr).alloc _).trans hmv1.keptOf (fun k e => .inl (.inr e))).trans (Kept.set1 W1 p 2 _) (fun k e => .inl (.inl e))
    have HCL : Hid (∃ ow', Agree wr ow ow' ∧ WSt ow' p rl (cl ++ [(⟨key, (i : Int) + 1, mode, false⟩ : Cl)]) n (woundC cl key (i + 1) mode tx) wins c (W1.setCell ⟨p, 2, none⟩ (.slice a1 (L + 1) c1)) ∧ Kept (Own ow) wr (W1.setCell ⟨p, 2, none⟩ (.slice a1 (L + 1) c1))) := by
     refine HST.out.1.claims HQ.out.1 (block_setCell hpW1 _) ?_ (fun k hk => ?_) hkk
     ·rw [hlx, clCells_append]
      exact ownsRow_kept hown1 (Kept.set1 W1 p 2 _) (fun k hk e => by
       obtain ⟨cur, hc⟩ := ownsRow_block hown1 hk
       exact blocks_apart hc hpW1 (by decide) e)
     ·rcases hmv1.fresh k hk with e | e
      ·exact .inl e
      ·exact .inr (Nat.le_trans ((Kept.refl NoBlk wr).alloc _).size e)
    obtain ⟨ow2, x1, x2, x3⟩ := HCL.out
    obtain ⟨g, cap, bi, f1, f2, f3, f4⟩ := x2.find hi
    have HSE := x2.setTxn hi f3 f4 (t' := { woundC cl key (i + 1) mode tx (i + 1) with waits := some key }) (j := 4) (v := .bool true) rfl rfl rfl rfl (fun _ _ _ _ => rfl)
    have HS7 : Hid (∃ ow', Agree w ow ow' ∧ WSt ow' p rl (cl ++ [(⟨key, (i : Int) + 1, mode, false⟩ : Cl)]) n (upd (woundC cl key (i + 1) mode tx) (i + 1) { woundC cl key (i + 1) mode tx (i + 1) with waits := some key }) wins c ((W1.setCell ⟨p, 2, none⟩ (.slice a1 (L + 1) c1)).setCell ⟨bi, 4, none⟩ (.bool true)) ∧ Kept (Own ow) w ((W1.setCell ⟨p, 2, none⟩ (.slice a1 (L + 1) c1)).setCell ⟨bi, 4, none⟩ (.bool true))) := ⟨ow2, x1.less HST.out.2.size, HSE.1, (HST.out.2.trans' x3).trans HSE.2 (fun k e => by
     by_cases hlt2 : k < wr.heap.size
     ·left; unfold Own at e ⊢; rw [← x1 k hlt2]; exact e
     ·right; have := HST.out.2.size; omega)⟩
    obtain ⟨r2, rd2, ov2, uv2, k2, _⟩ := f3
    have hbip : bi ≠ p := blocks_apart k2 (block_setCell hpW1 _) (by decide)
    have k2' := (block_setCell_other (w := W1) (a := ⟨p, 2, none⟩) hbip (.slice a1 (L + 1) c1)).symm.trans k2
    have s4 : W1.cell? ⟨bi, 4, none⟩ = some (.bool (woundC cl key (i + 1) mode tx (i + 1)).waits.isSome) := by rw [cell_at k2']; rfl
    have sf : ∀ j, W1.frozen? ⟨bi, j, none⟩ = false := frozen_at k2'
    have pf1 : ∀ j, W1.frozen? ⟨p, j, none⟩ = false := frozen_at hpW1
    have p2 : W1.cell? ⟨p, 2, none⟩ = some (.slice ao L cp) := by rw [cell_at hpW1]; rfl
    have p1 : W1.cell? ⟨p, 1, none⟩ = some (.slice (some ⟨g, 0, none⟩) n cap) := by rw [← f1]; exact (World.cell?_setCell_other W1 ⟨p, 2, none⟩ ⟨p, 1, none⟩ _ (by simp)).symm
    have hgp : g ≠ p := by
     obtain ⟨rv9, tv9, cv9, wv9, bs9, z1, _, _, z4, _⟩ := x2.body
     have z5 : tv9 = .slice (some ⟨g, 0, none⟩) n cap := by
      have e : (W1.setCell ⟨p, 2, none⟩ (.slice a1 (L + 1) c1)).cell? ⟨p, 1, none⟩ = some tv9 := by rw [cell_at z1]; rfl
      rw [f1] at e
      exact (Option.some.inj e).symm
     obtain ⟨cur, hc⟩ := ownsRow_block z4.1 (k := g) (by rw [z5]; rfl)
     exact blocks_apart hc z1 (by decide)
    have p3 : W1.cell? ⟨g, i, none⟩ = some (.pointer (some ⟨bi, 0, none⟩)) := by rw [← f2]; exact (World.cell?_setCell_other W1 ⟨p, 2, none⟩ ⟨g, i, none⟩ _ (by first | (simp; done) | (simp; intro e; exact absurd e.symm hgp))).symm
    have hwi : IntKind.wrap .i64 (i : Int) = (i : Int) := by rw [IntKind.wrap_i64]; omega
    have j4 : (0 : Int) ≤ (i : Int) := by omega
    have j5 : (i : Int) < (n : Int) := by omega
    have hbip' : ¬ bi = p := hbip
    have hbip2 : ¬ p = bi := fun e => hbip e.symm
    have hgp' : ¬ g = p := hgp
    have hgp2 : ¬ p = g := fun e => hgp e.symm
    clear hown1 hmv1 hpW1 hlx hkk HCL x1 x2 x3 f1 f2 f4 HSE k2 k2' HFR HST HQ hbip hgp pf v1
    go_wp2_with fail
    go_ret
    exact ⟨rfl, HS7.out⟩
 ·have hd : decide (wl < 0) = true := by simpa using hcn
  go_wp2_with fail
  go_loopw [11] (fun iv wr => ∃ k : Nat, k ≤ L ∧ iv = .int .i64 k ∧ WSt ow p rl cl n (woundC (cl.take k) key (i + 1) mode tx) wins c wr ∧ Kept (Own ow) w wr) (fun iv _ => L - (intOf iv).toNat)
  case atStart => exact ⟨0, Nat.zero_le _, rfl, H2.out⟩
  case round =>
   clear H2
   obtain ⟨k, hk, rfl, hst, hkw⟩ := hrel
   obtain ⟨cv, v1, ao, cp, rfl, hsrc⟩ := hst.claimsAt
   rw [HL.out] at v1
   by_cases hlt : k < L
   ·obtain ⟨b, off, rfl, hat⟩ := hsrc (by rw [HL.out]; omega)
    obtain ⟨g0, g1, g2, g3⟩ := hat k (by rw [HL.out]; exact hlt)
    have hcm : cl.getD k Cl.z ∈ cl := by
     rw [List.getD_eq_getElem?_getD, List.getElem?_eq_getElem (by rw [HL.out]; exact hlt)]
     exact List.getElem_mem _
    have hid := HID.out _ hcm
    have HNX : Hid (woundC (cl.take (k + 1)) key (i + 1) mode tx = if (decide ((cl.getD k Cl.z).key = key) && !decide ((cl.getD k Cl.z).txn = ((i + 1 : Nat) : Int)) && conf (cl.getD k Cl.z).mode mode && decide ((tx (i + 1)).stamp < (tx (cl.getD k Cl.z).txn.toNat).stamp)) then upd (woundC (cl.take k) key (i + 1) mode tx) (cl.getD k Cl.z).txn.toNat { woundC (cl.take k) key (i + 1) mode tx (cl.getD k Cl.z).txn.toNat with wounded := true } else woundC (cl.take k) key (i + 1) mode tx) := by
     have e : cl.take (k + 1) = cl.take k ++ [cl.getD k Cl.z] := by
      rw [List.take_add_one, List.getElem?_eq_getElem (by rw [HL.out]; exact hlt), List.getD_eq_getElem?_getD, List.getElem?_eq_getElem (by rw [HL.out]; exact hlt)]
      rfl
     unfold Hid
     rw [e]
     exact woundC_snoc _ _ _ _ _ _ (by omega)
    clear hcm hat hsrc
    generalize cl.getD k Cl.z = cc at *
    obtain ⟨ck, ct, cm, ch⟩ := cc
    simp only at g0 g1 g2 g3 hid
    obtain ⟨jj, rfl⟩ : ∃ jj : Nat, ct = (jj : Int) + 1 := ⟨(ct - 1).toNat, by omega⟩
    have hjn : jj < n := by omega
    have ejn : ((jj : Int) + 1).toNat = jj + 1 := by omega
    have HN2 : Hid (woundC (cl.take (k + 1)) key (i + 1) mode tx = if (decide (ck = key) && !decide ((jj : Int) + 1 = ((i + 1 : Nat) : Int)) && conf cm mode && decide ((tx (i + 1)).stamp < (tx (jj + 1)).stamp)) then upd (woundC (cl.take k) key (i + 1) mode tx) (jj + 1) { woundC (cl.take k) key (i + 1) mode tx (jj + 1) with wounded := true } else woundC (cl.take k) key (i + 1) mode tx) := by
     have := HNX.out
     simp only [ejn] at this
     exact this
    have HST1 : Hid ((woundC (cl.take k) key (i + 1) mode tx (i + 1)).stamp = (tx (i + 1)).stamp ∧ (woundC (cl.take k) key (i + 1) mode tx (jj + 1)).stamp = (tx (jj + 1)).stamp) := ⟨woundC_stamp _ _ _ _ _ _, woundC_stamp _ _ _ _ _ _⟩
    clear HNX ejn hid
    generalize hTK1 : woundC (cl.take (k + 1)) key (i + 1) mode tx = tk1 at *
    have HTK1 : Hid (woundC (cl.take (k + 1)) key (i + 1) mode tx = tk1) := hTK1
    clear hTK1
    generalize hTK : woundC (cl.take k) key (i + 1) mode tx = tk at *
    clear hTK
    have HP : Hid (∀ o, WSt ow p rl cl n tk wins c (wr.alloc o) ∧ Kept (Own ow) w (wr.alloc o)) := fun o => ⟨hst.kept0 ((Kept.refl NoBlk wr).alloc o), hkw.alloc o⟩
    have j0 : (0 : Int) ≤ (k : Int) := by omega
    have j1 : (k : Int) < (L : Int) := by omega
    clear hst hkw
    go_wp2_with fail
    refine (wconflict cm mode _).mono ?_
    rintro e w5 ⟨rfl, rfl⟩
    have HB5 : Hid ((wr.alloc (.cells #[.int .i64 ck, .int .i64 ((jj : Int) + 1), .int .i64 cm, .bool ch] 109)).heap[wr.heap.size]? = some (.cells #[.int .i64 ck, .int .i64 ((jj : Int) + 1), .int .i64 cm, .bool ch] 109 (0, 0)) ∧ WSt ow p rl cl n tk wins c (wr.alloc (.cells #[.int .i64 ck, .int .i64 ((jj : Int) + 1), .int .i64 cm, .bool ch] 109)) ∧ Kept (Own ow) w (wr.alloc (.cells #[.int .i64 ck, .int .i64 ((jj : Int) + 1), .int .i64 cm, .bool ch] 109))) := ⟨block_alloc_new wr _, HP.out _⟩
    clear g0 g1 g2 g3 v1 HP
    generalize wr.alloc (.cells #[.int .i64 ck, .int .i64 ((jj : Int) + 1), .int .i64 cm, .bool ch] 109) = W5 at *
    generalize wr.heap.size = ub at *
    have b0 : W5.cell? ⟨ub, 0, none⟩ = some (.int .i64 ck) := by rw [cell_at HB5.out.1]; rfl
    have b1 : W5.cell? ⟨ub, 1, none⟩ = some (.int .i64 ((jj : Int) + 1)) := by rw [cell_at HB5.out.1]; rfl
    generalize conf cm mode = cb at *
    by_cases hck : ck = key
    ·have he1 : (ck == key) = true := by simpa using hck
     by_cases hct : jj = i
     ·have he2 : ((jj : Int) + 1 != (i : Int) + 1) = false := by simp [hct]
      have HE1 : Hid (tk1 = tk) := by unfold Hid; rw [HN2.out, if_neg (by simp [hct])]
      go_wp2_with fail
      go_roundw
      case rel => exact ⟨k + 1, by omega, by go_num, by rw [HTK1.out, HE1.out]; exact HB5.out.2.1, HB5.out.2.2⟩
      case measure => simp [intOf]; omega
     ·have he2 : ((jj : Int) + 1 != (i : Int) + 1) = true := by simp; omega
      cases cb
      ·have HE1 : Hid (tk1 = tk) := by unfold Hid; rw [HN2.out, if_neg (by simp [])]
       go_wp2_with fail
       go_roundw
       case rel => exact ⟨k + 1, by omega, by go_num, by rw [HTK1.out, HE1.out]; exact HB5.out.2.1, HB5.out.2.2⟩
       case measure => simp [intOf]; omega
      ·obtain ⟨g, cap, bi, f1, f2, f3, _⟩ := HB5.out.2.1.find hi
       obtain ⟨g', cap', bj, f1', f2', f3', _⟩ := HB5.out.2.1.find hjn
       rw [f1] at f1'
       simp only [Option.some.injEq, Value.slice.injEq, Addr.mk.injEq, and_true, true_and] at f1'
       obtain ⟨rfl, rfl⟩ := f1'
       obtain ⟨r1, _, _, _, k1, _⟩ := f3
       obtain ⟨r2, _, _, _, k2, _⟩ := f3'
       have s1 : W5.cell? ⟨bi, 0, none⟩ = some (.int .i64 (tk (i + 1)).stamp) := by rw [cell_at k1]; rfl
       have s2 : W5.cell? ⟨bj, 0, none⟩ = some (.int .i64 (tk (jj + 1)).stamp) := by rw [cell_at k2]; rfl
       have HEL : Hid (Calls Tryz.prog 117 #[.pointer (some ⟨p, 0, none⟩), .int .i64 ((i : Int) + 1), .int .i64 ((jj : Int) + 1)] W5 fun e w' => e = .returned (.bool (decide ((tk (i + 1)).stamp < (tk (jj + 1)).stamp))) ∧ Kept NoBlk W5 w') := welder p g n cap i jj bi bj _ _ W5 f1 hi hjn hn2 f2 f2' s1 s2
       clear f1 f2 f2' k1 k2 s1 s2
       rw [HST1.out.1, HST1.out.2] at HEL
       go_wp2_with fail
       refine HEL.out.mono ?_
       rintro e w6 ⟨rfl, hk6⟩
       have H6 : Hid (WSt ow p rl cl n tk wins c w6 ∧ Kept (Own ow) w w6) := ⟨HB5.out.2.1.kept0 hk6, HB5.out.2.2.trans' (hk6.mono (fun _ x => x.elim))⟩
       have b1' : w6.cell? ⟨ub, 1, none⟩ = some (.int .i64 ((jj : Int) + 1)) := hk6.cell0 b1
       clear HEL hk6 b0 b1
       by_cases hst : (tx (i + 1)).stamp < (tx (jj + 1)).stamp
       ·have hds : decide ((tx (i + 1)).stamp < (tx (jj + 1)).stamp) = true := by simpa using hst
        obtain ⟨g, cap, bj, f1, f2, f3, f4⟩ := H6.out.1.find hjn
        have HSE := H6.out.1.setTxn hjn f3 f4 (t' := { tk (jj + 1) with wounded := true }) (j := 3) (v := .bool true) rfl rfl rfl rfl (fun _ _ _ _ => rfl)
        have HS7 : Hid _ := HSE
        clear HSE f4
        obtain ⟨r2, rd2, ov2, uv2, k2, _⟩ := f3
        have s3 : w6.cell? ⟨bj, 3, none⟩ = some (.bool (tk (jj + 1)).wounded) := by rw [cell_at k2]; rfl
        have sf : ∀ j, w6.frozen? ⟨bj, j, none⟩ = false := frozen_at k2
        have hwj : IntKind.wrap .i64 (jj : Int) = (jj : Int) := by rw [IntKind.wrap_i64]; omega
        have j4 : (0 : Int) ≤ (jj : Int) := by omega
        have j5 : (jj : Int) < (n : Int) := by omega
        have HE1 : Hid (tk1 = upd tk (jj + 1) { tk (jj + 1) with wounded := true }) := by unfold Hid; rw [HN2.out, if_pos (by simp [hck, hst]; omega)]
        clear k2
        rw [hds]
        go_wp2_with fail
        go_region
        go_wp2_with fail
        go_roundw
        case rel => exact ⟨k + 1, by omega, by go_num, by rw [HTK1.out, HE1.out]; exact HS7.out.1.kept0 ((Kept.refl _ _).drew), (H6.out.2.trans' HS7.out.2).trans' ((Kept.refl _ _).drew)⟩
        case measure => simp [intOf]; omega
       ·have hds : decide ((tx (i + 1)).stamp < (tx (jj + 1)).stamp) = false := by simpa using hst
        have HE1 : Hid (tk1 = tk) := by unfold Hid; rw [HN2.out, if_neg (by simp [hst])]
        rw [hds]
        go_wp2_with fail
        go_roundw
        case rel => exact ⟨k + 1, by omega, by go_num, by rw [HTK1.out, HE1.out]; exact H6.out.1, H6.out.2⟩
        case measure => simp [intOf]; omega
    ·have he1 : (ck == key) = false := by simpa using hck
     have HE1 : Hid (tk1 = tk) := by unfold Hid; rw [HN2.out, if_neg (by simp [hck])]
     go_wp2_with fail
     go_roundw
     case rel => exact ⟨k + 1, by omega, by go_num, by rw [HTK1.out, HE1.out]; exact HB5.out.2.1, HB5.out.2.2⟩
     case measure => simp [intOf]; omega
   ·have hkl : cl.take k = cl := List.take_of_length_le (by rw [HL.out]; omega)
    rw [hkl] at hst
    have HST : Hid (WSt ow p rl cl n (woundC cl key (i + 1) mode tx) wins c wr ∧ Kept (Own ow) w wr) := ⟨hst, hkw⟩
    obtain ⟨rv, tv, cv, wv, bs, q1, q2, q3, q4, q5, q6, q7, q8⟩ := hst.body
    have hcv : cv = .slice ao L cp := by
     have e : wr.cell? ⟨p, 2, none⟩ = some cv := by rw [cell_at q1]; rfl
     rw [v1] at e
     exact (Option.some.inj e).symm
    subst hcv
    have HQ : Hid (wr.heap[p]? = some (.cells #[rv, tv, .slice ao L cp, wv, .int .i64 c] 47 (0, 0)) ∧ wr.ownsRow 0 109 4 (.slice ao L cp) L (clCells cl)) := ⟨q1, by have := q6.1; rw [HL.out] at this; exact this⟩
    have pf : ∀ j, wr.frozen? ⟨p, j, none⟩ = false := frozen_at q1
    obtain ⟨i1, hi1, hy0, hy1, hy2⟩ := info_parts infoClaim
    have HI : Hid (Tryz.prog.info? 109 = some i1 ∧ i1.zero = some (.agg #[.int .i64 0, .int .i64 0, .int .i64 0, .bool false]) ∧ i1.size = 4 ∧ i1.bytes = 32) := ⟨hi1, hy0, hy1, hy2⟩
    have HB1 : Hid (L + 1 ≤ maxLen ∧ (L + 1) * 32 ≤ 140737488355328) := by unfold Hid maxLen; omega
    have HFR : Hid ((wr.alloc (.cells #[.int .i64 key, .int .i64 ((i : Int) + 1), .int .i64 mode, .bool false] 109)).ownsRow 0 109 4 (.slice ao L cp) L (clCells cl) ∧ FromMem (wr.alloc (.cells #[.int .i64 key, .int .i64 ((i : Int) + 1), .int .i64 mode, .bool false] 109)) 4 (.slice (some ⟨wr.heap.size, 0, none⟩) 1 1) 1 [.int .i64 key, .int .i64 ((i : Int) + 1), .int .i64 mode, .bool false]) := ⟨ownsRow_kept HQ.out.2 ((Kept.refl NoBlk wr).alloc _) (fun _ _ x => x), from_newN wr [.int .i64 key, .int .i64 ((i : Int) + 1), .int .i64 mode, .bool false] _ 4 rfl (by simp [Value.oneCell'])⟩
    clear hst hkw hsrc q1 q2 q3 q4 q5 q6 q7 q8 hi1 hy0 hy1 hy2 hkl
    go_wp2_with (at_builtin; refine wpList_append_at (by rfl) _ _ 44 (by rfl) 109 i1 _ 4 32 Tryz.underlying44 HI.out.1 HI.out.2.1 HI.out.2.2.1 HI.out.2.2.2 (by rfl) (.slice ao L cp) L (clCells cl) (by rfl) HFR.out.1 (.slice (some ⟨wr.heap.size, 0, none⟩) 1 1) 1 [.int .i64 key, .int .i64 ((i : Int) + 1), .int .i64 mode, .bool false] (by rfl) HFR.out.2 HB1.out.1 HB1.out.2 ?_)
    intro a1 c1 W1 hown1 hmv1
    have hpW1 : W1.heap[p]? = some (.cells #[rv, tv, .slice ao L cp, wv, .int .i64 c] 47 (0, 0)) := hmv1.keptOf.heap (((Kept.refl NoBlk wr).alloc _).heap HQ.out.1 (fun x => x)) (fun e => by
     obtain ⟨cur, hc⟩ := ownsRow_block HQ.out.2 e
     exact blocks_apart HQ.out.1 hc (by decide) rfl)
    have hlx : (cl ++ [(⟨key, (i : Int) + 1, mode, false⟩ : Cl)]).length = L + 1 := by rw [List.length_append, HL.out]; rfl
    have hkk : Kept (fun k => k = p ∨ (Value.slice ao L cp).ownBlock = some k) wr (W1.setCell ⟨p, 2, none⟩ (.slice a1 (L + 1) c1)) := (((Kept.refl _ wr).alloc _).trans hmv1.keptOf (fun k e => .inl (.inr e))).trans (Kept.set1 W1 p 2 _) (fun k e => .inl (.inl e))
    have HCL : Hid (∃ ow', Agree wr ow ow' ∧ WSt ow' p rl (cl ++ [(⟨key, (i : Int) + 1, mode, false⟩ : Cl)]) n (woundC cl key (i + 1) mode tx) wins c (W1.setCell ⟨p, 2, none⟩ (.slice a1 (L + 1) c1)) ∧ Kept (Own ow) wr (W1.setCell ⟨p, 2, none⟩ (.slice a1 (L + 1) c1))) := by
     refine HST.out.1.claims HQ.out.1 (block_setCell hpW1 _) ?_ (fun k hk => ?_) hkk
     ·rw [hlx, clCells_append]
      exact ownsRow_kept hown1 (Kept.set1 W1 p 2 _) (fun k hk e => by
       obtain ⟨cur, hc⟩ := ownsRow_block hown1 hk
       exact blocks_apart hc hpW1 (by decide) e)
     ·rcases hmv1.fresh k hk with e | e
      ·exact .inl e
      ·exact .inr (Nat.le_trans ((Kept.refl NoBlk wr).alloc _).size e)
    obtain ⟨ow2, x1, x2, x3⟩ := HCL.out
    obtain ⟨g, cap, bi, f1, f2, f3, f4⟩ := x2.find hi
    have HSE := x2.setTxn hi f3 f4 (t' := { woundC cl key (i + 1) mode tx (i + 1) with waits := some key }) (j := 4) (v := .bool true) rfl rfl rfl rfl (fun _ _ _ _ => rfl)
    have HS7 : Hid (∃ ow', Agree w ow ow' ∧ WSt ow' p rl (cl ++ [(⟨key, (i : Int) + 1, mode, false⟩ : Cl)]) n (upd (woundC cl key (i + 1) mode tx) (i + 1) { woundC cl key (i + 1) mode tx (i + 1) with waits := some key }) wins c ((W1.setCell ⟨p, 2, none⟩ (.slice a1 (L + 1) c1)).setCell ⟨bi, 4, none⟩ (.bool true)) ∧ Kept (Own ow) w ((W1.setCell ⟨p, 2, none⟩ (.slice a1 (L + 1) c1)).setCell ⟨bi, 4, none⟩ (.bool true))) := ⟨ow2, x1.less HST.out.2.size, HSE.1, (HST.out.2.trans' x3).trans HSE.2 (fun k e => by
     by_cases hlt2 : k < wr.heap.size
     ·left; unfold Own at e ⊢; rw [← x1 k hlt2]; exact e
     ·right; have := HST.out.2.size; omega)⟩
    obtain ⟨r2, rd2, ov2, uv2, k2, _⟩ := f3
    have hbip : bi ≠ p := blocks_apart k2 (block_setCell hpW1 _) (by decide)
    have k2' := (block_setCell_other (w := W1) (a := ⟨p, 2, none⟩) hbip (.slice a1 (L + 1) c1)).symm.trans k2
    have s4 : W1.cell? ⟨bi, 4, none⟩ = some (.bool (woundC cl key (i + 1) mode tx (i + 1)).waits.isSome) := by rw [cell_at k2']; rfl
    have sf : ∀ j, W1.frozen? ⟨bi, j, none⟩ = false := frozen_at k2'
    have pf1 : ∀ j, W1.frozen? ⟨p, j, none⟩ = false := frozen_at hpW1
    have p2 : W1.cell? ⟨p, 2, none⟩ = some (.slice ao L cp) := by rw [cell_at hpW1]; rfl
    have p1 : W1.cell? ⟨p, 1, none⟩ = some (.slice (some ⟨g, 0, none⟩) n cap) := by rw [← f1]; exact (World.cell?_setCell_other W1 ⟨p, 2, none⟩ ⟨p, 1, none⟩ _ (by simp)).symm
    have hgp : g ≠ p := by
     obtain ⟨rv9, tv9, cv9, wv9, bs9, z1, _, _, z4, _⟩ := x2.body
     have z5 : tv9 = .slice (some ⟨g, 0, none⟩) n cap := by
      have e : (W1.setCell ⟨p, 2, none⟩ (.slice a1 (L + 1) c1)).cell? ⟨p, 1, none⟩ = some tv9 := by rw [cell_at z1]; rfl
      rw [f1] at e
      exact (Option.some.inj e).symm
     obtain ⟨cur, hc⟩ := ownsRow_block z4.1 (k := g) (by rw [z5]; rfl)
     exact blocks_apart hc z1 (by decide)
    have p3 : W1.cell? ⟨g, i, none⟩ = some (.pointer (some ⟨bi, 0, none⟩)) := by rw [← f2]; exact (World.cell?_setCell_other W1 ⟨p, 2, none⟩ ⟨g, i, none⟩ _ (by first | (simp; done) | (simp; intro e; exact absurd e.symm hgp))).symm
    have hwi : IntKind.wrap .i64 (i : Int) = (i : Int) := by rw [IntKind.wrap_i64]; omega
    have j4 : (0 : Int) ≤ (i : Int) := by omega
    have j5 : (i : Int) < (n : Int) := by omega
    have hbip' : ¬ bi = p := hbip
    have hbip2 : ¬ p = bi := fun e => hbip e.symm
    have hgp' : ¬ g = p := hgp
    have hgp2 : ¬ p = g := fun e => hgp e.symm
    clear hown1 hmv1 hpW1 hlx hkk HCL x1 x2 x3 f1 f2 f4 HSE k2 k2' HFR HST HQ hbip hgp pf v1
    go_wp2_with fail
    go_ret
    exact ⟨rfl, HS7.out⟩
end Go.Proofs.YtmcajfefagdbnaaGreat
