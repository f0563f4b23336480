import Derived.Test.YtmcajfefagdbnaaGreatJ20
import Derived.Test.YtmcajfefagdbnaaGreatJ16
import Derived.RegionTactic
import Derived.BigRegion
import Derived.BigQuiet
import Derived.Deep.QuietTactic
import Derived.Test.YtmcajfefagdbnaaGreatJ19
import Derived.Test.YtmcajfefagdbnaaGreatJ12
import Derived.Test.YtmcajfefagdbnaaGreatJ06
namespace Go.Proofs.YtmcajfefagdbnaaGreat
open Go Go.RowKit
theorem own_old {w : World} {ow ow' : OwB} (h : Agree w ow ow') (k : Nat) (x : Own ow' k) : Own ow k ∨ w.heap.size ≤ k := by
 rcases Nat.lt_or_ge k w.heap.size with hk | hk
 ·left; unfold Own at *; rw [← h k hk]; exact x
 ·exact .inr hk
theorem hold_count (cl : List Cl) (k i m : Int) : (holdL cl k i m).countP (fun c => !c.holds) = cl.countP (fun c => !c.holds) := by
 simp only [holdL]
 rcases filter_idx (l := cl) (p := isHeld k i) with ⟨h1, h2⟩ | ⟨a, l1, c, l2, h1, h2, h3, h4, h5, h6, h7, h8, h9⟩
 ·rw [h1]
  simp
 ·rw [h1]
  simp only
  rw [h5, h9]
  conv => rhs; rw [h3]
  simp [List.countP_append, List.countP_cons]
theorem hold_length (cl : List Cl) (k i m : Int) : (holdL cl k i m).length ≤ cl.length + 1 := by
 simp only [holdL]
 split
 ·simp
 ·simp
theorem unwait_count {cl : List Cl} {k : Int} {a : Nat} (h : cl.findIdx? (isWait k) = some a) : (cl.eraseIdx a).countP (fun c => !c.holds) + 1 = cl.countP (fun c => !c.holds) := by
 rcases filter_idx (l := cl) (p := isWait k) with ⟨h1, h2⟩ | ⟨i, l1, c, l2, h1, h2, h3, h4, h5, h6, h7, h8, h9⟩
 ·rw [h1] at h; cases h
 ·rw [h1] at h
  simp only [Option.some.injEq] at h
  subst h
  rw [h4]
  conv => rhs; rw [h3]
  simp only [isWait, Bool.and_eq_true] at h6
  simp [List.countP_append, h6.2]
  omega
set_option maxHeartbeats 1600000 in
theorem wmoved {ow : OwB} {p : Nat} {rl : List Row2} {cl : List Cl} {n : Nat} {tx : Nat → Tx} {wins : List Nat} {c : Int} {w : World} {lk : Int → Lk} (h : WSt ow p rl cl n tx wins c w) (hr : Rep n cl lk) (key : Int) (hn : cl.length ≤ 1099511627776) (hn2 : n ≤ 1099511627776) :
  Calls Tryz.prog 112 #[.pointer (some ⟨p, 0, none⟩), .int .i64 key] w fun e w' => e = .returned (.tuple #[]) ∧ ∃ ow' cl' pre, Agree w ow ow' ∧ WSt ow' p rl cl' n (clr pre tx) wins c w' ∧
   Rep n cl' (upd lk key (settle n (lk key).h (lk key).q)) ∧ (lk key).q = pre ++ (settle n (lk key).h (lk key).q).q ∧ cl'.length ≤ cl.length ∧ Kept (Own ow) w w' := by
 have HW : Hid _ := h
 have HR : Hid _ := hr
 clear h hr
 go_enter Tryz.func112, Tryz.ntmps112
 go_wp2_with fail
 go_loopw [] (fun wr => ∃ ow' cl' pre h' q', Agree w ow ow' ∧ WSt ow' p rl cl' n (clr pre tx) wins c wr ∧ Rep n cl' (upd lk key ⟨h', q'⟩) ∧ settle n h' q' = settle n (lk key).h (lk key).q ∧ (lk key).q = pre ++ q' ∧ cl'.length ≤ cl.length ∧ Kept (Own ow) w wr) (fun wr => waitsIn wr p)
 case atStart => exact ⟨ow, cl, [], (lk key).h, (lk key).q, Agree.refl _ _, HW.out, by rw [show upd lk key ⟨(lk key).h, (lk key).q⟩ = lk from upd_self lk key]; exact HR.out, rfl, rfl, Nat.le_refl _, Kept.refl _ _⟩
 case round =>
  obtain ⟨ow', cl', pre, h', q', a1, a2, a3, a4, a5, a6, a7⟩ := hrel
  obtain ⟨cv, v1, v2⟩ := a2.claimsAt
  have HA1 : Hid _ := a1
  have HA2 : Hid _ := a2
  have HA3 : Hid _ := a3
  have HA4 : Hid _ := a4
  have HA5 : Hid _ := a5
  have HA7 : Hid _ := a7
  have HV2 : Hid _ := v2
  cases q' with
  | nil =>
   have hw : waitL cl' key = -1 := by
    have := a3.nowait key (by rw [upd_same])
    simp only [waitL, this]
   clear a1 a2 a3 a4 a5 a7 v2
   go_wp2_with fail
   refine (wwaiting p cl' cv key wr v1 HV2.out (by omega)).mono ?_
   rintro e w1 ⟨rfl, hk1⟩
   rw [hw]
   have HK1 : Hid _ := hk1
   clear hk1 hw
   go_wp2_with fail
   refine bodyPost_ret (v := .tuple #[]) (by simp [results, Tryz.results112, go_sem]) rfl ?_
   have hset : settle n (lk key).h (lk key).q = ⟨h', []⟩ := by rw [← HA4.out]; rfl
   refine ⟨rfl, ow', cl', pre, HA1.out, HA2.out.kept0 HK1.out, by rw [hset]; exact HA3.out, by rw [hset]; exact HA5.out, a6, HA7.out.trans HK1.out (fun _ x => x.elim)⟩
  | cons x q'' =>
   obtain ⟨i, m⟩ := x
   obtain ⟨a, u1, u2, u3, u4, u5, u6, u7⟩ := a3.unwait key (q := q'') (x := (i, m)) (by rw [upd_same])
   rw [upd_same, upd_upd] at u7
   simp only at u3 u4 u5 u6 u7
   have hw : waitL cl' key = (a : Nat) := by simp only [waitL, u1]
   have hH : (cl'.find? (isHind key i m)).isSome = hind n h' i m := by rw [a3.hind, upd_same]
   have HU1 : Hid _ := u1
   have HU7 : Hid _ := u7
   have HU2 : Hid _ := u2
   have HU6 : Hid _ := u6
   clear a1 a2 a3 a4 a5 a7 u7 u1 u6
   go_wp2_with fail
   refine (wwaiting p cl' cv key wr v1 HV2.out (by omega)).mono ?_
   rintro e w1 ⟨rfl, hk1⟩
   rw [hw]
   have v1' := hk1.cell0 v1
   have HV2' : Hid (ClsSrc w1 cv cl') := ClsSrc.kept HV2.out hk1 (fun _ _ x => x)
   obtain ⟨ao, cp, rfl, hs⟩ := v2
   obtain ⟨b, off, rfl, hat⟩ := hs (by omega)
   obtain ⟨g0, g1, g2, g3⟩ := (hat.kept hk1 (fun x => x)) a u2
   rw [u3] at g1
   rw [u4] at g2
   have HK1 : Hid _ := hk1
   have l1 := World.block_lt_of_cell? w1 _ v1'
   have l2 := World.block_lt_of_cell? w1 _ g0
   have n0 : ¬ ((a : Int) < 0) := by omega
   have ha : (a : Int) < (cl'.length : Int) := by omega
   generalize hlen : cl'.length = L at *
   have HLEN : Hid _ := hlen
   generalize (cl'.getD a Cl.z).key = ck at *
   generalize (cl'.getD a Cl.z).holds = ch at *
   clear hk1 hw hs hat u3 u4 v1 hlen
   go_wp2_with fail
   have hC : (w1.alloc (.cells #[.int .i64 ck, .int .i64 (i : Nat), .int .i64 m, .bool ch] 109)).heap[w1.heap.size]? = some (.cells #[.int .i64 ck, .int .i64 (i : Nat), .int .i64 m, .bool ch] 109 (0, 0)) := block_alloc_new w1 _
   have hkA : Kept NoBlk w1 (w1.alloc (.cells #[.int .i64 ck, .int .i64 (i : Nat), .int .i64 m, .bool ch] 109)) := (Kept.refl _ _).alloc _
   refine (whindered p cl' _ key i m _ (hkA.cell0 v1') (ClsSrc.kept HV2'.out hkA (fun _ _ x => x)) (by have := HLEN.out; omega)).mono ?_
   rintro e w2 ⟨rfl, hk2⟩
   rw [hH]
   have hC2 := hk2.heap hC (fun x => x)
   have hkr : Kept NoBlk wr w2 := (HK1.out.trans hkA (fun _ x => x.elim)).trans hk2 (fun _ x => x.elim)
   have hC0 : ow' w1.heap.size = 0 := by
    rcases Nat.eq_zero_or_pos (ow' w1.heap.size) with h | h
    ·exact h
    ·have := HA2.out.lt w1.heap.size (by omega)
     have := HK1.out.size
     omega
   have hClt : w1.heap.size < w2.heap.size := lt_of_block hC2
   have c1 : w2.cell? ⟨w1.heap.size, 1, none⟩ = some (.int .i64 (i : Nat)) := by rw [cell_at hC2]; rfl
   have c2 : w2.cell? ⟨w1.heap.size, 2, none⟩ = some (.int .i64 m) := by rw [cell_at hC2]; rfl
   have HC2 : Hid _ := hC2
   have HKR : Hid _ := hkr
   have HS2 : Hid _ := HA2.out.kept0 hkr
   have HC0 : Hid _ := hC0
   generalize w1.heap.size = C at *
   clear hk2 hkA hC hC2 hkr hC0 l1 l2 g0 g1 g2 g3 v1' hH HV2' HK1
   by_cases hh : hind n h' i m = true
   ·rw [hh]
    clear c1 c2
    go_wp2_with fail
    refine bodyPost_ret (v := .tuple #[]) (by simp [results, Tryz.results112, go_sem]) rfl ?_
    have hset : settle n (lk key).h (lk key).q = ⟨h', (i, m) :: q''⟩ := by rw [← HA4.out]; simp only [settle, hh, if_true]
    exact ⟨rfl, ow', cl', pre, HA1.out, HS2.out, by rw [hset]; exact HA3.out, by rw [hset]; exact HA5.out, by rw [HLEN.out]; exact a6, HA7.out.trans HKR.out (fun _ x => x.elim)⟩
   ·have hh' : hind n h' i m = false := by simpa using hh
    rw [hh']
    have HH : Hid _ := hh'
    clear hh hh'
    go_wp2_with fail
    refine (wwithout_st HS2.out a (by have := HLEN.out; omega) (by have := HLEN.out; omega)).mono ?_
    rintro e w3 ⟨rfl, ow3, e1, e2, e3⟩
    have hnC : ¬ Own ow' C := fun x => x HC0.out
    have hC3 := e3.heap HC2.out hnC
    have c1' : w3.cell? ⟨C, 1, none⟩ = some (.int .i64 (i : Nat)) := by rw [cell_at hC3]; rfl
    have c2' : w3.cell? ⟨C, 2, none⟩ = some (.int .i64 m) := by rw [cell_at hC3]; rfl
    have hC03 : ow3 C = 0 := by rw [e1 C hClt]; exact HC0.out
    have hl3 : (cl'.eraseIdx a).length + 1 ≤ cl.length := by
     rw [List.length_eraseIdx_of_lt (by have := HLEN.out; omega)]
     have := HLEN.out
     omega
    have E1 : Hid _ := e1
    have E2 : Hid _ := e2
    have E3 : Hid _ := e3
    have HC3 : Hid _ := hC3
    have HC03 : Hid _ := hC03
    clear e1 e2 e3 hC3 hC03 c1 c2 hnC
    go_wp2_with fail
    refine (whold_st E2.out key i m (by omega)).mono ?_
    rintro e w4 ⟨rfl, ow4, f1, f2, f3⟩
    have hC4 := f3.heap HC3.out (fun x => x HC03.out)
    have d1 : w4.cell? ⟨C, 1, none⟩ = some (.int .i64 (i : Nat)) := by rw [cell_at hC4]; rfl
    obtain ⟨j, rfl⟩ : ∃ j, i = j + 1 := ⟨i - 1, by omega⟩
    have hjn : j < n := by omega
    obtain ⟨g, cap, b', k1, k2, k3, k4⟩ := f2.find hjn
    obtain ⟨cs, hB, hO⟩ := k3.block
    have hfz : w4.frozen? ⟨b', 4, none⟩ = false := frozen_at hB _
    have hcell : ∃ v, w4.cell? ⟨b', 4, none⟩ = some v := by
     obtain ⟨r, rd, ov, uv, z1, _⟩ := k3
     exact ⟨_, by rw [cell_at z1]; rfl⟩
    obtain ⟨v4, hcell⟩ := hcell
    have F1 : Hid _ := f1
    have F2 : Hid _ := f2
    have F3 : Hid _ := f3
    have K3 : Hid _ := k3
    have K4 : Hid _ := k4
    have j0 : (0 : Int) ≤ (j : Int) := by omega
    have j1 : (j : Int) < (n : Int) := by omega
    clear f1 f2 f3 k3 k4 hC4 hB c1' c2'
    go_wp2_with fail
    go_region
    go_wp2_with fail
    obtain ⟨s1, s2⟩ := F2.out.setTxn hjn K3.out K4.out (t' := { clr pre tx (j + 1) with waits := none }) (j := 4) (v := .bool false) rfl rfl rfl rfl (fun r rd ov uv => rfl)
    have hdr : Kept NoBlk (w4.setCell ⟨b', 4, none⟩ (.bool false)) (w4.setCell ⟨b', 4, none⟩ (.bool false)).drew := (Kept.refl _ _).drew
    have s3 := s1.kept0 hdr
    have ag : Agree w ow ow4 := Agree.trans (Agree.trans HA1.out (Nat.le_trans HA7.out.size HKR.out.size) E1.out) (Nat.le_trans (Nat.le_trans HA7.out.size HKR.out.size) E3.out.size) F1.out
    have ag3 : Agree w ow ow3 := Agree.trans HA1.out (Nat.le_trans HA7.out.size HKR.out.size) E1.out
    have rep := HU7.out.hold key (j + 1) m (by omega) HU6.out
    rw [upd_same, upd_upd] at rep
    simp only at rep
    refine ⟨⟨ow4, holdL (cl'.eraseIdx a) key ((j + 1 : Nat) : Int) m, pre ++ [(j + 1, m)], upd h' (j + 1) m, q'', ag, ?_, rep, ?_, ?_, ?_, ?_⟩, ?_⟩
    ·rw [clr_snoc]; exact s3
    ·rw [← HA4.out]; simp only [settle, HH.out, Bool.false_eq_true, if_false]
    ·rw [HA5.out]; simp
    ·exact Nat.le_trans (hold_length _ _ _ _) hl3
    ·refine Kept.trans (S' := Own ow4) (Kept.trans (S' := Own ow3) (Kept.trans (S' := Own ow') (HA7.out.trans HKR.out (fun _ x => x.elim)) E3.out ?_) F3.out ?_) (s2.drew) ?_
     ·exact fun k x => own_old HA1.out k x
     ·exact fun k x => own_old ag3 k x
     ·exact fun k x => own_old ag k x
    ·rw [s3.waits, HA2.out.waits, hold_count]
     have := unwait_count HU1.out
     omega
end Go.Proofs.YtmcajfefagdbnaaGreat
namespace Go.Proofs.YtmcajfefagdbnaaGreat
open Go Go.RowKit
set_option maxRecDepth 20000 in
set_option maxHeartbeats 1600000 in
theorem wwants_yes {ow : OwB} {p : Nat} {rl : List Row2} {cl : List Cl} {n : Nat} {tx : Nat → Tx} {wins : List Nat} {c : Int} {w : World} (h : WSt ow p rl cl n tx wins c w) (key id mode : Int) (h1 : waitL cl key < 0) (h2 : (cl.find? (isHind key id mode)).isSome = false) (hn : cl.length ≤ 1099511627776) :
  Calls Tryz.prog 84 #[.pointer (some ⟨p, 0, none⟩), .int .i64 key, .int .i64 id, .int .i64 mode] w fun e w' => e = .returned (.bool true) ∧ ∃ ow', Agree w ow ow' ∧ WSt ow' p rl (holdL cl key id mode) n tx wins c w' ∧ Kept (Own ow) w w' := by
 obtain ⟨cv, v1, v2⟩ := h.claimsAt
 have HA : Hid (Calls Tryz.prog 113 #[.pointer (some ⟨p, 0, none⟩), .int .i64 key] w fun e w' => e = .returned (.int .i64 (waitL cl key)) ∧ Kept NoBlk w w') := wwaiting p cl cv key w v1 v2 hn
 have HW : Hid (WSt ow p rl cl n tx wins c w) := h
 have HV : Hid (∀ W, Kept NoBlk w W → Calls Tryz.prog 114 #[.pointer (some ⟨p, 0, none⟩), .int .i64 key, .int .i64 id, .int .i64 mode] W fun e w' => e = .returned (.bool false) ∧ Kept NoBlk W w') := fun W hk => by
  obtain ⟨cv', u1, u2⟩ := (h.kept0 hk).claimsAt
  have := whindered p cl cv' key id mode W u1 u2 hn
  rw [h2] at this
  exact this
 clear h h2 v1 v2
 generalize waitL cl key = wl at *
 go_enter Tryz.func84, Tryz.ntmps84
 go_wp2_with fail
 refine HA.out.mono ?_
 rintro e w1 ⟨rfl, hk1⟩
 have HK1 : Hid (Kept NoBlk w w1) := hk1
 clear hk1
 go_wp2_with fail
 refine (HV.out w1 HK1.out).mono ?_
 rintro e w2 ⟨rfl, hk2⟩
 have HK2 : Hid (Kept NoBlk w w2) := HK1.out.trans' hk2
 clear hk2
 have hd : decide (wl < 0) = true := by simpa using h1
 go_wp2_with fail
 refine (whold_st (HW.out.kept0 HK2.out) key id mode hn).mono ?_
 rintro e w3 ⟨rfl, ow3, a1, a2, a3⟩
 have H3 : Hid (∃ ow', Agree w ow ow' ∧ WSt ow' p rl (holdL cl key id mode) n tx wins c w3 ∧ Kept (Own ow) w w3) := ⟨ow3, a1.less HK2.out.size, a2, (HK2.out.mono (fun _ x => x.elim)).trans' a3⟩
 clear a1 a2 a3
 go_wp2_with fail
 go_ret
 exact ⟨rfl, H3.out⟩
end Go.Proofs.YtmcajfefagdbnaaGreat
namespace Go.Proofs.YtmcajfefagdbnaaGreat
open Go Go.RowKit
def hlStep (cl : List Cl) (key : Int) (acc : List (Int × Int)) (id : Nat) : List (Int × Int) := if 0 < heldL cl key (id : Int) then acc ++ [((id : Int), heldL cl key (id : Int))] else acc
def hlAcc (cl : List Cl) (key : Int) (k : Nat) : List (Int × Int) := (List.range' 1 k).foldl (hlStep cl key) []
theorem hlAcc_succ (cl : List Cl) (key : Int) (k : Nat) : hlAcc cl key (k + 1) = hlStep cl key (hlAcc cl key k) (k + 1) := by
 unfold hlAcc
 rw [List.range'_concat, List.foldl_append]
 show hlStep cl key _ (1 + 1 * k) = _
 rw [Nat.one_mul, Nat.add_comm 1 k]
theorem hlAcc_len (cl : List Cl) (key : Int) (k : Nat) : (hlAcc cl key k).length ≤ k := by
 induction k with
 | zero => exact Nat.le_refl _
 | succ k ih =>
  rw [hlAcc_succ]
  unfold hlStep
  split
  ·simp; exact ih
  ·omega
def wlAcc (cl : List Cl) (key : Int) : List (Int × Int) := (cl.filter (isWait key)).map fun c => (c.txn, c.mode)
theorem wlAcc_snoc (l : List Cl) (key : Int) (c : Cl) : wlAcc (l ++ [c]) key = if isWait key c then wlAcc l key ++ [(c.txn, c.mode)] else wlAcc l key := by
 unfold wlAcc
 rw [List.filter_append, List.map_append]
 by_cases h : isWait key c = true
 ·simp [h]
 ·simp [h]
theorem wlAcc_len (l : List Cl) (key : Int) : (wlAcc l key).length ≤ l.length := by
 unfold wlAcc
 rw [List.length_map]
 exact List.length_filter_le _ _
structure LkI (w : World) (o : List (Int × Int)) (v : Value) (wr : World) : Prop where
 own : wr.ownsRow 0 107 2 v o.length (lkc o)
 new : ∀ b, v.ownBlock = some b → w.heap.size ≤ b
theorem LkI.keep0 {w : World} {o : List (Int × Int)} {v : Value} {wr W : World} (h : LkI w o v wr) (hk : Kept NoBlk wr W) : LkI w o v W := ⟨ownsRow_kept h.own hk (fun _ _ x => x), h.new⟩
theorem LkI.push {w : World} {o : List (Int × Int)} {v v' : Value} {wr W : World} (h : LkI w o v wr) (hkw : Kept NoBlk w wr) (t md : Int) {m : Nat} (hm : m = o.length + 1) (hown : W.ownsRow 0 107 2 v' m (lkc o ++ [.int .i64 t, .int .i64 md])) (hmv : Moved (wr.alloc (.cells #[.int .i64 t, .int .i64 md] 107)) W v v' m) : LkI w (o ++ [(t, md)]) v' W ∧ Kept NoBlk w W := by
 have hk := hmv.keptOf
 refine ⟨⟨?_, fun b hb => ?_⟩, (hkw.alloc _).trans hk (fun k e => .inr (h.new k e))⟩
 ·subst hm
  rw [lkc_snoc]
  simpa using hown
 ·rcases hmv.fresh b hb with e | e
  ·exact h.new b e
  ·exact Nat.le_trans (hkw.alloc (.cells #[.int .i64 t, .int .i64 md] 107)).size e
set_option maxRecDepth 20000 in
set_option maxHeartbeats 3200000 in
theorem wlocks {ow : OwB} {p : Nat} {rl : List Row2} {cl : List Cl} {n : Nat} {tx : Nat → Tx} {wins : List Nat} {c : Int} {w : World} (h : WSt ow p rl cl n tx wins c w) (key : Int) (hn : cl.length ≤ 1048576000) (hn2 : n ≤ 1048576000) :
  Calls Tryz.prog 50 #[.pointer (some ⟨p, 0, none⟩), .int .i64 key] w fun e w' => ∃ hv wv, e = .returned (.tuple #[hv, wv]) ∧ LkI w (hlAcc cl key n) hv w' ∧ LkI w (wlAcc cl key) wv w' ∧ Kept NoBlk w w' := by
 obtain ⟨rv, tv, cv, wv, bs, q1, q2, q3, q4, q5, q6, q7, q8⟩ := h.body
 have HW : Hid (WSt ow p rl cl n tx wins c w) := h
 obtain ⟨ta, tc, rfl⟩ := ownsRow_form q4.1
 have HP1 : Hid (w.cell? ⟨p, 1, none⟩ = some (.slice ta n tc)) := by unfold Hid; rw [cell_at q1]; rfl
 obtain ⟨i1, hi1, hy0, hy1, hy2⟩ := info_parts infoLk
 have HI : Hid (Tryz.prog.info? 107 = some i1 ∧ i1.zero = some (.agg #[.int .i64 0, .int .i64 0]) ∧ i1.size = 2 ∧ i1.bytes = 16) := ⟨hi1, hy0, hy1, hy2⟩
 have c1 : w.cell? ⟨p, 1, none⟩ = some (.slice ta n tc) := HP1.out
 clear h q1 q2 q3 q4 q5 q6 q7 q8 hi1 hy0 hy1 hy2
 go_enter Tryz.func50, Tryz.ntmps50
 go_wp2_with fail
 go_loopw [6, 8] (fun hv iv wr => ∃ (k : Nat) (oa : Option Addr) (oc : Nat), k ≤ n ∧ iv = .int .i64 ((k : Int) + 1) ∧ hv = .slice oa (hlAcc cl key k).length oc ∧ LkI w (hlAcc cl key k) (.slice oa (hlAcc cl key k).length oc) wr ∧ Kept NoBlk w wr) (fun _ iv _ => n + 1 - (intOf iv).toNat)
 case atStart => exact ⟨0, none, 0, Nat.zero_le _, rfl, rfl, ⟨World.ownsRow_nil _ _ _ _, fun b hb => by simp [Value.ownBlock] at hb⟩, Kept.refl _ _⟩
 case round =>
  clear c1
  obtain ⟨k, oa, oc, hk, rfl, rfl, hl, hkw⟩ := hrel
  have c1 : wr.cell? ⟨p, 1, none⟩ = some (.slice ta n tc) := hkw.cell0 HP1.out
  have HKW : Hid (Kept NoBlk w wr) := hkw
  have HLI : Hid (LkI w (hlAcc cl key k) (.slice oa (hlAcc cl key k).length oc) wr) := hl
  have hle := hlAcc_len cl key k
  clear hl hkw
  by_cases hlt : k < n
  ·have HHD : Hid (Calls Tryz.prog 82 #[.pointer (some ⟨p, 0, none⟩), .int .i64 key, .int .i64 ((k : Int) + 1)] wr fun e w' => e = .returned (.int .i64 (heldL cl key ((k : Int) + 1))) ∧ Kept NoBlk wr w') := by
    obtain ⟨cv', u1, u2⟩ := (HW.out.kept0 HKW.out).claimsAt
    exact wheld p cl cv' key _ wr u1 u2 (by omega)
   have HSU : Hid (hlAcc cl key (k + 1) = hlStep cl key (hlAcc cl key k) (k + 1)) := hlAcc_succ cl key k
   have HST : Hid (hlStep cl key (hlAcc cl key k) (k + 1) = if 0 < heldL cl key ((k : Int) + 1) then hlAcc cl key k ++ [((k : Int) + 1, heldL cl key ((k : Int) + 1))] else hlAcc cl key k) := rfl
   generalize heldL cl key ((k : Int) + 1) = hm at *
   generalize hlAcc cl key k = o at *
   generalize hol : o.length = ol at *
   have HOL : Hid (o.length = ol) := hol
   clear hol
   have HB1 : Hid (ol + 1 ≤ maxLen ∧ (ol + 1) * 16 ≤ 140737488355328) := by unfold Hid maxLen; omega
   have j1 : (k : Int) + 1 ≤ (n : Int) := by omega
   go_wp2_with fail
   refine HHD.out.mono ?_
   rintro e w2 ⟨rfl, hk2⟩
   have HK2 : Hid (Kept NoBlk w w2) := HKW.out.trans' hk2
   have HL2 : Hid (LkI w o (.slice oa ol oc) w2) := HLI.out.keep0 hk2
   clear hk2 HHD HLI c1
   by_cases hpos : 0 < hm
   ·have hd : decide (0 < hm) = true := by simpa using hpos
    have HFR : Hid ((w2.alloc (.cells #[.int .i64 ((k : Int) + 1), .int .i64 hm] 107)).ownsRow 0 107 2 (.slice oa ol oc) ol (lkc (o)) ∧ FromMem (w2.alloc (.cells #[.int .i64 ((k : Int) + 1), .int .i64 hm] 107)) 2 (.slice (some ⟨w2.heap.size, 0, none⟩) 1 1) 1 [.int .i64 ((k : Int) + 1), .int .i64 hm]) := ⟨ownsRow_kept (by have := HL2.out.own; rw [HOL.out] at this; exact this) ((Kept.refl NoBlk w2).alloc _) (fun _ _ x => x), from_new w2 [.int .i64 ((k : Int) + 1), .int .i64 hm] _ 2 1 (by rfl) (by simp [Value.oneCell'])⟩
    go_wp2_with (at_builtin; refine wpList_append_at (by rfl) _ _ 74 (by rfl) 107 i1 _ 2 16 Tryz.underlying74 HI.out.1 HI.out.2.1 HI.out.2.2.1 HI.out.2.2.2 (by rfl) (.slice oa ol oc) ol (lkc (o)) (by rfl) HFR.out.1 (.slice (some ⟨w2.heap.size, 0, none⟩) 1 1) 1 [.int .i64 ((k : Int) + 1), .int .i64 hm] (by rfl) HFR.out.2 HB1.out.1 HB1.out.2 ?_)
    intro a1 c1 W1 hown1 hmv1
    have HP3 : Hid (LkI w (o ++ [((k : Int) + 1, hm)]) (.slice a1 (ol + 1) c1) W1 ∧ Kept NoBlk w W1) := HL2.out.push HK2.out ((k : Int) + 1) hm (by rw [HOL.out]) hown1 hmv1
    clear hown1 hmv1 HFR
    go_wp2_with fail
    go_roundw
    case rel =>
     have e1 : hlAcc cl key (k + 1) = o ++ [((k : Int) + 1, hm)] := by rw [HSU.out, HST.out, if_pos hpos]
     have e2 : (o ++ [((k : Int) + 1, hm)]).length = ol + 1 := by simp only [List.length_append, List.length_cons, List.length_nil, Nat.zero_add, HOL.out]
     exact ⟨k + 1, a1, c1, by omega, by go_num, by rw [e1, e2], by rw [e1, e2]; exact HP3.out.1, HP3.out.2⟩
    case measure => simp [intOf]; omega
   ·have hd : decide (0 < hm) = false := by simpa using hpos
    go_wp2_with fail
    go_roundw
    case rel =>
     have e1 : hlAcc cl key (k + 1) = o := by rw [HSU.out, HST.out, if_neg (by omega)]
     exact ⟨k + 1, oa, oc, by omega, by go_num, by rw [e1, HOL.out], by rw [e1, HOL.out]; exact HL2.out, HK2.out⟩
    case measure => simp [intOf]; omega
  ·have hkn : k = n := by omega
   have HLN : Hid (LkI w (hlAcc cl key n) (.slice oa (hlAcc cl key k).length oc) wr) := by rw [← hkn]; exact HLI.out
   clear hkn HLI
   generalize (hlAcc cl key k).length = hol at *
   generalize hL : cl.length = L at *
   have HL : Hid (cl.length = L) := hL
   clear hL
   have H0 : Hid (LkI w (wlAcc (cl.take 0) key) (.slice none 0 0) wr ∧ LkI w (hlAcc cl key n) (.slice oa hol oc) wr ∧ Kept NoBlk w wr) := ⟨⟨World.ownsRow_nil _ _ _ _, fun b hb => by simp [Value.ownBlock] at hb⟩, HLN.out, HKW.out⟩
   clear HLN HKW
   go_wp2_with fail
   go_loopw [7, 10] (fun wv iv wr => ∃ (y : Nat) (ob : Option Addr) (oe : Nat), y ≤ L ∧ iv = .int .i64 y ∧ wv = .slice ob (wlAcc (cl.take y) key).length oe ∧ LkI w (wlAcc (cl.take y) key) (.slice ob (wlAcc (cl.take y) key).length oe) wr ∧ LkI w (hlAcc cl key n) (.slice oa hol oc) wr ∧ Kept NoBlk w wr ∧ (∀ b, (Value.slice oa hol oc).ownBlock = some b → ¬ (Value.slice ob (wlAcc (cl.take y) key).length oe).ownBlock = some b)) (fun _ iv _ => L - (intOf iv).toNat)
   case atStart => exact ⟨0, none, 0, Nat.zero_le _, rfl, rfl, H0.out.1, H0.out.2.1, H0.out.2.2, fun b _ e => by simp [Value.ownBlock] at e⟩
   case round =>
    clear H0
    obtain ⟨y, ob, oe, hy, rfl, rfl, hwl, hhl, hkw, hdj⟩ := hrel
    obtain ⟨cv, v1, ao, cp, rfl, hsrc⟩ := (HW.out.kept0 hkw).claimsAt
    rw [HL.out] at v1
    have hle2 : (wlAcc (cl.take y) key).length ≤ y := by have := wlAcc_len (cl.take y) key; rw [List.length_take] at this; omega
    have HWL : Hid (LkI w (wlAcc (cl.take y) key) (.slice ob (wlAcc (cl.take y) key).length oe) wr ∧ LkI w (hlAcc cl key n) (.slice oa hol oc) wr ∧ Kept NoBlk w wr) := ⟨hwl, hhl, hkw⟩
    have HDJ : Hid (∀ b, (Value.slice oa hol oc).ownBlock = some b → ¬ (Value.slice ob (wlAcc (cl.take y) key).length oe).ownBlock = some b) := hdj
    clear hwl hhl hkw hdj
    by_cases hyl : y < L
    ·obtain ⟨b, off, rfl, hat⟩ := hsrc (by rw [HL.out]; omega)
     obtain ⟨g0, g1, g2, g3⟩ := hat y (by rw [HL.out]; exact hyl)
     have HSN : Hid (wlAcc (cl.take (y + 1)) key = if isWait key (cl.getD y Cl.z) then wlAcc (cl.take y) key ++ [((cl.getD y Cl.z).txn, (cl.getD y Cl.z).mode)] else wlAcc (cl.take y) key) := by
      have e : cl.take (y + 1) = cl.take y ++ [cl.getD y Cl.z] := by
       rw [List.take_add_one, List.getElem?_eq_getElem (by rw [HL.out]; exact hyl), List.getD_eq_getElem?_getD, List.getElem?_eq_getElem (by rw [HL.out]; exact hyl)]
       rfl
      unfold Hid
      rw [e]
      exact wlAcc_snoc _ _ _
     clear hat hsrc
     generalize cl.getD y Cl.z = cc at *
     obtain ⟨ck, ct, cm, ch⟩ := cc
     simp only at g0 g1 g2 g3
     generalize wlAcc (cl.take y) key = o at *
     generalize hlo : o.length = ol at *
     have HOL : Hid (o.length = ol) := hlo
     clear hlo
     have HB1 : Hid (ol + 1 ≤ maxLen ∧ (ol + 1) * 16 ≤ 140737488355328) := by unfold Hid maxLen; omega
     have HW5 : Hid ((wr.alloc (.cells #[.int .i64 ck, .int .i64 ct, .int .i64 cm, .bool ch] 109)).heap[wr.heap.size]? = some (.cells #[.int .i64 ck, .int .i64 ct, .int .i64 cm, .bool ch] 109 (0, 0)) ∧ LkI w o (.slice ob ol oe) (wr.alloc (.cells #[.int .i64 ck, .int .i64 ct, .int .i64 cm, .bool ch] 109)) ∧ LkI w (hlAcc cl key n) (.slice oa hol oc) (wr.alloc (.cells #[.int .i64 ck, .int .i64 ct, .int .i64 cm, .bool ch] 109)) ∧ Kept NoBlk w (wr.alloc (.cells #[.int .i64 ck, .int .i64 ct, .int .i64 cm, .bool ch] 109))) := ⟨block_alloc_new wr _, HWL.out.1.keep0 ((Kept.refl NoBlk wr).alloc _), HWL.out.2.1.keep0 ((Kept.refl NoBlk wr).alloc _), HWL.out.2.2.alloc _⟩
     clear HWL
     have j0 : (0 : Int) ≤ (y : Int) := by omega
     have j1 : (y : Int) < (L : Int) := by omega
     by_cases hck : ck = key
     ·subst hck
      cases ch
      ·have hsz : (wr.alloc (.cells #[.int .i64 ck, .int .i64 ct, .int .i64 cm, .bool false] 109)).heap.size = wr.heap.size + 1 := alloc_size _ _
       have HFR : Hid (((wr.alloc (.cells #[.int .i64 ck, .int .i64 ct, .int .i64 cm, .bool false] 109)).alloc (.cells #[.int .i64 ct, .int .i64 cm] 107)).ownsRow 0 107 2 (.slice ob ol oe) ol (lkc o) ∧ FromMem ((wr.alloc (.cells #[.int .i64 ck, .int .i64 ct, .int .i64 cm, .bool false] 109)).alloc (.cells #[.int .i64 ct, .int .i64 cm] 107)) 2 (.slice (some ⟨wr.heap.size + 1, 0, none⟩) 1 1) 1 [.int .i64 ct, .int .i64 cm]) := by
        have h1 := from_new (wr.alloc (.cells #[.int .i64 ck, .int .i64 ct, .int .i64 cm, .bool false] 109)) [.int .i64 ct, .int .i64 cm] 107 2 1 (by rfl) (by simp [Value.oneCell'])
        rw [hsz] at h1
        exact ⟨ownsRow_kept (by have := HW5.out.2.1.own; rw [HOL.out] at this; exact this) ((Kept.refl NoBlk _).alloc _) (fun _ _ x => x), h1⟩
       clear hsz
       go_wp2_with (at_builtin; refine wpList_append_at (by rfl) _ _ 74 (by rfl) 107 i1 _ 2 16 Tryz.underlying74 HI.out.1 HI.out.2.1 HI.out.2.2.1 HI.out.2.2.2 (by rfl) (.slice ob ol oe) ol (lkc o) (by rfl) HFR.out.1 (.slice (some ⟨wr.heap.size + 1, 0, none⟩) 1 1) 1 [.int .i64 ct, .int .i64 cm] (by rfl) HFR.out.2 HB1.out.1 HB1.out.2 ?_)
       intro a1 c1 W1 hown1 hmv1
       have HP3 : Hid (LkI w (o ++ [(ct, cm)]) (.slice a1 (ol + 1) c1) W1 ∧ Kept NoBlk w W1) := HW5.out.2.1.push HW5.out.2.2.2 ct cm (by rw [HOL.out]) hown1 hmv1
       have HP4 : Hid (LkI w (hlAcc cl ck n) (.slice oa hol oc) W1) := ⟨ownsRow_kept (ownsRow_kept HW5.out.2.2.1.own ((Kept.refl NoBlk _).alloc _) (fun _ _ x => x)) hmv1.keptOf (fun b' hb' e => HDJ.out b' hb' e), HW5.out.2.2.1.new⟩
       have HDJ2 : Hid (∀ b, (Value.slice oa hol oc).ownBlock = some b → ¬ (Value.slice a1 (ol + 1) c1).ownBlock = some b) := fun b' hb' e => by
        rcases hmv1.fresh b' e with x | x
        ·exact HDJ.out b' hb' x
        ·have h1 := ownsRow_lt HW5.out.2.2.1.own b' hb'
         rw [alloc_size] at x
         omega
       clear hown1 hmv1 HFR
       go_wp2_with fail
       go_roundw
       case rel =>
        have e1 : wlAcc (cl.take (y + 1)) ck = o ++ [(ct, cm)] := by rw [HSN.out, if_pos (by simp [isWait])]
        have e2 : (o ++ [(ct, cm)]).length = ol + 1 := by simp only [List.length_append, List.length_cons, List.length_nil, Nat.zero_add, HOL.out]
        exact ⟨y + 1, a1, c1, by omega, by go_num, by rw [e1, e2], by rw [e1, e2]; exact HP3.out.1, HP4.out, HP3.out.2, by rw [e1, e2]; exact HDJ2.out⟩
       case measure => simp [intOf]; omega
      ·go_wp2_with fail
       go_roundw
       case rel =>
        have e1 : wlAcc (cl.take (y + 1)) ck = o := by rw [HSN.out, if_neg (by simp [isWait])]
        exact ⟨y + 1, ob, oe, by omega, by go_num, by rw [e1, HOL.out], by rw [e1, HOL.out]; exact HW5.out.2.1, HW5.out.2.2.1, HW5.out.2.2.2, by rw [e1, HOL.out]; exact HDJ.out⟩
       case measure => simp [intOf]; omega
     ·have he : (ck == key) = false := by simpa using hck
      go_wp2_with fail
      go_roundw
      case rel =>
       have e1 : wlAcc (cl.take (y + 1)) key = o := by rw [HSN.out, if_neg (by simp [isWait, hck])]
       exact ⟨y + 1, ob, oe, by omega, by go_num, by rw [e1, HOL.out], by rw [e1, HOL.out]; exact HW5.out.2.1, HW5.out.2.2.1, HW5.out.2.2.2, by rw [e1, HOL.out]; exact HDJ.out⟩
      case measure => simp [intOf]; omega
    ·have hyn : cl.take y = cl := List.take_of_length_le (by rw [HL.out]; omega)
     have HFN : Hid (LkI w (wlAcc cl key) (.slice ob (wlAcc (cl.take y) key).length oe) wr ∧ LkI w (hlAcc cl key n) (.slice oa hol oc) wr ∧ Kept NoBlk w wr) := by
      have h1 := HWL.out
      refine ⟨?_, h1.2⟩
      have h2 := h1.1
      rw [hyn] at h2 ⊢
      exact h2
     clear hyn HWL HDJ hsrc
     generalize (wlAcc (cl.take y) key).length = wol at *
     go_wp2_with fail
     go_ret2
     exact ⟨_, _, rfl, HFN.out.2.1, HFN.out.1, HFN.out.2.2⟩
end Go.Proofs.YtmcajfefagdbnaaGreat
