import Derived.Test.YtmcajfefagdbnaaGreatJ48
import Derived.Test.YtmcajfefagdbnaaGreatJ15
namespace Go.Proofs.YtmcajfefagdbnaaGreat
open Go Go.RowKit
theorem HoldsL.eq {H : Int × Int → Option Int} {key : Int} {l l' : List (Int × Int)} (h : HoldsL H key l) (h' : HoldsL H key l') : l = l' := by
 refine List.Perm.eq_of_pairwise (le := fun a b => a.1 < b.1) (fun a b _ _ h1 h2 => by omega) h.1 h'.1 ?_
 refine (List.perm_ext_iff_of_nodup ?_ ?_).2 (fun x => (h.2 x.1 x.2).trans (h'.2 x.1 x.2).symm)
 ·exact h.1.imp (fun hab e => by rw [e] at hab; omega)
 ·exact h'.1.imp (fun hab e => by rw [e] at hab; omega)
theorem hlAcc_mem (cl : List Cl) (key : Int) : ∀ k (t md : Int), (t, md) ∈ hlAcc cl key k ↔ ∃ id : Nat, 1 ≤ id ∧ id ≤ k ∧ t = (id : Int) ∧ md = heldL cl key (id : Int) ∧ 0 < heldL cl key (id : Int)
 | 0, t, md => by simp [hlAcc]; omega
 | k + 1, t, md => by
  rw [hlAcc_succ]
  unfold hlStep
  have ih := hlAcc_mem cl key k t md
  split
  ·rename_i hp
   rw [List.mem_append, ih, List.mem_singleton, Prod.mk.injEq]
   constructor
   ·rintro (⟨id, h1, h2, h3⟩ | ⟨h1, h2⟩)
    ·exact ⟨id, h1, by omega, h3⟩
    ·exact ⟨k + 1, by omega, by omega, h1, h2, hp⟩
   ·rintro ⟨id, h1, h2, h3, h4, h5⟩
    by_cases e : id = k + 1
    ·subst e; exact .inr ⟨h3, h4⟩
    ·exact .inl ⟨id, h1, by omega, h3, h4, h5⟩
  ·rename_i hp
   rw [ih]
   constructor
   ·rintro ⟨id, h1, h2, h3⟩
    exact ⟨id, h1, by omega, h3⟩
   ·rintro ⟨id, h1, h2, h3, h4, h5⟩
    by_cases e : id = k + 1
    ·subst e; exact absurd h5 hp
    ·exact ⟨id, h1, by omega, h3, h4, h5⟩
theorem hlAcc_rise (cl : List Cl) (key : Int) : ∀ k, (hlAcc cl key k).Pairwise (fun x y => x.1 < y.1)
 | 0 => by simp [hlAcc]
 | k + 1 => by
  rw [hlAcc_succ]
  unfold hlStep
  have ih := hlAcc_rise cl key k
  split
  ·rw [List.pairwise_append]
   refine ⟨ih, List.pairwise_singleton _ _, fun a ha b hb => ?_⟩
   obtain ⟨t, md⟩ := a
   obtain ⟨id, h1, h2, h3, _⟩ := (hlAcc_mem cl key k t md).1 ha
   rw [List.mem_singleton] at hb
   subst hb
   simp only
   omega
  ·exact ih
theorem hlAcc_holds {s : St} {cl : List Cl} (hr : Rep s.n cl s.lk) (hI : Inv s) (key : Int) : HoldsL (holdF s.lk) key (hlAcc cl key s.n) := by
 refine ⟨hlAcc_rise cl key s.n, fun t md => ?_⟩
 rw [hlAcc_mem]
 unfold holdF
 constructor
 ·rintro ⟨id, h1, h2, rfl, rfl, h5⟩
  rw [hr.heldL] at h5 ⊢
  simp only [Int.toNat_natCast]
  rw [if_pos ⟨by omega, by omega⟩]
 ·intro h
  split at h
  ·rename_i hx
   obtain rfl := Option.some.inj h
   have hb := (hI.row key).hold _ hx.2
   have hm := (hI.row key).mode t.toNat
   refine ⟨t.toNat, hb.1, hb.2, by have := hx.1; simp only at this; omega, ?_, ?_⟩
   ·rw [hr.heldL]
   ·rw [hr.heldL]
    have := hx.2
    simp only at this
    omega
  ·cases h
theorem wlAcc_queue {n : Nat} {cl : List Cl} {lk : Int → Lk} (hr : Rep n cl lk) (key : Int) : wlAcc cl key = qcast (lk key).q := by
 rw [← hr.queue key]
 unfold wlAcc qcast
 rw [List.map_map]
 apply List.map_congr_left
 intro c hc
 have := hr.ids c ((List.mem_filter.1 hc).1)
 simp only [Function.comp, Prod.mk.injEq, and_true]
 omega
theorem pi_locks {S : Nat → Prop} {p N0 j : Nat} {s : St} {w : World} (h : PI S p N0 j s w) (key : Int) (hkey : inI key) :
  Calls Tryz.prog 27 #[.pointer (some ⟨p, 0, none⟩), .int .i64 key] w fun e w' => ∃ va vb l, e = .returned (.tuple #[va, vb]) ∧ HoldsL (holdF s.lk) key l ∧ RowAt w' 107 2 va l.length (lkc l) ∧ RowAt w' 107 2 vb (qcast (s.lk key).q).length (lkc (qcast (s.lk key).q)) ∧ (s.lk key).q.length ≤ 12 ∧ (∀ k, va.ownBlock = some k → w.heap.size ≤ k) ∧ (∀ k, vb.ownBlock = some k → w.heap.size ≤ k) ∧ (∀ k, va.ownBlock = some k → ¬ vb.ownBlock = some k) ∧ PI S p N0 j s w' ∧ Kept S w w' := by
 obtain ⟨L, bs, ow, rfl, h2, h3⟩ := h
 have hq : (s.lk key).q.length ≤ 12 := by
  have h1 := nodup_len ((s.lk key).q.map (·.1)) (livers s) ((h3.good.inv.row key).once) (fun x hx => by
   obtain ⟨y, hy, rfl⟩ := List.mem_map.1 hx
   exact (h3.st.qdom key y hy).2)
  rw [List.length_map, livers_len] at h1
  have := h3.al
  omega
 refine (pLocks h3.st key hkey (by omega)).mono ?_
 rintro e w' ⟨vh, l, a, rfl, g1, g2, g3, g4, g5, g6, g7⟩
 have hql : (qcast (s.lk key).q).length = (s.lk key).q.length := by simp [qcast]
 refine ⟨vh, _, l, rfl, g3, g1, ?_, hq, g2, fun k hk => ?_, fun k hk e => ?_, ⟨L, bs, ow, rfl, h2, ⟨g6, h3.good, h3.act, h3.al, h3.n, h3.ag, h3.wins, h3.c0, h3.c1⟩⟩, g7.mono (fun k x => (h2 k).2 x)⟩
 ·rw [hql]
  exact RowAt.full g5 (by rw [lkc_len, hql]) (by unfold maxLen; omega)
 ·simp only [Value.ownBlock, Option.some.injEq] at hk
  omega
 ·simp only [Value.ownBlock, Option.some.injEq] at e
  have := g4.2 k hk
  omega
theorem wi_locks {S : Nat → Prop} {q N0 j : Nat} {s : St} {cl : List Cl} {w : World} (h : WI S q N0 j s cl w) (key : Int) (hI : Inv s) (hn : s.n ≤ 1048576) (hj : j ≤ 1048576) :
  Calls Tryz.prog 50 #[.pointer (some ⟨q, 0, none⟩), .int .i64 key] w fun e w' => ∃ va vb l, e = .returned (.tuple #[va, vb]) ∧ HoldsL (holdF s.lk) key l ∧ l.length ≤ 1048576 ∧ RowAt w' 107 2 va l.length (lkc l) ∧ RowAt w' 107 2 vb (qcast (s.lk key).q).length (lkc (qcast (s.lk key).q)) ∧ Kept NoBlk w w' := by
 obtain ⟨ow, h2, h3⟩ := h
 obtain ⟨rl, g1, _⟩ := h3.ex
 refine (wlocks g1 key (by have := h3.few; omega) (by omega)).mono ?_
 rintro e w' ⟨hv, wv, rfl, k1, k2, k3⟩
 rw [wlAcc_queue h3.rep] at k2
 exact ⟨hv, wv, _, rfl, hlAcc_holds h3.rep hI key, Nat.le_trans (hlAcc_len cl key s.n) hn, RowAt.owns k1.own, RowAt.owns k2.own, k3⟩
end Go.Proofs.YtmcajfefagdbnaaGreat
namespace Go.Proofs.YtmcajfefagdbnaaGreat
open Go Go.RowKit
theorem ret_boolR {b : Bool} (h : b = true) : Ending.returned (.bool b) = .returned (.bool true) := by rw [h]
def ToldAft (x p q o : Nat) (S T : Nat → Prop) (N0 j J : Nat) (s : St) (cl : List Cl) (w w' : World) : Prop := Kept (fun k => S k ∨ T k) w w' ∧ Pair x p q o S N0 j s cl w' ∧ ∃ T', Books T' o (J + 8) w' ∧ ∀ k, T' k → T k ∨ w.heap.size ≤ k
theorem Pair.told {x p q o : Nat} {S T Sp Sw : Nat → Prop} {N0 j J : Nat} {s : St} {cl : List Cl} {w W0 w2 w3 w4 : World} {v : Value} (h : Pair x p q o S N0 j s cl w) (hd : Disj S T)
  (hX : W0.heap[x]? = some (.cells #[.pointer (some ⟨p, 0, none⟩), .pointer (some ⟨q, 0, none⟩), .pointer (some ⟨o, 0, none⟩)] 38 (0, 0))) (hxS : S x) (hxp : ¬ Sp x) (hxw : ¬ Sw x) (hdd : Disj Sp Sw) (hSp : ∀ k, Sp k → S k) (hSw : ∀ k, Sw k → S k)
  (hk0 : Kept NoBlk w W0) (hk2 : Kept Sp W0 w2) (hP : PI Sp p N0 j s w2) (hW : WI Sw q N0 j s cl W0) (hf : ∀ k, v.ownBlock = some k → W0.heap.size ≤ k) (hk3 : Kept NoBlk w2 w3) (ht : Took T o J v w3 w4) : ToldAft x p q o S T N0 j J s cl w w4 := by
 obtain ⟨t1, T', t2, t3⟩ := ht
 have z0 := hk0.size
 have z2 := hk2.size
 have z3 := hk3.size
 have hnS : ∀ k, S k → ¬ (T k ∨ v.ownBlock = some k) := fun k hs e => by
  have := h.lt k hs
  rcases e with e | e
  ·exact hd k hs e
  ·have := hf k e; omega
 have hX4 := t1.heap (hk3.heap (hk2.heap hX hxp) (fun x => x)) (hnS x hxS)
 have hP4 := (hP.kept hk3 (fun _ _ x => x)).kept t1 (fun k hs => hnS k (hSp k hs))
 have hW4 := ((hW.kept hk2 (fun k a b => hdd k b a)).kept hk3 (fun _ _ x => x)).kept t1 (fun k hs => hnS k (hSw k hs))
 have hK : Kept (fun k => S k ∨ T k) w w4 := by
  refine (((hk0.mono (fun _ x => x.elim)).trans hk2 (fun k x => .inl (.inl (hSp k x)))).trans hk3 (fun _ x => x.elim)).trans t1 (fun k x => ?_)
  rcases x with x | x
  ·exact .inl (.inr x)
  ·right; have := hf k x; omega
 refine ⟨hK, ⟨fun k hk => Nat.lt_of_lt_of_le (h.lt k hk) hK.size, Sp, Sw, hX4, hxS, hxp, hxw, hP4, hW4, hdd, hSp, hSw⟩, T', t2.mono (by omega), fun k hk => ?_⟩
 rcases t3 k hk with e | e | e
 ·exact .inl e
 ·right; have := hf k e; omega
 ·right; omega
set_option maxRecDepth 100000 in
set_option maxHeartbeats 6400000 in
theorem play_wins4 (x p q o N0 j J : Nat) (S T : Nat → Prop) (n z : Int) (ao : Option Addr) (k kc : Nat) (s : St) (cl : List Cl) (w : World) (h : Pair x p q o S N0 j s cl w) (hB : Books T o J w) (hd : Disj S T) (hj : j ≤ 1048576) (hJ : J ≤ 1099511000000) :
  Calls Tryz.prog 16 #[.pointer (some ⟨x, 0, none⟩), .agg #[.int .i64 8, .int .i64 n, .int .i64 z, .slice ao k kc]] w fun e w' => e = .returned (.bool true) ∧ ToldAft x p q o S T N0 j J s cl w w' := by
 obtain ⟨Sp, Sw, h1, h2, h3, h4, h5, h6, h7, h8, h9⟩ := h.body
 have HQ : Hid (Pair x p q o S N0 j s cl w ∧ Books T o J w ∧ Disj S T) := ⟨h, hB, hd⟩
 have HF : Hid (Fine j s) := h5.fine
 have hk0 : Kept NoBlk w (w.alloc (.cells #[.int .i64 8, .int .i64 n, .int .i64 z, .slice ao k kc] 41)) := (Kept.refl _ _).alloc _
 have HX0 : Hid _ := hk0.heap h1 (fun x => x)
 have HP0 : Hid (PI Sp p N0 j s (w.alloc (.cells #[.int .i64 8, .int .i64 n, .int .i64 z, .slice ao k kc] 41))) := h5.kept hk0 (fun _ _ x => x)
 have HW0 : Hid (WI Sw q N0 j s cl (w.alloc (.cells #[.int .i64 8, .int .i64 n, .int .i64 z, .slice ao k kc] 41))) := h6.kept hk0 (fun _ _ x => x)
 have HK0 : Hid _ := hk0
 have H2 : Hid (S x ∧ ¬ Sp x ∧ ¬ Sw x) := ⟨h2, h3, h4⟩
 have H7 : Hid (Disj Sp Sw ∧ (∀ k, Sp k → S k) ∧ (∀ k, Sw k → S k)) := ⟨h7, h8, h9⟩
 have x0 : (w.alloc (.cells #[.int .i64 8, .int .i64 n, .int .i64 z, .slice ao k kc] 41)).cell? ⟨x, 0, none⟩ = some (.pointer (some ⟨p, 0, none⟩)) := by rw [cell_at HX0.out]; rfl
 clear h h1 h2 h3 h4 h5 h6 h7 h8 h9 hk0 hB hd
 go_enter Tryz.func16, Tryz.ntmps16
 go_wp2_with fail
 generalize w.alloc (.cells #[.int .i64 8, .int .i64 n, .int .i64 z, .slice ao k kc] 41) = W0 at *
 have HCP : Hid (Calls Tryz.prog 29 #[.pointer (some ⟨p, 0, none⟩)] W0 fun e w' => ∃ v, e = .returned v ∧ RowAt w' 3 1 v s.wins.length (winCells s.wins) ∧ (∀ k, v.ownBlock = some k → W0.heap.size ≤ k) ∧ PI Sp p N0 j s w' ∧ Kept Sp W0 w') := pi_wins HP0.out hj
 refine HCP.out.mono ?_
 rintro e w2 ⟨v, rfl, g1, g2, g3, g4⟩
 have hX2 := g4.heap HX0.out H2.out.2.1
 have x1 : w2.cell? ⟨x, 1, none⟩ = some (.pointer (some ⟨q, 0, none⟩)) := by rw [cell_at hX2]; rfl
 have hW2 : WI Sw q N0 j s cl w2 := HW0.out.kept g4 (fun k hw hp => H7.out.1 k hp hw)
 obtain ⟨v', b1, b2, b3⟩ := wi_wins hW2
 have hln : s.wins.length ≤ 33554432 := by have := HF.out.wins; omega
 have HSM : Hid (Calls Tryz.prog 55 #[v, v'] w2 fun e w' => e = .returned (.bool true) ∧ Kept NoBlk w2 w') := sameInts_row v v' s.wins.length (winCells s.wins) (fun k => ((s.wins.getD k 0 : Nat) : Int)) w2 hln g1 b2 (fun k hk => winCells_at _ k hk)
 have HG : Hid (RowAt w2 3 1 v s.wins.length (winCells s.wins) ∧ (∀ k, v.ownBlock = some k → W0.heap.size ≤ k) ∧ PI Sp p N0 j s w2 ∧ Kept Sp W0 w2) := ⟨g1, g2, g3, g4⟩
 have HX2 : Hid _ := hX2
 have HLN : Hid (s.wins.length ≤ 33554432) := hln
 have y1 : w2.cell? ⟨q, 3, none⟩ = some v' := b1
 clear g1 g2 g3 g4 hX2 hW2 b1 b2 b3 HCP x0 hln
 go_wp2_with fail
 refine HSM.out.mono ?_
 rintro e w3 ⟨rfl, hk3⟩
 have hX3 := hk3.heap HX2.out (fun x => x)
 have x2 : w3.cell? ⟨x, 2, none⟩ = some (.pointer (some ⟨o, 0, none⟩)) := by rw [cell_at hX3]; rfl
 have HTK : Hid (Calls Tryz.prog 48 #[.pointer (some ⟨o, 0, none⟩), v] w3 fun e w' => e = .returned (.tuple #[]) ∧ Took T o J v w3 w') := by
  have hB3 : Books T o J w3 := ((HQ.out.2.1.kept HK0.out (fun _ _ x => x)).kept HG.out.2.2.2 (fun k ht hs => HQ.out.2.2 k (H7.out.2.1 k hs) ht)).kept hk3 (fun _ _ x => x)
  refine takeInts_bk hB3 (by omega) v s.wins.length (winCells s.wins) (HG.out.1.kept hk3 (fun _ _ x => x)) HLN.out (fun k hk ht => ?_)
  have := HG.out.2.1 k hk
  have := HQ.out.2.1.lt k ht
  have := HK0.out.size
  omega
 have HK3 : Hid (Kept NoBlk w2 w3) := hk3
 clear hk3 hX3 HSM x1 y1
 go_wp2_with fail
 refine HTK.out.mono ?_
 rintro e w4 ⟨rfl, ht⟩
 have HA : Hid (ToldAft x p q o S T N0 j J s cl w w4) := HQ.out.1.told HQ.out.2.2 HX0.out H2.out.1 H2.out.2.1 H2.out.2.2 H7.out.1 H7.out.2.1 H7.out.2.2 HK0.out HG.out.2.2.2 HG.out.2.2.1 HW0.out HG.out.2.1 HK3.out ht
 clear ht HTK x2
 go_wp2_with fail
 go_ret
 exact ⟨ret_boolR rfl, HA.out⟩
set_option maxRecDepth 100000 in
set_option maxHeartbeats 6400000 in
theorem play_rows4 (x p q o N0 j J : Nat) (S T : Nat → Prop) (n z : Int) (ao : Option Addr) (k kc : Nat) (s : St) (cl : List Cl) (w : World) (h : Pair x p q o S N0 j s cl w) (hB : Books T o J w) (hd : Disj S T) (hj : j ≤ 1048576) (hN : N0 ≤ 1048576) (hJ : J ≤ 1099511000000) :
  Calls Tryz.prog 16 #[.pointer (some ⟨x, 0, none⟩), .agg #[.int .i64 7, .int .i64 n, .int .i64 z, .slice ao k kc]] w fun e w' => e = .returned (.bool true) ∧ ToldAft x p q o S T N0 j J s cl w w' := by
 obtain ⟨Sp, Sw, h1, h2, h3, h4, h5, h6, h7, h8, h9⟩ := h.body
 have HQ : Hid (Pair x p q o S N0 j s cl w ∧ Books T o J w ∧ Disj S T) := ⟨h, hB, hd⟩
 have HF : Hid (Fine j s) := h5.fine
 have hk0 : Kept NoBlk w (w.alloc (.cells #[.int .i64 7, .int .i64 n, .int .i64 z, .slice ao k kc] 41)) := (Kept.refl _ _).alloc _
 have HX0 : Hid _ := hk0.heap h1 (fun x => x)
 have HP0 : Hid (PI Sp p N0 j s (w.alloc (.cells #[.int .i64 7, .int .i64 n, .int .i64 z, .slice ao k kc] 41))) := h5.kept hk0 (fun _ _ x => x)
 have HW0 : Hid (WI Sw q N0 j s cl (w.alloc (.cells #[.int .i64 7, .int .i64 n, .int .i64 z, .slice ao k kc] 41))) := h6.kept hk0 (fun _ _ x => x)
 have HK0 : Hid _ := hk0
 have H2 : Hid (S x ∧ ¬ Sp x ∧ ¬ Sw x) := ⟨h2, h3, h4⟩
 have H7 : Hid (Disj Sp Sw ∧ (∀ k, Sp k → S k) ∧ (∀ k, Sw k → S k)) := ⟨h7, h8, h9⟩
 have x0 : (w.alloc (.cells #[.int .i64 7, .int .i64 n, .int .i64 z, .slice ao k kc] 41)).cell? ⟨x, 0, none⟩ = some (.pointer (some ⟨p, 0, none⟩)) := by rw [cell_at HX0.out]; rfl
 clear h h1 h2 h3 h4 h5 h6 h7 h8 h9 hk0 hB hd
 go_enter Tryz.func16, Tryz.ntmps16
 go_wp2_with fail
 generalize w.alloc (.cells #[.int .i64 7, .int .i64 n, .int .i64 z, .slice ao k kc] 41) = W0 at *
 have HCP : Hid (Calls Tryz.prog 25 #[.pointer (some ⟨p, 0, none⟩)] W0 fun e w' => ∃ v l, e = .returned v ∧ RowsOf s.rows l ∧ RowAt w' 95 2 v l.length (rowCells l) ∧ (∀ k, v.ownBlock = some k → W0.heap.size ≤ k) ∧ PI Sp p N0 j s w' ∧ Kept Sp W0 w') := pi_rows HP0.out hj hN
 refine HCP.out.mono ?_
 rintro e w2 ⟨v, l, rfl, g0, g1, g2, g3, g4⟩
 have hX2 := g4.heap HX0.out H2.out.2.1
 have x1 : w2.cell? ⟨x, 1, none⟩ = some (.pointer (some ⟨q, 0, none⟩)) := by rw [cell_at hX2]; rfl
 have hW2 : WI Sw q N0 j s cl w2 := HW0.out.kept g4 (fun k hw hp => H7.out.1 k hp hw)
 obtain ⟨v', l', b1, b0, bl, b2, b3⟩ := wi_rows hW2
 have el : l = l' := g0.eq b0
 rw [← el] at b2 bl
 have hln : l.length ≤ 33554432 := by omega
 have HSM : Hid (Calls Tryz.prog 53 #[v, v'] w2 fun e w' => e = .returned (.bool true) ∧ Kept NoBlk w2 w') := sameRows_row v v' l.length (rowCells l) (fun k => (l.getD k Row2.z).k) (fun k => (l.getD k Row2.z).v) w2 hln g1 b2 (fun k hk => rowCells_get l k hk)
 clear el b0 g0 bl
 have HG : Hid (RowAt w2 95 2 v l.length (rowCells l) ∧ (∀ k, v.ownBlock = some k → W0.heap.size ≤ k) ∧ PI Sp p N0 j s w2 ∧ Kept Sp W0 w2) := ⟨g1, g2, g3, g4⟩
 have HX2 : Hid _ := hX2
 have HLN : Hid (l.length ≤ 33554432) := hln
 have y1 : w2.cell? ⟨q, 0, none⟩ = some v' := b1
 clear g1 g2 g3 g4 hX2 hW2 b1 b2 b3 HCP x0 hln
 go_wp2_with fail
 refine HSM.out.mono ?_
 rintro e w3 ⟨rfl, hk3⟩
 have hX3 := hk3.heap HX2.out (fun x => x)
 have x2 : w3.cell? ⟨x, 2, none⟩ = some (.pointer (some ⟨o, 0, none⟩)) := by rw [cell_at hX3]; rfl
 have HTK : Hid (Calls Tryz.prog 54 #[.pointer (some ⟨o, 0, none⟩), v] w3 fun e w' => e = .returned (.tuple #[]) ∧ Took T o J v w3 w') := by
  have hB3 : Books T o J w3 := ((HQ.out.2.1.kept HK0.out (fun _ _ x => x)).kept HG.out.2.2.2 (fun k ht hs => HQ.out.2.2 k (H7.out.2.1 k hs) ht)).kept hk3 (fun _ _ x => x)
  refine takeRows_bk hB3 (by omega) v l.length (rowCells l) (HG.out.1.kept hk3 (fun _ _ x => x)) HLN.out (fun k hk ht => ?_)
  have := HG.out.2.1 k hk
  have := HQ.out.2.1.lt k ht
  have := HK0.out.size
  omega
 have HK3 : Hid (Kept NoBlk w2 w3) := hk3
 clear hk3 hX3 HSM x1 y1
 go_wp2_with fail
 refine HTK.out.mono ?_
 rintro e w4 ⟨rfl, ht⟩
 have HA : Hid (ToldAft x p q o S T N0 j J s cl w w4) := HQ.out.1.told HQ.out.2.2 HX0.out H2.out.1 H2.out.2.1 H2.out.2.2 H7.out.1 H7.out.2.1 H7.out.2.2 HK0.out HG.out.2.2.2 HG.out.2.2.1 HW0.out HG.out.2.1 HK3.out ht
 clear ht HTK x2
 go_wp2_with fail
 go_ret
 exact ⟨ret_boolR rfl, HA.out⟩
end Go.Proofs.YtmcajfefagdbnaaGreat
namespace Go.Proofs.YtmcajfefagdbnaaGreat
open Go Go.RowKit
theorem Pair.told2 {x p q o : Nat} {S T T1 Sp Sw : Nat → Prop} {N0 j J : Nat} {s : St} {cl : List Cl} {w W0 w2 w3 w4 w5 w6 : World} {v v2 : Value} (h : Pair x p q o S N0 j s cl w) (hd : Disj S T)
  (hX : W0.heap[x]? = some (.cells #[.pointer (some ⟨p, 0, none⟩), .pointer (some ⟨q, 0, none⟩), .pointer (some ⟨o, 0, none⟩)] 38 (0, 0))) (hxS : S x) (hxp : ¬ Sp x) (hxw : ¬ Sw x) (hdd : Disj Sp Sw) (hSp : ∀ k, Sp k → S k) (hSw : ∀ k, Sw k → S k)
  (hk0 : Kept NoBlk w W0) (hk2 : Kept Sp W0 w2) (hP : PI Sp p N0 j s w2) (hW : WI Sw q N0 j s cl W0) (hf : ∀ k, v.ownBlock = some k → W0.heap.size ≤ k) (hf2 : ∀ k, v2.ownBlock = some k → W0.heap.size ≤ k) (hk3 : Kept NoBlk w2 w3)
  (t1 : Kept (fun k => T k ∨ v.ownBlock = some k) w3 w4) (t3 : ∀ k, T1 k → T k ∨ v.ownBlock = some k ∨ w3.heap.size ≤ k) (hk4 : Kept NoBlk w4 w5) (ht : Took T1 o (J + 4) v2 w5 w6) : ToldAft x p q o S T N0 j J s cl w w6 := by
 obtain ⟨u1, T', u2, u3⟩ := ht
 have z0 := hk0.size
 have z2 := hk2.size
 have z3 := hk3.size
 have z4 := t1.size
 have z5 := hk4.size
 have hnS : ∀ k, S k → ¬ (T k ∨ v.ownBlock = some k) := fun k hs e => by
  have := h.lt k hs
  rcases e with e | e
  ·exact hd k hs e
  ·have := hf k e; omega
 have hnS2 : ∀ k, S k → ¬ (T1 k ∨ v2.ownBlock = some k) := fun k hs e => by
  have := h.lt k hs
  rcases e with e | e
  ·rcases t3 k e with e | e | e
   ·exact hnS k hs (.inl e)
   ·exact hnS k hs (.inr e)
   ·omega
  ·have := hf2 k e; omega
 have hX4 := u1.heap (hk4.heap (t1.heap (hk3.heap (hk2.heap hX hxp) (fun x => x)) (hnS x hxS)) (fun x => x)) (hnS2 x hxS)
 have hP4 := (((hP.kept hk3 (fun _ _ x => x)).kept t1 (fun k hs => hnS k (hSp k hs))).kept hk4 (fun _ _ x => x)).kept u1 (fun k hs => hnS2 k (hSp k hs))
 have hW4 := ((((hW.kept hk2 (fun k a b => hdd k b a)).kept hk3 (fun _ _ x => x)).kept t1 (fun k hs => hnS k (hSw k hs))).kept hk4 (fun _ _ x => x)).kept u1 (fun k hs => hnS2 k (hSw k hs))
 have hK : Kept (fun k => S k ∨ T k) w w6 := by
  refine (((((hk0.mono (fun _ x => x.elim)).trans hk2 (fun k x => .inl (.inl (hSp k x)))).trans hk3 (fun _ x => x.elim)).trans t1 (fun k x => ?_)).trans hk4 (fun _ x => x.elim)).trans u1 (fun k x => ?_)
  ·rcases x with x | x
   ·exact .inl (.inr x)
   ·right; have := hf k x; omega
  ·rcases x with x | x
   ·rcases t3 k x with x | x | x
    ·exact .inl (.inr x)
    ·right; have := hf k x; omega
    ·right; omega
   ·right; have := hf2 k x; omega
 refine ⟨hK, ⟨fun k hk => Nat.lt_of_lt_of_le (h.lt k hk) hK.size, Sp, Sw, hX4, hxS, hxp, hxw, hP4, hW4, hdd, hSp, hSw⟩, T', u2.mono (by omega), fun k hk => ?_⟩
 rcases u3 k hk with e | e | e
 ·rcases t3 k e with e | e | e
  ·exact .inl e
  ·right; have := hf k e; omega
  ·right; omega
 ·right; have := hf2 k e; omega
 ·right; omega
set_option maxRecDepth 100000 in
set_option maxHeartbeats 6400000 in
theorem play_locks4 (x p q o N0 j J : Nat) (S T : Nat → Prop) (n z : Int) (ao : Option Addr) (k kc : Nat) (s : St) (cl : List Cl) (w : World) (h : Pair x p q o S N0 j s cl w) (hB : Books T o J w) (hd : Disj S T) (hj : j ≤ 1048576) (hJ : J ≤ 1099511000000) (hn : inI n) :
  Calls Tryz.prog 16 #[.pointer (some ⟨x, 0, none⟩), .agg #[.int .i64 6, .int .i64 n, .int .i64 z, .slice ao k kc]] w fun e w' => e = .returned (.bool true) ∧ ToldAft x p q o S T N0 j J s cl w w' := by
 obtain ⟨Sp, Sw, h1, h2, h3, h4, h5, h6, h7, h8, h9⟩ := h.body
 have HQ : Hid (Pair x p q o S N0 j s cl w ∧ Books T o J w ∧ Disj S T) := ⟨h, hB, hd⟩
 have HF : Hid (Fine j s) := h5.fine
 have HIN : Hid (inI n) := hn
 have hk0 : Kept NoBlk w (w.alloc (.cells #[.int .i64 6, .int .i64 n, .int .i64 z, .slice ao k kc] 41)) := (Kept.refl _ _).alloc _
 have HX0 : Hid _ := hk0.heap h1 (fun x => x)
 have HO0 : Hid ((w.alloc (.cells #[.int .i64 6, .int .i64 n, .int .i64 z, .slice ao k kc] 41)).heap[w.heap.size]? = some (.cells #[.int .i64 6, .int .i64 n, .int .i64 z, .slice ao k kc] 41 (0, 0))) := block_alloc_new w _
 have HP0 : Hid (PI Sp p N0 j s (w.alloc (.cells #[.int .i64 6, .int .i64 n, .int .i64 z, .slice ao k kc] 41)).drew) := h5.kept hk0.drew (fun _ _ x => x)
 have HW0 : Hid (WI Sw q N0 j s cl (w.alloc (.cells #[.int .i64 6, .int .i64 n, .int .i64 z, .slice ao k kc] 41)).drew) := h6.kept hk0.drew (fun _ _ x => x)
 have HK0 : Hid _ := hk0
 have H2 : Hid (S x ∧ ¬ Sp x ∧ ¬ Sw x) := ⟨h2, h3, h4⟩
 have H7 : Hid (Disj Sp Sw ∧ (∀ k, Sp k → S k) ∧ (∀ k, Sw k → S k)) := ⟨h7, h8, h9⟩
 clear h h1 h2 h3 h4 h5 h6 h7 h8 h9 hk0 hB hd hn
 go_enter Tryz.func16, Tryz.ntmps16
 go_wp2_with fail
 generalize w.alloc (.cells #[.int .i64 6, .int .i64 n, .int .i64 z, .slice ao k kc] 41) = W0 at *
 generalize hH : w.heap.size = H at HO0 ⊢
 have HH : Hid _ := hH
 clear hH
 have hSpH : ¬ Sp H := fun hs => by have := HQ.out.1.lt H (H7.out.2.1 H hs); have := HH.out; omega
 have x0 : W0.cell? ⟨x, 0, none⟩ = some (.pointer (some ⟨p, 0, none⟩)) := by rw [cell_at HX0.out]; rfl
 have n0 : W0.cell? ⟨H, 1, none⟩ = some (.int .i64 n) := by rw [cell_at HO0.out]; rfl
 have HCP : Hid (Calls Tryz.prog 27 #[.pointer (some ⟨p, 0, none⟩), .int .i64 n] W0.drew fun e w' => ∃ va vb l, e = .returned (.tuple #[va, vb]) ∧ HoldsL (holdF s.lk) n l ∧ RowAt w' 107 2 va l.length (lkc l) ∧ RowAt w' 107 2 vb (qcast (s.lk n).q).length (lkc (qcast (s.lk n).q)) ∧ (s.lk n).q.length ≤ 12 ∧ (∀ k, va.ownBlock = some k → W0.drew.heap.size ≤ k) ∧ (∀ k, vb.ownBlock = some k → W0.drew.heap.size ≤ k) ∧ (∀ k, va.ownBlock = some k → ¬ vb.ownBlock = some k) ∧ PI Sp p N0 j s w' ∧ Kept Sp W0.drew w') := pi_locks HP0.out n HIN.out
 go_region_held3 (fun w' => w'.cell? ⟨x, 0, none⟩ = some (.pointer (some ⟨p, 0, none⟩)) ∧ w'.cell? ⟨H, 1, none⟩ = some (.int .i64 n))
  (first | exact ⟨hx2, hn2⟩ | exact ⟨x0, n0⟩)
  (first
   | (go_at_call 27; refine HCP.out.mono ?_; rintro e w2 ⟨va, vb, l, rfl, g0, g1, g2, g3, g4, g5, g6, g7, g8⟩; have hx2 := g8.cell (show W0.drew.cell? ⟨x, 0, none⟩ = some (.pointer (some ⟨p, 0, none⟩)) from x0) H2.out.2.1; have hn2 := g8.cell (show W0.drew.cell? ⟨H, 1, none⟩ = some (.int .i64 n) from n0) hSpH))
 have hX2 := g8.heap (show W0.drew.heap[x]? = _ from HX0.out) H2.out.2.1
 have x1 : w2.cell? ⟨x, 1, none⟩ = some (.pointer (some ⟨q, 0, none⟩)) := by rw [cell_at hX2]; rfl
 have HX2 : Hid _ := hX2
 have hmm : w2.cell? ⟨H, 1, none⟩ = some (.int .i64 n) := hn2
 have HG : Hid (HoldsL (holdF s.lk) n l ∧ RowAt w2 107 2 va l.length (lkc l) ∧ RowAt w2 107 2 vb (qcast (s.lk n).q).length (lkc (qcast (s.lk n).q)) ∧ (s.lk n).q.length ≤ 12 ∧ (∀ k, va.ownBlock = some k → W0.heap.size ≤ k) ∧ (∀ k, vb.ownBlock = some k → W0.heap.size ≤ k) ∧ (∀ k, va.ownBlock = some k → ¬ vb.ownBlock = some k)) := ⟨g0, g1, g2, g3, g4, g5, g6⟩
 have HGP : Hid (PI Sp p N0 j s w2 ∧ Kept Sp W0.drew w2) := ⟨g7, g8⟩
 have HCW : Hid (Calls Tryz.prog 50 #[.pointer (some ⟨q, 0, none⟩), .int .i64 n] w2.drew fun e w' => ∃ va vb l, e = .returned (.tuple #[va, vb]) ∧ HoldsL (holdF s.lk) n l ∧ l.length ≤ 1048576 ∧ RowAt w' 107 2 va l.length (lkc l) ∧ RowAt w' 107 2 vb (qcast (s.lk n).q).length (lkc (qcast (s.lk n).q)) ∧ Kept NoBlk w2.drew w') := wi_locks ((HW0.out.kept g8 (fun k hw hp => H7.out.1 k hp hw)).kept ((Kept.refl NoBlk w2).drew) (fun _ _ x => x)) n HF.out.good.inv (by have := HF.out.n; omega) hj
 clear g0 g1 g2 g3 g4 g5 g6 g7 g8 hx2 hn2 hX2 x0 n0 HCP
 go_wp2_with fail
 go_region_held3 (fun w' => w'.cell? ⟨x, 1, none⟩ = some (.pointer (some ⟨q, 0, none⟩)) ∧ w'.cell? ⟨H, 1, none⟩ = some (.int .i64 n))
  (first | exact ⟨hx3, hn3⟩ | exact ⟨x1, hmm⟩)
  (first
   | (go_at_call 50; refine HCW.out.mono ?_; rintro e w3 ⟨vc, vd, l', rfl, f0, f1, f2, f3, f4⟩; have hx3 := f4.cell0 (show w2.drew.cell? ⟨x, 1, none⟩ = some (.pointer (some ⟨q, 0, none⟩)) from x1); have hn3 := f4.cell0 (show w2.drew.cell? ⟨H, 1, none⟩ = some (.int .i64 n) from hmm)))
 have el : l = l' := HG.out.1.eq f0
 rw [← el] at f1 f2
 have hk23 : Kept NoBlk w2 w3 := (Kept.refl NoBlk w2).drew.trans' f4
 have hql : (qcast (s.lk n).q).length ≤ 12 := by have := HG.out.2.2.2.1; simpa [qcast] using this
 have hva := HG.out.2.1.kept hk23 (fun _ _ x => x)
 have hvb := HG.out.2.2.1.kept hk23 (fun _ _ x => x)
 have HS1 : Hid (Calls Tryz.prog 51 #[va, vc] w3 fun e w' => e = .returned (.bool true) ∧ Kept NoBlk w3 w') := sameLocks_row va vc l.length (lkc l) (fun k => (l.getD k (0, 0)).1) (fun k => (l.getD k (0, 0)).2) w3 (by omega) hva f2 (fun k hk => lkc_at l k hk)
 have HS2 : Hid (∀ W, Kept NoBlk w3 W → Calls Tryz.prog 51 #[vb, vd] W fun e w' => e = .returned (.bool true) ∧ Kept NoBlk W w') := fun W hk => sameLocks_row vb vd (qcast (s.lk n).q).length (lkc (qcast (s.lk n).q)) (fun k => ((qcast (s.lk n).q).getD k (0, 0)).1) (fun k => ((qcast (s.lk n).q).getD k (0, 0)).2) W (by omega) (hvb.kept hk (fun _ _ x => x)) (f3.kept hk (fun _ _ x => x)) (fun k hk => lkc_at _ k hk)
 have HL : Hid (RowAt w3 107 2 va l.length (lkc l) ∧ RowAt w3 107 2 vb (qcast (s.lk n).q).length (lkc (qcast (s.lk n).q)) ∧ l.length ≤ 1048576 ∧ (qcast (s.lk n).q).length ≤ 12) := ⟨hva, hvb, f1, hql⟩
 have HK23 : Hid (Kept NoBlk w2 w3) := hk23
 clear f0 f1 f2 f3 f4 el hva hvb hql hk23 hx3 hn3 x1 hmm HCW
 go_wp2_with fail
 refine HS1.out.mono ?_
 rintro e w4 ⟨rfl, hk4⟩
 have HK4 : Hid (Kept NoBlk w3 w4) := hk4
 have HS2' : Hid (Calls Tryz.prog 51 #[vb, vd] w4 fun e w' => e = .returned (.bool true) ∧ Kept NoBlk w4 w') := HS2.out w4 hk4
 clear hk4 HS1 HS2
 go_wp2_with fail
 refine HS2'.out.mono ?_
 rintro e w5 ⟨rfl, hk5⟩
 have hk35 : Kept NoBlk w3 w5 := HK4.out.trans' hk5
 have hX5 := hk35.heap (HK23.out.heap HX2.out (fun x => x)) (fun x => x)
 have x2 : w5.cell? ⟨x, 2, none⟩ = some (.pointer (some ⟨o, 0, none⟩)) := by rw [cell_at hX5]; rfl
 have HK25 : Hid (Kept NoBlk w2 w5) := HK23.out.trans' hk35
 have HLB : Hid (RowAt w5 107 2 vb (qcast (s.lk n).q).length (lkc (qcast (s.lk n).q))) := HL.out.2.1.kept hk35 (fun _ _ x => x)
 have HX5 : Hid _ := hX5
 have hfT : ∀ v : Value, (∀ k, v.ownBlock = some k → W0.heap.size ≤ k) → ∀ k, v.ownBlock = some k → ¬ T k := fun v hv k hk ht => by
  have := hv k hk
  have := HQ.out.2.1.lt k ht
  have := HK0.out.size
  omega
 have HFT : Hid (∀ v : Value, (∀ k, v.ownBlock = some k → W0.heap.size ≤ k) → ∀ k, v.ownBlock = some k → ¬ T k) := hfT
 have HTK : Hid (Calls Tryz.prog 52 #[.pointer (some ⟨o, 0, none⟩), va] w5 fun e w' => e = .returned (.tuple #[]) ∧ Took T o J va w5 w') := by
  have hB5 : Books T o J w5 := ((HQ.out.2.1.kept HK0.out.drew (fun _ _ x => x)).kept HGP.out.2 (fun k ht hs => HQ.out.2.2 k (H7.out.2.1 k hs) ht)).kept HK25.out (fun _ _ x => x)
  exact takeLocks_bk hB5 (by omega) va l.length (lkc l) (HL.out.1.kept hk35 (fun _ _ x => x)) (by have := HL.out.2.2.1; omega) (hfT va HG.out.2.2.2.2.1)
 clear hk5 hk35 hX5 hfT HS2'
 go_wp2_with fail
 refine HTK.out.mono ?_
 rintro e w6 ⟨rfl, t1, T1, t2, t3⟩
 have hxT : ¬ (T x ∨ va.ownBlock = some x) := fun e => by
  have hxl := HQ.out.1.lt x H2.out.1
  have := HK0.out.size
  rcases e with e | e
  ·exact HQ.out.2.2 x H2.out.1 e
  ·have := HG.out.2.2.2.2.1 x e; omega
 have hX6 := t1.heap HX5.out hxT
 have x3 : w6.cell? ⟨x, 2, none⟩ = some (.pointer (some ⟨o, 0, none⟩)) := by rw [cell_at hX6]; rfl
 have HT1 : Hid (Kept (fun k => T k ∨ va.ownBlock = some k) w5 w6 ∧ ∀ k, T1 k → T k ∨ va.ownBlock = some k ∨ w5.heap.size ≤ k) := ⟨t1, t3⟩
 have HTK2 : Hid (Calls Tryz.prog 52 #[.pointer (some ⟨o, 0, none⟩), vb] w6 fun e w' => e = .returned (.tuple #[]) ∧ Took T1 o (J + 4) vb w6 w') := by
  refine takeLocks_bk t2 (by omega) vb (qcast (s.lk n).q).length (lkc (qcast (s.lk n).q)) (HLB.out.kept t1 (fun k hk e => ?_)) (by have := HL.out.2.2.2; omega) (fun k hk e => ?_)
  ·rcases e with e | e
   ·exact HFT.out vb HG.out.2.2.2.2.2.1 k hk e
   ·exact HG.out.2.2.2.2.2.2 k e hk
  ·rcases t3 k e with e | e | e
   ·exact HFT.out vb HG.out.2.2.2.2.2.1 k hk e
   ·exact HG.out.2.2.2.2.2.2 k e hk
   ·have := HLB.out.lt k hk; omega
 clear t1 t2 t3 hX6 hxT x2 HTK
 go_wp2_with fail
 refine HTK2.out.mono ?_
 rintro e w7 ⟨rfl, ht⟩
 have HA : Hid (ToldAft x p q o S T N0 j J s cl w w7) := HQ.out.1.told2 HQ.out.2.2 (show W0.drew.heap[x]? = _ from HX0.out) H2.out.1 H2.out.2.1 H2.out.2.2 H7.out.1 H7.out.2.1 H7.out.2.2 HK0.out.drew HGP.out.2 HGP.out.1 HW0.out HG.out.2.2.2.2.1 HG.out.2.2.2.2.2.1 HK25.out HT1.out.1 HT1.out.2 (Kept.refl _ _) ht
 clear ht HTK2 x3
 go_wp2_with fail
 go_ret
 exact ⟨ret_boolR rfl, HA.out⟩
end Go.Proofs.YtmcajfefagdbnaaGreat
