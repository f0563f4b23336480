import Derived.Test.YtmcajfefagdbnaaGreatJ21
import Derived.Test.YtmcajfefagdbnaaGreatJ20
import Derived.Test.YtmcajfefagdbnaaGreatJ07
namespace Go.Proofs.YtmcajfefagdbnaaGreat
open Go Go.RowKit

/-- The law's world: where its store is, and how many transactions it made. -/
def KW (w : World) (wb : Nat) (L : Lay) (n : Nat) : Prop := ∃ (cs : Array Value) (ao : Option Addr) (c : Nat), w.heap[wb]? = some (.cells cs 60 (0, 0)) ∧ cs[0]? = some (.pointer (some ⟨L.p, 0, none⟩)) ∧ cs[11]? = some (.slice ao n c)

theorem KW.kept {S : Nat → Prop} {w w' : World} {wb : Nat} {L : Lay} {n : Nat} (h : KW w wb L n) (hk : Kept S w w') (hn : ¬ S wb) : KW w' wb L n := by
  obtain ⟨cs, ao, c, h1, h2, h3⟩ := h
  exact ⟨cs, ao, c, hk.heap h1 hn, h2, h3⟩

set_option maxRecDepth 20000 in
set_option maxHeartbeats 1600000 in
theorem lives_any {L : Lay} {bs : Nat → Nat} {ow : Ow} {j : Nat} {s : St} {w : World} (h : KSt L bs ow j s w) (wb : Nat) (n : Nat) (hw : KW w wb L n) (_hn : ¬ OwnP ow wb) (i : Nat) (hin : 1 ≤ i ∧ i ≤ s.n) :
    Calls Tryz.prog 69 #[.pointer (some ⟨wb, 0, none⟩), .int .i64 (i : Int)] w fun e w' => e = .returned (.bool ((s.tx i).state == 0)) ∧ KSt L bs ow j s w' ∧ Kept (OwnP ow) w w' := by
  obtain ⟨cs, ao, c, w1, w2, w3⟩ := hw
  have c0 : w.cell? ⟨wb, 0, none⟩ = some (.pointer (some ⟨L.p, 0, none⟩)) := by rw [cell_at w1]; exact w2
  have HT : Hid (Calls Tryz.prog 23 #[.pointer (some ⟨L.p, 0, none⟩), .int .i64 (i : Int)] w fun e w' => ∃ x, e = .returned (.tuple #[x, .int .i64 0]) ∧ TxnTold w (s.tx i) x w' ∧ KSt L bs ow j s w' ∧ Kept (OwnP ow) w w') := kTxn h i hin
  clear h w1 w2 w3
  go_enter Tryz.func69, Tryz.ntmps69
  go_wp2_with fail
  refine HT.out.mono ?_
  rintro e w1 ⟨x, rfl, ⟨a, k, rfl, t1, t2, t3, t4⟩, h1, hk1⟩
  have H1 : Hid (KSt L bs ow j s w1 ∧ Kept (OwnP ow) w w1) := ⟨h1, hk1⟩
  clear h1 hk1 t3 t4
  go_wp2_with fail
  go_ret
  exact ⟨rfl, H1.out.1.kept ((Kept.refl NoBlk w1).alloc _) (fun _ _ x => x), H1.out.2.alloc _⟩

theorem KSt.mono {L : Lay} {bs : Nat → Nat} {ow : Ow} {j j' : Nat} {s : St} {w : World} (h : KSt L bs ow j s w) (hj : j ≤ j') : KSt L bs ow j' s w :=
  ⟨h.st.mono (by omega), h.good, h.act, h.n5, fun i => ⟨(h.ag i).1, by have := (h.ag i).2; omega⟩, by have := h.wins; omega, h.clock⟩

theorem step_in {s : St} {i : Nat} (hin : 1 ≤ i ∧ i ≤ s.n) : s.step (i : Int) = (s.stepN i, if (s.tx i).state = 0 then (s.go i).2 else 0, if (s.tx i).state = 0 then 0 else 6) := by
  have e0 : s.there (i : Int) = if (s.tx i).state = 0 then 0 else 6 := by
    unfold St.there
    rw [if_neg (by omega), Int.toNat_natCast]
    by_cases h : (s.tx i).state = 0
    · rw [if_neg (by simpa using h), if_pos h]
    · rw [if_pos h, if_neg h]
  unfold St.step St.stepN
  rw [e0, Int.toNat_natCast]
  by_cases h : (s.tx i).state = 0
  · rw [if_pos h, if_neg (by simp), if_pos ⟨hin.1, hin.2, h⟩, if_pos h]
  · rw [if_neg h, if_pos (by simp), if_neg (fun x => h x.2.2), if_neg h]

/-- A step of whom a raw number speaks of. -/
def St.stepR (s : St) (raw : Int) : St := if s.n = 0 then s else s.stepN (1 + (pickI raw s.n).toNat)

set_option maxRecDepth 20000 in
set_option maxHeartbeats 1600000 in
theorem wstep_any {L : Lay} {bs : Nat → Nat} {ow : Ow} {j : Nat} {s : St} {w : World} (h : KSt L bs ow j s w) (wb : Nat) (hw : KW w wb L s.n) (hn : ¬ OwnP ow wb) (raw : Int) (hr : inI raw) (hj : j ≤ 4194304) :
    Calls Tryz.prog 30 #[.pointer (some ⟨wb, 0, none⟩), .int .i64 raw] w fun e w' => e = .returned (.bool true) ∧ KAft L bs ow (j + 1) w (s.stepR raw) w' := by
  have HW : Hid (KW w wb L s.n) := hw
  have HNW : Hid (¬ OwnP ow wb) := hn
  have H0 : Hid (KSt L bs ow j s w) := h
  have h5 := h.n5
  obtain ⟨cs, ao, c, w1, w2, w3⟩ := hw
  have c11 : w.cell? ⟨wb, 11, none⟩ = some (.slice ao s.n c) := by rw [cell_at w1]; exact w3
  have c0 : w.cell? ⟨wb, 0, none⟩ = some (.pointer (some ⟨L.p, 0, none⟩)) := by rw [cell_at w1]; exact w2
  clear w1 w2 w3 h hn
  by_cases h0 : s.n = 0
  · have HE : Hid (s.stepR raw = s) := by unfold Hid St.stepR; rw [if_pos h0]
    rw [h0] at c11
    clear h0 h5
    go_enter Tryz.func30, Tryz.ntmps30
    go_wp2_with fail
    go_ret
    rw [HE.out]
    exact ⟨rfl, ⟨ow, H0.out.mono (by omega), AgreeP.refl _ _⟩, Kept.refl _ _⟩
  · have HP : Hid (∀ W, Calls Tryz.prog 34 #[.int .i64 raw, .int .i64 (s.n : Int)] W fun e w' => e = .returned (.int .i64 (pickI raw s.n)) ∧ w' = W) := fun W => pick_any raw s.n W hr ⟨by omega, by omega⟩
    have q1 := pickI_ge raw (n := (s.n : Int)) (by omega)
    have q2 := pickI_lt raw (n := (s.n : Int)) (by omega)
    have HSR : Hid (s.stepR raw = s.stepN (1 + (pickI raw s.n).toNat)) := by unfold Hid St.stepR; rw [if_neg h0]
    have h0' : ((s.n : Int) == 0) = false := by rw [beq_eq_false_iff_ne]; omega
    generalize hpk : pickI raw s.n = pk at *
    obtain ⟨q, rfl⟩ : ∃ q : Nat, pk = (q : Int) := ⟨pk.toNat, by omega⟩
    rw [Int.toNat_natCast] at HSR
    have HIN : Hid (1 ≤ 1 + q ∧ 1 + q ≤ s.n) := ⟨by omega, by omega⟩
    generalize hsn : s.n = sn at *
    have HSN : Hid (s.n = sn) := hsn
    clear hpk hsn h0
    have hlv := lives_any H0.out wb sn HW.out HNW.out (1 + q) (by have h1 := HIN.out; have h2 := HSN.out; omega)
    rw [show ((1 + q : Nat) : Int) = 1 + (q : Int) from by omega] at hlv
    have hst : ∀ W, KSt L bs ow j s W → Calls Tryz.prog 22 #[.pointer (some ⟨L.p, 0, none⟩), .int .i64 (1 + (q : Int))] W fun e w' => e = .returned (.tuple #[.int .i64 (if (s.tx (1 + q)).state = 0 then (s.go (1 + q)).2 else 0), .int .i64 (if (s.tx (1 + q)).state = 0 then 0 else 6)]) ∧ KAft L bs ow (j + 1) W (s.stepN (1 + q)) w' := fun W hW => by
      have := kStep hW ((1 + q : Nat) : Int) hj
      rw [step_in (by have h1 := HIN.out; have h2 := HSN.out; omega), show ((1 + q : Nat) : Int) = 1 + (q : Int) from by omega] at this
      exact this
    by_cases hz : (s.tx (1 + q)).state = 0
    · obtain ⟨a1, a2, _⟩ := go_ans s (1 + q) hz
      simp only [if_pos hz] at hst
      rw [hz] at hlv
      have HLV : Hid (Calls Tryz.prog 69 #[.pointer (some ⟨wb, 0, none⟩), .int .i64 (1 + (q : Int))] w fun e w' => e = .returned (.bool true) ∧ KSt L bs ow j s w' ∧ Kept (OwnP ow) w w') := hlv
      generalize (s.go (1 + q)).2 = an at *
      have HST : Hid (∀ W, KSt L bs ow j s W → Calls Tryz.prog 22 #[.pointer (some ⟨L.p, 0, none⟩), .int .i64 (1 + (q : Int))] W fun e w' => e = .returned (.tuple #[.int .i64 an, .int .i64 0]) ∧ KAft L bs ow (j + 1) W (s.stepN (1 + q)) w') := hst
      clear hlv hst hz
      go_enter Tryz.func30, Tryz.ntmps30
      go_wp2_with fail
      refine (HP.out w).mono ?_
      rintro e w1 ⟨rfl, rfl⟩
      go_wp2_with fail
      refine HLV.out.mono ?_
      rintro e w2 ⟨rfl, h2, hk2⟩
      have c0' := hk2.cell c0 HNW.out
      have HS2 : Hid (Calls Tryz.prog 22 #[.pointer (some ⟨L.p, 0, none⟩), .int .i64 (1 + (q : Int))] w2 fun e w' => e = .returned (.tuple #[.int .i64 an, .int .i64 0]) ∧ KAft L bs ow (j + 1) w2 (s.stepN (1 + q)) w') := HST.out w2 h2
      have HK2 : Hid (Kept (OwnP ow) w1 w2) := hk2
      clear h2 hk2 c0 c11
      go_wp2_with fail
      refine HS2.out.mono ?_
      rintro e w3 ⟨rfl, ⟨ow', h3, ha3⟩, hk3⟩
      have H3 : Hid (KAft L bs ow (j + 1) w1 (s.stepN (1 + q)) w3) := ⟨⟨ow', h3, fun k hk => ha3 k (Nat.lt_of_lt_of_le hk HK2.out.size)⟩, HK2.out.trans' hk3⟩
      clear h3 ha3 hk3
      go_wp2_with fail
      go_ret
      rw [HSR.out]
      exact ⟨by simp, H3.out⟩
    · simp only [if_neg hz] at hst
      have hz' : ((s.tx (1 + q)).state == 0) = false := by rw [beq_eq_false_iff_ne]; exact hz
      rw [hz'] at hlv
      have HLV : Hid (Calls Tryz.prog 69 #[.pointer (some ⟨wb, 0, none⟩), .int .i64 (1 + (q : Int))] w fun e w' => e = .returned (.bool false) ∧ KSt L bs ow j s w' ∧ Kept (OwnP ow) w w') := hlv
      have HST : Hid (∀ W, KSt L bs ow j s W → Calls Tryz.prog 22 #[.pointer (some ⟨L.p, 0, none⟩), .int .i64 (1 + (q : Int))] W fun e w' => e = .returned (.tuple #[.int .i64 0, .int .i64 6]) ∧ KAft L bs ow (j + 1) W (s.stepN (1 + q)) w') := hst
      clear hlv hst hz hz'
      go_enter Tryz.func30, Tryz.ntmps30
      go_wp2_with fail
      refine (HP.out w).mono ?_
      rintro e w1 ⟨rfl, rfl⟩
      go_wp2_with fail
      refine HLV.out.mono ?_
      rintro e w2 ⟨rfl, h2, hk2⟩
      have c0' := hk2.cell c0 HNW.out
      have HS2 : Hid (Calls Tryz.prog 22 #[.pointer (some ⟨L.p, 0, none⟩), .int .i64 (1 + (q : Int))] w2 fun e w' => e = .returned (.tuple #[.int .i64 0, .int .i64 6]) ∧ KAft L bs ow (j + 1) w2 (s.stepN (1 + q)) w') := HST.out w2 h2
      have HK2 : Hid (Kept (OwnP ow) w1 w2) := hk2
      clear h2 hk2 c0 c11
      go_wp2_with fail
      refine HS2.out.mono ?_
      rintro e w3 ⟨rfl, ⟨ow', h3, ha3⟩, hk3⟩
      have H3 : Hid (KAft L bs ow (j + 1) w1 (s.stepN (1 + q)) w3) := ⟨⟨ow', h3, fun k hk => ha3 k (Nat.lt_of_lt_of_le hk HK2.out.size)⟩, HK2.out.trans' hk3⟩
      clear h3 ha3 hk3
      go_wp2_with fail
      go_ret
      rw [HSR.out]
      exact ⟨rfl, H3.out⟩

set_option maxRecDepth 20000 in
set_option maxHeartbeats 1600000 in
theorem eldest_any {L : Lay} {bs : Nat → Nat} {ow : Ow} {j : Nat} {s : St} {w : World} (h : KSt L bs ow j s w) (wb : Nat) (hw : KW w wb L s.n) (hn : ¬ OwnP ow wb) :
    Calls Tryz.prog 33 #[.pointer (some ⟨wb, 0, none⟩)] w fun e w' => ∃ r : Nat, e = .returned (.int .i64 (r : Int)) ∧ ((r = 0 ∧ ∀ i, 1 ≤ i → i ≤ s.n → (s.tx i).state ≠ 0) ∨ (Eld s r ∧ (s.tx r).state = 0)) ∧ KSt L bs ow j s w' ∧ Kept (OwnP ow) w w' := by
  have HW : Hid (KW w wb L s.n) := hw
  have HNW : Hid (¬ OwnP ow wb) := hn
  have H0 : Hid (KSt L bs ow j s w) := h
  have h5 := h.n5
  clear h hn hw
  go_enter Tryz.func33, Tryz.ntmps33
  go_wp2_with fail
  go_loopw [3] (fun i wr => ∃ k : Nat, 1 ≤ k ∧ k ≤ s.n + 1 ∧ i = .int .i64 k ∧ (∀ q, 1 ≤ q → q < k → (s.tx q).state ≠ 0) ∧ KSt L bs ow j s wr ∧ Kept (OwnP ow) w wr) (fun i _ => s.n + 1 - (intOf i).toNat)
  case atStart => exact ⟨1, by omega, by omega, rfl, fun q h1 h2 => by omega, H0.out, Kept.refl _ _⟩
  case round =>
    obtain ⟨k, hk1, hk2, rfl, hq, hst, hkw⟩ := hrel
    have HWR : Hid (KW wr wb L s.n) := HW.out.kept hkw HNW.out
    obtain ⟨cs, ao, c, w1, w2, w3⟩ := HWR.out
    have c11 : wr.cell? ⟨wb, 11, none⟩ = some (.slice ao s.n c) := by rw [cell_at w1]; exact w3
    have HQ : Hid (∀ q, 1 ≤ q → q < k → (s.tx q).state ≠ 0) := hq
    have HS : Hid (KSt L bs ow j s wr ∧ Kept (OwnP ow) w wr) := ⟨hst, hkw⟩
    clear w1 w2 w3 hq hkw
    by_cases hlt : k ≤ s.n
    · have HLV : Hid (Calls Tryz.prog 69 #[.pointer (some ⟨wb, 0, none⟩), .int .i64 (k : Int)] wr fun e w' => e = .returned (.bool ((s.tx k).state == 0)) ∧ KSt L bs ow j s w' ∧ Kept (OwnP ow) wr w') := lives_any hst wb s.n HWR.out HNW.out k ⟨hk1, hlt⟩
      clear hst
      generalize hsn : s.n = sn at *
      have HSN : Hid (s.n = sn) := hsn
      clear hsn
      go_wp2_with fail
      refine HLV.out.mono ?_
      rintro e w2 ⟨rfl, h2, hk2⟩
      have H2 : Hid (KSt L bs ow j s w2 ∧ Kept (OwnP ow) w w2) := ⟨h2, HS.out.2.trans' hk2⟩
      clear h2 hk2
      by_cases hz : (s.tx k).state = 0
      · rw [hz]
        have HZ : Hid ((s.tx k).state = 0) := hz
        clear hz
        go_wp2_with fail
        go_ret
        exact ⟨k, rfl, .inr ⟨⟨hk1, by rw [HSN.out]; exact hlt, fun q h1 h2 => HQ.out q h1 h2⟩, HZ.out⟩, H2.out⟩
      · have hz' : ((s.tx k).state == 0) = false := by rw [beq_eq_false_iff_ne]; exact hz
        rw [hz']
        have HZ : Hid (¬ (s.tx k).state = 0) := hz
        clear hz hz'
        go_wp2_with fail
        go_roundw
        case rel =>
          refine ⟨k + 1, by omega, by omega, by go_num, fun q h1 h2 => ?_, H2.out⟩
          by_cases e : q = k
          · rw [e]; exact HZ.out
          · exact HQ.out q h1 (by omega)
        case measure => simp [intOf]; omega
    · clear hst
      generalize hsn : s.n = sn at *
      have HSN : Hid (s.n = sn) := hsn
      clear hsn
      go_wp2_with fail
      go_ret
      exact ⟨0, rfl, .inl ⟨rfl, fun q h1 h2 => HQ.out q h1 (by have := HSN.out; omega)⟩, HS.out⟩

end Go.Proofs.YtmcajfefagdbnaaGreat

namespace Go.Proofs.YtmcajfefagdbnaaGreat
open Go Go.RowKit

/-- An operation that may be, out of a raw one. -/
def mkOp (stops : Bool) (o : Op4) : Op4 :=
  if 1 + pickI o.k 5 = 4 then ⟨4, pickI o.a 4, pickI o.b 4, o.c⟩
  else if 1 + pickI o.k 5 = 5 then (if stops then ⟨5, pickI o.a 4, pickI o.b 4, o.c⟩ else ⟨4, 0, 0, 1⟩)
  else ⟨1 + pickI o.k 5, pickI o.a 5, pickI o.b 4, o.c⟩

def mkOps (stops : Bool) (most : Nat) (l : List Op4) : List Op4 := (l.take most).map (mkOp stops)

def OpsIn (l : List Op4) : Prop := ∀ o ∈ l, inI o.k ∧ inI o.a ∧ inI o.b ∧ inI o.c

/-- A slice literal of one element, of whatever size. -/
theorem from_newL (w : World) (xs : List Value) (ty : TypeId) (size : Nat) (hl : xs.length = size) (h1 : xs.all (fun u => u.oneCell') = true) : FromMem (w.alloc (.cells xs.toArray ty)) size (.slice (some ⟨w.heap.size, 0, none⟩) 1 1) 1 xs := by
  refine ⟨⟨_, 1, rfl, fun h => by simp at h, ?_⟩, by omega, fun u hu => (List.all_eq_true.1 h1) u hu⟩
  intro ad had j u hu
  obtain rfl := Option.some.inj had
  rw [Addr.add_lit, cell_at (block_alloc_new w _)]
  simpa using hu

theorem infoOp2 : (Tryz.prog.info? 114).map (fun i => (i.zero, i.size, i.bytes)) = some (some (.agg #[.int .i64 0, .int .i64 0, .int .i64 0, .int .i64 0]), 4, 32) := by kernel_rfl

set_option maxRecDepth 20000 in
set_option maxHeartbeats 3200000 in
theorem operations_any (v : Value) (l : List Op4) (most : Nat) (stops : Bool) (w : World) (hv : OpsSrc w v l) (hl : l.length ≤ 1048576) (hin : OpsIn l) (hm : most ≤ 6) :
    Calls Tryz.prog 58 #[v, .int .i64 (most : Int), .bool stops] w fun e w' => ∃ x, e = .returned x ∧ RowAt w' 114 4 x (mkOps stops most l).length (opCells (mkOps stops most l)) ∧ (∀ k, x.ownBlock = some k → w.heap.size ≤ k) ∧ Kept NoBlk w w' := by
  obtain ⟨ao, c, rfl, hv⟩ := hv
  have HV : Hid (0 < l.length → ∃ b off, ao = some ⟨b, off, none⟩ ∧ OpsAt w b off l) := hv
  have HIN : Hid (OpsIn l) := hin
  clear hv hin
  generalize hn : l.length = n at *
  have HN : Hid (l.length = n) := hn
  clear hn
  go_enter Tryz.func58, Tryz.ntmps58
  go_wp2_with fail
  go_loopw [7, 8] (fun x i wr => ∃ k : Nat, k ≤ n ∧ k ≤ most ∧ i = .int .i64 k ∧ RowAt wr 114 4 x k (opCells ((l.take k).map (mkOp stops))) ∧ (∀ j, x.ownBlock = some j → w.heap.size ≤ j) ∧ Kept NoBlk w wr) (fun _ i _ => n - (intOf i).toNat)
  case atStart => exact ⟨0, Nat.zero_le _, Nat.zero_le _, rfl, RowAt.nil _ _ _, fun j hj => by simp [Value.ownBlock] at hj, Kept.refl _ _⟩
  case round =>
    obtain ⟨k, hk, hkm, rfl, hrow, hfr, hkw⟩ := hrel
    by_cases hlt : k < n ∧ k < most
    · obtain ⟨b, off, rfl, hat⟩ := HV.out (by omega)
      have hkl : k < l.length := by rw [HN.out]; exact hlt.1
      obtain ⟨g0, g1, g2, g3⟩ := (hat.kept hkw (fun x => x)) k hkl
      have hio : inI (l.getD k Op4.z).k ∧ inI (l.getD k Op4.z).a ∧ inI (l.getD k Op4.z).b ∧ inI (l.getD k Op4.z).c := HIN.out _ (by rw [List.getD_eq_getElem?_getD, List.getElem?_eq_getElem hkl]; exact List.getElem_mem hkl)
      have hsn : opCells ((l.take (k + 1)).map (mkOp stops)) = opCells ((l.take k).map (mkOp stops)) ++ (mkOp stops (l.getD k Op4.z)).cells := by
        rw [List.take_add_one, List.getElem?_eq_getElem hkl, List.getD_eq_getElem?_getD, List.getElem?_eq_getElem hkl, List.map_append, opCells, List.flatMap_append]
        simp [opCells]
      have HSN : Hid (opCells ((l.take (k + 1)).map (mkOp stops)) = opCells ((l.take k).map (mkOp stops)) ++ (mkOp stops (l.getD k Op4.z)).cells) := hsn
      have HRW : Hid (RowAt wr 114 4 u7 k (opCells ((l.take k).map (mkOp stops))) ∧ (∀ j, u7.ownBlock = some j → w.heap.size ≤ j) ∧ Kept NoBlk w wr) := ⟨hrow, hfr, hkw⟩
      have hp1 : ∀ W, Calls Tryz.prog 34 #[.int .i64 (l.getD k Op4.z).k, .int .i64 5] W fun e w' => e = .returned (.int .i64 (pickI (l.getD k Op4.z).k 5)) ∧ w' = W := fun W => pick_any _ 5 W hio.1 ⟨by omega, by omega⟩
      have hp2 : ∀ W, Calls Tryz.prog 34 #[.int .i64 (l.getD k Op4.z).b, .int .i64 4] W fun e w' => e = .returned (.int .i64 (pickI (l.getD k Op4.z).b 4)) ∧ w' = W := fun W => pick_any _ 4 W hio.2.2.1 ⟨by omega, by omega⟩
      clear hrow hfr hkw hsn hkl hat
      generalize opCells ((l.take k).map (mkOp stops)) = xs at *
      generalize l.getD k Op4.z = o at *
      have q1 := pickI_ge o.k (n := 5) (by omega)
      have q2 := pickI_lt o.k (n := 5) (by omega)
      go_wp2_with fail
      have n0 := World.new_ne wr _ g0
      have n1 := World.new_ne wr _ g1
      have n2 := World.new_ne wr _ g2
      have n3 := World.new_ne wr _ g3
      have i0 : (0 : Int) ≤ (k : Int) := by omega
      have i1 : (k : Int) < (n : Int) := by omega
      have HQ1 : Hid (∀ W, Calls Tryz.prog 34 #[.int .i64 o.k, .int .i64 5] W fun e w' => e = .returned (.int .i64 (pickI o.k 5)) ∧ w' = W) := hp1
      have HQ2 : Hid (∀ W, Calls Tryz.prog 34 #[.int .i64 o.b, .int .i64 4] W fun e w' => e = .returned (.int .i64 (pickI o.b 4)) ∧ w' = W) := hp2
      clear hp1 hp2
      have hwr : IntKind.wrap .i64 (1 + pickI o.k 5) = 1 + pickI o.k 5 := by rw [IntKind.wrap_i64]; omega
      have HWR : Hid (IntKind.wrap .i64 (1 + pickI o.k 5) = 1 + pickI o.k 5) := hwr
      clear hwr
      refine' kcut0 _ (fun w3 => w3.heap[wr.heap.size]? = some (.cells #[.int .i64 (1 + pickI o.k 5), .int .i64 o.a, .int .i64 (pickI o.b 4), .int .i64 o.c] 114 (0, 0)) ∧ Kept NoBlk wr w3) ?_ ?_
      rotate_left
      · go_region_held3 (fun w' => w'.cell? ⟨b, off + k * 4, none⟩ = some (.int .i64 o.k) ∧ w'.cell? ⟨b, off + k * 4 + 1, none⟩ = some (.int .i64 o.a) ∧ w'.cell? ⟨b, off + k * 4 + 2, none⟩ = some (.int .i64 o.b) ∧ w'.cell? ⟨b, off + k * 4 + 3, none⟩ = some (.int .i64 o.c)) (go_keep) (first | (go_at_call 34; (with_reducible refine (HQ1.out _).mono ?_); rintro e w2 ⟨rfl, rfl⟩) | (go_at_call 34; (with_reducible refine (HQ2.out _).mono ?_); rintro e w2 ⟨rfl, rfl⟩))
        all_goals
          refine ⟨?_, by rw [HWR.out]; exact block_alloc_new wr _, ((Kept.refl NoBlk wr).alloc _).drew⟩
          exact rfl
      rintro w3 ⟨hb3, hk3⟩
      have HB3 : Hid (w3.heap[wr.heap.size]? = some (.cells #[.int .i64 (1 + pickI o.k 5), .int .i64 o.a, .int .i64 (pickI o.b 4), .int .i64 o.c] 114 (0, 0))) := hb3
      have HK3 : Hid (Kept NoBlk wr w3) := hk3
      have HLT : Hid (k < n ∧ k < most) := hlt
      have HSZ : Hid (w.heap.size ≤ wr.heap.size) := HRW.out.2.2.size
      have HB5 : Hid ((k + 1) * 32 ≤ 140737488355328) := by unfold Hid; omega
      have HB6 : Hid (k + 1 ≤ maxLen) := by unfold Hid maxLen; omega
      obtain ⟨i1, hi1, hy0, hy1, hy2⟩ := info_parts infoOp2
      have HI : Hid (Tryz.prog.info? 114 = some i1 ∧ i1.zero = some (.agg #[.int .i64 0, .int .i64 0, .int .i64 0, .int .i64 0]) ∧ i1.size = 4 ∧ i1.bytes = 32) := ⟨hi1, hy0, hy1, hy2⟩
      have HIO : Hid (inI o.a) := hio.2.1
      clear hi1 hy0 hy1 hy2 hb3 hk3 g0 g1 g2 g3 n0 n1 n2 n3 i0 hio
      generalize hHH : wr.heap.size = H at *
      have HQ : Hid (∀ m : Int, 0 < m ∧ m ≤ 1048576 → ∀ W, Calls Tryz.prog 34 #[.int .i64 o.a, .int .i64 m] W fun e w' => e = .returned (.int .i64 (pickI o.a m)) ∧ w' = W) := fun m hm W => pick_any _ m W HIO.out hm
      have c1 : w3.cell? ⟨H, 1, none⟩ = some (.int .i64 o.a) := by rw [cell_at HB3.out]; rfl
      have c2 : w3.cell? ⟨H, 2, none⟩ = some (.int .i64 (pickI o.b 4)) := by rw [cell_at HB3.out]; rfl
      have c3 : w3.cell? ⟨H, 3, none⟩ = some (.int .i64 o.c) := by rw [cell_at HB3.out]; rfl
      have c0 : w3.cell? ⟨H, 0, none⟩ = some (.int .i64 (1 + pickI o.k 5)) := by rw [cell_at HB3.out]; rfl
      have cf : ∀ j, w3.frozen? ⟨H, j, none⟩ = false := frozen_at HB3.out
      have HHE : Hid (wr.heap.size = H) := hHH
      have HHB : Hid (∀ j, Blk H j → NoBlk j ∨ wr.heap.size ≤ j) := fun j e => .inr (by unfold Blk at e; omega)
      clear hHH
      by_cases h4 : 1 + pickI o.k 5 = 4
      · rw [h4] at c0
        have HMK : Hid (mkOp stops o = ⟨4, pickI o.a 4, pickI o.b 4, o.c⟩) := by
          unfold Hid mkOp
          rw [if_pos h4]
        clear h4
        have HFM : Hid (FromMem ((w3.setCell ⟨H, 1, none⟩ (.int .i64 (pickI o.a 4))).alloc (.cells #[.int .i64 4, .int .i64 (pickI o.a 4), .int .i64 (pickI o.b 4), .int .i64 o.c] 114)) 4 (.slice (some ⟨w3.heap.size, 0, none⟩) 1 1) 1 [.int .i64 4, .int .i64 (pickI o.a 4), .int .i64 (pickI o.b 4), .int .i64 o.c]) := by
          have := from_newL (w3.setCell ⟨H, 1, none⟩ (.int .i64 (pickI o.a 4))) [.int .i64 4, .int .i64 (pickI o.a 4), .int .i64 (pickI o.b 4), .int .i64 o.c] 114 4 rfl rfl
          rw [show ((w3.setCell ⟨H, 1, none⟩ (.int .i64 (pickI o.a 4)))).heap.size = w3.heap.size from by simp] at this
          exact this
        have HK4 : Hid (Kept NoBlk wr (w3.setCell ⟨H, 1, none⟩ (.int .i64 (pickI o.a 4)))) := HK3.out.trans (Kept.set1 w3 H 1 _) (fun j e => .inr (by unfold Blk at e; have := HHE.out; omega))
        have HRW4 : Hid (RowAt ((w3.setCell ⟨H, 1, none⟩ (.int .i64 (pickI o.a 4))).alloc (.cells #[.int .i64 4, .int .i64 (pickI o.a 4), .int .i64 (pickI o.b 4), .int .i64 o.c] 114)) 114 4 u7 k xs) := HRW.out.1.kept (HK4.out.alloc _) (fun _ _ x => x)
        go_wp2_with (first
          | (go_at_call 34; refine (HQ.out 4 (by omega) _).mono ?_; rintro e w2 ⟨rfl, rfl⟩)
          | (at_builtin; refine wpList_append_row (by rfl) _ _ 39 (by rfl) 114 i1 _ 4 32 Tryz.underlying39 HI.out.1 HI.out.2.1 HI.out.2.2.1 HI.out.2.2.2 (by rfl) u7 k xs (by rfl) HRW4.out (.slice (some ⟨w2.heap.size, 0, none⟩) 1 1) 1 [.int .i64 4, .int .i64 (pickI o.a 4), .int .i64 (pickI o.b 4), .int .i64 o.c] (by rfl) HFM.out HB6.out HB5.out ?_))
        intro ao2 c2 W6 hown6 hmv6
        have hk6 := hmv6.keptOf
        have hn6 := hmv6.fresh
        have HF6 : Hid (RowAt W6 114 4 (.slice ao2 (k + 1) c2) (k + 1) (opCells ((l.take (k + 1)).map (mkOp stops))) ∧ (∀ j, (Value.slice ao2 (k + 1) c2).ownBlock = some j → w.heap.size ≤ j) ∧ Kept NoBlk w W6) := by
          have hsz := HRW.out.2.2.size
          have hsz4 := (HK4.out.alloc (.cells #[.int .i64 4, .int .i64 (pickI o.a 4), .int .i64 (pickI o.b 4), .int .i64 o.c] 114)).size
          refine ⟨by rw [HSN.out, HMK.out]; exact hown6, fun j hj => ?_, (HRW.out.2.2.trans' (HK4.out.alloc (.cells #[.int .i64 4, .int .i64 (pickI o.a 4), .int .i64 (pickI o.b 4), .int .i64 o.c] 114))).trans hk6 (fun j hj => .inr (HRW.out.2.1 j hj))⟩
          rcases hn6 j hj with h | h
          · exact HRW.out.2.1 j h
          · exact Nat.le_trans hsz (Nat.le_trans hsz4 h)
        clear hk6 hn6 hown6 hmv6
        go_wp2_with fail
        go_roundw
        case rel => exact ⟨k + 1, by have := HLT.out; omega, by have := HLT.out; omega, by go_num, HF6.out⟩
        case measure => have := HLT.out; simp [intOf]; omega
      · by_cases h5 : 1 + pickI o.k 5 = 5
        · rw [h5] at c0
          cases stops with
          | true =>
            have HMK : Hid (mkOp true o = ⟨5, pickI o.a 4, pickI o.b 4, o.c⟩) := by
              unfold Hid mkOp
              rw [if_neg h4, if_pos h5]; rfl
            clear h4 h5
            have HFM : Hid (FromMem ((w3.setCell ⟨H, 1, none⟩ (.int .i64 (pickI o.a 4))).alloc (.cells #[.int .i64 5, .int .i64 (pickI o.a 4), .int .i64 (pickI o.b 4), .int .i64 o.c] 114)) 4 (.slice (some ⟨w3.heap.size, 0, none⟩) 1 1) 1 [.int .i64 5, .int .i64 (pickI o.a 4), .int .i64 (pickI o.b 4), .int .i64 o.c]) := by
              have := from_newL (w3.setCell ⟨H, 1, none⟩ (.int .i64 (pickI o.a 4))) [.int .i64 5, .int .i64 (pickI o.a 4), .int .i64 (pickI o.b 4), .int .i64 o.c] 114 4 rfl rfl
              rw [show ((w3.setCell ⟨H, 1, none⟩ (.int .i64 (pickI o.a 4)))).heap.size = w3.heap.size from by simp] at this
              exact this
            have HK4 : Hid (Kept NoBlk wr (w3.setCell ⟨H, 1, none⟩ (.int .i64 (pickI o.a 4)))) := HK3.out.trans (Kept.set1 w3 H 1 _) (fun j e => .inr (by unfold Blk at e; have := HHE.out; omega))
            have HRW4 : Hid (RowAt ((w3.setCell ⟨H, 1, none⟩ (.int .i64 (pickI o.a 4))).alloc (.cells #[.int .i64 5, .int .i64 (pickI o.a 4), .int .i64 (pickI o.b 4), .int .i64 o.c] 114)) 114 4 u7 k xs) := HRW.out.1.kept (HK4.out.alloc _) (fun _ _ x => x)
            go_wp2_with (first
              | (go_at_call 34; refine (HQ.out 4 (by omega) _).mono ?_; rintro e w2 ⟨rfl, rfl⟩)
              | (at_builtin; refine wpList_append_row (by rfl) _ _ 39 (by rfl) 114 i1 _ 4 32 Tryz.underlying39 HI.out.1 HI.out.2.1 HI.out.2.2.1 HI.out.2.2.2 (by rfl) u7 k xs (by rfl) HRW4.out (.slice (some ⟨w2.heap.size, 0, none⟩) 1 1) 1 [.int .i64 5, .int .i64 (pickI o.a 4), .int .i64 (pickI o.b 4), .int .i64 o.c] (by rfl) HFM.out HB6.out HB5.out ?_))
            intro ao2 c2 W6 hown6 hmv6
            have hk6 := hmv6.keptOf
            have hn6 := hmv6.fresh
            have HF6 : Hid (RowAt W6 114 4 (.slice ao2 (k + 1) c2) (k + 1) (opCells ((l.take (k + 1)).map (mkOp true))) ∧ (∀ j, (Value.slice ao2 (k + 1) c2).ownBlock = some j → w.heap.size ≤ j) ∧ Kept NoBlk w W6) := by
              have hsz := HRW.out.2.2.size
              have hsz4 := (HK4.out.alloc (.cells #[.int .i64 5, .int .i64 (pickI o.a 4), .int .i64 (pickI o.b 4), .int .i64 o.c] 114)).size
              refine ⟨by rw [HSN.out, HMK.out]; exact hown6, fun j hj => ?_, (HRW.out.2.2.trans' (HK4.out.alloc (.cells #[.int .i64 5, .int .i64 (pickI o.a 4), .int .i64 (pickI o.b 4), .int .i64 o.c] 114))).trans hk6 (fun j hj => .inr (HRW.out.2.1 j hj))⟩
              rcases hn6 j hj with h | h
              · exact HRW.out.2.1 j h
              · exact Nat.le_trans hsz (Nat.le_trans hsz4 h)
            clear hk6 hn6 hown6 hmv6
            go_wp2_with fail
            go_roundw
            case rel => exact ⟨k + 1, by have := HLT.out; omega, by have := HLT.out; omega, by go_num, HF6.out⟩
            case measure => have := HLT.out; simp [intOf]; omega
          | false =>
            have HMK : Hid (mkOp false o = ⟨4, 0, 0, 1⟩) := by
              unfold Hid mkOp
              rw [if_neg h4, if_pos h5]; rfl
            clear h4 h5
            have HFM : Hid (FromMem ((((((w3.setCell ⟨H, 1, none⟩ (.int .i64 (pickI o.a 4))).setCell ⟨H, 0, none⟩ (.int .i64 4)).setCell ⟨H, 1, none⟩ (.int .i64 0)).setCell ⟨H, 2, none⟩ (.int .i64 0)).setCell ⟨H, 3, none⟩ (.int .i64 1)).alloc (.cells #[.int .i64 4, .int .i64 0, .int .i64 0, .int .i64 1] 114)) 4 (.slice (some ⟨w3.heap.size, 0, none⟩) 1 1) 1 [.int .i64 4, .int .i64 0, .int .i64 0, .int .i64 1]) := by
              have := from_newL (((((w3.setCell ⟨H, 1, none⟩ (.int .i64 (pickI o.a 4))).setCell ⟨H, 0, none⟩ (.int .i64 4)).setCell ⟨H, 1, none⟩ (.int .i64 0)).setCell ⟨H, 2, none⟩ (.int .i64 0)).setCell ⟨H, 3, none⟩ (.int .i64 1)) [.int .i64 4, .int .i64 0, .int .i64 0, .int .i64 1] 114 4 rfl rfl
              rw [show ((((((w3.setCell ⟨H, 1, none⟩ (.int .i64 (pickI o.a 4))).setCell ⟨H, 0, none⟩ (.int .i64 4)).setCell ⟨H, 1, none⟩ (.int .i64 0)).setCell ⟨H, 2, none⟩ (.int .i64 0)).setCell ⟨H, 3, none⟩ (.int .i64 1))).heap.size = w3.heap.size from by simp] at this
              exact this
            have HK4 : Hid (Kept NoBlk wr (((((w3.setCell ⟨H, 1, none⟩ (.int .i64 (pickI o.a 4))).setCell ⟨H, 0, none⟩ (.int .i64 4)).setCell ⟨H, 1, none⟩ (.int .i64 0)).setCell ⟨H, 2, none⟩ (.int .i64 0)).setCell ⟨H, 3, none⟩ (.int .i64 1))) := ((((HK3.out.trans (Kept.set1 w3 H 1 _) HHB.out).trans (Kept.set1 _ H 0 _) HHB.out).trans (Kept.set1 _ H 1 _) HHB.out).trans (Kept.set1 _ H 2 _) HHB.out).trans (Kept.set1 _ H 3 _) HHB.out
            have HRW4 : Hid (RowAt ((((((w3.setCell ⟨H, 1, none⟩ (.int .i64 (pickI o.a 4))).setCell ⟨H, 0, none⟩ (.int .i64 4)).setCell ⟨H, 1, none⟩ (.int .i64 0)).setCell ⟨H, 2, none⟩ (.int .i64 0)).setCell ⟨H, 3, none⟩ (.int .i64 1)).alloc (.cells #[.int .i64 4, .int .i64 0, .int .i64 0, .int .i64 1] 114)) 114 4 u7 k xs) := HRW.out.1.kept (HK4.out.alloc _) (fun _ _ x => x)
            go_wp2_with (first
              | (go_at_call 34; refine (HQ.out 4 (by omega) _).mono ?_; rintro e w2 ⟨rfl, rfl⟩)
              | (at_builtin; refine wpList_append_row (by rfl) _ _ 39 (by rfl) 114 i1 _ 4 32 Tryz.underlying39 HI.out.1 HI.out.2.1 HI.out.2.2.1 HI.out.2.2.2 (by rfl) u7 k xs (by rfl) HRW4.out (.slice (some ⟨w2.heap.size, 0, none⟩) 1 1) 1 [.int .i64 4, .int .i64 0, .int .i64 0, .int .i64 1] (by rfl) HFM.out HB6.out HB5.out ?_))
            intro ao2 c2 W6 hown6 hmv6
            have hk6 := hmv6.keptOf
            have hn6 := hmv6.fresh
            have HF6 : Hid (RowAt W6 114 4 (.slice ao2 (k + 1) c2) (k + 1) (opCells ((l.take (k + 1)).map (mkOp false))) ∧ (∀ j, (Value.slice ao2 (k + 1) c2).ownBlock = some j → w.heap.size ≤ j) ∧ Kept NoBlk w W6) := by
              have hsz := HRW.out.2.2.size
              have hsz4 := (HK4.out.alloc (.cells #[.int .i64 4, .int .i64 0, .int .i64 0, .int .i64 1] 114)).size
              refine ⟨by rw [HSN.out, HMK.out]; exact hown6, fun j hj => ?_, (HRW.out.2.2.trans' (HK4.out.alloc (.cells #[.int .i64 4, .int .i64 0, .int .i64 0, .int .i64 1] 114))).trans hk6 (fun j hj => .inr (HRW.out.2.1 j hj))⟩
              rcases hn6 j hj with h | h
              · exact HRW.out.2.1 j h
              · exact Nat.le_trans hsz (Nat.le_trans hsz4 h)
            clear hk6 hn6 hown6 hmv6
            go_wp2_with fail
            go_roundw
            case rel => exact ⟨k + 1, by have := HLT.out; omega, by have := HLT.out; omega, by go_num, HF6.out⟩
            case measure => have := HLT.out; simp [intOf]; omega
        · have h4' : (1 + pickI o.k 5 == 4) = false := by rw [beq_eq_false_iff_ne]; exact h4
          have h5' : (1 + pickI o.k 5 == 5) = false := by rw [beq_eq_false_iff_ne]; exact h5
          have HMK : Hid (mkOp stops o = ⟨1 + pickI o.k 5, pickI o.a 5, pickI o.b 4, o.c⟩) := by
            unfold Hid mkOp
            rw [if_neg h4, if_neg h5]
          clear h4 h5
          have HFM : Hid (FromMem ((w3.setCell ⟨H, 1, none⟩ (.int .i64 (pickI o.a 5))).alloc (.cells #[.int .i64 (1 + pickI o.k 5), .int .i64 (pickI o.a 5), .int .i64 (pickI o.b 4), .int .i64 o.c] 114)) 4 (.slice (some ⟨w3.heap.size, 0, none⟩) 1 1) 1 [.int .i64 (1 + pickI o.k 5), .int .i64 (pickI o.a 5), .int .i64 (pickI o.b 4), .int .i64 o.c]) := by
            have := from_newL (w3.setCell ⟨H, 1, none⟩ (.int .i64 (pickI o.a 5))) [.int .i64 (1 + pickI o.k 5), .int .i64 (pickI o.a 5), .int .i64 (pickI o.b 4), .int .i64 o.c] 114 4 rfl rfl
            rw [show ((w3.setCell ⟨H, 1, none⟩ (.int .i64 (pickI o.a 5)))).heap.size = w3.heap.size from by simp] at this
            exact this
          have HK4 : Hid (Kept NoBlk wr (w3.setCell ⟨H, 1, none⟩ (.int .i64 (pickI o.a 5)))) := HK3.out.trans (Kept.set1 w3 H 1 _) (fun j e => .inr (by unfold Blk at e; have := HHE.out; omega))
          have HRW4 : Hid (RowAt ((w3.setCell ⟨H, 1, none⟩ (.int .i64 (pickI o.a 5))).alloc (.cells #[.int .i64 (1 + pickI o.k 5), .int .i64 (pickI o.a 5), .int .i64 (pickI o.b 4), .int .i64 o.c] 114)) 114 4 u7 k xs) := HRW.out.1.kept (HK4.out.alloc _) (fun _ _ x => x)
          go_wp2_with (first
            | (go_at_call 34; refine (HQ.out 5 (by omega) _).mono ?_; rintro e w2 ⟨rfl, rfl⟩)
            | (at_builtin; refine wpList_append_row (by rfl) _ _ 39 (by rfl) 114 i1 _ 4 32 Tryz.underlying39 HI.out.1 HI.out.2.1 HI.out.2.2.1 HI.out.2.2.2 (by rfl) u7 k xs (by rfl) HRW4.out (.slice (some ⟨w2.heap.size, 0, none⟩) 1 1) 1 [.int .i64 (1 + pickI o.k 5), .int .i64 (pickI o.a 5), .int .i64 (pickI o.b 4), .int .i64 o.c] (by rfl) HFM.out HB6.out HB5.out ?_))
          intro ao2 c2 W6 hown6 hmv6
          have hk6 := hmv6.keptOf
          have hn6 := hmv6.fresh
          have HF6 : Hid (RowAt W6 114 4 (.slice ao2 (k + 1) c2) (k + 1) (opCells ((l.take (k + 1)).map (mkOp stops))) ∧ (∀ j, (Value.slice ao2 (k + 1) c2).ownBlock = some j → w.heap.size ≤ j) ∧ Kept NoBlk w W6) := by
            have hsz := HRW.out.2.2.size
            have hsz4 := (HK4.out.alloc (.cells #[.int .i64 (1 + pickI o.k 5), .int .i64 (pickI o.a 5), .int .i64 (pickI o.b 4), .int .i64 o.c] 114)).size
            refine ⟨by rw [HSN.out, HMK.out]; exact hown6, fun j hj => ?_, (HRW.out.2.2.trans' (HK4.out.alloc (.cells #[.int .i64 (1 + pickI o.k 5), .int .i64 (pickI o.a 5), .int .i64 (pickI o.b 4), .int .i64 o.c] 114))).trans hk6 (fun j hj => .inr (HRW.out.2.1 j hj))⟩
            rcases hn6 j hj with h | h
            · exact HRW.out.2.1 j h
            · exact Nat.le_trans hsz (Nat.le_trans hsz4 h)
          clear hk6 hn6 hown6 hmv6
          go_wp2_with fail
          go_roundw
          case rel => exact ⟨k + 1, by have := HLT.out; omega, by have := HLT.out; omega, by go_num, HF6.out⟩
          case measure => have := HLT.out; simp [intOf]; omega
    · have hlast : (k : Int) = n ∨ (k : Int) = most := by omega
      have HF : Hid (RowAt wr 114 4 u7 (mkOps stops most l).length (opCells (mkOps stops most l)) ∧ (∀ j, u7.ownBlock = some j → w.heap.size ≤ j) ∧ Kept NoBlk w wr) := by
        have e1 : l.take most = l.take k := by
          have h1 := HN.out
          rcases hlast with h | h
          · rw [List.take_of_length_le (by omega), List.take_of_length_le (by omega)]
          · rw [show most = k by omega]
        have e2 : (mkOps stops most l).length = k := by unfold mkOps; rw [e1, List.length_map, List.length_take]; have h1 := HN.out; omega
        rw [e2]
        unfold mkOps
        rw [e1]
        exact ⟨hrow, hfr, hkw⟩
      clear hrow hfr hkw
      by_cases hkn : k < n
      · have hkm' : ¬ k < most := fun x => hlt ⟨hkn, x⟩
        go_wp2_with fail
        go_ret
        exact ⟨_, rfl, HF.out⟩
      · go_wp2_with fail
        go_ret
        exact ⟨_, rfl, HF.out⟩

end Go.Proofs.YtmcajfefagdbnaaGreat
