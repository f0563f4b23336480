import Derived.Test.YtmcajfefagdbnaaGreatJ24
import Derived.Test.YtmcajfefagdbnaaGreatJ07
import Derived.Test.YtmcajfefagdbnaaGreatJ17
import Derived.Test.YtmcajfefagdbnaaGreatJ06
import Derived.BigQuiet
import Derived.Deep.QuietTactic
namespace Go.Proofs.YtmcajfefagdbnaaGreat
open Go Go.RowKit
def claimsLen (w : World) (p : Nat) : Nat := match w.cell? ⟨p, 2, none⟩ with
 | some (.slice _ n _) => n
 | _ => 0
theorem WSt.claimsLen {ow : OwB} {p : Nat} {rl : List Row2} {cl : List Cl} {n : Nat} {tx : Nat → Tx} {wins : List Nat} {c : Int} {w : World} (h : WSt ow p rl cl n tx wins c w) : claimsLen w p = cl.length := by
 obtain ⟨cv, h1, ao, cp, rfl, _⟩ := h.claimsAt
 simp only [Go.Proofs.YtmcajfefagdbnaaGreat.claimsLen, h1]
theorem find_all {l : List Cl} {p : Cl → Bool} {k : Nat} (hk : k = l.length) (h : (l.take k).find? p = none) : ∀ x, x ∈ l → p x = false := by
 intro x hx
 subst hk
 rw [List.take_length] at h
 simpa using List.find?_eq_none.mp h x hx
theorem Rep.mine {n : Nat} {cl : List Cl} {lk : Int → Lk} (h : Rep n cl lk) {id : Nat} (hn : ∀ x, x ∈ cl → isMine (id : Nat) x = false) (k m : Int) : (id, m) ∉ (lk k).q := by
 intro hm
 rw [← h.queue k] at hm
 obtain ⟨x, h1, h2⟩ := List.mem_map.mp hm
 obtain ⟨h3, h4⟩ := List.mem_filter.mp h1
 have h5 := h.ids x h3
 have := hn x h3
 simp only [Prod.mk.injEq] at h2
 simp only [isWait, Bool.and_eq_true] at h4
 simp only [isMine, Bool.and_eq_false_iff, decide_eq_false_iff_not] at this
 rcases this with this | this
 ·omega
 ·rw [h4.2] at this; cases this
def Sought (cl : List Cl) (id : Int) (k : Nat) (v : Value) : Prop :=
 (v = .int .i64 (-1) ∧ ∀ x, x ∈ cl.take k → x.txn ≠ id) ∨ ∃ a : Nat, v = .int .i64 a ∧ a < k ∧ (cl.getD a Cl.z).txn = id
theorem mem_take_succ {cl : List Cl} {k : Nat} (hk : k < cl.length) {x : Cl} (hx : x ∈ cl.take (k + 1)) : x ∈ cl.take k ∨ x = cl.getD k Cl.z := by
 rw [List.take_succ_eq_append_getElem hk] at hx
 rcases List.mem_append.mp hx with h | h
 ·exact .inl h
 ·right; simpa [List.getD, hk] using h
set_option maxHeartbeats 3200000 in
theorem wfreed {ow : OwB} {p : Nat} {rl : List Row2} {cl : List Cl} {n : Nat} {tx : Nat → Tx} {wins : List Nat} {c : Int} {w : World} {lk : Int → Lk} {id : Nat} (h : WSt ow p rl cl n tx wins c w) (hr : Rep n cl lk) (hT : WTx tx lk id) (hi : (tx id).waits = none)
    (hs : ∀ k, RowStill n (lk k)) (hq : ∀ k, ((lk k).q.map (·.1)).Nodup) (hone : ∀ k k' m m', (id, m) ∈ (lk k).q → (id, m') ∈ (lk k').q → k = k') (hn : cl.length ≤ 1099511627776) (hn2 : n ≤ 1099511627776) :
    Calls Tryz.prog 80 #[.pointer (some ⟨p, 0, none⟩), .int .i64 (id : Nat)] w fun e w' => e = .returned (.tuple #[]) ∧ ∃ ow' cl', Agree w ow ow' ∧
      WSt ow' p rl cl' n (fun j => (tx j).look (fun k => (lk k).freed n id) j) wins c w' ∧ Rep n cl' (fun k => (lk k).freed n id) ∧ cl'.length ≤ cl.length ∧ Kept (Own ow) w w' := by
  have HW : Hid _ := h
  have HR : Hid _ := hr
  have HT : Hid _ := hT
  have HI : Hid _ := hi
  have HS : Hid _ := hs
  have HQ : Hid _ := hq
  have HONE : Hid _ := hone
  obtain ⟨cv, v1, v2⟩ := h.claimsAt
  have HV2 : Hid _ := v2
  obtain ⟨ao, cp, rfl, hsrc⟩ := v2
  generalize hL : cl.length = L at *
  have HL : Hid _ := hL
  clear h hr hT hi hs hq hone hL
  go_enter Tryz.func80, Tryz.ntmps80
  go_wp2_with fail
  go_loopw [4] (fun i wr => ∃ k : Nat, k ≤ L ∧ i = .int .i64 k ∧ (cl.take k).find? (isMine (id : Nat)) = none ∧ Kept NoBlk w wr) (fun i _ => L - (intOf i).toNat)
  case atStart => exact ⟨0, Nat.zero_le _, rfl, rfl, Kept.refl _ _⟩
  case round =>
    obtain ⟨k, hk, rfl, hf, hkw⟩ := hrel
    have hp' := hkw.cell0 v1
    have Hk : Hid _ := hkw
    have Hf : Hid _ := hf
    by_cases hlt : k < L
    · have hkl : k < cl.length := by rw [HL.out]; exact hlt
      obtain ⟨b, off, rfl, hat⟩ := hsrc (by omega)
      obtain ⟨g0, g1, g2, g3⟩ := (hat.kept hkw (fun x => x)) k hkl
      have Hkl : Hid _ := hkl
      clear hkl hsrc hat hkw hf v1
      have l1 := World.block_lt_of_cell? wr _ hp'
      have l2 := World.block_lt_of_cell? wr _ g0
      by_cases hm : isMine (id : Nat) (cl.getD k Cl.z) = true
      · have hm' := hm
        simp only [isMine, Bool.and_eq_true, decide_eq_true_eq, Bool.not_eq_true'] at hm'
        rw [hm'.1] at g1
        rw [hm'.2] at g3
        have Hm : Hid _ := hm
        have Hm' : Hid _ := hm'
        clear hm hm'
        generalize hck : (cl.getD k Cl.z).key = ck at *
        generalize (cl.getD k Cl.z).mode = cm at *
        have HCK : Hid _ := hck
        clear hck
        go_wp2_with fail
        have hC : (wr.alloc (.cells #[.int .i64 ck, .int .i64 (id : Nat), .int .i64 cm, .bool false] 109)).heap[wr.heap.size]? = some (.cells #[.int .i64 ck, .int .i64 (id : Nat), .int .i64 cm, .bool false] 109 (0, 0)) := block_alloc_new wr _
        have hkA : Kept NoBlk w (wr.alloc (.cells #[.int .i64 ck, .int .i64 (id : Nat), .int .i64 cm, .bool false] 109)) := Hk.out.alloc _
        refine (wwithout_st (HW.out.kept0 hkA) k Hkl.out (by rw [HL.out]; omega)).mono ?_
        rintro e w2 ⟨rfl, ow2, e1, e2, e3⟩
        have hC0 : ow wr.heap.size = 0 := by
          rcases Nat.eq_zero_or_pos (ow wr.heap.size) with h | h
          · exact h
          · have := HW.out.lt wr.heap.size (by omega)
            have := Hk.out.size
            omega
        have hC2 := e3.heap hC (fun x => x hC0)
        have c0 : w2.cell? ⟨wr.heap.size, 0, none⟩ = some (.int .i64 ck) := by rw [cell_at hC2]; rfl
        obtain ⟨⟨m0, hm0⟩, rep2⟩ := HR.out.leave HQ.out Hkl.out Hm'.out.2 Hm'.out.1
        rw [HCK.out] at hm0 rep2
        have ag2 : Agree w ow ow2 := e1.less hkA.size
        have kp2 : Kept (Own ow) w w2 := Kept.trans (S' := Own ow) (hkA.mono (fun _ x => x.elim)) e3 (fun _ x => .inl x)
        have ln2 : (cl.eraseIdx k).length ≤ cl.length := by rw [List.length_eraseIdx_of_lt Hkl.out]; omega
        have E2 : Hid _ := e2
        have REP2 : Hid _ := rep2
        have AG2 : Hid _ := ag2
        have KP2 : Hid _ := kp2
        have LN2 : Hid _ := ln2
        have M0 : Hid _ := hm0
        generalize wr.heap.size = C at *
        clear e1 e2 e3 hC hkA hC2 hC0 rep2 ag2 kp2 ln2 hm0 g0 g1 g2 g3 hp' l1 l2
        go_wp2_with fail
        refine (wmoved E2.out REP2.out ck (by have := LN2.out; have := HL.out; omega) hn2).mono ?_
        rintro e w3 ⟨rfl, ow3, cl3, pre, f1, f2, f3, f4, f5, f6⟩
        rw [upd_same, upd_upd] at f3
        rw [upd_same] at f4
        have HFR : Hid (∃ ow1 cl1 lk1 tx1, WFr w ow p rl cl n tx wins c lk id ow1 cl1 lk1 tx1 w3) :=
          ⟨ow3, cl3, _, clr pre tx, WFr.first HT.out HS.out HQ.out HONE.out M0.out (Agree.trans AG2.out KP2.out.size f1) f2 f3 f4 (Nat.le_trans f5 LN2.out) (Kept.trans KP2.out f6 (fun k x => own_old AG2.out k x))⟩
        clear f1 f2 f3 f4 f5 f6 c0
        go_wp2_with fail
        go_loopw [] (fun wr => ∃ ow1 cl1 lk1 tx1, WFr w ow p rl cl n tx wins c lk id ow1 cl1 lk1 tx1 wr) (fun wr => claimsLen wr p)
        case atStart => exact HFR.out
        case round =>
          obtain ⟨ow1, cl1, lk1, tx1, fr⟩ := hrel
          obtain ⟨cv1, x1, x2⟩ := fr.st.claimsAt
          obtain ⟨ao1, cp1, rfl, xs⟩ := x2
          have hl1 : cl1.length ≤ 1099511627776 := by have := fr.len; have := HL.out; omega
          generalize hL1 : cl1.length = L1 at *
          have HL1 : Hid _ := hL1
          have HF1 : Hid _ := fr
          clear fr hL1
          go_wp2_with fail
          go_loopw [6, 7] (fun at' i wr2 => ∃ k : Nat, k ≤ L1 ∧ i = .int .i64 k ∧ Sought cl1 (id : Nat) k at' ∧ Kept NoBlk wr wr2) (fun _ i _ => L1 - (intOf i).toNat)
          case atStart => exact ⟨0, Nat.zero_le _, rfl, .inl ⟨rfl, fun x hx => by simp at hx⟩, Kept.refl _ _⟩
          case round =>
            obtain ⟨k2, hk2, rfl, hso, hkw2⟩ := hrel
            have x1' := hkw2.cell0 x1
            have HK2 : Hid _ := hkw2
            have HSO : Hid _ := hso
            by_cases hlt2 : k2 < L1
            · have hkl2 : k2 < cl1.length := by rw [HL1.out]; exact hlt2
              obtain ⟨b1, off1, rfl, hat1⟩ := xs (by omega)
              obtain ⟨g0, g1, g2, g3⟩ := (hat1.kept hkw2 (fun x => x)) k2 hkl2
              have HKL2 : Hid _ := hkl2
              have HSO' : Hid _ := hso
              rcases hso with ⟨rfl, hno⟩ | ⟨a, rfl, ha, hta⟩
              · have HNO : Hid _ := hno
                clear hkl2 hat1 hkw2 hno
                generalize hcc : cl1.getD k2 Cl.z = cc at *
                have HCC : Hid _ := hcc
                clear hcc xs
                by_cases ht : cc.txn = (id : Int)
                · have e0 : (cc.txn == (id : Int)) = true := by simp [ht]
                  have HT2 : Hid _ := ht
                  clear ht
                  go_wp2_with fail
                  go_quiet (fail)
                  go_wp2_with fail
                  exact ⟨⟨k2 + 1, by omega, by go_num, .inr ⟨k2, by go_num, by omega, by rw [HCC.out]; exact HT2.out⟩, HK2.out.drewN _⟩, by simp [intOf]; omega⟩
                · have e0 : (cc.txn == (id : Int)) = false := by simp [ht]
                  have HT2 : Hid _ := ht
                  clear ht
                  go_wp2_with fail
                  go_quiet (fail)
                  go_wp2_with fail
                  refine ⟨⟨k2 + 1, by omega, by go_num, .inl ⟨by go_num, fun x hx => ?_⟩, HK2.out.drewN _⟩, by simp [intOf]; omega⟩
                  rcases mem_take_succ HKL2.out hx with h | h
                  · exact HNO.out x h
                  · rw [h, HCC.out]; exact HT2.out
              · have gg := ((hat1.kept hkw2 (fun x => x)) a (by omega)).1
                have HTA : Hid _ := hta
                have a0 : ¬ ((a : Int) < 0) := by omega
                have a1 : (a : Int) < (L1 : Int) := by omega
                clear hkl2 hat1 hkw2 hta
                generalize hcc : cl1.getD k2 Cl.z = cc at *
                have HCC : Hid _ := hcc
                generalize (cl1.getD a Cl.z).key = ka at *
                clear hcc xs
                by_cases ht : cc.txn = (id : Int)
                · have e0 : (cc.txn == (id : Int)) = true := by simp [ht]
                  have HT2 : Hid _ := ht
                  clear ht
                  by_cases hkk : cc.key < ka
                  · go_wp2_with fail
                    go_quiet (fail)
                    go_wp2_with fail
                    exact ⟨⟨k2 + 1, by omega, by go_num, .inr ⟨k2, by go_num, by omega, by rw [HCC.out]; exact HT2.out⟩, HK2.out.drewN _⟩, by simp [intOf]; omega⟩
                  · have e1 : decide (cc.key < ka) = false := by simpa using hkk
                    go_wp2_with fail
                    go_quiet (fail)
                    go_wp2_with fail
                    exact ⟨⟨k2 + 1, by omega, by go_num, .inr ⟨a, by go_num, by omega, HTA.out⟩, HK2.out.drewN _⟩, by simp [intOf]; omega⟩
                · have e0 : (cc.txn == (id : Int)) = false := by simp [ht]
                  clear ht
                  go_wp2_with fail
                  go_quiet (fail)
                  go_wp2_with fail
                  exact ⟨⟨k2 + 1, by omega, by go_num, .inr ⟨a, by go_num, by omega, HTA.out⟩, HK2.out.drewN _⟩, by simp [intOf]; omega⟩
            · obtain rfl : k2 = L1 := by omega
              rcases hso with ⟨rfl, hno⟩ | ⟨a, rfl, ha, hta⟩
              · have HNO : Hid _ := hno
                clear hno hkw2 xs
                go_wp2_with fail
                refine bodyPost_ret (v := .tuple #[]) (by simp [results, Tryz.results80, go_sem]) rfl ?_
                have hno' : ∀ x, x ∈ cl1 → x.txn ≠ (id : Nat) := fun x hx => HNO.out x (by rw [← HL1.out, List.take_length]; exact hx)
                have fr2 := HF1.out.kept0 HK2.out
                obtain ⟨z1, z2⟩ := fr2.last HI.out hno'
                refine ⟨rfl, ?_⟩
                first
                | exact ⟨ow1, cl1, fr2.agree, z1, z2, by rw [← HL.out]; exact fr2.len, fr2.kept⟩
                | exact ⟨ow1, fr2.agree, cl1, z1, z2, by rw [← HL.out]; exact fr2.len, fr2.kept⟩
              · obtain ⟨b1, off1, rfl, hat1⟩ := xs (by omega)
                have hal : a < cl1.length := by rw [HL1.out]; exact ha
                obtain ⟨g0, g1, g2, g3⟩ := (hat1.kept hkw2 (fun x => x)) a hal
                have a0 : ¬ ((a : Int) < 0) := by omega
                have a1 : (a : Int) < (k2 : Int) := by omega
                have HTA : Hid _ := hta
                have HAL : Hid _ := hal
                clear hat1 hkw2 hta hal xs g1 g2 g3
                generalize hka : (cl1.getD a Cl.z).key = ka at *
                have HKA : Hid _ := hka
                clear hka
                go_wp2_with fail
                have fr2 := HF1.out.kept0 HK2.out
                have hh : (cl1.getD a Cl.z).holds = true := by
                  cases hx : (cl1.getD a Cl.z).holds
                  · obtain ⟨⟨m, hm⟩, _⟩ := fr2.rep.leave fr2.once HAL.out hx HTA.out
                    exact absurd hm (fr2.out _ m)
                  · rfl
                refine (wwithout_st fr2.st a HAL.out (by rw [HL1.out]; exact hl1)).mono ?_
                rintro e w2 ⟨rfl, ow2, e1, e2, e3⟩
                have rep2 := fr2.rep.unhold HAL.out hh HTA.out
                rw [HKA.out] at rep2
                have ln2 : (cl1.eraseIdx a).length + 1 = cl1.length := by have h : a < cl1.length := HAL.out; rw [List.length_eraseIdx_of_lt h]; omega
                have FR2 : Hid _ := fr2
                have E1 : Hid _ := e1
                have E2 : Hid _ := e2
                have E3 : Hid _ := e3
                have REP2 : Hid _ := rep2
                have LN2 : Hid _ := ln2
                clear fr2 hh e1 e2 e3 rep2 ln2 x1' g0
                go_wp2_with fail
                refine (wmoved E2.out REP2.out ka (by have := LN2.out; have := HL1.out; omega) hn2).mono ?_
                rintro e w3 ⟨rfl, ow3, cl3, pre, f1, f2, f3, f4, f5, f6⟩
                rw [upd_same, upd_upd] at f3
                rw [upd_same] at f4
                have fr3 := FR2.out.next (Agree.trans E1.out E3.out.size f1) f2 f3 f4 (by have := LN2.out; omega) (Kept.trans E3.out f6 (fun k x => own_old E1.out k x))
                have F3 : Hid _ := fr3
                have F5 : Hid _ := f5
                clear f1 f2 f3 f4 f5 f6 fr3
                go_wp2_with fail
                refine ⟨⟨ow3, cl3, _, _, F3.out⟩, ?_⟩
                rw [F3.out.st.claimsLen, HF1.out.st.claimsLen]
                have := F5.out
                have := LN2.out
                omega
      · have Hm : Hid _ := hm
        clear hm
        generalize hc : cl.getD k Cl.z = cc at *
        have Hc : Hid _ := hc
        clear hc
        go_wp2_with fail
        all_goals clear g0 g1 g2 g3 hp'
        all_goals first
          | exact ⟨⟨k + 1, by omega, by go_num, find_more Hkl.out Hf.out (by rw [Hc.out]; simpa using Hm.out), Hk.out.alloc _⟩, by simp [intOf]; omega⟩
          | (exfalso
             have := Hm.out
             simp_all [isMine])
    · obtain rfl : k = L := by omega
      have HFR : Hid (∃ ow1 cl1 lk1 tx1, WFr w ow p rl cl n tx wins c lk id ow1 cl1 lk1 tx1 wr) :=
        ⟨ow, cl, lk, tx, Agree.refl _ _, HW.out.kept0 hkw, HR.out, HT.out, Cleared.refl _, fun _ => rfl, HS.out, HQ.out, HR.out.mine (find_all HL.out.symm hf), Nat.le_refl _, hkw.mono (fun _ x => x.elim)⟩
      clear hkw hf hsrc v1
      go_wp2_with fail
      go_loopw [] (fun wr => ∃ ow1 cl1 lk1 tx1, WFr w ow p rl cl n tx wins c lk id ow1 cl1 lk1 tx1 wr) (fun wr => claimsLen wr p)
      case atStart => exact HFR.out
      case round =>
        obtain ⟨ow1, cl1, lk1, tx1, fr⟩ := hrel
        obtain ⟨cv1, x1, x2⟩ := fr.st.claimsAt
        obtain ⟨ao1, cp1, rfl, xs⟩ := x2
        have hl1 : cl1.length ≤ 1099511627776 := by have := fr.len; have := HL.out; omega
        generalize hL1 : cl1.length = L1 at *
        have HL1 : Hid _ := hL1
        have HF1 : Hid _ := fr
        clear fr hL1
        go_wp2_with fail
        go_loopw [6, 7] (fun at' i wr2 => ∃ k : Nat, k ≤ L1 ∧ i = .int .i64 k ∧ Sought cl1 (id : Nat) k at' ∧ Kept NoBlk wr wr2) (fun _ i _ => L1 - (intOf i).toNat)
        case atStart => exact ⟨0, Nat.zero_le _, rfl, .inl ⟨rfl, fun x hx => by simp at hx⟩, Kept.refl _ _⟩
        case round =>
          obtain ⟨k2, hk2, rfl, hso, hkw2⟩ := hrel
          have x1' := hkw2.cell0 x1
          have HK2 : Hid _ := hkw2
          have HSO : Hid _ := hso
          by_cases hlt2 : k2 < L1
          · have hkl2 : k2 < cl1.length := by rw [HL1.out]; exact hlt2
            obtain ⟨b1, off1, rfl, hat1⟩ := xs (by omega)
            obtain ⟨g0, g1, g2, g3⟩ := (hat1.kept hkw2 (fun x => x)) k2 hkl2
            have HKL2 : Hid _ := hkl2
            have HSO' : Hid _ := hso
            rcases hso with ⟨rfl, hno⟩ | ⟨a, rfl, ha, hta⟩
            · have HNO : Hid _ := hno
              clear hkl2 hat1 hkw2 hno
              generalize hcc : cl1.getD k2 Cl.z = cc at *
              have HCC : Hid _ := hcc
              clear hcc xs
              by_cases ht : cc.txn = (id : Int)
              · have e0 : (cc.txn == (id : Int)) = true := by simp [ht]
                have HT2 : Hid _ := ht
                clear ht
                go_wp2_with fail
                go_quiet (fail)
                go_wp2_with fail
                exact ⟨⟨k2 + 1, by omega, by go_num, .inr ⟨k2, by go_num, by omega, by rw [HCC.out]; exact HT2.out⟩, HK2.out.drewN _⟩, by simp [intOf]; omega⟩
              · have e0 : (cc.txn == (id : Int)) = false := by simp [ht]
                have HT2 : Hid _ := ht
                clear ht
                go_wp2_with fail
                go_quiet (fail)
                go_wp2_with fail
                refine ⟨⟨k2 + 1, by omega, by go_num, .inl ⟨by go_num, fun x hx => ?_⟩, HK2.out.drewN _⟩, by simp [intOf]; omega⟩
                rcases mem_take_succ HKL2.out hx with h | h
                · exact HNO.out x h
                · rw [h, HCC.out]; exact HT2.out
            · have gg := ((hat1.kept hkw2 (fun x => x)) a (by omega)).1
              have HTA : Hid _ := hta
              have a0 : ¬ ((a : Int) < 0) := by omega
              have a1 : (a : Int) < (L1 : Int) := by omega
              clear hkl2 hat1 hkw2 hta
              generalize hcc : cl1.getD k2 Cl.z = cc at *
              have HCC : Hid _ := hcc
              generalize (cl1.getD a Cl.z).key = ka at *
              clear hcc xs
              by_cases ht : cc.txn = (id : Int)
              · have e0 : (cc.txn == (id : Int)) = true := by simp [ht]
                have HT2 : Hid _ := ht
                clear ht
                by_cases hkk : cc.key < ka
                · go_wp2_with fail
                  go_quiet (fail)
                  go_wp2_with fail
                  exact ⟨⟨k2 + 1, by omega, by go_num, .inr ⟨k2, by go_num, by omega, by rw [HCC.out]; exact HT2.out⟩, HK2.out.drewN _⟩, by simp [intOf]; omega⟩
                · have e1 : decide (cc.key < ka) = false := by simpa using hkk
                  go_wp2_with fail
                  go_quiet (fail)
                  go_wp2_with fail
                  exact ⟨⟨k2 + 1, by omega, by go_num, .inr ⟨a, by go_num, by omega, HTA.out⟩, HK2.out.drewN _⟩, by simp [intOf]; omega⟩
              · have e0 : (cc.txn == (id : Int)) = false := by simp [ht]
                clear ht
                go_wp2_with fail
                go_quiet (fail)
                go_wp2_with fail
                exact ⟨⟨k2 + 1, by omega, by go_num, .inr ⟨a, by go_num, by omega, HTA.out⟩, HK2.out.drewN _⟩, by simp [intOf]; omega⟩
          · obtain rfl : k2 = L1 := by omega
            rcases hso with ⟨rfl, hno⟩ | ⟨a, rfl, ha, hta⟩
            · have HNO : Hid _ := hno
              clear hno hkw2 xs
              go_wp2_with fail
              refine bodyPost_ret (v := .tuple #[]) (by simp [results, Tryz.results80, go_sem]) rfl ?_
              have hno' : ∀ x, x ∈ cl1 → x.txn ≠ (id : Nat) := fun x hx => HNO.out x (by rw [← HL1.out, List.take_length]; exact hx)
              have fr2 := HF1.out.kept0 HK2.out
              obtain ⟨z1, z2⟩ := fr2.last HI.out hno'
              refine ⟨rfl, ?_⟩
              first
              | exact ⟨ow1, cl1, fr2.agree, z1, z2, by rw [← HL.out]; exact fr2.len, fr2.kept⟩
              | exact ⟨ow1, fr2.agree, cl1, z1, z2, by rw [← HL.out]; exact fr2.len, fr2.kept⟩
            · obtain ⟨b1, off1, rfl, hat1⟩ := xs (by omega)
              have hal : a < cl1.length := by rw [HL1.out]; exact ha
              obtain ⟨g0, g1, g2, g3⟩ := (hat1.kept hkw2 (fun x => x)) a hal
              have a0 : ¬ ((a : Int) < 0) := by omega
              have a1 : (a : Int) < (k2 : Int) := by omega
              have HTA : Hid _ := hta
              have HAL : Hid _ := hal
              clear hat1 hkw2 hta hal xs g1 g2 g3
              generalize hka : (cl1.getD a Cl.z).key = ka at *
              have HKA : Hid _ := hka
              clear hka
              go_wp2_with fail
              have fr2 := HF1.out.kept0 HK2.out
              have hh : (cl1.getD a Cl.z).holds = true := by
                cases hx : (cl1.getD a Cl.z).holds
                · obtain ⟨⟨m, hm⟩, _⟩ := fr2.rep.leave fr2.once HAL.out hx HTA.out
                  exact absurd hm (fr2.out _ m)
                · rfl
              refine (wwithout_st fr2.st a HAL.out (by rw [HL1.out]; exact hl1)).mono ?_
              rintro e w2 ⟨rfl, ow2, e1, e2, e3⟩
              have rep2 := fr2.rep.unhold HAL.out hh HTA.out
              rw [HKA.out] at rep2
              have ln2 : (cl1.eraseIdx a).length + 1 = cl1.length := by have h : a < cl1.length := HAL.out; rw [List.length_eraseIdx_of_lt h]; omega
              have FR2 : Hid _ := fr2
              have E1 : Hid _ := e1
              have E2 : Hid _ := e2
              have E3 : Hid _ := e3
              have REP2 : Hid _ := rep2
              have LN2 : Hid _ := ln2
              clear fr2 hh e1 e2 e3 rep2 ln2 x1' g0
              go_wp2_with fail
              refine (wmoved E2.out REP2.out ka (by have := LN2.out; have := HL1.out; omega) hn2).mono ?_
              rintro e w3 ⟨rfl, ow3, cl3, pre, f1, f2, f3, f4, f5, f6⟩
              rw [upd_same, upd_upd] at f3
              rw [upd_same] at f4
              have fr3 := FR2.out.next (Agree.trans E1.out E3.out.size f1) f2 f3 f4 (by have := LN2.out; omega) (Kept.trans E3.out f6 (fun k x => own_old E1.out k x))
              have F3 : Hid _ := fr3
              have F5 : Hid _ := f5
              clear f1 f2 f3 f4 f5 f6 fr3
              go_wp2_with fail
              refine ⟨⟨ow3, cl3, _, _, F3.out⟩, ?_⟩
              rw [F3.out.st.claimsLen, HF1.out.st.claimsLen]
              have := F5.out
              have := LN2.out
              omega
end Go.Proofs.YtmcajfefagdbnaaGreat
namespace Go.Proofs.YtmcajfefagdbnaaGreat
open Go Go.RowKit
def keyStep (ks : List Int) (c : Cl) : List Int := if ks.contains c.key then ks else ks ++ [c.key]
def keysC (cl : List Cl) : List Int := cl.foldl keyStep []
theorem keyStep_mem (cl : List Cl) : ∀ ks : List Int, ks.Nodup → (cl.foldl keyStep ks).Nodup ∧ ∀ k, k ∈ cl.foldl keyStep ks ↔ k ∈ ks ∨ ∃ c ∈ cl, c.key = k := by
 induction cl with
 | nil => intro ks h; simpa using h
 | cons c cl ih =>
  intro ks h
  rw [List.foldl_cons]
  have h1 : (keyStep ks c).Nodup ∧ ∀ k, k ∈ keyStep ks c ↔ k ∈ ks ∨ c.key = k := by
   unfold keyStep
   by_cases e : ks.contains c.key = true
   ·rw [if_pos e]
    have e' : c.key ∈ ks := by simpa using e
    refine ⟨h, fun k => ⟨fun x => .inl x, fun x => x.elim id (fun y => y ▸ e')⟩⟩
   ·rw [if_neg e]
    have e' : c.key ∉ ks := by simpa using e
    refine ⟨?_, fun k => ?_⟩
    ·rw [List.nodup_append]
     exact ⟨h, by simp, fun a ha b hb => by rw [List.mem_singleton.1 hb]; exact fun x => e' (x ▸ ha)⟩
    ·rw [List.mem_append, List.mem_singleton]
     exact ⟨fun x => x.elim .inl (fun y => .inr y.symm), fun x => x.elim .inl (fun y => .inr y.symm)⟩
  obtain ⟨h2, h3⟩ := ih _ h1.1
  refine ⟨h2, fun k => ?_⟩
  rw [h3, h1.2]
  constructor
  ·rintro ((a | a) | ⟨x, hx, hk⟩)
   ·exact .inl a
   ·exact .inr ⟨c, by simp, a⟩
   ·exact .inr ⟨x, by simp [hx], hk⟩
  ·rintro (a | ⟨x, hx, hk⟩)
   ·exact .inl (.inl a)
   ·rcases List.mem_cons.1 hx with rfl | hx
    ·exact .inl (.inr hk)
    ·exact .inr ⟨x, hx, hk⟩
theorem keyStep_len (cl : List Cl) : ∀ ks : List Int, (cl.foldl keyStep ks).length ≤ ks.length + cl.length := by
 induction cl with
 | nil => intro ks; simp
 | cons c cl ih =>
  intro ks
  rw [List.foldl_cons]
  have h1 : (keyStep ks c).length ≤ ks.length + 1 := by unfold keyStep; split <;> simp
  have := ih (keyStep ks c)
  simp only [List.length_cons]
  omega
def crowdC (cl : List Cl) (key : Int) : Bool := if cl.any (fun c => decide (c.key = key)) then false else decide (16 ≤ (keysC cl).length)
theorem crowdC_eq {s : St} {cl : List Cl} (hi : Inv s) (hr : Rep s.n cl s.lk) (key : Int) : crowdC cl key = s.crowded key := by
 obtain ⟨k1, k2⟩ := keyStep_mem cl [] List.nodup_nil
 have hmem : ∀ k, k ∈ keysC cl ↔ k ∈ s.act := fun k => by
  rw [show keysC cl = cl.foldl keyStep [] from rfl, k2, hi.act, live_iff]
  constructor
  ·rintro (a | ⟨c, hc, rfl⟩)
   ·cases a
   ·cases hh : c.holds
    ·left
     intro e
     have := hr.queue c.key
     rw [e] at this
     have hf : c ∈ cl.filter (isWait c.key) := List.mem_filter.2 ⟨hc, by simp [isWait, hh]⟩
     have := List.map_eq_nil_iff.1 this
     rw [this] at hf
     cases hf
    ·right
     have h1 := hr.ids c hc
     have h2 := hr.mode_of hc hh
     exact ⟨c.txn.toNat, by omega, by rw [h2]; omega⟩
  ·rintro (a | ⟨j, h1, h2⟩)
   ·right
    have := hr.queue k
    cases hf : cl.filter (isWait k) with
    | nil => rw [hf] at this; exact absurd this.symm a
    | cons c l =>
     have hm : c ∈ cl.filter (isWait k) := by rw [hf]; simp
     obtain ⟨hm1, hm2⟩ := List.mem_filter.1 hm
     simp only [isWait, Bool.and_eq_true, decide_eq_true_eq] at hm2
     exact ⟨c, hm1, hm2.1⟩
   ·right
    exact ⟨_, (hr.held k j _ h2).1 rfl, rfl⟩
 have hlen : (keysC cl).length = s.act.length := by
  have a1 := nodup_len (keysC cl) s.act k1 (fun x hx => (hmem x).1 hx)
  have a2 := nodup_len s.act (keysC cl) hi.actOnce (fun x hx => (hmem x).2 hx)
  omega
 have hany : cl.any (fun c => decide (c.key = key)) = s.act.contains key := by
  rw [Bool.eq_iff_iff, List.any_eq_true, List.contains_iff_mem, ← hmem key, show keysC cl = cl.foldl keyStep [] from rfl, k2]
  constructor
  ·rintro ⟨c, h1, h2⟩; exact .inr ⟨c, h1, by simpa using h2⟩
  ·rintro (a | ⟨c, h1, h2⟩)
   ·cases a
   ·exact ⟨c, h1, by simpa using h2⟩
 unfold crowdC St.crowded
 rw [hany, hlen]
 cases s.act.contains key <;> simp
end Go.Proofs.YtmcajfefagdbnaaGreat
