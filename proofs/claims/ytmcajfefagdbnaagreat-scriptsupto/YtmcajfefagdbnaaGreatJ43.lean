import Derived.Test.YtmcajfefagdbnaaGreatJ42
import Derived.Test.YtmcajfefagdbnaaGreatJ19
import Derived.Test.YtmcajfefagdbnaaGreatJ31
import Derived.Test.YtmcajfefagdbnaaGreatJ33
import Derived.Test.YtmcajfefagdbnaaGreatJ41
import Derived.Test.YtmcajfefagdbnaaGreatJ23
import Derived.Test.YtmcajfefagdbnaaGreatJ27
import Derived.Test.YtmcajfefagdbnaaGreatJ21
import Derived.Test.YtmcajfefagdbnaaGreatJ04
import Derived.Test.YtmcajfefagdbnaaGreatJ10
namespace Go.Proofs.YtmcajfefagdbnaaGreat
open Go Go.RowKit Go.Sort Go.Lib
open Go.MuLone
def St.call (s : St) (id : Int) : St × Int := if s.there id ≠ 0 then (s, s.there id) else (s.fell id.toNat 4, 0)
set_option maxRecDepth 20000 in
set_option maxHeartbeats 1600000 in
theorem pCall {L : Lay} {bs : Nat → Nat} {A : List Nat} {ow : Ow} {m : Nat} {lv : Int} {s : St} {w : World} (h : PSt L bs A ow m 0 lv s w) (hI : Inv s) (id : Int) (hA : ∀ i, 1 ≤ i → i ≤ s.n → (s.tx i).state = 0 → i ∈ A) (hact : s.act.length ≤ 16) (hmm : m + 1001 ≤ 1099511627776)
  (hlv : ∀ i, 1 ≤ i → i ≤ s.n → (s.tx i).state = 0 → 1 ≤ lv ∧ lv ≤ 12) :
  Calls Tryz.prog 35 #[.pointer (some ⟨L.p, 0, none⟩), .int .i64 id] w fun e w' => e = .returned (.int .i64 (s.call id).2) ∧ CallP L bs A ow (m + 500) (if (s.call id).2 = 0 then lv - 1 else lv) w (s.call id).1 w' := by
 have h1 := h.locked 1
 have hk1 : Kept (OwnP ow) w (w.setCell ⟨L.p, 0, none⟩ (.int .i32 1)) := h.keptP _
 obtain ⟨c0, f0⟩ := h.mucell
 have HK1 : Hid (Kept (OwnP ow) w (w.setCell ⟨L.p, 0, none⟩ (.int .i32 1))) := hk1
 have H1 : Hid (PSt L bs A ow m 1 lv s (w.setCell ⟨L.p, 0, none⟩ (.int .i32 1))) := h1
 have HKP : Hid (∀ (W : World) (v : Value), Kept (OwnP ow) W (W.setCell ⟨L.p, 0, none⟩ v)) := fun W v => h.keptP v
 by_cases hid : id < 1 ∨ (s.n : Int) < id
 ·have e1 : s.call id = (s, 5) := by unfold St.call St.there; rw [if_pos (show id < 1 ∨ id > (s.n : Int) from hid)]; rfl
  rw [e1]
  have HF : Hid (Calls Tryz.prog 61 #[.pointer (some ⟨L.p, 0, none⟩), .int .i64 id] (w.setCell ⟨L.p, 0, none⟩ (.int .i32 1)) fun e w' => e = .returned (.tuple #[.pointer none, .int .i64 5]) ∧ w' = w.setCell ⟨L.p, 0, none⟩ (.int .i32 1)) := findLiving_none h1 id hid
  rw [if_neg (by simp)]
  clear h h1 hk1 hI hA hact hlv hid e1
  go_enter_defers Tryz.func35, Tryz.ntmps35
  go_wp2_with fail
  refine (lock_free Tryz.muLib ⟨L.p, 0, none⟩ _ c0 f0).mono ?_
  rintro e w1 ⟨rfl, rfl⟩
  generalize w.setCell ⟨L.p, 0, none⟩ (.int .i32 1) = W1 at *
  go_wp2_with fail
  refine HF.out.mono ?_
  rintro e w2 ⟨rfl, rfl⟩
  go_wp2_with fail
  refine leaves_cons (f := 60) (args := #[.pointer (some ⟨L.p, 0, none⟩)]) (by simp) (by simp [go_sem]) ?_
  refine (unlock_deferred Tryz.muLib ⟨L.p, 0, none⟩ .returning _ H1.out.mucell.1 H1.out.mucell.2).mono ?_
  rintro e u' w'' ⟨rfl, rfl, rfl⟩
  refine ⟨_, results_tmp rfl _ _ _, ?_, ⟨ow, ?_, AgreeP.refl _ _⟩, HK1.out.trans' (HKP.out _ _)⟩
  ·first | rfl | (simp; done)
  ·exact (H1.out.locked 0).mono (by omega)
 ·obtain ⟨i, rfl⟩ : ∃ i : Nat, id = (i : Int) := ⟨id.toNat, by omega⟩
  have hin : 1 ≤ i ∧ i ≤ s.n := by omega
  by_cases hst : (s.tx i).state = 0
  ·have e1 : s.call (i : Int) = (s.fell i 4, 0) := by
    have e0 : s.there (i : Int) = 0 := by unfold St.there; rw [if_neg (show ¬ ((i : Int) < 1 ∨ (i : Int) > (s.n : Int)) from hid), Int.toNat_natCast, if_neg (by simpa using hst)]
    unfold St.call; rw [e0]; rfl
   rw [e1, if_pos rfl]
   have hf := findLiving_some h1 i hin
   rw [if_pos hst] at hf
   have HF : Hid (Calls Tryz.prog 61 #[.pointer (some ⟨L.p, 0, none⟩), .int .i64 (i : Int)] (w.setCell ⟨L.p, 0, none⟩ (.int .i32 1)) fun e w' => e = .returned (.tuple #[.pointer (some ⟨bs i, 0, none⟩), .int .i64 0]) ∧ w' = w.setCell ⟨L.p, 0, none⟩ (.int .i32 1)) := hf
   have HS : Hid (Calls Tryz.prog 72 #[.pointer (some ⟨L.p, 0, none⟩), .pointer (some ⟨bs i, 0, none⟩), .int .i64 4] (w.setCell ⟨L.p, 0, none⟩ (.int .i32 1)) fun e w' => e = .returned (.tuple #[]) ∧ PSt L bs A ow (m + 400) 1 (lv - 1) (s.fell i 4) w' ∧ Kept (OwnP ow) (w.setCell ⟨L.p, 0, none⟩ (.int .i32 1)) w') := pfail h1 hI i (hA i hin.1 hin.2 hst) hst hact (by omega) 4 (by omega) (hlv i hin.1 hin.2 hst)
   clear h h1 hk1 hI hA hact hlv hid e1 hf hin hst
   go_enter_defers Tryz.func35, Tryz.ntmps35
   go_wp2_with fail
   refine (lock_free Tryz.muLib ⟨L.p, 0, none⟩ _ c0 f0).mono ?_
   rintro e w1 ⟨rfl, rfl⟩
   generalize w.setCell ⟨L.p, 0, none⟩ (.int .i32 1) = W1 at *
   go_wp2_with fail
   refine HF.out.mono ?_
   rintro e w2 ⟨rfl, rfl⟩
   go_wp2_with fail
   refine HS.out.mono ?_
   rintro e w3 ⟨rfl, h3, hk3⟩
   have H3 : Hid (PSt L bs A ow (m + 400) 1 (lv - 1) (s.fell i 4) w3 ∧ Kept (OwnP ow) w2 w3) := ⟨h3, hk3⟩
   clear h3 hk3
   go_wp2_with fail
   refine leaves_cons (f := 60) (args := #[.pointer (some ⟨L.p, 0, none⟩)]) (by simp) (by simp [go_sem]) ?_
   refine (unlock_deferred Tryz.muLib ⟨L.p, 0, none⟩ .returning _ H3.out.1.mucell.1 H3.out.1.mucell.2).mono ?_
   rintro e u' w'' ⟨rfl, rfl, rfl⟩
   refine ⟨_, results_tmp rfl _ _ _, ?_, ⟨ow, (H3.out.1.locked 0).mono (by omega), AgreeP.refl _ _⟩, (HK1.out.trans' H3.out.2).trans' (HKP.out _ _)⟩
   first | rfl | (simp; done)
  ·have e1 : s.call (i : Int) = (s, 6) := by
    have e0 : s.there (i : Int) = 6 := by unfold St.there; rw [if_neg (show ¬ ((i : Int) < 1 ∨ (i : Int) > (s.n : Int)) from hid), Int.toNat_natCast, if_pos (by simpa using hst)]
    unfold St.call; rw [e0]; rfl
   rw [e1, if_neg (by simp)]
   have hf := findLiving_some h1 i hin
   rw [if_neg hst] at hf
   have HF : Hid (Calls Tryz.prog 61 #[.pointer (some ⟨L.p, 0, none⟩), .int .i64 (i : Int)] (w.setCell ⟨L.p, 0, none⟩ (.int .i32 1)) fun e w' => e = .returned (.tuple #[.pointer none, .int .i64 6]) ∧ w' = w.setCell ⟨L.p, 0, none⟩ (.int .i32 1)) := hf
   clear h h1 hk1 hI hA hact hlv hid e1 hf hin hst
   go_enter_defers Tryz.func35, Tryz.ntmps35
   go_wp2_with fail
   refine (lock_free Tryz.muLib ⟨L.p, 0, none⟩ _ c0 f0).mono ?_
   rintro e w1 ⟨rfl, rfl⟩
   generalize w.setCell ⟨L.p, 0, none⟩ (.int .i32 1) = W1 at *
   go_wp2_with fail
   refine HF.out.mono ?_
   rintro e w2 ⟨rfl, rfl⟩
   go_wp2_with fail
   refine leaves_cons (f := 60) (args := #[.pointer (some ⟨L.p, 0, none⟩)]) (by simp) (by simp [go_sem]) ?_
   refine (unlock_deferred Tryz.muLib ⟨L.p, 0, none⟩ .returning _ H1.out.mucell.1 H1.out.mucell.2).mono ?_
   rintro e u' w'' ⟨rfl, rfl, rfl⟩
   refine ⟨_, results_tmp rfl _ _ _, ?_, ⟨ow, ?_, AgreeP.refl _ _⟩, HK1.out.trans' (HKP.out _ _)⟩
   ·first | rfl | (simp; done)
   ·exact (H1.out.locked 0).mono (by omega)
end Go.Proofs.YtmcajfefagdbnaaGreat
namespace Go.Proofs.YtmcajfefagdbnaaGreat
open Go Go.RowKit
def livers (s : St) : List Nat := (List.range' 1 s.n).filter fun i => (s.tx i).state == 0
theorem mem_livers {s : St} {i : Nat} : i ∈ livers s ↔ 1 ≤ i ∧ i ≤ s.n ∧ (s.tx i).state = 0 := by
 unfold livers
 rw [List.mem_filter, mem_range1]
 simp
 exact ⟨fun ⟨⟨a, b⟩, c⟩ => ⟨a, b, c⟩, fun ⟨a, b, c⟩ => ⟨⟨a, b⟩, c⟩⟩
theorem livers_len (s : St) : (livers s).length = alive s := rfl
theorem PSt.shrink {L : Lay} {bs : Nat → Nat} {A : List Nat} {ow : Ow} {m : Nat} {mu lv : Int} {s : St} {w : World} (h : PSt L bs A ow m mu lv s w) (hI : Inv s) (hal : alive s ≤ 12) : PSt L bs (livers s) ow m mu lv s w :=
 ⟨h.lt, h.tags, h.body, h.vals, h.hold, h.que, h.txs, hal, fun _ hi => ⟨(mem_livers.1 hi).1, (mem_livers.1 hi).2.1⟩,
  fun k j hj => ⟨(h.hdom k j hj).1, mem_livers.2 ⟨((hI.row k).hold j hj).1, ((hI.row k).hold j hj).2, hI.holds k j hj⟩⟩,
  fun k x hx => ⟨(h.qdom k x hx).1, mem_livers.2 ⟨((hI.row k).qmode x hx).1.1, ((hI.row k).qmode x hx).1.2, (hI.queue k x.1 x.2 hx).1⟩⟩, h.rdom, h.nmax⟩
structure GSt (L : Lay) (bs : Nat → Nat) (ow : Ow) (N0 j : Nat) (s : St) (w : World) : Prop where
 st : PSt L bs (livers s) ow (N0 + 500 * j + 10) 0 (alive s : Int) s w
 good : Good s
 act : s.act.length ≤ 16
 al : alive s ≤ 12
 n : s.n ≤ j
 ag : ∀ i, 0 ≤ (s.tx i).agains ∧ (s.tx i).agains ≤ j
 wins : s.wins.length ≤ j
 c0 : 0 ≤ s.clock
 c1 : s.clock ≤ 1099511627776
theorem GSt.kept {L : Lay} {bs : Nat → Nat} {ow : Ow} {N0 j : Nat} {s : St} {S : Nat → Prop} {w w' : World} (h : GSt L bs ow N0 j s w) (hk : Kept S w w') (hd : ∀ k, OwnP ow k → ¬ S k) : GSt L bs ow N0 j s w' :=
 ⟨h.st.kept hk hd, h.good, h.act, h.al, h.n, h.ag, h.wins, h.c0, h.c1⟩
theorem GSt.mono {L : Lay} {bs : Nat → Nat} {ow : Ow} {N0 j j' : Nat} {s : St} {w : World} (h : GSt L bs ow N0 j s w) (hj : j ≤ j') : GSt L bs ow N0 j' s w :=
 ⟨h.st.mono (by omega), h.good, h.act, h.al, Nat.le_trans h.n hj, fun i => ⟨(h.ag i).1, by have := (h.ag i).2; omega⟩, Nat.le_trans h.wins hj, h.c0, h.c1⟩
def GAft (L : Lay) (ow : Ow) (N0 j : Nat) (w : World) (s' : St) (w' : World) : Prop := (∃ bs' ow', GSt L bs' ow' N0 j s' w' ∧ AgreeP w ow ow') ∧ Kept (OwnP ow) w w'
theorem there_zero {s : St} {id : Int} (hz : s.there id = 0) : 1 ≤ id ∧ id ≤ s.n ∧ (s.tx id.toNat).state = 0 := by
 unfold St.there at hz
 split at hz
 ·omega
 ·split at hz
  ·omega
  ·rename_i a b
   exact ⟨by omega, by omega, by simpa using b⟩
theorem GSt.live {L : Lay} {bs : Nat → Nat} {ow : Ow} {N0 j : Nat} {s : St} {w : World} (h : GSt L bs ow N0 j s w) (i : Nat) (h1 : 1 ≤ i) (h2 : i ≤ s.n) (h3 : (s.tx i).state = 0) : 1 ≤ (alive s : Int) ∧ (alive s : Int) ≤ 12 := by
 have h4 := alive_pos (s := s) (i := i) ⟨h1, h2, h3⟩
 have h5 := h.al
 omega
theorem gStep {L : Lay} {bs : Nat → Nat} {ow : Ow} {N0 j : Nat} {s : St} {w : World} (h : GSt L bs ow N0 j s w) (id : Int) (hj : j ≤ 4194304) (hN : N0 ≤ 4194304) :
  Calls Tryz.prog 22 #[.pointer (some ⟨L.p, 0, none⟩), .int .i64 id] w fun e w' => e = .returned (.tuple #[.int .i64 (s.step id).2.1, .int .i64 (s.step id).2.2]) ∧ GAft L ow N0 (j + 1) w (s.step id).1 w' := by
 refine (pStep h.st h.good.inv id (fun i h1 h2 h3 => mem_livers.2 ⟨h1, h2, h3⟩) h.act (by omega) h.live (fun i => ⟨(h.ag i).1, by have := (h.ag i).2; omega⟩) (by have := h.wins; omega)).mono ?_
 rintro e w' ⟨rfl, ⟨ow', h1, h2⟩, h3⟩
 refine ⟨rfl, ⟨bs, ow', ?_, h2⟩, h3⟩
 by_cases hz : s.there id = 0
 ·have hid := there_zero hz
  have hl : Lives s id.toNat := ⟨by omega, by omega, hid.2.2⟩
  have e1 : s.step id = ((s.go id.toNat).1, (s.go id.toNat).2, 0) := by unfold St.step; rw [if_neg (by simp [hz])]
  rw [e1] at h1 ⊢
  obtain ⟨a1, a2, a3, a4, a5, a6⟩ := go_ans s id.toNat hl.lives
  have hn := go_n s id.toNat
  have hgo := h.good.go hl
  have e2 : lvAft (s.go id.toNat).2 (alive s : Int) = (alive (s.go id.toNat).1 : Int) := by rw [alive_go hl]; rfl
  have hal : alive (s.go id.toNat).1 ≤ 12 := by
   have h5 := h.al
   have h6 := alive_go hl
   split at h6 <;> omega
  refine ⟨?_, hgo, go_act h.act, hal, ?_, fun i => ?_, ?_, ?_, ?_⟩
  ·have h1' := h1.mono (m' := N0 + 500 * (j + 1) + 10) (by omega)
   simp only at h1'
   rw [e2] at h1'
   exact h1'.shrink hgo.inv hal
  ·show (s.go id.toNat).1.n ≤ _
   rw [hn.1]; have := h.n; omega
  ·have hai := h.ag i
   by_cases e : i = id.toNat
   ·subst e
    show 0 ≤ ((s.go id.toNat).1.tx id.toNat).agains ∧ _
    rw [a6]
    split <;> omega
   ·have := (base_eq (go_oth s e).base).2.2.2.2.1
    show 0 ≤ ((s.go id.toNat).1.tx i).agains ∧ ((s.go id.toNat).1.tx i).agains ≤ _
    rw [this]; omega
  ·show (s.go id.toNat).1.wins.length ≤ _
   have := h.wins
   omega
  ·show 0 ≤ (s.go id.toNat).1.clock
   rw [hn.2]; exact h.c0
  ·show (s.go id.toNat).1.clock ≤ _
   rw [hn.2]; exact h.c1
 ·have e1 : s.step id = (s, 0, s.there id) := by unfold St.step; rw [if_pos hz]
  rw [e1] at h1 ⊢
  have e2 : lvAft 0 (alive s : Int) = (alive s : Int) := rfl
  have h1' := h1.mono (m' := N0 + 500 * (j + 1) + 10) (by omega)
  exact ⟨by rw [← e2]; exact h1', h.good, h.act, h.al, by have := h.n; show s.n ≤ _; omega, fun i => ⟨(h.ag i).1, by have := (h.ag i).2; show (s.tx i).agains ≤ _; omega⟩, by have := h.wins; show s.wins.length ≤ _; omega, h.c0, h.c1⟩
theorem gCall {L : Lay} {bs : Nat → Nat} {ow : Ow} {N0 j : Nat} {s : St} {w : World} (h : GSt L bs ow N0 j s w) (id : Int) (hj : j ≤ 4194304) (hN : N0 ≤ 4194304) :
  Calls Tryz.prog 35 #[.pointer (some ⟨L.p, 0, none⟩), .int .i64 id] w fun e w' => e = .returned (.int .i64 (s.call id).2) ∧ GAft L ow N0 (j + 1) w (s.call id).1 w' := by
 refine (pCall h.st h.good.inv id (fun i h1 h2 h3 => mem_livers.2 ⟨h1, h2, h3⟩) h.act (by omega) h.live).mono ?_
 rintro e w' ⟨rfl, ⟨ow', h1, h2⟩, h3⟩
 refine ⟨rfl, ⟨bs, ow', ?_, h2⟩, h3⟩
 by_cases hz : s.there id = 0
 ·have hid := there_zero hz
  have hl : Lives s id.toNat := ⟨by omega, by omega, hid.2.2⟩
  have e1 : s.call id = (s.fell id.toNat 4, 0) := by unfold St.call; rw [if_neg (by simp [hz])]
  rw [e1] at h1 ⊢
  rw [if_pos rfl] at h1
  have hgo := h.good.fell id.toNat 4
  have haf := alive_fell hl 4 (by omega)
  have hal : alive (s.fell id.toNat 4) ≤ 12 := by have h5 := h.al; omega
  refine ⟨?_, hgo, Nat.le_trans (undone_act (s := s) (i := id.toNat)) h.act, hal, ?_, fun i => ?_, ?_, h.c0, h.c1⟩
  ·have h1' := h1.mono (m' := N0 + 500 * (j + 1) + 10) (by omega)
   rw [← haf] at h1'
   exact h1'.shrink hgo.inv hal
  ·show s.n ≤ _
   have := h.n; omega
  ·have hai := h.ag i
   by_cases e : i = id.toNat
   ·subst e
    show 0 ≤ ((s.fell id.toNat 4).tx id.toNat).agains ∧ _
    rw [(fell_agains s _ 4).1]; omega
   ·have := (base_eq (fell_oth s 4 e).base).2.2.2.2.1
    show 0 ≤ ((s.fell id.toNat 4).tx i).agains ∧ ((s.fell id.toNat 4).tx i).agains ≤ _
    rw [this]; omega
  ·show (s.fell id.toNat 4).wins.length ≤ _
   rw [(fell_agains s _ 4).2]
   have := h.wins
   omega
 ·have e1 : s.call id = (s, s.there id) := by unfold St.call; rw [if_pos hz]
  rw [e1] at h1 ⊢
  rw [if_neg hz] at h1
  have h1' := h1.mono (m' := N0 + 500 * (j + 1) + 10) (by omega)
  exact ⟨h1', h.good, h.act, h.al, by have := h.n; show s.n ≤ _; omega, fun i => ⟨(h.ag i).1, by have := (h.ag i).2; show (s.tx i).agains ≤ _; omega⟩, by have := h.wins; show s.wins.length ≤ _; omega, h.c0, h.c1⟩
def St.tick (s : St) (n : Int) : St := { s with clock := tickClk s.clock n }
theorem tickClk_le {c : Int} (n : Int) (c0 : 0 ≤ c) (c1 : c ≤ 1099511627776) : c ≤ tickClk c n ∧ 0 ≤ tickClk c n ∧ tickClk c n ≤ 1099511627776 := by
 unfold tickClk
 split <;> omega
theorem Good.tick {s : St} (h : Good s) (n : Int) (hc : s.clock ≤ tickClk s.clock n) : Good (s.tick n) := by
 have hI := h.inv
 exact ⟨⟨hI.row, hI.still, hI.holds, hI.queue, hI.asks, hI.waits, hI.age, fun j h1 h2 => by have := hI.late j h1 h2; show (s.tx j).stamp ≤ tickClk s.clock n; omega, hI.later, hI.actOnce, hI.act⟩, h.fits⟩
theorem gTick {L : Lay} {bs : Nat → Nat} {ow : Ow} {N0 j : Nat} {s : St} {w : World} (h : GSt L bs ow N0 j s w) (n : Int) :
  Calls Tryz.prog 41 #[.pointer (some ⟨L.p, 0, none⟩), .int .i64 n] w fun e w' => e = .returned (.int .i64 (tickErr s.clock n)) ∧ GAft L ow N0 j w (s.tick n) w' := by
 have h3 := h.st
 obtain ⟨u, tv, wv, b1, _, _⟩ := h3.body
 obtain ⟨q1, q2, q3⟩ := tickClk_le n h.c0 h.c1
 have fin : ∀ (w' : World), Kept (Blk L.p) w w' → (∀ u tv wv, w.heap[L.p]? = some (.cells #[.int .i32 0, u, .int .i64 s.clock, .map (some L.vb), tv, .int .i64 (alive s : Int), .map (some L.hb), .map (some L.qb), wv] 127 (0, 0)) → w'.heap[L.p]? = some (.cells #[.int .i32 0, u, .int .i64 (tickClk s.clock n), .map (some L.vb), tv, .int .i64 (alive s : Int), .map (some L.hb), .map (some L.qb), wv] 127 (0, 0))) → GAft L ow N0 j w (s.tick n) w' := by
  intro w' hk hp
  refine ⟨⟨bs, ow, ⟨?_, h.good.tick n q1, h.act, h.al, h.n, h.ag, h.wins, q2, q3⟩, AgreeP.refl _ _⟩, hk.mono (fun k x => by unfold Blk at x; subst x; exact h3.ownP)⟩
  exact h3.turnP hk hp
 by_cases hn : n < 0 ∨ 1099511627776 - s.clock < n
 ·have e1 : tickErr s.clock n = 4 := by simp [tickErr, hn]
  have e2 : tickClk s.clock n = s.clock := by simp [tickClk, hn]
  rw [e1]
  rw [e2] at fin
  refine (ptick_no L.p n s.clock _ _ _ _ _ _ _ w b1 h.c0 h.c1 hn).mono ?_
  rintro e w' ⟨rfl, rfl⟩
  exact ⟨rfl, fin _ ((Kept.set1 w L.p 0 _).trans' (Kept.set1 _ L.p 0 _)) (fun _ _ _ hb => block_setCell (block_setCell hb _) _)⟩
 ·have e1 : tickErr s.clock n = 0 := by simp [tickErr, hn]
  have e2 : tickClk s.clock n = s.clock + n := by simp [tickClk, hn]
  rw [e1]
  rw [e2] at fin
  refine (ptick_ok L.p n s.clock _ _ _ _ _ _ _ w b1 h.c0 h.c1 (by omega) (by omega)).mono ?_
  rintro e w' ⟨rfl, rfl⟩
  exact ⟨rfl, fin _ (((Kept.set1 w L.p 0 _).trans' (Kept.set1 _ L.p 2 _)).trans' (Kept.set1 _ L.p 0 _)) (fun _ _ _ hb => block_setCell (block_setCell (block_setCell hb _) _) _)⟩
def St.adm (s : St) (l : List Op4) : St := if admErr l (alive s) s.clock = 0 then s.admit l else s
def admNo (s : St) (l : List Op4) : Int := if admErr l (alive s) s.clock = 0 then (s.n : Int) + 1 else 0
theorem livers_admit (s : St) (l : List Op4) : livers (s.admit l) = livers s ++ [s.n + 1] := by
 unfold livers
 show ((List.range' 1 (s.n + 1)).filter fun i => ((upd s.tx (s.n + 1) _) i).state == 0) = _
 rw [List.range'_concat, List.filter_append]
 congr 1
 ·apply List.filter_congr
  intro i hi
  rw [mem_range1] at hi
  rw [upd_other _ _ _ _ (by omega)]
 ·simp [upd, Nat.add_comm]
theorem Good.admit {s : St} (h : Good s) (l : List Op4) : Good (s.admit l) := by
 refine ⟨h.inv.admit l, fun i => ?_⟩
 show ((upd s.tx (s.n + 1) _) i).next ≤ ((upd s.tx (s.n + 1) _) i).ops.length
 by_cases e : i = s.n + 1
 ·subst e; rw [upd_same]; exact Nat.zero_le _
 ·rw [upd_other _ _ _ _ e]; exact h.fits i
theorem gAdmit {L : Lay} {bs : Nat → Nat} {ow : Ow} {N0 j : Nat} {s : St} {w : World} (h : GSt L bs ow N0 j s w) (v : Value) (l : List Op4) (ho : OpsSrc w v l) (hn : ∀ k, v.ownBlock = some k → ¬ OwnP ow k) (hin : OpsIn l) (hl : l.length ≤ 1048576) (hj : j ≤ 4194304) :
  Calls Tryz.prog 36 #[.pointer (some ⟨L.p, 0, none⟩), v] w fun e w' => e = .returned (.tuple #[.int .i64 (admNo s l), .int .i64 (admErr l (alive s) s.clock)]) ∧ GAft L ow N0 (j + 1) w (s.adm l) w' := by
 by_cases he : admErr l (alive s) s.clock = 0
 ·obtain ⟨e1, e2, e3⟩ := admErr_zero' he
  have n1 : admNo s l = (s.n : Int) + 1 := by simp [admNo, he]
  have n2 : s.adm l = s.admit l := by simp [St.adm, he]
  rw [n1, n2, he]
  have hsn := h.n
  refine (pAdmit_ok h.st _ l ho hn (fun o ho => ⟨(hin o ho).2.1, (hin o ho).2.2.1, (hin o ho).2.2.2⟩) h.c0 (by omega) (by rw [livers_len]; exact e2) he).mono ?_
  rintro e w' ⟨rfl, ⟨t, ow', g1, g2⟩, g3⟩
  refine ⟨rfl, ⟨upd bs (s.n + 1) t, ow', ⟨?_, h.good.admit l, h.act, by rw [alive_admit]; omega, ?_, fun i => ?_, by have := h.wins; show s.wins.length ≤ _; omega, ?_, ?_⟩, g2⟩, g3⟩
  ·rw [livers_admit, alive_admit]
   exact (g1.mono (by omega))
  ·show s.n + 1 ≤ j + 1
   omega
  ·show 0 ≤ ((upd s.tx (s.n + 1) _) i).agains ∧ ((upd s.tx (s.n + 1) _) i).agains ≤ _
   by_cases e : i = s.n + 1
   ·subst e; rw [upd_same]; simp; omega
   ·rw [upd_other _ _ _ _ e]; have := h.ag i; omega
  ·show 0 ≤ s.clock + 1
   have := h.c0; omega
  ·show s.clock + 1 ≤ _
   omega
 ·have n1 : admNo s l = 0 := by simp [admNo, he]
  have n2 : s.adm l = s := by simp [St.adm, he]
  rw [n1, n2]
  refine (pAdmit_err h.st _ l ho hn hl he).mono ?_
  rintro e w' ⟨rfl, hp, hk⟩
  exact ⟨rfl, ⟨bs, ow, GSt.mono ⟨hp, h.good, h.act, h.al, h.n, h.ag, h.wins, h.c0, h.c1⟩ (Nat.le_succ _), AgreeP.refl _ _⟩, hk⟩
end Go.Proofs.YtmcajfefagdbnaaGreat
namespace Go.Proofs.YtmcajfefagdbnaaGreat
open Go Go.RowKit
structure HSt (ow : OwB) (q N0 j : Nat) (s : St) (cl : List Cl) (w : World) : Prop where
 ex : ∃ rl, WSt ow q rl cl s.n s.tx s.wins s.clock w ∧ RowsOf s.rows rl ∧ rl.length ≤ N0 + 13 * j
 rep : Rep s.n cl s.lk
 few : cl.length ≤ j
theorem HSt.kept {ow : OwB} {q N0 j : Nat} {s : St} {cl : List Cl} {S : Nat → Prop} {w w' : World} (h : HSt ow q N0 j s cl w) (hk : Kept S w w') (hd : ∀ k, Own ow k → ¬ S k) : HSt ow q N0 j s cl w' := by
 obtain ⟨rl, h1, h2, h3⟩ := h.ex
 exact ⟨⟨rl, h1.kept hk hd, h2, h3⟩, h.rep, h.few⟩
theorem HSt.kept0 {ow : OwB} {q N0 j : Nat} {s : St} {cl : List Cl} {w w' : World} (h : HSt ow q N0 j s cl w) (hk : Kept NoBlk w w') : HSt ow q N0 j s cl w' := h.kept hk (fun _ _ x => x)
theorem HSt.mono {ow : OwB} {q N0 j j' : Nat} {s : St} {cl : List Cl} {w : World} (h : HSt ow q N0 j s cl w) (hj : j ≤ j') : HSt ow q N0 j' s cl w := by
 obtain ⟨rl, h1, h2, h3⟩ := h.ex
 exact ⟨⟨rl, h1, h2, by omega⟩, h.rep, Nat.le_trans h.few hj⟩
def HAft (ow : OwB) (q N0 j : Nat) (w : World) (s' : St) (w' : World) : Prop := (∃ ow' cl', HSt ow' q N0 j s' cl' w' ∧ ∀ k, k < w.heap.size → ow' k = ow k) ∧ Kept (Own ow) w w'
theorem WSt.clockT {ow : OwB} {p : Nat} {rl : List Row2} {cl : List Cl} {n : Nat} {tx : Nat → Tx} {wins : List Nat} {c c' : Int} {w w' : World} (h : WSt ow p rl cl n tx wins c w) (hk : Kept (Blk p) w w')
  (hp : ∀ rv tv cv wv, w.heap[p]? = some (.cells #[rv, tv, cv, wv, .int .i64 c] 47 (0, 0)) → w'.heap[p]? = some (.cells #[rv, tv, cv, wv, .int .i64 c'] 47 (0, 0))) : WSt ow p rl cl n tx wins c' w' ∧ Kept (Own ow) w w' := by
 obtain ⟨rv, tv, cv, wv, bs, h1, h2, h3, h4, h5, h6, h7, h8⟩ := h.body
 have keep : ∀ {e : TypeId} {size : Nat} {v : Value} {m : Nat} {cs : List Value}, Owns ow 1 w e size v m cs → e ≠ 47 → Owns ow 1 w' e size v m cs := by
  intro e size v m cs ho e1
  refine ⟨ownsRow_of_block ho.1 (fun k hk0 => ?_), ho.2⟩
  obtain ⟨cur, hc⟩ := ownsRow_block ho.1 hk0
  exact hk.block k (lt_of_block hc) (blocks_apart hc h1 e1)
 have h4' := keep h4 (by decide)
 have h1' := hp _ _ _ _ h1
 refine ⟨⟨fun k hk0 => Nat.lt_of_lt_of_le (h.lt k hk0) hk.size, FixT.mk h1' h4'.1 (h.fix _ _ _ _ _ _ h1 h4.1 h5), rv, tv, cv, wv, bs, h1', h2, keep h3 (by decide), h4', h5, keep h6 (by decide), keep h7 (by decide), fun i hi => ?_⟩, hk.mono (fun k e => by unfold Blk at e; subst e; unfold Own; omega)⟩
 exact (h8 i hi).kept (Agree.refl _ _) (fun k hk0 e => hk.block k hk0 (fun x => by unfold Blk at x; subst x; omega))
theorem hTick {ow : OwB} {q N0 j : Nat} {s : St} {cl : List Cl} {w : World} (h : HSt ow q N0 j s cl w) (n : Int) (c0 : 0 ≤ s.clock) (c1 : s.clock ≤ 1099511627776) :
  Calls Tryz.prog 42 #[.pointer (some ⟨q, 0, none⟩), .int .i64 n] w fun e w' => e = .returned (.int .i64 (tickErr s.clock n)) ∧ HAft ow q N0 j w (s.tick n) w' := by
 obtain ⟨rl, h1, h2, h3⟩ := h.ex
 obtain ⟨rv, tv, cv, wv, bs, b1, _⟩ := h1.body
 by_cases hn : n < 0 ∨ 1099511627776 - s.clock < n
 ·have e1 : tickErr s.clock n = 4 := by simp [tickErr, hn]
  have e2 : tickClk s.clock n = s.clock := by simp [tickClk, hn]
  rw [e1]
  refine (wtick_no q n s.clock _ _ _ _ w b1 c0 c1 hn).mono ?_
  rintro e w' ⟨rfl, rfl⟩
  refine ⟨rfl, ⟨ow, cl, ⟨⟨rl, ?_, h2, h3⟩, h.rep, h.few⟩, fun _ _ => rfl⟩, Kept.refl _ _⟩
  show WSt ow q rl cl s.n s.tx s.wins (tickClk s.clock n) w'
  rw [e2]
  exact h1
 ·have e1 : tickErr s.clock n = 0 := by simp [tickErr, hn]
  have e2 : tickClk s.clock n = s.clock + n := by simp [tickClk, hn]
  rw [e1]
  refine (wtick_ok q n s.clock _ _ _ _ w b1 c0 c1 (by omega) (by omega)).mono ?_
  rintro e w' ⟨rfl, rfl⟩
  obtain ⟨k1, k2⟩ := h1.clockT (c' := s.clock + n) (Kept.set1 w q 4 (.int .i64 (s.clock + n))) (fun _ _ _ _ hb => block_setCell hb _)
  refine ⟨rfl, ⟨ow, cl, ⟨⟨rl, ?_, h2, h3⟩, h.rep, h.few⟩, fun _ _ => rfl⟩, k2⟩
  show WSt ow q rl cl s.n s.tx s.wins (tickClk s.clock n) _
  rw [e2]
  exact k1
theorem cnt_alive (s : St) : ∀ n, cnt (fun i => (s.tx (i + 1)).state) n = ((List.range' 1 n).filter fun i => (s.tx i).state == 0).length
 | 0 => rfl
 | n + 1 => by
  rw [List.range'_concat, List.filter_append, List.length_append, ← cnt_alive s n]
  simp only [cnt, Nat.one_mul, Nat.add_comm 1 n]
  congr 1
  by_cases h : (s.tx (n + 1)).state = 0 <;> simp [h]
theorem hLives {ow : OwB} {q N0 j : Nat} {s : St} {cl : List Cl} {w : World} (h : HSt ow q N0 j s cl w) (hn : s.n ≤ 1048576) :
  Calls Tryz.prog 109 #[.pointer (some ⟨q, 0, none⟩)] w fun e w' => e = .returned (.int .i64 (alive s : Nat)) ∧ w' = w := by
 obtain ⟨rl, h1, _⟩ := h.ex
 have ea : alive s = cnt (fun i => (s.tx (i + 1)).state) s.n := (cnt_alive s s.n).symm
 rw [ea]
 rcases Nat.eq_zero_or_pos s.n with h0 | h0
 ·obtain ⟨rv, tv, cv, wv, bs, b1, b2, b3, b4, b5, _⟩ := h1.body
  have b4' := b4.1
  rw [h0] at b4' ⊢
  rcases b4'.2 with ⟨rfl, _⟩ | ⟨g, cap, cur, rfl, _⟩
  ·exact lives_nil q w (by rw [cell_at b1]; rfl)
  ·exact lives_some q g 0 cap (fun _ => 0) _ w (by omega) (by rw [cell_at b1]; rfl) (fun i hi => by omega) (fun i hi => by omega)
 ·obtain ⟨g, cap, f1, _⟩ := h1.findB h0
  refine lives_some q g s.n cap (fun i => ow.bs.getD i 0) _ w hn f1 (fun i hi => ?_) (fun i hi => ?_)
  ·obtain ⟨g', cap', e1, e2, _⟩ := h1.findB hi
   rw [f1] at e1
   simp only [Option.some.injEq, Value.slice.injEq, Addr.mk.injEq, and_true, true_and] at e1
   obtain ⟨rfl, rfl⟩ := e1
   exact e2
  ·obtain ⟨g', cap', _, _, ⟨r, rd, ov, uv, k1, _⟩, _⟩ := h1.findB hi
   rw [cell_at k1]; rfl
theorem WSt.more {ow : OwB} {p : Nat} {rl : List Row2} {cl : List Cl} {n : Nat} {tx : Nat → Tx} {wins : List Nat} {c c' : Int} {w w' : World} (h : WSt ow p rl cl n tx wins c w) {rv tv cv wv tv' ov : Value} {bs : List Nat} {t r : Nat} {x : Tx}
  (hp : w.heap[p]? = some (.cells #[rv, tv, cv, wv, .int .i64 c] 47 (0, 0))) (hbs : w.ownsRow 0 149 1 tv n (txCells bs)) (hbl : bs.length = n)
  (hp' : w'.heap[p]? = some (.cells #[rv, tv', cv, wv, .int .i64 c'] 47 (0, 0))) (ho : w'.ownsRow 0 149 1 tv' (n + 1) (txCells bs ++ [.pointer (some ⟨t, 0, none⟩)]))
  (ht : w.heap.size ≤ t) (hr : w.heap.size ≤ r) (hov : ∀ k, ov.ownBlock = some k → w.heap.size ≤ k) (htv : ∀ k, tv'.ownBlock = some k → tv.ownBlock = some k ∨ w.heap.size ≤ k) (hk : Kept (fun k => k = p ∨ tv.ownBlock = some k) w w')
  (hx : x.next = 0 ∧ x.wounded = false ∧ x.waits = none ∧ x.agains = 0 ∧ x.state = 0 ∧ x.regs = (fun _ => 0) ∧ x.reads = [] ∧ x.undo = [])
  (h1 : w'.heap[t]? = some (.cells #[.int .i64 x.stamp, .int .i64 0, .int .i64 0, .bool false, .bool false, .int .i64 0, .slice (some ⟨r, 0, none⟩) 4 4, .slice none 0 0, ov, .slice none 0 0] 152 (0, 0)))
  (h2 : w'.heap[r]? = some (.cells #[.int .i64 0, .int .i64 0, .int .i64 0, .int .i64 0] 3 (0, 0))) (h3 : w'.ownsRow 0 114 4 ov x.ops.length (opCells x.ops)) :
  ∃ ow' : OwB, (∀ k, k < w.heap.size → ow' k = ow k) ∧ WSt ow' p rl cl (n + 1) (upd tx (n + 1) x) wins c' w' ∧ Kept (Own ow) w w' := by
 obtain ⟨rv0, tv0, cv0, wv0, bs0, g1, g2, g3, g4, g5, g6, g7, g8⟩ := h.body
 rw [hp] at g1
 simp only [Option.some.injEq, Obj.cells.injEq, Array.mk.injEq, List.cons.injEq, and_true] at g1
 obtain ⟨rfl, rfl, rfl, rfl, _⟩ := g1
 have eb : bs0 = bs := txCells_inj (ownsRow_inj g4.1 hbs)
 subst eb
 have hlt := lt_of_block hp
 let ow' : OwB := ⟨fun k => if k < w.heap.size then ow k else if k = t ∨ k = r ∨ ov.ownBlock = some k then n + 2 else if tv'.ownBlock = some k then 1 else 0, bs0 ++ [t]⟩
 have hag : ∀ k, k < w.heap.size → ow' k = ow k := fun k hk => by simp only [ow', hk, if_true]
 have hnew : ∀ k, w.heap.size ≤ k → (k = t ∨ k = r ∨ ov.ownBlock = some k) → ow' k = n + 2 := fun k hk he => by
  simp only [ow']
  rw [if_neg (by omega), if_pos he]
 have same : ∀ k, k < w.heap.size → k ≠ p → tv.ownBlock ≠ some k → w'.heap[k]? = w.heap[k]? := fun k hk1 h1 h2 => hk.block k hk1 (fun x => x.elim h1 h2)
 have keep : ∀ {e : TypeId} {size : Nat} {v : Value} {m : Nat} {cs : List Value}, Owns ow 1 w e size v m cs → e ≠ 47 → e ≠ 149 → Owns ow' 1 w' e size v m cs := by
  intro e size v m cs ho e1 e2
  refine ⟨ownsRow_of_block ho.1 (fun k hk => ?_), fun k hk => by rw [hag k (ownsRow_lt ho.1 k hk)]; exact ho.2 k hk⟩
  obtain ⟨cur, hc⟩ := ownsRow_block ho.1 hk
  refine same k (lt_of_block hc) (blocks_apart hc hp e1) (fun x => ?_)
  obtain ⟨cur', hc'⟩ := ownsRow_block g4.1 x
  exact blocks_apart hc hc' e2 rfl
 have etx : txCells (bs0 ++ [t]) = txCells bs0 ++ [.pointer (some ⟨t, 0, none⟩)] := by simp [txCells]
 have ho' : w'.ownsRow 0 149 1 tv' (n + 1) (txCells (bs0 ++ [t])) := by rw [etx]; exact ho
 refine ⟨ow', hag, ⟨fun k hk0 => ?_, FixT.mk hp' ho' rfl, rv, tv', cv, wv, bs0 ++ [t], hp', by rw [hag p hlt]; exact g2, keep g3 (by decide) (by decide), ⟨ho', fun k hk0 => ?_⟩, by simp [hbl], keep g6 (by decide) (by decide), keep g7 (by decide) (by decide), fun i hi => ?_⟩, hk.mono (fun k x => by
  rcases x with rfl | x
  ·unfold Own; omega
  ·have := g4.2 k x; unfold Own; omega)⟩
 ·by_cases hk1 : k < w.heap.size
  ·exact Nat.lt_of_lt_of_le hk1 hk.size
  ·simp only [ow', hk1, if_false] at hk0
   split at hk0
   ·rename_i hx
    rcases hx with rfl | rfl | hx
    ·exact lt_of_block h1
    ·exact lt_of_block h2
    ·exact ownsRow_lt h3 k hx
   ·split at hk0
    ·rename_i hx
     exact ownsRow_lt ho k hx
    ·exact absurd rfl hk0
 ·by_cases hk1 : k < w.heap.size
  ·rw [hag k hk1]
   rcases htv k hk0 with y | y
   ·exact g4.2 k y
   ·omega
  ·obtain ⟨cur, hc⟩ := ownsRow_block ho hk0
   simp only [ow']
   rw [if_neg hk1, if_neg, if_pos hk0]
   rintro (rfl | rfl | hx)
   ·exact blocks_apart hc h1 (by decide) rfl
   ·exact blocks_apart hc h2 (by decide) rfl
   ·obtain ⟨cur', hc'⟩ := ownsRow_block h3 hx
    exact blocks_apart hc hc' (by decide) rfl
 ·by_cases ei : i = n
  ·subst ei
   obtain ⟨x1, x2, x3, x4, x5, x6, x7, x8⟩ := hx
   rw [upd_same, show (bs0 ++ [t]).getD i 0 = t from by simp [List.getD, ← hbl]]
   refine ⟨r, .slice none 0 0, ov, .slice none 0 0, ?_, hnew t ht (.inl rfl), ?_, hnew r hr (.inr (.inl rfl)), ?_, ⟨h3, fun k hk0 => hnew k (hov k hk0) (.inr (.inr hk0))⟩, ?_⟩
   ·rw [x1, x2, x3, x4, x5]; exact h1
   ·rw [x6]; exact h2
   ·rw [x7]; exact ⟨World.ownsRow_nil _ _ _ _, fun k hk => by simp [Value.ownBlock] at hk⟩
   ·rw [x8]; exact ⟨World.ownsRow_nil _ _ _ _, fun k hk => by simp [Value.ownBlock] at hk⟩
  ·rw [upd_other _ _ _ _ (by omega), show (bs0 ++ [t]).getD i 0 = bs0.getD i 0 from by simp [List.getD, List.getElem?_append_left (show i < bs0.length by omega)]]
   have hold := g8 i (by omega)
   refine TxAt.kept (ow := ow) (ow' := ⟨ow'.f, ow.bs⟩) hold ⟨hag, rfl⟩ (fun k hk1 e => ?_)
   refine same k hk1 (fun x => by subst x; omega) (fun x => ?_)
   have := g4.2 k x
   omega
end Go.Proofs.YtmcajfefagdbnaaGreat
