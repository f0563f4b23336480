import Derived.Test.YtmcajfefagdbnaaGreatQ24
namespace Go.Proofs.YtmcajfefagdbnaaGreat
open Go Go.RowKit Go.Sort Go.Lib
open Go.MuLone
def St.call (s : St) (id : Int) : St × Int := if s.there id ≠ 0 then (s, s.there id) else (s.fell id.toNat 4, 0)
set_option maxRecDepth 20000 in
set_option maxHeartbeats 1600000 in
theorem pCall {L : Lay} {bs : Nat → Nat} {A : List Nat} {ow : Ow} {m : Nat} {lv : Int} {s : St} {w : World} (h : PSt L bs A ow m 0 lv s w) (hI : Inv s) (id : Int) (hA : ∀ i, 1 ≤ i → i ≤ s.n → (s.tx i).state = 0 → i ∈ A) (hact : s.act.length ≤ 16) (hmm : m + 1001 ≤ 1099511627776)
  (hlv : ∀ i, 1 ≤ i → i ≤ s.n → (s.tx i).state = 0 → 1 ≤ lv ∧ lv ≤ 12) :
  Calls Tryz.prog 35 #[.pointer (some ⟨L.p, 0, none⟩), .int .i64 id] w fun e w' => e = .returned (.int .i64 (s.call id).2) ∧ CallP L bs A ow (m + 500) (if (s.call id).2 = 0 then lv - 1 else lv) w (s.call id).1 w' := by
 have h1 := h.locked 1
 have hk1 : Kept (OwnP ow) w (w.setCell ⟨L.p, 0, none⟩ (.int .i32 1)) := h.keptP _
 obtain ⟨c0, f0⟩ := h.mucell
 have HK1 : Hid (Kept (OwnP ow) w (w.setCell ⟨L.p, 0, none⟩ (.int .i32 1))) := hk1
 have H1 : Hid (PSt L bs A ow m 1 lv s (w.setCell ⟨L.p, 0, none⟩ (.int .i32 1))) := h1
 have HKP : Hid (∀ (W : World) (v : Value), Kept (OwnP ow) W (W.setCell ⟨L.p, 0, none⟩ v)) := fun W v => h.keptP v
 by_cases hid : id < 1 ∨ (s.n : Int) < id
 ·have e1 : s.call id = (s, 5) := by unfold St.call St.there; rw [if_pos (show id < 1 ∨ id > (s.n : Int) from hid)]; rfl
  rw [e1]
  have HF : Hid (Calls Tryz.prog 61 #[.pointer (some ⟨L.p, 0, none⟩), .int .i64 id] (w.setCell ⟨L.p, 0, none⟩ (.int .i32 1)) fun e w' => e = .returned (.tuple #[.pointer none, .int .i64 5]) ∧ w' = w.setCell ⟨L.p, 0, none⟩ (.int .i32 1)) := findLiving_none h1 id hid
  rw [if_neg (by simp)]
  clear h h1 hk1 hI hA hact hlv hid e1
  go_enter_defers Tryz.func35, Tryz.ntmps35
  go_wp2_with fail
  refine (lock_free Tryz.muLib ⟨L.p, 0, none⟩ _ c0 f0).mono ?_
  rintro e w1 ⟨rfl, rfl⟩
  generalize w.setCell ⟨L.p, 0, none⟩ (.int .i32 1) = W1 at *
  go_wp2_with fail
  refine HF.out.mono ?_
  rintro e w2 ⟨rfl, rfl⟩
  go_wp2_with fail
  refine leaves_cons (f := 60) (args := #[.pointer (some ⟨L.p, 0, none⟩)]) (by simp) (by simp [go_sem]) ?_
  refine (unlock_deferred Tryz.muLib ⟨L.p, 0, none⟩ .returning _ H1.out.mucell.1 H1.out.mucell.2).mono ?_
  rintro e u' w'' ⟨rfl, rfl, rfl⟩
  refine ⟨_, results_tmp rfl _ _ _, ?_, ⟨ow, ?_, AgreeP.refl _ _⟩, HK1.out.trans' (HKP.out _ _)⟩
  ·first | rfl | (simp; done)
  ·exact (H1.out.locked 0).mono (by omega)
 ·obtain ⟨i, rfl⟩ : ∃ i : Nat, id = (i : Int) := ⟨id.toNat, by omega⟩
  have hin : 1 ≤ i ∧ i ≤ s.n := by omega
  by_cases hst : (s.tx i).state = 0
  ·have e1 : s.call (i : Int) = (s.fell i 4, 0) := by
    have e0 : s.there (i : Int) = 0 := by unfold St.there; rw [if_neg (show ¬ ((i : Int) < 1 ∨ (i : Int) > (s.n : Int)) from hid), Int.toNat_natCast, if_neg (by simpa using hst)]
    unfold St.call; rw [e0]; rfl
   rw [e1, if_pos rfl]
   have hf := findLiving_some h1 i hin
   rw [if_pos hst] at hf
   have HF : Hid (Calls Tryz.prog 61 #[.pointer (some ⟨L.p, 0, none⟩), .int .i64 (i : Int)] (w.setCell ⟨L.p, 0, none⟩ (.int .i32 1)) fun e w' => e = .returned (.tuple #[.pointer (some ⟨bs i, 0, none⟩), .int .i64 0]) ∧ w' = w.setCell ⟨L.p, 0, none⟩ (.int .i32 1)) := hf
   have HS : Hid (Calls Tryz.prog 72 #[.pointer (some ⟨L.p, 0, none⟩), .pointer (some ⟨bs i, 0, none⟩), .int .i64 4] (w.setCell ⟨L.p, 0, none⟩ (.int .i32 1)) fun e w' => e = .returned (.tuple #[]) ∧ PSt L bs A ow (m + 400) 1 (lv - 1) (s.fell i 4) w' ∧ Kept (OwnP ow) (w.setCell ⟨L.p, 0, none⟩ (.int .i32 1)) w') := pfail h1 hI i (hA i hin.1 hin.2 hst) hst hact (by omega) 4 (by omega) (hlv i hin.1 hin.2 hst)
   clear h h1 hk1 hI hA hact hlv hid e1 hf hin hst
   go_enter_defers Tryz.func35, Tryz.ntmps35
   go_wp2_with fail
   refine (lock_free Tryz.muLib ⟨L.p, 0, none⟩ _ c0 f0).mono ?_
   rintro e w1 ⟨rfl, rfl⟩
   generalize w.setCell ⟨L.p, 0, none⟩ (.int .i32 1) = W1 at *
   go_wp2_with fail
   refine HF.out.mono ?_
   rintro e w2 ⟨rfl, rfl⟩
   go_wp2_with fail
   refine HS.out.mono ?_
   rintro e w3 ⟨rfl, h3, hk3⟩
   have H3 : Hid (PSt L bs A ow (m + 400) 1 (lv - 1) (s.fell i 4) w3 ∧ Kept (OwnP ow) w2 w3) := ⟨h3, hk3⟩
   clear h3 hk3
   go_wp2_with fail
   refine leaves_cons (f := 60) (args := #[.pointer (some ⟨L.p, 0, none⟩)]) (by simp) (by simp [go_sem]) ?_
   refine (unlock_deferred Tryz.muLib ⟨L.p, 0, none⟩ .returning _ H3.out.1.mucell.1 H3.out.1.mucell.2).mono ?_
   rintro e u' w'' ⟨rfl, rfl, rfl⟩
   refine ⟨_, results_tmp rfl _ _ _, ?_, ⟨ow, (H3.out.1.locked 0).mono (by omega), AgreeP.refl _ _⟩, (HK1.out.trans' H3.out.2).trans' (HKP.out _ _)⟩
   first | rfl | (simp; done)
  ·have e1 : s.call (i : Int) = (s, 6) := by
    have e0 : s.there (i : Int) = 6 := by unfold St.there; rw [if_neg (show ¬ ((i : Int) < 1 ∨ (i : Int) > (s.n : Int)) from hid), Int.toNat_natCast, if_pos (by simpa using hst)]
    unfold St.call; rw [e0]; rfl
   rw [e1, if_neg (by simp)]
   have hf := findLiving_some h1 i hin
   rw [if_neg hst] at hf
   have HF : Hid (Calls Tryz.prog 61 #[.pointer (some ⟨L.p, 0, none⟩), .int .i64 (i : Int)] (w.setCell ⟨L.p, 0, none⟩ (.int .i32 1)) fun e w' => e = .returned (.tuple #[.pointer none, .int .i64 6]) ∧ w' = w.setCell ⟨L.p, 0, none⟩ (.int .i32 1)) := hf
   clear h h1 hk1 hI hA hact hlv hid e1 hf hin hst
   go_enter_defers Tryz.func35, Tryz.ntmps35
   go_wp2_with fail
   refine (lock_free Tryz.muLib ⟨L.p, 0, none⟩ _ c0 f0).mono ?_
   rintro e w1 ⟨rfl, rfl⟩
   generalize w.setCell ⟨L.p, 0, none⟩ (.int .i32 1) = W1 at *
   go_wp2_with fail
   refine HF.out.mono ?_
   rintro e w2 ⟨rfl, rfl⟩
   go_wp2_with fail
   refine leaves_cons (f := 60) (args := #[.pointer (some ⟨L.p, 0, none⟩)]) (by simp) (by simp [go_sem]) ?_
   refine (unlock_deferred Tryz.muLib ⟨L.p, 0, none⟩ .returning _ H1.out.mucell.1 H1.out.mucell.2).mono ?_
   rintro e u' w'' ⟨rfl, rfl, rfl⟩
   refine ⟨_, results_tmp rfl _ _ _, ?_, ⟨ow, ?_, AgreeP.refl _ _⟩, HK1.out.trans' (HKP.out _ _)⟩
   ·first | rfl | (simp; done)
   ·exact (H1.out.locked 0).mono (by omega)
end Go.Proofs.YtmcajfefagdbnaaGreat
