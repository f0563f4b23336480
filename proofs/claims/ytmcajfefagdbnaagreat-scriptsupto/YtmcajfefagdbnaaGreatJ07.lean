import Derived.Test.YtmcajfefagdbnaaGreatJ06
import Derived.Test.YtmcajfefagdbnaaGreatJ05
import Derived.Test.YtmcajfefagdbnaaGreatJ04
import Derived.RegionTactic
import Derived.BigRegion
namespace Go.Proofs.YtmcajfefagdbnaaGreat
theorem conf_comm (a b : Int) : conf a b = conf b a := by simp only [conf, Bool.or_comm]
theorem hind_true {n : Nat} {h : Nat → Int} {i : Nat} {m : Int} : hind n h i m = true ↔ ∃ j, j ≤ n ∧ j ≠ i ∧ h j ≠ 0 ∧ conf (h j) m = true := by
 simp only [hind, List.any_eq_true, List.mem_range, Bool.and_eq_true, bne_iff_ne, ne_eq]
 constructor
 ·rintro ⟨j, h1, ⟨h2, h3⟩, h4⟩
  exact ⟨j, by omega, h2, h3, h4⟩
 ·rintro ⟨j, h1, h2, h3, h4⟩
  exact ⟨j, by omega, ⟨h2, h3⟩, h4⟩
theorem hind_false {n : Nat} {h : Nat → Int} {i : Nat} {m : Int} : hind n h i m = false ↔ ∀ j, j ≤ n → j ≠ i → h j ≠ 0 → conf (h j) m = false := by
 rw [← Bool.not_eq_true, hind_true]
 constructor
 ·intro h1 j h2 h3 h4
  cases h5 : conf (h j) m
  ·rfl
  ·exact absurd ⟨j, h2, h3, h4, h5⟩ h1
 ·rintro h1 ⟨j, h2, h3, h4, h5⟩
  rw [h1 j h2 h3 h4] at h5
  cases h5
structure RowOk (n : Nat) (E : Nat → Nat → Prop) (l : Lk) : Prop where
 hold : ∀ j, l.h j ≠ 0 → 1 ≤ j ∧ j ≤ n
 mode : ∀ j, l.h j = 0 ∨ l.h j = 1 ∨ l.h j = 2
 qmode : ∀ x, x ∈ l.q → (1 ≤ x.1 ∧ x.1 ≤ n) ∧ (x.2 = 1 ∨ x.2 = 2)
 once : (l.q.map (·.1)).Nodup
 apart : ∀ i j, i ≠ j → l.h i ≠ 0 → l.h j ≠ 0 → conf (l.h i) (l.h j) = false
 edge : ∀ l1 i m l2, l.q = l1 ++ (i, m) :: l2 → ∀ j, j ≠ i → ((l.h j ≠ 0 ∧ conf (l.h j) m = true) ∨ ∃ m', (j, m') ∈ l1 ∧ conf m' m = true) → E j i
 want : ∀ x, x ∈ l.q → l.h x.1 < x.2
def RowStill (n : Nat) (l : Lk) : Prop := ∀ i m q, l.q = (i, m) :: q → hind n l.h i m = true
theorem settle_still (n : Nat) (h : Nat → Int) (q : List (Nat × Int)) : RowStill n (settle n h q) := by
 induction q generalizing h with
 | nil => intro i m q e; cases e
 | cons x q ih =>
  obtain ⟨i, m⟩ := x
  simp only [settle]
  split
  ·rename_i hh
   intro i' m' q' e
   simp only [List.cons.injEq, Prod.mk.injEq] at e
   obtain ⟨⟨rfl, rfl⟩, rfl⟩ := e
   exact hh
  ·exact ih _
theorem settle_same (n : Nat) (l : Lk) (hs : RowStill n l) : settle n l.h l.q = l := by
 obtain ⟨h, q⟩ := l
 cases q with
 | nil => rfl
 | cons x q =>
  obtain ⟨i, m⟩ := x
  simp only [settle]
  rw [if_pos (hs i m q rfl)]
theorem settle_suffix (n : Nat) (h : Nat → Int) (q : List (Nat × Int)) : ∃ p, q = p ++ (settle n h q).q := by
 induction q generalizing h with
 | nil => exact ⟨[], rfl⟩
 | cons x q ih =>
  obtain ⟨i, m⟩ := x
  simp only [settle]
  split
  ·exact ⟨[], rfl⟩
  ·obtain ⟨p, hp⟩ := ih (upd h i m)
   exact ⟨(i, m) :: p, by rw [List.cons_append, ← hp]⟩
theorem settle_mem {n : Nat} {h : Nat → Int} {q : List (Nat × Int)} {x : Nat × Int} (hx : x ∈ (settle n h q).q) : x ∈ q := by
 obtain ⟨p, hp⟩ := settle_suffix n h q
 rw [hp]
 exact List.mem_append_right _ hx
theorem settle_holds (n : Nat) (h : Nat → Int) (q : List (Nat × Int)) (hq : (q.map (·.1)).Nodup) (j : Nat) :
  ((settle n h q).h j = h j ∧ (∀ m, (j, m) ∈ q → (j, m) ∈ (settle n h q).q)) ∨ ((j, (settle n h q).h j) ∈ q ∧ ∀ m, (j, m) ∉ (settle n h q).q) := by
 induction q generalizing h with
 | nil => exact .inl ⟨rfl, fun _ x => x⟩
 | cons x q ih =>
  obtain ⟨i, m⟩ := x
  simp only [List.map_cons, List.nodup_cons] at hq
  simp only [settle]
  split
  ·exact .inl ⟨rfl, fun _ x => x⟩
  ·by_cases hj : j = i
   ·subst hj
    have no : ∀ m', (j, m') ∉ q := fun m' hm => hq.1 (List.mem_map.mpr ⟨(j, m'), hm, rfl⟩)
    rcases ih (upd h j m) hq.2 with ⟨h1, h2⟩ | ⟨h1, h2⟩
    ·rw [h1]
     simp only [upd_same]
     exact .inr ⟨List.mem_cons_self, fun m' hm => no m' (settle_mem hm)⟩
    ·exact absurd h1 (no _)
   ·rcases ih (upd h i m) hq.2 with ⟨h1, h2⟩ | ⟨h1, h2⟩
    ·refine .inl ⟨by rw [h1, upd_other _ _ _ _ hj], fun m' hm => ?_⟩
     simp only [List.mem_cons, Prod.mk.injEq] at hm
     rcases hm with ⟨e, _⟩ | hm
     ·exact absurd e hj
     ·exact h2 m' hm
    ·exact .inr ⟨List.mem_cons_of_mem _ h1, h2⟩
theorem RowOk.give {n : Nat} {E : Nat → Nat → Prop} {h : Nat → Int} {i : Nat} {m : Int} {q : List (Nat × Int)} (hr : RowOk n E ⟨h, (i, m) :: q⟩) (hh : hind n h i m = false) : RowOk n E ⟨upd h i m, q⟩ := by
 have hq := hr.qmode (i, m) List.mem_cons_self
 have hn := hr.once
 simp only [List.map_cons, List.nodup_cons] at hn
 have no : ∀ m', (i, m') ∉ q := fun m' hm => hn.1 (List.mem_map.mpr ⟨(i, m'), hm, rfl⟩)
 have hf := hind_false.mp hh
 refine ⟨fun j hj => ?_, fun j => ?_, fun x hx => hr.qmode x (List.mem_cons_of_mem _ hx), hn.2, fun a b hab ha hb => ?_, fun l1 p mp l2 e j hj hc => ?_, fun x hx => ?_⟩
 ·by_cases e : j = i
  ·subst e; exact hq.1
  ·exact hr.hold j (by simpa [upd_other _ _ _ _ e] using hj)
 ·by_cases e : j = i
  ·subst e; simp only [upd_same]; exact .inr hq.2
  ·simp only [upd_other _ _ _ _ e]; exact hr.mode j
 ·by_cases ea : a = i
  ·subst ea
   have eb : b ≠ a := fun x => hab x.symm
   simp only [upd_same, upd_other _ _ _ _ eb] at hb ⊢
   rw [conf_comm]
   exact hf b (hr.hold b hb).2 eb hb
  ·by_cases eb : b = i
   ·subst eb
    simp only [upd_same, upd_other _ _ _ _ ea] at ha ⊢
    exact hf a (hr.hold a ha).2 ea ha
   ·simp only [upd_other _ _ _ _ ea, upd_other _ _ _ _ eb] at ha hb ⊢
    exact hr.apart a b hab ha hb
 ·refine hr.edge ((i, m) :: l1) p mp l2 (by simp only at e; rw [e]; rfl) j hj ?_
  rcases hc with ⟨h1, h2⟩ | ⟨m', h1, h2⟩
  ·by_cases ej : j = i
   ·subst ej
    simp only [upd_same] at h2
    exact .inr ⟨m, List.mem_cons_self, h2⟩
   ·simp only [upd_other _ _ _ _ ej] at h1 h2
    exact .inl ⟨h1, h2⟩
  ·exact .inr ⟨m', List.mem_cons_of_mem _ h1, h2⟩
 ·have hxi : x.1 ≠ i := fun e => no x.2 (by rw [← e]; exact hx)
  simp only [upd_other _ _ _ _ hxi]
  exact hr.want x (List.mem_cons_of_mem _ hx)
theorem RowOk.settle {n : Nat} {E : Nat → Nat → Prop} {h : Nat → Int} {q : List (Nat × Int)} (hr : RowOk n E ⟨h, q⟩) : RowOk n E (settle n h q) := by
 induction q generalizing h with
 | nil => exact hr
 | cons x q ih =>
  obtain ⟨i, m⟩ := x
  simp only [Go.Proofs.YtmcajfefagdbnaaGreat.settle]
  split
  ·exact hr
  ·rename_i hh
   exact ih (hr.give (by simpa using hh))
theorem RowOk.mono {n n' : Nat} {E E' : Nat → Nat → Prop} {l : Lk} (hr : RowOk n E l) (hn : n ≤ n') (he : ∀ j i, (l.h j ≠ 0 ∨ ∃ m, (j, m) ∈ l.q) → (∃ m, (i, m) ∈ l.q) → E j i → E' j i) : RowOk n' E' l := by
 refine ⟨fun j hj => ⟨(hr.hold j hj).1, Nat.le_trans (hr.hold j hj).2 hn⟩, hr.mode, fun x hx => ⟨⟨(hr.qmode x hx).1.1, Nat.le_trans (hr.qmode x hx).1.2 hn⟩, (hr.qmode x hx).2⟩, hr.once, hr.apart, fun l1 i m l2 e j hj hc => ?_, hr.want⟩
 refine he j i ?_ ⟨m, by rw [e]; simp⟩ (hr.edge l1 i m l2 e j hj hc)
 rcases hc with ⟨h1, _⟩ | ⟨m', h1, _⟩
 ·exact .inl h1
 ·exact .inr ⟨m', by rw [e]; simp [h1]⟩
theorem filter_split {α : Type} (p : α → Bool) (l : List α) : ∀ l1 x l2, l.filter p = l1 ++ x :: l2 → ∃ k1 k2, l = k1 ++ x :: k2 ∧ k1.filter p = l1 := by
 induction l with
 | nil => intro l1 x l2 e; simp at e
 | cons a l ih =>
  intro l1 x l2 e
  by_cases ha : p a = true
  ·rw [List.filter_cons_of_pos ha] at e
   cases l1 with
   | nil =>
    simp only [List.nil_append, List.cons.injEq] at e
    exact ⟨[], l, by rw [e.1]; rfl, rfl⟩
   | cons b l1 =>
    simp only [List.cons_append, List.cons.injEq] at e
    obtain ⟨k1, k2, h1, h2⟩ := ih l1 x l2 e.2
    exact ⟨a :: k1, k2, by rw [h1]; rfl, by rw [List.filter_cons_of_pos ha, h2, e.1]⟩
  ·rw [List.filter_cons_of_neg ha] at e
   obtain ⟨k1, k2, h1, h2⟩ := ih l1 x l2 e
   exact ⟨a :: k1, k2, by rw [h1]; rfl, by rw [List.filter_cons_of_neg ha, h2]⟩
theorem RowOk.drop {n : Nat} {E : Nat → Nat → Prop} {l : Lk} (hr : RowOk n E l) (i : Nat) : RowOk n E (l.drop i) := by
 have sub : ∀ j, (l.drop i).h j ≠ 0 → (l.drop i).h j = l.h j ∧ j ≠ i := by
  intro j hj
  by_cases e : j = i
  ·subst e; simp [Lk.drop] at hj
  ·exact ⟨upd_other _ _ _ _ e, e⟩
 have memq : ∀ x, x ∈ (l.drop i).q → x ∈ l.q ∧ x.1 ≠ i := by
  intro x hx
  simp only [Lk.drop, List.mem_filter, bne_iff_ne, ne_eq] at hx
  exact hx
 refine ⟨fun j hj => ?_, fun j => ?_, fun x hx => hr.qmode x (memq x hx).1, ?_, fun a b hab ha hb => ?_, fun l1 p m l2 e j hj hc => ?_, fun x hx => ?_⟩
 ·have := sub j hj; rw [this.1] at hj; exact hr.hold j hj
 ·by_cases e : j = i
  ·subst e; exact .inl (by simp [Lk.drop])
  ·simp only [Lk.drop, upd_other _ _ _ _ e]; exact hr.mode j
 ·exact List.Sublist.nodup (List.Sublist.map _ List.filter_sublist) hr.once
 ·have h1 := sub a ha; have h2 := sub b hb
  rw [h1.1] at ha ⊢; rw [h2.1] at hb ⊢
  exact hr.apart a b hab ha hb
 ·obtain ⟨k1, k2, h1, h2⟩ := filter_split _ _ _ _ _ e
  refine hr.edge k1 p m k2 h1 j hj ?_
  rcases hc with ⟨h3, h4⟩ | ⟨m', h3, h4⟩
  ·have := sub j h3; rw [this.1] at h3 h4; exact .inl ⟨h3, h4⟩
  ·rw [← h2] at h3
   exact .inr ⟨m', (List.mem_filter.mp h3).1, h4⟩
 ·have := memq x hx
  simp only [Lk.drop, upd_other _ _ _ _ this.2]
  exact hr.want x this.1
theorem RowOk.freed {n : Nat} {E : Nat → Nat → Prop} {l : Lk} (hr : RowOk n E l) (i : Nat) : RowOk n E (l.freed n i) := RowOk.settle (hr.drop i)
theorem freed_no (n : Nat) (l : Lk) (i : Nat) : (∀ m, (i, m) ∉ (l.freed n i).q) := by
 intro m hm
 have := settle_mem hm
 simp [Lk.drop] at this
theorem freed_no_h (n : Nat) (l : Lk) (i : Nat) (hq : (l.q.map (·.1)).Nodup) : (l.freed n i).h i = 0 := by
 have hd : (((l.drop i).q).map (·.1)).Nodup := List.Sublist.nodup (List.Sublist.map _ List.filter_sublist) hq
 rcases settle_holds n (l.drop i).h (l.drop i).q hd i with ⟨h1, _⟩ | ⟨h1, _⟩
 ·simp only [Lk.freed]; rw [h1]; simp [Lk.drop]
 ·simp [Lk.drop] at h1
theorem freed_h {n : Nat} {l : Lk} {i j : Nat} (hq : (l.q.map (·.1)).Nodup) (hj : (l.freed n i).h j ≠ 0) : j ≠ i ∧ ((l.freed n i).h j = l.h j ∨ (j, (l.freed n i).h j) ∈ l.q) := by
 have hd : (((l.drop i).q).map (·.1)).Nodup := List.Sublist.nodup (List.Sublist.map _ List.filter_sublist) hq
 have hji : j ≠ i := by
  intro e; subst e; exact hj (freed_no_h n l j hq)
 refine ⟨hji, ?_⟩
 rcases settle_holds n (l.drop i).h (l.drop i).q hd j with ⟨h1, _⟩ | ⟨h1, _⟩
 ·left; simp only [Lk.freed]; rw [h1]; simp only [Lk.drop, upd_other _ _ _ _ hji]
 ·right; exact (List.mem_filter.mp h1).1
theorem freed_q {n : Nat} {l : Lk} {i : Nat} {x : Nat × Int} (hx : x ∈ (l.freed n i).q) : x ∈ l.q ∧ x.1 ≠ i := by
 have := settle_mem hx
 simp only [Lk.drop, List.mem_filter, bne_iff_ne, ne_eq] at this
 exact this
end Go.Proofs.YtmcajfefagdbnaaGreat
namespace Go.Proofs.YtmcajfefagdbnaaGreat
open Go Go.RowKit
theorem wconflict (a b : Int) (w : World) : Calls Tryz.prog 116 #[.int .i64 a, .int .i64 b] w fun e w' => e = .returned (.bool (conf a b)) ∧ w' = w := by
 go_enter Tryz.func116, Tryz.ntmps116
 go_wp2
 all_goals go_ret
 all_goals exact ⟨by simp_all [conf], rfl⟩
def isWait (key : Int) (c : Cl) : Bool := decide (c.key = key) && !c.holds
def waitL (cl : List Cl) (key : Int) : Int := match cl.findIdx? (isWait key) with
 | some i => (i : Nat)
 | none => -1
theorem findIdx_hit {l : List Cl} {p : Cl → Bool} {k : Nat} (hk : k < l.length) (h : (l.take k).find? p = none) (hp : p (l.getD k Cl.z) = true) : l.findIdx? p = some k := by
 rw [List.findIdx?_eq_some_iff_getElem]
 refine ⟨hk, by simpa [List.getD, hk] using hp, fun j hj => ?_⟩
 have := List.find?_eq_none.mp h l[j] (by rw [List.mem_take_iff_getElem]; exact ⟨j, by omega, rfl⟩)
 simpa using this
theorem findIdx_none {l : List Cl} {p : Cl → Bool} (h : l.find? p = none) : l.findIdx? p = none := by
 rw [List.findIdx?_eq_none_iff]
 intro x hx
 simpa using List.find?_eq_none.mp h x hx
set_option maxHeartbeats 800000 in
theorem wwaiting (p : Nat) (cl : List Cl) (v : Value) (key : Int) (w : World) (hp : w.cell? ⟨p, 2, none⟩ = some v) (h : ClsSrc w v cl) (hn : cl.length ≤ 1099511627776) :
    Calls Tryz.prog 113 #[.pointer (some ⟨p, 0, none⟩), .int .i64 key] w fun e w' => e = .returned (.int .i64 (waitL cl key)) ∧ Kept NoBlk w w' := by
  obtain ⟨ao, cp, rfl, h⟩ := h
  generalize hn' : cl.length = n at h hn hp ⊢
  have Hn : Hid _ := hn'
  clear hn'
  go_enter Tryz.func113, Tryz.ntmps113
  go_wp2
  go_loopw [5] (fun i wr => ∃ k : Nat, k ≤ n ∧ i = .int .i64 k ∧ (cl.take k).find? (isWait key) = none ∧ Kept NoBlk w wr) (fun i _ => n - (intOf i).toNat)
  case atStart => exact ⟨0, Nat.zero_le _, rfl, rfl, Kept.refl _ _⟩
  case round =>
    obtain ⟨k, hk, rfl, hf, hkw⟩ := hrel
    have hp' := hkw.cell0 hp
    have Hk : Hid _ := hkw
    have Hf : Hid _ := hf
    by_cases hlt : k < n
    · have hkl : k < cl.length := by rw [Hn.out]; exact hlt
      obtain ⟨b, off, rfl, hat⟩ := h (by omega)
      obtain ⟨g0, g1, g2, g3⟩ := (hat.kept hkw (fun x => x)) k hkl
      have Hkl : Hid _ := hkl
      clear hkl h hat hkw hf hp
      generalize hc : cl.getD k Cl.z = c at *
      have Hc : Hid _ := hc
      clear hc
      go_wp2_with fail
      all_goals clear g0 g1 g2 g3 hp'
      all_goals first
        | exact ⟨⟨k + 1, by omega, by go_num, find_more Hkl.out Hf.out (by rw [Hc.out]; simp_all [isWait]), Hk.out⟩, by simp [intOf]; omega⟩
        | (go_ret
           refine ⟨?_, Hk.out⟩
           have := findIdx_hit Hkl.out Hf.out (p := isWait key) (by rw [Hc.out]; simp_all [isWait])
           simp [waitL, this])
    · obtain rfl : k = n := by omega
      go_wp2_with fail
      go_ret
      refine ⟨?_, Hk.out⟩
      have := Hf.out
      rw [← Hn.out, List.take_length] at this
      simp [waitL, findIdx_none this]
def isHind (key id mode : Int) (c : Cl) : Bool := decide (c.key = key) && !decide (c.txn = id) && c.holds && conf c.mode mode
set_option maxHeartbeats 800000 in
theorem whindered (p : Nat) (cl : List Cl) (v : Value) (key id mode : Int) (w : World) (hp : w.cell? ⟨p, 2, none⟩ = some v) (h : ClsSrc w v cl) (hn : cl.length ≤ 1099511627776) :
    Calls Tryz.prog 114 #[.pointer (some ⟨p, 0, none⟩), .int .i64 key, .int .i64 id, .int .i64 mode] w fun e w' => e = .returned (.bool (cl.find? (isHind key id mode)).isSome) ∧ Kept NoBlk w w' := by
  obtain ⟨ao, cp, rfl, h⟩ := h
  generalize hn' : cl.length = n at h hn hp ⊢
  have Hn : Hid _ := hn'
  clear hn'
  go_enter Tryz.func114, Tryz.ntmps114
  go_wp2
  go_loopw [9] (fun i wr => ∃ k : Nat, k ≤ n ∧ i = .int .i64 k ∧ (cl.take k).find? (isHind key id mode) = none ∧ Kept NoBlk w wr) (fun i _ => n - (intOf i).toNat)
  case atStart => exact ⟨0, Nat.zero_le _, rfl, rfl, Kept.refl _ _⟩
  case round =>
    obtain ⟨k, hk, rfl, hf, hkw⟩ := hrel
    have hp' := hkw.cell0 hp
    have Hk : Hid _ := hkw
    have Hf : Hid _ := hf
    by_cases hlt : k < n
    · have hkl : k < cl.length := by rw [Hn.out]; exact hlt
      obtain ⟨b, off, rfl, hat⟩ := h (by omega)
      obtain ⟨g0, g1, g2, g3⟩ := (hat.kept hkw (fun x => x)) k hkl
      have Hkl : Hid _ := hkl
      clear hkl h hat hkw hf hp
      generalize hc : cl.getD k Cl.z = c at *
      have Hc : Hid _ := hc
      clear hc
      go_wp2_with fail
      refine (wconflict _ _ _).mono ?_
      rintro e w' ⟨rfl, rfl⟩
      go_wp2_with fail
      all_goals clear g0 g1 g2 g3 hp'
      all_goals first
        | exact ⟨⟨k + 1, by omega, by go_num, find_more Hkl.out Hf.out (by rw [Hc.out]; simp_all [isHind]), Hk.out.alloc _⟩, by simp [intOf]; omega⟩
        | (go_ret
           refine ⟨?_, Hk.out.alloc _⟩
           have := find_hit Hkl.out Hf.out (p := isHind key id mode) (by rw [Hc.out]; simp_all [isHind])
           simp [this])
    · obtain rfl : k = n := by omega
      go_wp2_with fail
      go_ret
      refine ⟨?_, Hk.out⟩
      have := Hf.out
      rw [← Hn.out, List.take_length] at this
      simp [this]
end Go.Proofs.YtmcajfefagdbnaaGreat
namespace Go.Proofs.YtmcajfefagdbnaaGreat
open Go Go.RowKit
def pads : List Value := [.int .i64 77, .int .i64 0, .int .i64 77, .int .i64 0, .int .i64 77, .int .i64 0, .int .i64 77, .int .i64 0]
theorem pads_get (k : Nat) (hk : k < 4) : pads[k * 2]? = some (.int .i64 77) ∧ pads[k * 2 + 1]? = some (.int .i64 0) := by
 match k, hk with
 | 0, _ => exact ⟨rfl, rfl⟩
 | 1, _ => exact ⟨rfl, rfl⟩
 | 2, _ => exact ⟨rfl, rfl⟩
 | 3, _ => exact ⟨rfl, rfl⟩
theorem rowPads_get (l : List Row2) (k : Nat) (hk : k < 4) : (rowCells l ++ pads)[(l.length + k) * 2]? = some (.int .i64 77) ∧ (rowCells l ++ pads)[(l.length + k) * 2 + 1]? = some (.int .i64 0) := by
 have h := pads_get k hk
 have hl := rowCells_len l
 rw [List.getElem?_append_right (by omega), List.getElem?_append_right (by omega), hl]
 rw [show (l.length + k) * 2 - l.length * 2 = k * 2 from by omega, show (l.length + k) * 2 + 1 - l.length * 2 = k * 2 + 1 from by omega]
 exact h
theorem set2_pref {cs : Array Value} {L : List Value} {m : Nat} {a b : Value} (hsz : m + 2 ≤ cs.size) (h : ∀ j, j < m → cs[j]? = L[j]?) (e0 : L[m]? = some a) (e1 : L[m + 1]? = some b) :
  ∀ j, j < m + 2 → ((cs.setIfInBounds m a).setIfInBounds (m + 1) b)[j]? = L[j]? := by
 intro j hj
 rw [Array.getElem?_setIfInBounds, Array.getElem?_setIfInBounds]
 by_cases h1 : m + 1 = j
 ·subst h1
  rw [if_pos rfl, if_pos (by simp; omega), e1]
 ·rw [if_neg h1]
  by_cases h0 : m = j
  ·subst h0
   rw [if_pos rfl, if_pos (by omega), e0]
  ·rw [if_neg h0]
   exact h j (by omega)
set_option maxRecDepth 100000 in
set_option maxHeartbeats 3200000 in
theorem given_any (v : Value) (n : Nat) (l : List Row2) (w : World) (hn : l.length = n) (hl : n ≤ 1048576) (h : FromMem w 2 v n (rowCells l)) :
  Calls Tryz.prog 38 #[v] w fun e w' => e = .returned (.slice (some ⟨w.heap.size, 0, none⟩) n (n + 4)) ∧ w'.heap[w.heap.size]? = some (.cells (rowCells l ++ pads).toArray 95 (0, 0)) ∧ Kept NoBlk w w' := by
 obtain ⟨i0, hi0, hz0, hz1, hz2⟩ := info_parts infoRow
 have HS : Hid ((Tryz.prog.info? 95).map (·.size) = some 2) := by unfold Hid; rw [hi0]; simp [hz1]
 obtain ⟨ao, c, rfl, hnn, hc⟩ := h.shape
 have HX : Hid (FromMem (w.alloc (.cells (madeCells (Value.agg #[.int .i64 0, .int .i64 0]).cells ((n + 4) * 2)) 95)) 2 (.slice ao n c) n (rowCells l)) :=
  ⟨⟨ao, c, rfl, hnn, fun ad had j u hu => ((Kept.refl NoBlk w).alloc _).cell (hc ad had j u hu) (fun x => x)⟩, h.len, h.one⟩
 have HB : Hid (i0.bytes * (n + 4) ≤ 281474976710656) := by unfold Hid; rw [hz2]; omega
 have HM : Hid (n + 4 ≤ maxLen) := by unfold Hid maxLen; omega
 have HL : Hid ((rowCells l).length = n * 2) := h.len
 have HN : Hid _ := hn
 have HI : Hid (Tryz.prog.info? 95 = some i0 ∧ i0.zero = some (.agg #[.int .i64 0, .int .i64 0]) ∧ i0.size = 2) := ⟨hi0, hz0, hz1⟩
 clear h hnn hc hi0 hz0 hz1 hz2 hn
 go_enter Tryz.func38, Tryz.ntmps38
 go_wp2_with (first
  | (at_make; refine wpList_make_at rfl _ _ 22 rfl 95 i0 _ 2 Tryz.underlying22 HI.out.1 HI.out.2.1 HI.out.2.2 .i64 .i64 _ _ (n + 4) (n + 4) rfl rfl (by omega) (by omega) (Nat.le_refl _) HB.out HM.out ?_)
  | (refine wpList_copy_at (by rfl) _ _ 22 22 (by rfl) 95 2 Tryz.underlying22 HS.out w.heap.size (n + 4) (n + 4) (by rfl) _ 95 (block_alloc_new w _) _ n (rowCells l) (by rfl) HX.out (by omega) (by rw [size_madeCells, HL.out]; omega) ?_))
 intro w1 hg hk
 have hsz : ((rowCells l ++ List.drop (rowCells l).length (madeCells (Value.agg #[.int .i64 0, .int .i64 0]).cells ((n + 4) * 2)).toList)).toArray.size = (n + 4) * 2 := by
  simp only [List.size_toArray, List.length_append, List.length_drop, Array.length_toList, size_madeCells, HL.out]
  omega
 have h0 : ∀ j, j < (n + 0) * 2 → ((rowCells l ++ List.drop (rowCells l).length (madeCells (Value.agg #[.int .i64 0, .int .i64 0]).cells ((n + 4) * 2)).toList)).toArray[j]? = (rowCells l ++ pads)[j]? := fun j hj => by
  have := HL.out
  rw [List.getElem?_toArray, List.getElem?_append_left (by omega), List.getElem?_append_left (by omega)]
 have HK1 : Hid (Kept NoBlk w w1) := ((Kept.refl NoBlk w).alloc _).trans hk (fun i x => .inr (by cases x; exact Nat.le_refl _))
 have HG1 : Hid (∃ cs : Array Value, cs.size = (n + 4) * 2 ∧ w1.heap[w.heap.size]? = some (.cells cs 95 (0, 0)) ∧ ∀ j, j < (n + 0) * 2 → cs[j]? = (rowCells l ++ pads)[j]?) := ⟨_, hsz, hg, h0⟩
 clear hg hk hsz h0
 generalize hG : w.heap.size = g at HG1 ⊢
 have HGG : Hid _ := hG
 clear hG
 go_wp2_with fail
 go_loopw [4] (fun i wr => ∃ k : Nat, k ≤ 4 ∧ i = .int .i64 k ∧ Kept NoBlk w wr ∧ ∃ cs : Array Value, cs.size = (n + 4) * 2 ∧ wr.heap[g]? = some (.cells cs 95 (0, 0)) ∧ ∀ j, j < (n + k) * 2 → cs[j]? = (rowCells l ++ pads)[j]?) (fun i _ => 4 - (intOf i).toNat)
 case atStart => exact ⟨0, by omega, rfl, HK1.out, HG1.out⟩
 case round =>
  obtain ⟨k, hk, rfl, hkw, cs, hsz, hg, hpre⟩ := hrel
  by_cases hlt : k < 4
  ·have hp := rowPads_get l k hlt
   rw [HN.out] at hp
   have HS2 : Hid (∀ j, j < (n + k) * 2 + 2 → ((cs.setIfInBounds ((n + k) * 2) (.int .i64 77)).setIfInBounds ((n + k) * 2 + 1) (.int .i64 0))[j]? = (rowCells l ++ pads)[j]?) := set2_pref (by omega) hpre hp.1 hp.2
   obtain ⟨y0, c0⟩ : ∃ y, wr.cell? ⟨g, (n + k) * 2, none⟩ = some y := ⟨cs[(n + k) * 2]'(by omega), by rw [cell_at hg]; exact Array.getElem?_eq_getElem _⟩
   obtain ⟨y1, c1⟩ : ∃ y, wr.cell? ⟨g, (n + k) * 2 + 1, none⟩ = some y := ⟨cs[(n + k) * 2 + 1]'(by omega), by rw [cell_at hg]; exact Array.getElem?_eq_getElem _⟩
   have hf : ∀ o, wr.frozen? ⟨g, o, none⟩ = false := fun o => frozen_at hg o
   have HG2 : Hid (((wr.setCell ⟨g, (n + k) * 2, none⟩ (.int .i64 77)).setCell ⟨g, (n + k) * 2 + 1, none⟩ (.int .i64 0)).heap[g]? = some (.cells ((cs.setIfInBounds ((n + k) * 2) (.int .i64 77)).setIfInBounds ((n + k) * 2 + 1) (.int .i64 0)) 95 (0, 0))) := block_setCell (block_setCell hg _) _
   have HK2 : Hid (Kept NoBlk w ((wr.setCell ⟨g, (n + k) * 2, none⟩ (.int .i64 77)).setCell ⟨g, (n + k) * 2 + 1, none⟩ (.int .i64 0))) := (hkw.setCell (p := ⟨g, _, none⟩) (.inr (Nat.le_of_eq HGG.out)) _).setCell (p := ⟨g, _, none⟩) (.inr (Nat.le_of_eq HGG.out)) _
   have HZ : Hid _ := hsz
   clear hp hpre hg hkw hsz
   go_wp2_with fail
   go_roundw
   case rel => exact ⟨k + 1, by omega, by go_num, HK2.out, _, by simp [HZ.out], HG2.out, fun j hj => HS2.out j (by omega)⟩
   case measure => simp [intOf]; omega
  ·obtain rfl : k = 4 := by omega
   have hcs : cs = (rowCells l ++ pads).toArray := by
    have := HL.out
    apply Array.ext'
    apply List.ext_getElem?
    intro j
    by_cases hj : j < (n + 4) * 2
    ·rw [Array.getElem?_toList, hpre j hj]
    ·rw [List.getElem?_eq_none (by simp; omega), List.getElem?_eq_none (by simp [pads]; omega)]
   subst hcs
   have HG2 : Hid _ := hg
   have HK2 : Hid _ := hkw
   clear hpre hg hkw hsz
   go_wp2_with fail
   go_ret
   rw [HGG.out]
   exact ⟨rfl, HG2.out, HK2.out⟩
end Go.Proofs.YtmcajfefagdbnaaGreat
namespace Go.Proofs.YtmcajfefagdbnaaGreat
open Go Go.RowKit
set_option maxHeartbeats 800000 in
theorem allAllowed_nil (ao : Option Addr) (cap : Nat) (w : World) :
  Calls Tryz.prog 106 #[.slice ao 0 cap] w fun e w' => e = .returned (.bool true) ∧ Kept NoBlk w w' := by
 go_enter Tryz.func106, Tryz.ntmps106
 go_wp2_with fail
 go_loopw [7] (fun i wr => i = .int .i64 0 ∧ wr = w) (fun _ _ => 0)
 case atStart => exact ⟨rfl, rfl⟩
 case round =>
  obtain ⟨rfl, rfl⟩ := hrel
  go_wp2_with fail
  go_ret
  exact ⟨rfl, Kept.refl _ _⟩
theorem OpsSrc.keptB {S : Nat → Prop} {w w' : World} {v : Value} {l : List Op4} (h : OpsSrc w v l) (hk : Kept S w w') (hn : ∀ k, v.ownBlock = some k → ¬ S k) : OpsSrc w' v l := by
 obtain ⟨ao, c, rfl, h⟩ := h
 refine ⟨ao, c, rfl, fun h0 => ?_⟩
 obtain ⟨b, off, rfl, ho⟩ := h h0
 exact ⟨b, off, rfl, ho.kept hk (hn b rfl)⟩
theorem allAllowed_src (v : Value) (l : List Op4) (w : World) (h : OpsSrc w v l) (hl : l.length ≤ 1048576) :
  Calls Tryz.prog 106 #[v] w fun e w' => e = .returned (.bool (l.all Op4.ok)) ∧ Kept NoBlk w w' := by
 obtain ⟨ao, c, rfl, h⟩ := h
 rcases Nat.eq_zero_or_pos l.length with h0 | h0
 ·rw [h0, List.eq_nil_of_length_eq_zero h0]
  exact allAllowed_nil ao c w
 ·obtain ⟨b, off, rfl, ho⟩ := h h0
  exact allAllowed_some b off c l w ho hl
set_option maxHeartbeats 1600000 in
theorem refusal_src (p : Nat) (v : Value) (l : List Op4) (m : Nat) (c : Int) (w : World) (h : OpsSrc w v l) (hl : l.length ≤ 1048576)
  (h2 : w.cell? ⟨p, 2, none⟩ = some (.int .i64 c)) (h5 : w.cell? ⟨p, 5, none⟩ = some (.int .i64 m)) :
  Calls Tryz.prog 73 #[.pointer (some ⟨p, 0, none⟩), v] w fun e w' => e = .returned (.int .i64 (admErr l m c)) ∧ Kept NoBlk w w' := by
 have hal : ∀ W : World, Kept NoBlk w W → Calls Tryz.prog 106 #[v] W fun e w' => e = .returned (.bool (l.all Op4.ok)) ∧ Kept NoBlk W w' := fun W hW => allAllowed_src v l W (h.keptB hW (fun _ _ x => x)) hl
 obtain ⟨ao, cap, rfl, _⟩ := h
 by_cases h1 : 12 < l.length
 ·have he : admErr l m c = 2 := by simp [admErr, h1]
  rw [he]
  clear he hal h2 h5
  go_enter Tryz.func73, Tryz.ntmps73
  go_wp2_with fail
  go_ret
  exact ⟨rfl, Kept.refl _ _⟩
 have HO : Hid (Calls Tryz.prog 106 #[.slice ao l.length cap] w fun e w' => e = .returned (.bool (l.all Op4.ok)) ∧ Kept NoBlk w w') := hal w (Kept.refl _ _)
 clear hal
 go_enter Tryz.func73, Tryz.ntmps73
 go_wp2_with fail
 refine HO.out.mono ?_
 rintro e w' ⟨rfl, hk⟩
 cases ha : l.all Op4.ok
 ·have he : Hid (admErr l m c = 1) := by simp [Hid, admErr, h1, ha]
  clear ha
  go_wp2_with fail
  go_ret
  exact ⟨ret_int he.out.symm, hk⟩
 ·have hm := hk.cell0 h5
  have hc := hk.cell0 h2
  have he : Hid (admErr l m c = if 12 ≤ m then 3 else if 1099511627776 ≤ c then 4 else 0) := by simp [Hid, admErr, h1, ha]
  have HK : Hid _ := hk
  clear ha hk h2 h5
  by_cases h3 : 12 ≤ m
  ·go_wp2_with fail
   go_ret
   exact ⟨ret_int (by rw [he.out, if_pos h3]), HK.out⟩
  ·by_cases h4 : 1099511627776 ≤ c
   ·go_wp2_with fail
    go_ret
    exact ⟨ret_int (by rw [he.out, if_neg h3, if_pos h4]), HK.out⟩
   ·go_wp2_with fail
    go_ret
    exact ⟨ret_int (by rw [he.out, if_neg h3, if_neg (by omega)]), HK.out⟩
set_option maxHeartbeats 800000 in
theorem newTransaction_src (nm : Int) (x : Value) (l : List Op4) (st : Int) (w : World) (hx : OpsSrc w x l) (hl : l.length ≤ 1048576) :
  Calls Tryz.prog 74 #[.int .i64 nm, x, .int .i64 st] w fun e w' => ∃ t g, e = .returned (.pointer (some ⟨t, 0, none⟩)) ∧ w.heap.size ≤ t ∧ w.heap.size ≤ g ∧ t ≠ g ∧
   w'.heap[t]? = some (.cells #[.int .i64 nm, .slice (some ⟨g, 0, none⟩) l.length l.length, .int .i64 st, .int .i64 0, .int .i64 0, .int .i64 0, .bool false, .bool false, .int .i64 0, .int .i64 0, .int .i64 0, .int .i64 0, .slice none 0 0, .slice none 0 0] 146 (0, 0)) ∧
   w'.heap[g]? = some (.cells (opCells l).toArray 114 (0, 0)) ∧ Kept NoBlk w w' := by
 have HX : Hid _ := hx.mem
 clear hx
 go_enter Tryz.func74, Tryz.ntmps74
 go_wp2_with fail
 refine (freshOp x l.length (opCells l) w HX.out hl).mono ?_
 rintro e w1 ⟨rfl, hg, hk⟩
 have HG : Hid _ := hg
 have HK : Hid _ := hk
 clear hg hk
 go_wp2_with fail
 go_ret
 have := lt_of_block HG.out
 exact ⟨w1.heap.size, w.heap.size, rfl, HK.out.size, Nat.le_refl _, by omega, block_alloc_new w1 _, block_alloc_old _ HG.out, HK.out.alloc _⟩
end Go.Proofs.YtmcajfefagdbnaaGreat
namespace Go.Proofs.YtmcajfefagdbnaaGreat
open Go Go.RowKit
def KCutP1 {X : Type} (f : X → Act) (R : X → World → Prop) (a : Act) (w : World) : Prop := ∃ x, a = f x ∧ R x w
theorem kcut1 {P : Program} {c : Code} {K : Act → World → Prop} {Q : Exit → Act → World → Prop} {a : Act} {w : World} {X : Type} (f : X → Act) (R : X → World → Prop) (h1 : c.wp P (Exit.then (KCutP1 f R) Q) a w) (h2 : ∀ x w', R x w' → Exit.then K Q .normal (f x) w') : c.wp P (Exit.then K Q) a w :=
 Code.wp_mono (by intro e a w h; cases e <;> first | exact h | (obtain ⟨x, rfl, h⟩ := h; exact h2 _ _ h)) h1
end Go.Proofs.YtmcajfefagdbnaaGreat
namespace Go.Proofs.YtmcajfefagdbnaaGreat
open Go Go.RowKit
set_option maxRecDepth 100000 in
set_option maxHeartbeats 3200000 in
theorem wnew_any (ao : Option Addr) (c n : Nat) (l : List Row2) (w : World) (hn : l.length = n) (hl : n ≤ 1048576) (h : 0 < n → ∃ b off, ao = some ⟨b, off, none⟩ ∧ RowsAt w b off l) :
  Calls Tryz.prog 40 #[.slice ao n c] w fun e w' => Kept NoBlk w w' ∧ ((¬ Rise l ∧ e = .returned (.tuple #[.pointer none, .int .i64 7])) ∨
   (Rise l ∧ ∃ p rv, e = .returned (.tuple #[.pointer (some ⟨p, 0, none⟩), .int .i64 0]) ∧ w.heap.size ≤ p ∧ (∀ k, rv.ownBlock = some k → w.heap.size ≤ k) ∧ w'.ownsRow 0 95 2 rv n (rowCells l) ∧
    w'.heap[p]? = some (.cells #[rv, .slice none 0 0, .slice none 0 0, .slice none 0 0, .int .i64 0] 47 (0, 0)))) := by
 have Hn : Hid _ := hn
 have HS : Hid (RowsSrc w (.slice ao n c) l) := ⟨ao, c, by rw [hn], by rw [hn]; exact h⟩
 clear hn
 go_enter Tryz.func40, Tryz.ntmps40
 go_wp2_with fail
 go_loopw [4] (fun i wr => ∃ k nq : Nat, (k + 1 ≤ n ∨ k = 0) ∧ i = .int .i64 ((k : Int) + 1) ∧ (∀ i, i + 1 < k + 1 → (l.getD i Row2.z).k < (l.getD (i + 1) Row2.z).k) ∧ wr = w.drewN nq) (fun i _ => n - (intOf i).toNat)
 case atStart => exact ⟨0, 0, .inr rfl, rfl, fun i hi => by omega, rfl⟩
 case round =>
  obtain ⟨k, nq, hk, rfl, hrise, rfl⟩ := hrel
  by_cases hlt : k + 1 < n
  ·obtain ⟨b, off, rfl, hat⟩ := h (by omega)
   have g0 := (hat k (by rw [Hn.out]; omega)).1
   have g1 := (hat (k + 1) (by rw [Hn.out]; omega)).1
   have i1 : (0 : Int) ≤ (k : Int) + 1 := by omega
   have i2 : (k : Int) + 1 < (n : Int) := by omega
   have i3 : (0 : Int) ≤ (k : Int) + 1 - 1 := by omega
   have i4 : (k : Int) + 1 - 1 < (n : Int) := by omega
   have HR : Hid _ := hrise
   have HS : Hid (∀ (hkk : (l.getD k Row2.z).k < (l.getD (k + 1) Row2.z).k), ∀ i, i + 1 < k + 1 + 1 → (l.getD i Row2.z).k < (l.getD (i + 1) Row2.z).k) := fun hkk i hi => by
    by_cases e : i = k
    ·subst e; exact hkk
    ·exact hrise i (by omega)
   have HN : Hid (¬ (l.getD k Row2.z).k < (l.getD (k + 1) Row2.z).k → ¬ Rise l) := fun hkk hr => hkk (hr k (by rw [Hn.out]; omega))
   clear hrise hat h
   generalize (l.getD k Row2.z).k = a at *
   generalize (l.getD (k + 1) Row2.z).k = a' at *
   go_wp2_with fail
   go_quiet (fail)
   by_cases hle : a' ≤ a
   ·go_wp2_with fail
    go_ret2
    exact ⟨((Kept.refl _ _).drewN _).drewN _, .inl ⟨HN.out (by omega), rfl⟩⟩
   ·go_wp2_with fail
    exact ⟨⟨k + 1, _, .inl (by omega), by go_num, HS.out (by omega), rfl⟩, by simp [intOf]; omega⟩
  ·have HR : Hid (Rise l) := fun i hi => hrise i (by rw [Hn.out] at hi; omega)
   have HK0 : Hid (Kept NoBlk w (w.drewN nq)) := (Kept.refl _ _).drewN _
   clear hrise h
   generalize w.drewN nq = W at *
   obtain ⟨i0, hi0, hz0, hz1, hz2⟩ := info_parts infoRow
   have HF : Hid (FromMem (W.alloc (.cells #[.slice none 0 0, .slice none 0 0, .slice none 0 0, .slice none 0 0, .int .i64 0] 47)) 2 (.slice ao n c) n (rowCells l)) := by
    have := ((show RowsSrc w (.slice ao n c) l from HS.out).kept (HK0.out.alloc (.cells #[.slice none 0 0, .slice none 0 0, .slice none 0 0, .slice none 0 0, .int .i64 0] 47)) (fun _ _ x => x)).mem
    rw [Hn.out] at this
    exact this
   have HB1 : Hid ((0 + n) * 16 ≤ 140737488355328) := by unfold Hid; omega
   have HB0 : Hid (0 + n ≤ maxLen) := by unfold Hid maxLen; omega
   go_wp2_with (at_builtin; refine wpList_append_at (by rfl) _ _ 22 (by rfl) 95 i0 _ 2 16 Tryz.underlying22 hi0 hz0 hz1 hz2 (by rfl) (.slice none 0 0) 0 [] (by rfl) (World.ownsRow_nil _ _ _ _) (.slice ao n c) n (rowCells l) (by rfl) HF.out HB0.out HB1.out ?_)
   intro ao1 c1 W4 hown4 hmv4
   have hk4 : Kept NoBlk (W.alloc (.cells #[.slice none 0 0, .slice none 0 0, .slice none 0 0, .slice none 0 0, .int .i64 0] 47)) W4 := by
    rcases hmv4 with ⟨_, _, _, hk⟩ | ⟨_, _, hk⟩
    ·exact hk.mono (fun k x => by simp [Value.ownBlock] at x)
    ·exact hk
   have hsz := (HK0.out.alloc (.cells #[.slice none 0 0, .slice none 0 0, .slice none 0 0, .slice none 0 0, .int .i64 0] 47)).size
   have HN4 : Hid (∀ k, (Value.slice ao1 n c1).ownBlock = some k → W.heap.size + 1 ≤ k) := by
    intro k hk
    rcases hmv4 with ⟨ho, _, _, _⟩ | ⟨_, ho, _⟩
    ·rw [hk] at ho; simp [Value.ownBlock] at ho
    ·rw [hk] at ho; cases ho; simp
   have hb4 := hk4.heap (block_alloc_new W (.cells #[.slice none 0 0, .slice none 0 0, .slice none 0 0, .slice none 0 0, .int .i64 0] 47)) (fun x => x)
   have q0 : W4.cell? ⟨W.heap.size, 0, none⟩ = some (.slice none 0 0) := by rw [cell_at hb4]; rfl
   have qf : W4.frozen? ⟨W.heap.size, 0, none⟩ = false := frozen_at hb4 _
   have HB4 : Hid _ := hb4
   have HW4 : Hid (W4.ownsRow 0 95 2 (.slice ao1 n c1) n (rowCells l)) := hown4
   have HK4 : Hid _ := (HK0.out.alloc (.cells #[.slice none 0 0, .slice none 0 0, .slice none 0 0, .slice none 0 0, .int .i64 0] 47)).trans' hk4
   have HSZ : Hid (w.heap.size ≤ W.heap.size) := HK0.out.size
   clear hk4 hown4 hmv4 hb4 hi0 hz0 hz1 hz2 hsz
   go_wp2_with fail
   go_ret2
   refine ⟨HK4.out.setCell (p := ⟨W.heap.size, 0, none⟩) (.inr HSZ.out) _, .inr ⟨HR.out, W.heap.size, .slice ao1 n c1, rfl, HSZ.out, fun k hk => by have := HN4.out k hk; have := HSZ.out; omega, ownsRow_kept HW4.out (Kept.set1 W4 W.heap.size 0 _) (fun k hk e => by have := HN4.out k hk; unfold Blk at e; omega), block_setCell HB4.out _⟩⟩
end Go.Proofs.YtmcajfefagdbnaaGreat
