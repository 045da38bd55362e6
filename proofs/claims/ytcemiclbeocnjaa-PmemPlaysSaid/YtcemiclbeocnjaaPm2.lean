/-
  Layer 3 (pmem): the code's has, Words, Dead, Steps, step, Load, Store, Fuse, Image.
-/
import Derived.Test.YtcemiclbeocnjaaPm1
set_option linter.unusedVariables false
set_option linter.unusedSimpArgs false
namespace Go.Proofs.Ytcemiclbeocnjaa
open Go.RowKit Go.ChangeShapes Go.WideShapes Go.Deep Go.Maps

/-- what may be done with a device -/
structure GoodD (s : Dv) : Prop where
  len : s.L.length ≤ 1000
  len0 : 1 ≤ s.L.length
  cin : ∀ x a, s.c x = some a → 0 ≤ x ∧ x < s.L.length
  fin : ∀ x a, s.f x = some a → ∃ b, s.c x = some b
  n : s.n ≤ 100000
  st0 : 0 ≤ s.steps
  st : s.steps ≤ 100000
  fu0 : 0 ≤ s.fuse
  fu : s.fuse ≤ 1099511627776
def hasD (s : Dv) (x : Int) : Bool := decide (0 ≤ x) && decide (x < s.L.length)
def loadD (s : Dv) (x : Int) : Nat := if hasD s x then (s.c x).getD (s.L.getD x.toNat 0) else 0
def doneD (s : Dv) : Bool := !s.dead && !decide (s.fuse = 1)
def stepD (s : Dv) : Dv := if s.dead then s else if s.fuse = 1 then { s with fuse := 0, dead := true } else { s with fuse := max (s.fuse - 1) 0, steps := s.steps + 1 }
theorem stepD_same (s : Dv) : (stepD s).L = s.L ∧ (stepD s).c = s.c ∧ (stepD s).f = s.f ∧ (stepD s).n = s.n := by
  unfold stepD
  split
  · exact ⟨rfl, rfl, rfl, rfl⟩
  · split <;> exact ⟨rfl, rfl, rfl, rfl⟩

set_option maxHeartbeats 1000000 in
theorem dHas (B : Nat) (F : Nat → Prop) (s : Dv) (x : Int) (w : World) (h : DvAt w B F s) (hg : GoodD s) :
    Calls Try.prog 60 #[.pointer (some ⟨B, 0, none⟩), .int .i64 x] w fun e w' => e = .returned (.bool (hasD s x)) ∧ w' = w := by
  obtain ⟨C, M, v0, hR⟩ := h
  obtain ⟨⟨c0, c1, c2, c3, c4, c5⟩, fz⟩ := hR.cells
  obtain ⟨A, cap, rfl, _⟩ := hR.last.form
  have hlen := hg.len
  clear hR fz c1 c2 c3 c4 c5 hg
  obtain ⟨L, c, f, n, dead, fuse, steps⟩ := s
  simp only [hasD] at *
  generalize L.length = N at *
  by_cases k1 : 0 ≤ x
  · have e1 := decide_eq_true k1
    by_cases k2 : x < (N : Int)
    · have e2 := decide_eq_true k2
      rw [e1, e2]
      clear e1 e2
      go_enter Try.func60, Try.ntmps60
      go_wp2_with fail
      go_ret
      exact ⟨rfl, rfl⟩
    · have e2 := decide_eq_false k2
      rw [e1, e2]
      replace k2 : (N : Int) ≤ x := by omega
      clear e1 e2
      go_enter Try.func60, Try.ntmps60
      go_wp2_with fail
      go_ret
      exact ⟨ret_b (by simp; omega), rfl⟩
  · have e1 := decide_eq_false k1
    rw [e1]
    replace k1 : x < 0 := by omega
    clear e1
    go_enter Try.func60, Try.ntmps60
    go_wp2_with fail
    go_ret
    exact ⟨rfl, rfl⟩

set_option maxHeartbeats 1000000 in
theorem dWords (B : Nat) (F : Nat → Prop) (s : Dv) (w : World) (h : DvAt w B F s) :
    Calls Try.prog 27 #[.pointer (some ⟨B, 0, none⟩)] w fun e w' => e = .returned (.int .i64 s.L.length) ∧ w' = w := by
  obtain ⟨C, M, v0, hR⟩ := h
  obtain ⟨⟨c0, c1, c2, c3, c4, c5⟩, fz⟩ := hR.cells
  obtain ⟨A, cap, rfl, _⟩ := hR.last.form
  clear hR fz c1 c2 c3 c4 c5
  obtain ⟨L, c, f, n, dead, fuse, steps⟩ := s
  simp only [] at *
  generalize L.length = N at *
  go_enter Try.func27, Try.ntmps27
  go_wp2_with fail
  go_ret
  exact ⟨rfl, rfl⟩

set_option maxHeartbeats 1000000 in
theorem dDead (B : Nat) (F : Nat → Prop) (s : Dv) (w : World) (h : DvAt w B F s) :
    Calls Try.prog 17 #[.pointer (some ⟨B, 0, none⟩)] w fun e w' => e = .returned (.bool s.dead) ∧ w' = w := by
  obtain ⟨C, M, v0, hR⟩ := h
  obtain ⟨⟨c0, c1, c2, c3, c4, c5⟩, fz⟩ := hR.cells
  clear hR fz c0 c1 c2 c4 c5
  obtain ⟨L, c, f, n, dead, fuse, steps⟩ := s
  simp only [] at *
  go_enter Try.func17, Try.ntmps17
  go_wp2_with fail
  go_ret
  exact ⟨rfl, rfl⟩

set_option maxHeartbeats 1000000 in
theorem dSteps (B : Nat) (F : Nat → Prop) (s : Dv) (w : World) (h : DvAt w B F s) :
    Calls Try.prog 18 #[.pointer (some ⟨B, 0, none⟩)] w fun e w' => e = .returned (.int .i64 s.steps) ∧ w' = w := by
  obtain ⟨C, M, v0, hR⟩ := h
  obtain ⟨⟨c0, c1, c2, c3, c4, c5⟩, fz⟩ := hR.cells
  clear hR fz c0 c1 c2 c3 c4
  obtain ⟨L, c, f, n, dead, fuse, steps⟩ := s
  simp only [] at *
  go_enter Try.func18, Try.ntmps18
  go_wp2_with fail
  go_ret
  exact ⟨rfl, rfl⟩

set_option maxHeartbeats 2000000 in
theorem dStep (B : Nat) (F : Nat → Prop) (s : Dv) (w : World) (h : DvAt w B F s) (hg : GoodD s) :
    Calls Try.prog 83 #[.pointer (some ⟨B, 0, none⟩)] w fun e w' => e = .returned (.bool (doneD s)) ∧ DvAt w' B F (stepD s) ∧ Chg F w w' := by
  obtain ⟨C, M, v0, hR⟩ := h
  obtain ⟨⟨c0, c1, c2, c3, c4, c5⟩, fz⟩ := hR.cells
  have f3 := fz 3
  have f4 := fz 4
  have f5 := fz 5
  have hF := Lib.hid hR.fB
  have hst := hg.st
  have hst0 := hg.st0
  have hfu := hg.fu
  have hfu0 := hg.fu0
  have hcs : Hid (∀ (w' : World) (o : Nat) (v : Value), Chg F w w' → Chg F w (w'.setCell ⟨B, o, none⟩ v)) := fun w' o v hc => hc.trans (Chg.setCell w' B o v hF.out) (fun j q => .inl q)
  have hch := Lib.hid (Chg.refl F w)
  clear fz c0 c1 c2 hg
  obtain ⟨L, c, f, n, dead, fuse, steps⟩ := s
  simp only [doneD, stepD] at *
  cases dead with
  | true =>
    replace hR := Lib.hid hR
    go_enter Try.func83, Try.ntmps83
    go_wp2_with fail
    go_ret
    exact ⟨rfl, ⟨_, _, _, hR.out⟩, hch.out⟩
  | false =>
    by_cases k1 : fuse = 1
    · subst k1
      have hP := Lib.hid ((hR.put (o := 4) (u := .int .i64 0) (s' := ⟨L, c, f, n, false, 0, steps⟩) rfl rfl rfl rfl rfl).put (o := 3) (u := .bool true) (s' := ⟨L, c, f, n, true, 0, steps⟩) rfl rfl rfl rfl rfl)
      clear hR
      go_enter Try.func83, Try.ntmps83
      go_wp2_with fail
      go_ret
      exact ⟨rfl, ⟨_, _, _, hP.out⟩, hcs _ _ _ (hcs _ _ _ hch.out)⟩
    · simp only [if_neg k1, decide_eq_false k1]
      by_cases k2 : 0 < fuse
      · obtain ⟨d, hd⟩ : ∃ d, fuse - 1 = d := ⟨_, rfl⟩
        have k3 : ¬ d = 0 := by omega
        have hP := Lib.hid (((hR.put (o := 4) (u := .int .i64 d) (s' := ⟨L, c, f, n, false, d, steps⟩) rfl rfl rfl rfl rfl).put (o := 3) (u := .bool false) (s' := ⟨L, c, f, n, false, d, steps⟩) rfl rfl rfl rfl rfl).put (o := 5) (u := .int .i64 (steps + 1)) (s' := ⟨L, c, f, n, false, d, steps + 1⟩) rfl rfl rfl rfl rfl)
        have hm : max d 0 = d := by omega
        rw [hd, hm]
        replace hm := Lib.hid hm
        clear hR k1
        go_enter Try.func83, Try.ntmps83
        go_wp2_with fail
        go_ret
        exact ⟨rfl, ⟨_, _, _, hP.out⟩, hcs _ _ _ (hcs _ _ _ (hcs _ _ _ hch.out))⟩
      · obtain rfl : fuse = 0 := by omega
        have hP := Lib.hid (hR.put (o := 5) (u := .int .i64 (steps + 1)) (s' := ⟨L, c, f, n, false, 0, steps + 1⟩) rfl rfl rfl rfl rfl)
        have hm : max ((0 : Int) - 1) 0 = 0 := by omega
        rw [hm]
        clear hR k1
        go_enter Try.func83, Try.ntmps83
        go_wp2_with fail
        go_ret
        exact ⟨rfl, ⟨_, _, _, hP.out⟩, hcs _ _ _ hch.out⟩
end Go.Proofs.Ytcemiclbeocnjaa
