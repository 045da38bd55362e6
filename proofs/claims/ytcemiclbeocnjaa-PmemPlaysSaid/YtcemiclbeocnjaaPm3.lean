/-
  Layer 3 (pmem): the code's Store, Fuse, Load, Image.
-/
import Derived.Test.YtcemiclbeocnjaaPm2
set_option linter.unusedVariables false
set_option linter.unusedSimpArgs false
namespace Go.Proofs.Ytcemiclbeocnjaa
open Go.RowKit Go.ChangeShapes Go.WideShapes Go.Deep Go.Maps

def storeD (s : Dv) (x : Int) (v : Nat) : Dv := if hasD s x then (if doneD s then { stepD s with c := putU s.c x v, n := s.n + 1 } else stepD s) else s
def fuseD (s : Dv) (k : Int) : Dv := { s with fuse := max k 0 }
theorem hasD_I64 {s : Dv} (hg : GoodD s) {x : Int} (h : hasD s x = true) : I64 x := by
  have := hg.len
  simp only [hasD, Bool.and_eq_true, decide_eq_true_eq] at h
  constructor <;> omega

set_option maxRecDepth 10000 in
set_option maxHeartbeats 2000000 in
theorem dStore (B : Nat) (F : Nat → Prop) (s : Dv) (x : Int) (v : Nat) (w : World) (h : DvAt w B F s) (hg : GoodD s) :
    Calls Try.prog 48 #[.pointer (some ⟨B, 0, none⟩), .int .i64 x, .int .u64 (v : Nat)] w fun e w' => e = .returned (.tuple #[]) ∧ DvAt w' B F (storeD s x v) ∧ Chg F w w' := by
  have hH := dHas B F s x w h hg
  have hS := dStep B F s w h hg
  unfold storeD
  cases hq : hasD s x with
  | false =>
    rw [hq] at hH
    have hDv := Lib.hid h
    clear hS h
    go_enter Try.func48, Try.ntmps48
    go_wp2_with (go_at_call 60; refine hH.mono ?_; rintro e w1 ⟨rfl, rfl⟩; clear hH)
    go_end0
    exact ⟨rfl, hDv.out, Chg.refl _ _⟩
  | true =>
    have hx := Lib.hid (hasD_I64 hg hq)
    have hn := Lib.hid hg.n
    rw [hq] at hH
    have hse := Lib.hid (stepD_same s)
    cases hd : doneD s with
    | false =>
      rw [hd] at hS
      go_enter Try.func48, Try.ntmps48
      go_wp2_with (first
        | (go_at_call 60; refine hH.mono ?_; rintro e w1 ⟨rfl, rfl⟩; clear hH h)
        | (go_at_call 83; refine hS.mono ?_; rintro e w2 ⟨rfl, h2, hc2⟩; clear hS))
      go_end0
      exact ⟨rfl, h2, hc2⟩
    | true =>
      rw [hd] at hS
      go_enter Try.func48, Try.ntmps48
      go_wp2_with (first
        | (go_at_call 60; refine hH.mono ?_; rintro e w1 ⟨rfl, rfl⟩; clear hH h)
        | (go_at_call 83; refine hS.mono ?_; rintro e w2 ⟨rfl, h2, hc2⟩; clear hS
           obtain ⟨C, M, v0, hR⟩ := h2
           obtain ⟨⟨c0, c1, c2, c3, c4, c5⟩, fz⟩ := hR.cells
           obtain ⟨w3, hrun, hm3, hg3⟩ := hR.cach.put (f := v) hx.out (by rw [hse.out.2.2.2]; have := hn.out; unfold maxLen; omega)
           have hR3 := Lib.hid (hR.cTo hg3 hm3 (by omega))
           have hc3 := Lib.hid (hc2.trans (Chg.of_grown (S := F) hg3 (fun k e => by cases e; exact .inl hR.fC)) (fun j q => .inl q))
           clear hR c0 c2 c3 c4 c5 fz hm3 hg3 hc2))
      go_end0
      have hRR := hR3.out
      rw [hse.out.2.1, hse.out.2.2.2] at hRR
      exact ⟨rfl, ⟨_, _, _, hRR⟩, hc3.out⟩

set_option maxRecDepth 10000 in
set_option maxHeartbeats 1000000 in
theorem dFuse (B : Nat) (F : Nat → Prop) (s : Dv) (k : Int) (w : World) (h : DvAt w B F s) :
    Calls Try.prog 53 #[.pointer (some ⟨B, 0, none⟩), .int .i64 k] w fun e w' => e = .returned (.tuple #[]) ∧ DvAt w' B F (fuseD s k) ∧ Chg F w w' := by
  obtain ⟨C, M, v0, hR⟩ := h
  obtain ⟨⟨c0, c1, c2, c3, c4, c5⟩, fz⟩ := hR.cells
  have f4 := fz 4
  obtain ⟨d, hd⟩ : ∃ d, max k 0 = d := ⟨_, rfl⟩
  have hP := Lib.hid (hR.put (o := 4) (u := .int .i64 d) (s' := { s with fuse := d }) rfl rfl rfl rfl rfl)
  have hF := Lib.hid hR.fB
  clear hR fz c0 c1 c2 c3 c5
  unfold fuseD
  rw [hd]
  obtain ⟨L, c, f, n, dead, fuse, steps⟩ := s
  simp only [] at *
  have hm0 := hd
  have hm1 : (if k < 0 then (0 : Int) else k) = d := by rw [← hd]; split <;> omega
  have hm2 : (if (0 : Int) ≤ k then k else (0 : Int)) = d := by rw [← hd]; split <;> omega
  have hm3 : (if k ≤ 0 then (0 : Int) else k) = d := by rw [← hd]; split <;> omega
  clear hd
  go_enter Try.func53, Try.ntmps53
  go_wp2_with fail
  go_end0
  exact ⟨rfl, ⟨_, _, _, hP.out⟩, Chg.setCell _ _ _ _ hF.out⟩

set_option maxRecDepth 10000 in
set_option maxHeartbeats 2000000 in
theorem dLoad (B : Nat) (F : Nat → Prop) (s : Dv) (x : Int) (w : World) (h : DvAt w B F s) (hg : GoodD s) :
    Calls Try.prog 22 #[.pointer (some ⟨B, 0, none⟩), .int .i64 x] w fun e w' => e = .returned (.int .u64 (loadD s x : Nat)) ∧ w' = w := by
  have hH := dHas B F s x w h hg
  unfold loadD
  cases hq : hasD s x with
  | false =>
    rw [hq] at hH
    clear h
    go_enter Try.func22, Try.ntmps22
    go_wp2_with (go_at_call 60; refine hH.mono ?_; rintro e w1 ⟨rfl, rfl⟩; clear hH)
    go_ret
    exact ⟨rfl, rfl⟩
  | true =>
    rw [hq] at hH
    have hx := hasD_I64 hg hq
    obtain ⟨C, M, v0, hR⟩ := h
    obtain ⟨⟨c0, c1, c2, c3, c4, c5⟩, fz⟩ := hR.cells
    have hlk := hR.cach.look hx
    have hq2 := hq
    simp only [hasD, Bool.and_eq_true, decide_eq_true_eq] at hq2
    obtain ⟨i, rfl⟩ := Int.eq_ofNat_of_zero_le hq2.1
    have hi : i < s.L.length := by omega
    obtain ⟨A, cap, rfl, hA⟩ := hR.last.form
    obtain ⟨g, rfl, _, hglt⟩ := hA (by omega)
    have hcell := (hR.last.cell rfl hi).1
    have hi2 : (i : Int) < (s.L.length : Int) := by omega
    have hlen := hg.len
    clear hq hq2 hR hA fz c2 c3 c4 c5 hg hx hglt
    obtain ⟨L, c, f, n, dead, fuse, steps⟩ := s
    simp only [Int.toNat_natCast] at *
    generalize L.length = N at *
    generalize L.getD i 0 = y at *
    cases hc : c (i : Int) with
    | none =>
      rw [hc] at hlk
      simp only [Option.getD_none, Option.isSome_none] at *
      clear hc
      go_enter Try.func22, Try.ntmps22
      go_wp2_with (go_at_call 60; refine hH.mono ?_; rintro e w1 ⟨rfl, rfl⟩; clear hH)
      go_ret
      exact ⟨rfl, rfl⟩
    | some z =>
      rw [hc] at hlk
      simp only [Option.getD_some, Option.isSome_some] at *
      clear hc
      go_enter Try.func22, Try.ntmps22
      go_wp2_with (go_at_call 60; refine hH.mono ?_; rintro e w1 ⟨rfl, rfl⟩; clear hH)
      go_ret
      exact ⟨rfl, rfl⟩

set_option maxRecDepth 10000 in
set_option maxHeartbeats 1000000 in
theorem dImage (B : Nat) (F : Nat → Prop) (s : Dv) (w : World) (h : DvAt w B F s) (hl : s.L.length ≤ 1000) :
    Calls Try.prog 25 #[.pointer (some ⟨B, 0, none⟩)] w fun e w' => ∃ v, e = .returned v ∧ OwnU w' w.heap.size v s.L ∧ Below w.heap.size w w' := by
  obtain ⟨C, M, v0, hR⟩ := h
  obtain ⟨⟨c0, c1, c2, c3, c4, c5⟩, fz⟩ := hR.cells
  have hC := clone_any v0 s.L w (by omega) hR.last.kl
  obtain ⟨A, cap, rfl, _⟩ := hR.last.form
  clear hR fz c1 c2 c3 c4 c5
  obtain ⟨L, c, f, n, dead, fuse, steps⟩ := s
  simp only [] at *
  generalize hN : L.length = N at *
  go_enter Try.func25, Try.ntmps25
  go_wp2_with (go_at_call 61; refine hC.mono ?_; rintro e w1 ⟨v', rfl, ho, hb⟩; obtain ⟨A2, cap2, rfl, _⟩ := ho.form; clear hC)
  go_ret
  subst hN
  exact ⟨_, rfl, ho, hb⟩
end Go.Proofs.Ytcemiclbeocnjaa
