/-
  Layer 3 (pmem): the code's Evict, Flush.
-/
import Derived.Test.YtcemiclbeocnjaaPm3
set_option linter.unusedVariables false
set_option linter.unusedSimpArgs false
namespace Go.Proofs.Ytcemiclbeocnjaa
open Go.RowKit Go.ChangeShapes Go.WideShapes Go.Deep Go.Maps

def evictD (s : Dv) (x : Int) : Dv :=
  if hasD s x then (if doneD s then (match s.c x with | some v => { stepD s with L := s.L.set x.toNat v, c := delU s.c x, f := delU s.f x } | none => stepD s) else stepD s) else s
theorem DvR.mono {F : Nat → Prop} {w : World} {B C M n : Nat} {v0 : Value} {s : Dv} (h : DvR w B C M v0 F s) (hn : s.n ≤ n) : DvR w B C M v0 F { s with n := n } :=
  ⟨h.blk, h.last, h.cach.mono hn, h.flus.mono hn, h.ne, h.fB, h.fC, h.fM, h.f0, h.lt⟩

set_option maxRecDepth 10000 in
set_option maxHeartbeats 2000000 in
theorem dEvict (B : Nat) (F : Nat → Prop) (s : Dv) (x : Int) (w : World) (h : DvAt w B F s) (hg : GoodD s) :
    Calls Try.prog 52 #[.pointer (some ⟨B, 0, none⟩), .int .i64 x] w fun e w' => e = .returned (.tuple #[]) ∧ DvAt w' B F (evictD s x) ∧ Chg F w w' := by
  have hH := dHas B F s x w h hg
  have hS := dStep B F s w h hg
  have hDv := Lib.hid h
  unfold evictD
  cases hq : hasD s x with
  | false =>
    rw [hq] at hH
    clear hS h
    go_enter Try.func52, Try.ntmps52
    go_wp2_with (go_at_call 60; refine hH.mono ?_; rintro e w1 ⟨rfl, rfl⟩; clear hH)
    refine bodyPost_ret (results_none rfl _ _ _) rfl ?_
    exact ⟨rfl, hDv.out, Chg.refl _ _⟩
  | true =>
    rw [hq] at hH
    rw [if_pos rfl]
    have hx := Lib.hid (hasD_I64 hg hq)
    have hse := Lib.hid (stepD_same s)
    cases hd : doneD s with
    | false =>
      rw [hd] at hS
      rw [if_neg (by simp)]
      clear h
      go_enter Try.func52, Try.ntmps52
      go_wp2_with (first
        | (go_at_call 60; refine hH.mono ?_; rintro e w1 ⟨rfl, rfl⟩; clear hH)
        | (go_at_call 83; refine hS.mono ?_; rintro e w2 ⟨rfl, h2, hc2⟩; clear hS))
      refine bodyPost_ret (results_none rfl _ _ _) rfl ?_
      exact ⟨rfl, h2, hc2⟩
    | true =>
      rw [hd] at hS
      rw [if_pos rfl]
      clear h
      have hlen := Lib.hid hg.len
      simp only [hasD, Bool.and_eq_true, decide_eq_true_eq] at hq
      obtain ⟨i, rfl⟩ := Int.eq_ofNat_of_zero_le hq.1
      have hi : i < s.L.length := by omega
      have hi2 : (i : Int) < (s.L.length : Int) := by omega
      clear hq hg
      cases hcx : s.c (i : Int) with
      | none =>
        go_enter Try.func52, Try.ntmps52
        go_wp2_with (first
          | (go_at_call 60; refine hH.mono ?_; rintro e w1 ⟨rfl, rfl⟩; clear hH)
          | (go_at_call 83; refine hS.mono ?_; rintro e w2 ⟨rfl, h2, hc2⟩; clear hS
             obtain ⟨C, M, v0, hR⟩ := h2
             obtain ⟨⟨c0, c1, c2, c3, c4, c5⟩, fz⟩ := hR.cells
             have hlk := hR.cach.look hx.out
             rw [hse.out.2.1, hcx] at hlk
             simp only [Option.getD_none, Option.isSome_none] at hlk
             replace hR := Lib.hid hR
             clear c0 c2 c3 c4 c5 fz))
        go_end0
        exact ⟨rfl, ⟨_, _, _, hR.out⟩, hc2⟩
      | some z =>
        go_enter Try.func52, Try.ntmps52
        go_wp2_with (first
          | (go_at_call 60; refine hH.mono ?_; rintro e w1 ⟨rfl, rfl⟩; clear hH)
          | (go_at_call 83; refine hS.mono ?_; rintro e w2 ⟨rfl, h2, hc2⟩; clear hS
             obtain ⟨C, M, v0, hR⟩ := h2
             have hi3 : i < (stepD s).L.length := by rw [hse.out.1]; exact hi
             have hi4 : (i : Int) < ((stepD s).L.length : Int) := by omega
             obtain ⟨⟨c0, c1, c2, c3, c4, c5⟩, fz⟩ := hR.cells
             have hlk := hR.cach.look hx.out
             rw [hse.out.2.1, hcx] at hlk
             simp only [Option.getD_some, Option.isSome_some] at hlk
             obtain ⟨A, cap, rfl, hA⟩ := hR.last.form
             obtain ⟨g, rfl, _, hgl⟩ := hA (by omega)
             have hgF := hR.f0 g rfl
             obtain ⟨e0, f0⟩ := hR.last.cell rfl hi3
             have hR3 := hR.lTo (x := z) rfl hi3
             obtain ⟨⟨d0, d1, d2, _, _, _⟩, _⟩ := hR3.cells
             obtain ⟨w4, hdel, hm4, hg4⟩ := hR3.cach.drop hx.out 0
             have hR4 := hR3.cTo hg4 hm4 (Nat.le_refl _)
             obtain ⟨⟨g0, g1, g2, _, _, _⟩, _⟩ := hR4.cells
             obtain ⟨w5, hdel2, hm5, hg5⟩ := hR4.flus.drop hx.out 0
             have hR5 := Lib.hid (hR4.fTo hg5 hm5 (Nat.le_refl _))
             have hc5 := Lib.hid (((hc2.trans (Chg.setCell w2 g i (.int .u64 (z : Nat)) hgF) (fun j q => .inl q)).trans (Chg.of_grown (S := F) hg4 (fun k e => by cases e; exact .inl hR.fC)) (fun j q => .inl q)).trans (Chg.of_grown (S := F) hg5 (fun k e => by cases e; exact .inl hR.fM)) (fun j q => .inl q))
             clear hR hR3 hR4 hm4 hg4 hm5 hg5 fz hA c2 c3 c4 c5 d0 g0 g1 hc2))
        go_end0
        have hRR := hR5.out
        rw [hse.out.1, hse.out.2.1, hse.out.2.2.1] at hRR
        exact ⟨rfl, ⟨_, _, _, hRR⟩, hc5.out⟩

/-- the words from lo to i, flushed -/
def fl (s : Dv) (lo i : Int) : Gu := fun x => if lo ≤ x ∧ x < i then (match s.c x with | some v => some v | none => s.f x) else s.f x
theorem fl_none {s : Dv} {lo i : Int} (h : s.c i = none) : fl s lo (i + 1) = fl s lo i := by
  funext x
  unfold fl
  by_cases e : x = i
  · subst e
    rw [h, if_neg (show ¬ (lo ≤ x ∧ x < x) by omega)]
    split <;> rfl
  · have : (lo ≤ x ∧ x < i + 1) ↔ (lo ≤ x ∧ x < i) := by omega
    simp only [this]
theorem fl_some {s : Dv} {lo i : Int} {v : Nat} (hl : lo ≤ i) (h : s.c i = some v) : fl s lo (i + 1) = putU (fl s lo i) i v := by
  funext x
  unfold fl putU
  by_cases e : x = i
  · subst e
    rw [h, if_pos (by omega), if_pos rfl]
  · have : (lo ≤ x ∧ x < i + 1) ↔ (lo ≤ x ∧ x < i) := by omega
    simp only [this, if_neg e]
theorem fl_far {s : Dv} {lo i : Int} (h : i ≤ lo) : fl s lo i = s.f := by
  funext x
  unfold fl
  rw [if_neg (by omega)]
def flushD (s : Dv) (x many : Int) : Dv := if doneD s then { stepD s with f := fl s (max x 0) (min (x + many) s.L.length), n := s.n + s.L.length } else stepD s

set_option maxRecDepth 10000 in
set_option maxHeartbeats 2000000 in
theorem dFlush (B : Nat) (F : Nat → Prop) (s : Dv) (x many : Int) (w : World) (h : DvAt w B F s) (hg : GoodD s) (hx : -1099511627776 ≤ x ∧ x ≤ 1099511627776) (hm : -1099511627776 ≤ many ∧ many ≤ 1099511627776) :
    Calls Try.prog 49 #[.pointer (some ⟨B, 0, none⟩), .int .i64 x, .int .i64 many] w fun e w' => e = .returned (.tuple #[]) ∧ DvAt w' B F (flushD s x many) ∧ Chg F w w' := by
  have hS := dStep B F s w h hg
  have hse := Lib.hid (stepD_same s)
  unfold flushD
  cases hd : doneD s with
  | false =>
    rw [hd] at hS
    rw [if_neg (by simp)]
    clear h
    go_enter Try.func49, Try.ntmps49
    go_wp2_with (go_at_call 83; refine hS.mono ?_; rintro e w2 ⟨rfl, h2, hc2⟩; clear hS)
    refine bodyPost_ret (results_none rfl _ _ _) rfl ?_
    exact ⟨rfl, h2, hc2⟩
  | true =>
    rw [hd] at hS
    rw [if_pos rfl]
    clear h
    have hlen := hg.len
    have hsn := Lib.hid hg.n
    obtain ⟨lo, hlo⟩ : ∃ lo, max x 0 = lo := ⟨_, rfl⟩
    have hlo0 : 0 ≤ lo := by omega
    have hlox : x ≤ lo := by omega
    have hlob : lo ≤ 1099511627776 := by omega
    obtain ⟨N, hN⟩ : ∃ N, s.L.length = N := ⟨_, rfl⟩
    obtain ⟨hi, hhi⟩ : ∃ hi, min (x + many) (N : Int) = hi := ⟨_, rfl⟩
    have hhiN : hi ≤ N := by omega
    rw [hlo, hN, hhi]
    rw [hN] at hlen
    have hm1 : (if x < 0 then (0 : Int) else x) = lo := by rw [← hlo]; split <;> omega
    have hm2 : (if (0 : Int) ≤ x then x else (0 : Int)) = lo := by rw [← hlo]; split <;> omega
    have hm3 : (if x ≤ 0 then (0 : Int) else x) = lo := by rw [← hlo]; split <;> omega
    have hn1 : (if (N : Int) < x + many then (N : Int) else x + many) = hi := by rw [← hhi]; split <;> omega
    have hn2 : (if x + many < (N : Int) then x + many else (N : Int)) = hi := by rw [← hhi]; split <;> omega
    have hn3 : (if x + many ≤ (N : Int) then x + many else (N : Int)) = hi := by rw [← hhi]; split <;> omega
    clear hg
    go_enter Try.func49, Try.ntmps49
    go_wp2_with (go_at_call 83; refine hS.mono ?_; rintro e w2 ⟨rfl, h2, hc2⟩; clear hS)
    have hRel : ∃ C M v0, DvR w2 B C M v0 F { stepD s with f := fl s lo lo, n := s.n + (lo - lo).toNat } := by
      obtain ⟨C, M, v0, hR⟩ := h2
      refine ⟨C, M, v0, ?_⟩
      rw [fl_far (Int.le_refl lo), ← hse.out.2.2.1, ← hse.out.2.2.2, Int.sub_self]
      exact hR
    obtain ⟨C, M, v0, hR⟩ := hRel
    replace hR := Lib.hid hR
    replace hc2 := Lib.hid hc2
    clear h2
    go_loopw [6] (fun i wr => ∃ p : Int, lo ≤ p ∧ (p = lo ∨ p ≤ hi) ∧ i = .int .i64 p ∧ Hid (DvR wr B C M v0 F { stepD s with f := fl s lo p, n := s.n + (p - lo).toNat }) ∧ Hid (Chg F w wr)) (fun i _ => (N + 1 - (intOf i)).toNat)
    case atStart => exact ⟨lo, Int.le_refl _, .inl rfl, rfl, hR, hc2⟩
    case round =>
      clear hR hc2
      obtain ⟨p, hp1, hp2, rfl, hRh, hc⟩ := hrel
      have hR := hRh.out
      obtain ⟨⟨c0, c1, c2, c3, c4, c5⟩, fz⟩ := hR.cells
      obtain ⟨A, cap, rfl, _⟩ := hR.last.form
      simp only [hse.out.1, hN] at c0
      by_cases hlt : p < hi
      · have hx64 : I64 p := by constructor <;> omega
        have hlk := hR.cach.look hx64
        simp only [hse.out.2.1] at hlk
        cases hcx : s.c p with
        | none =>
          rw [hcx] at hlk
          simp only [Option.getD_none, Option.isSome_none] at hlk
          have hfl := Lib.hid (fl_none (lo := lo) hcx)
          clear hR c2 c3 c4 c5 fz
          go_wp2_with fail
          go_roundw
          case rel => exact ⟨p + 1, by omega, by omega, by go_num, by rw [hfl.out]; exact Lib.hid (hRh.out.mono (n := s.n + (p + 1 - lo).toNat) (by simp only []; omega)), hc⟩
          case measure => simp [intOf]; omega
        | some v =>
          rw [hcx] at hlk
          simp only [Option.getD_some, Option.isSome_some] at hlk
          have hfl := Lib.hid (fl_some (lo := lo) hp1 hcx)
          obtain ⟨w3, hrun, hm3, hg3⟩ := hR.flus.put (f := v) hx64 (by simp only []; have := hsn.out; unfold maxLen; omega)
          have hFM := hR.fM
          have hR3 := Lib.hid (hR.fTo hg3 hm3 (Nat.le_succ _))
          have hc3 := Lib.hid (hc.out.trans (Chg.of_grown (S := F) hg3 (fun k e => by cases e; exact .inl hFM)) (fun j q => .inl q))
          clear hR c3 c4 c5 fz hm3 hg3
          go_wp2_with fail
          go_roundw
          case rel =>
            refine ⟨p + 1, by omega, by omega, by go_num, ?_, hc3⟩
            rw [hfl.out]
            exact Lib.hid (hR3.out.mono (n := s.n + (p + 1 - lo).toNat) (by simp only []; omega))
          case measure => simp [intOf]; omega
      · have hge : hi ≤ p := by omega
        have hfin : fl s lo p = fl s lo hi := by
          rcases hp2 with e | e
          · rw [fl_far (by omega), fl_far (by omega)]
          · rw [show p = hi by omega]
        have hRf := Lib.hid (hR.mono (n := s.n + N) (by simp only []; omega))
        rw [hfin] at hRf
        clear hR c1 c2 c3 c4 c5 fz hfin
        go_wp2_with fail
        go_end0
        exact ⟨rfl, ⟨_, _, _, hRf.out⟩, hc.out⟩
end Go.Proofs.Ytcemiclbeocnjaa
