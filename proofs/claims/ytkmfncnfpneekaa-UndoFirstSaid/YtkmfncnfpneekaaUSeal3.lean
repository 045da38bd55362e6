/-
  What the calls of package seal, and the document's, answer: More, Of.
-/
import Derived.Test.YtkmfncnfpneekaaUSeal2
import Derived.Laws.EntriesVeiled
set_option linter.unusedVariables false
namespace Go.Proofs.Ytkmfncnfpneekaa
open Go.RowKit

/-- v is a list of words in memory -/
def SL (w : World) (v : Value) (l : List Nat) : Prop :=
  (l = [] ∧ ∃ sp cap, v = .slice sp 0 cap) ∨ ∃ g off cap, v = .slice (some ⟨g, off, none⟩) l.length cap ∧ g < w.heap.size ∧ l.length ≤ cap ∧ ∀ i, i < l.length → w.cell? ⟨g, off + i, none⟩ = some (.int .u64 (l.getD i 0 : Nat))
theorem SL.keep {w w1 : World} {v : Value} {l : List Nat} (h : SL w v l) (hb : Below w.heap.size w w1) : SL w1 v l := by
  rcases h with h | ⟨g, off, cap, hv, hg, hcap, hc⟩
  · exact .inl h
  · exact .inr ⟨g, off, cap, hv, Nat.lt_of_lt_of_le hg hb.size, hcap, fun i hi => by rw [(bcell hb).1 _ _ hg]; exact hc i hi⟩
/-- words -/
def WL (l : List Nat) : Prop := ∀ x ∈ l, x < 18446744073709551616
theorem WL.at {l : List Nat} (h : WL l) (i : Nat) (hi : i < l.length) : l.getD i 0 < 18446744073709551616 := by
  rw [List.getD_eq_getElem?_getD, List.getElem?_eq_getElem hi]
  exact h _ (List.getElem_mem hi)

theorem WL0 : WL [] := fun x h => by simp at h
def foldT (r : Nat) (l : List Nat) : Nat := l.foldl (fun r x => turnN 64 r x) r
theorem foldT_lt (l : List Nat) : ∀ r, r < 4294967296 → foldT r l < 4294967296 := by
  induction l with
  | nil => intro r h; exact h
  | cons x l ih => intro r h; exact ih _ (turnN_lt 64 r x h)
theorem foldT_step (r : Nat) (l : List Nat) (j : Nat) (h : j < l.length) : foldT r (l.take (j + 1)) = turnN 64 (foldT r (l.take j)) (l.getD j 0) := by
  unfold foldT
  rw [List.take_succ_eq_append_getElem h, List.foldl_append, List.getD_eq_getElem?_getD, List.getElem?_eq_getElem h]
  rfl
def moreN (s : Nat) (l : List Nat) : Nat := 4294967295 - foldT (4294967295 - s) l
theorem moreN_lt (s : Nat) (l : List Nat) : moreN s l < 4294967296 := by unfold moreN; omega

theorem cellB {w w1 : World} {g o : Nat} {v : Value} (h : w.cell? ⟨g, o, none⟩ = some v) (hb : Below w.heap.size w w1) (hg : g < w.heap.size) : w1.cell? ⟨g, o, none⟩ = some v := by
  rw [(bcell hb).1 _ _ hg]; exact h
set_option maxHeartbeats 2000000 in
theorem refMore_any (s : Nat) (v : Value) (l : List Nat) (w : World) (hs : s < 4294967296) (hl : WL l) (hlen : l.length ≤ 1000) (hv : SL w v l) :
    Calls Try.prog 34 #[.int .u32 s, v] w fun e w' => e = .returned (.int .u32 (moreN s l : Nat)) ∧ Below w.heap.size w w' := by
  have hout := Lib.hid (show (moreN s l : Nat) = 4294967295 - foldT (4294967295 - s) l from rfl)
  rcases hv with ⟨rfl, sp, cap, rfl⟩ | ⟨g, off, cap, rfl, hg, hcap, hc⟩
  · go_enter Try.func34, Try.ntmps34
    go_wp2_with fail
    go_loopw [5, 6] (fun a k wr => k = .int .i64 0 ∧ a = .int .u32 (4294967295 - s : Nat) ∧ Below w.heap.size w wr) (fun _ _ _ => 0)
    case atStart => exact ⟨rfl, by go_num, Below.refl _ _⟩
    case round =>
      obtain ⟨rfl, rfl, hB⟩ := hrel
      go_wp2_with fail
      go_ret
      exact ⟨by rw [hout.out, show foldT (4294967295 - s) [] = 4294967295 - s from rfl]; go_num, hB⟩
  · have hC := Lib.hid hc
    clear hc
    go_enter Try.func34, Try.ntmps34
    go_wp2_with fail
    go_loopw [5, 6] (fun a k wr => ∃ i r1 : Nat, i ≤ l.length ∧ k = .int .i64 i ∧ a = .int .u32 r1 ∧ r1 < 4294967296 ∧ Hid (r1 = foldT (4294967295 - s) (l.take i)) ∧ Below w.heap.size w wr) (fun _ k _ => l.length + 1 - (intOf k).toNat)
    case atStart => exact ⟨0, 4294967295 - s, by omega, rfl, by go_num, by omega, rfl, Below.refl _ _⟩
    case round =>
      obtain ⟨i, r1, hi, rfl, rfl, hr1, hT, hB⟩ := hrel
      by_cases hlt : i < l.length
      · have hlt' : (i : Int) < (l.length : Int) := by omega
        have hx := hl.at i hlt
        have hstep := Lib.hid (foldT_step (4294967295 - s) l i hlt)
        have hc : wr.cell? ⟨g, off + i, none⟩ = some (.int .u64 (l.getD i 0 : Nat)) := by rw [(bcell hB).1 _ _ hg]; exact hC.out i hlt
        have hO := Lib.hid (fun w => refOn_any r1 (l.getD i 0) w hr1 hx)
        generalize hy : l.getD i 0 = y at *
        go_wp2_with fail
        refine (hO.out _).mono ?_
        rintro e w2 ⟨rfl, hb2⟩
        go_wp2_with fail
        go_roundw
        case rel => exact ⟨i + 1, turnN 64 r1 y, by omega, by go_num, rfl, turnN_lt 64 r1 y hr1, by rw [hstep.out, ← hT.out]; rfl, hB.trans (hb2.mono hB.size)⟩
        case measure => simp [intOf]; omega
      · obtain rfl : i = l.length := by omega
        have hT' : r1 = foldT (4294967295 - s) l := by rw [hT.out, List.take_of_length_le (Nat.le_refl _)]
        replace hT' := Lib.hid hT'
        clear hT
        go_wp2_with fail
        go_ret
        exact ⟨by rw [hout.out, ← hT'.out]; go_num, hB⟩

theorem not32 (s : Nat) (hs : s < 4294967296) : bits .xor .u32 IntKind.u32.max (s : Int) = ((4294967295 - s : Nat) : Int) := by
  rw [show IntKind.u32.max = ((4294967295 : Nat) : Int) by decide +kernel, u32_xor_nat _ _ (by omega) hs]
  congr 1
  apply Nat.eq_of_testBit_eq
  intro i
  rw [Nat.testBit_xor, show 4294967295 - s = 2 ^ 32 - (s + 1) by omega, Nat.testBit_two_pow_sub_succ (by omega), show (4294967295 : Nat) = 2 ^ 32 - 1 by decide, Nat.testBit_two_pow_sub_one]
  by_cases h : i < 32
  · simp [h]
  · have := Nat.testBit_lt_two_pow (Nat.lt_of_lt_of_le hs (show 4294967296 ≤ 2 ^ i from Nat.pow_le_pow_right (n := 2) (by omega) (show 32 ≤ i by omega)))
    simp [h, this]
set_option maxHeartbeats 2000000 in
theorem more_any (s : Nat) (v : Value) (l : List Nat) (w : World) (hs : s < 4294967296) (hl : WL l) (hlen : l.length ≤ 1000) (hv : SL w v l) :
    Calls Try.prog 40 #[.int .u32 s, v] w fun e w' => e = .returned (.int .u32 (moreN s l : Nat)) ∧ Below w.heap.size w w' := by
  have hout := Lib.hid (show (moreN s l : Nat) = 4294967295 - foldT (4294967295 - s) l from rfl)
  rcases hv with ⟨rfl, sp, cap, rfl⟩ | ⟨g, off, cap, rfl, hg, hcap, hc⟩
  · go_enter Try.func40, Try.ntmps40
    go_wp2_with fail
    go_loopw [6, 14] (fun a k wr => k = .int .i64 0 ∧ a = .int .u32 (4294967295 - s : Nat) ∧ Below w.heap.size w wr) (fun _ _ _ => 0)
    case atStart => exact ⟨rfl, by rw [not32 s hs], (Below.refl _ _).alloc (Nat.le_refl _) _⟩
    case round =>
      obtain ⟨rfl, rfl, hB⟩ := hrel
      go_wp2_with fail
      go_ret
      exact ⟨by rw [hout.out, show foldT (4294967295 - s) [] = 4294967295 - s from rfl, ← not32 (4294967295 - s) (by omega)]; rfl, hB⟩
  · have hC := Lib.hid hc
    clear hc
    go_enter Try.func40, Try.ntmps40
    go_wp2_with fail
    go_loopw [6, 14] (fun a k wr => ∃ i r1 : Nat, i ≤ l.length ∧ k = .int .i64 i ∧ a = .int .u32 r1 ∧ r1 < 4294967296 ∧ Hid (r1 = foldT (4294967295 - s) (l.take i)) ∧ wr.cell? ⟨w.heap.size, 0, none⟩ = some (.func (.func 44) #[] #[.pointer (some ⟨w.heap.size, 0, none⟩)]) ∧ Below w.heap.size w wr) (fun _ k _ => l.length + 1 - (intOf k).toNat)
    case atStart => exact ⟨0, 4294967295 - s, by omega, rfl, by rw [not32 s hs], by omega, rfl, by simp [go_sem], (Below.refl _ _).alloc (Nat.le_refl _) _⟩
    case round =>
      obtain ⟨i, r1, hi, rfl, rfl, hr1, hT, hcl, hB⟩ := hrel
      by_cases hlt : i < l.length
      · have hlt' : (i : Int) < (l.length : Int) := by omega
        have hx := hl.at i hlt
        have hstep := Lib.hid (foldT_step (4294967295 - s) l i hlt)
        have hc : wr.cell? ⟨g, off + i, none⟩ = some (.int .u64 (l.getD i 0 : Nat)) := by rw [(bcell hB).1 _ _ hg]; exact hC.out i hlt
        have hO := Lib.hid (turn_any 64 r1 (l.getD i 0) wr w.heap.size (by omega) hr1 hx hcl)
        generalize hy : l.getD i 0 = y at *
        go_wp2_with fail
        refine hO.out.mono ?_
        rintro e w2 ⟨rfl, rfl⟩
        go_wp2_with fail
        go_roundw
        case rel => exact ⟨i + 1, turnN 64 r1 y, by omega, by go_num, rfl, turnN_lt 64 r1 y hr1, by rw [hstep.out, ← hT.out]; rfl, hcl, hB⟩
        case measure => simp [intOf]; omega
      · obtain rfl : i = l.length := by omega
        have hT' : r1 = foldT (4294967295 - s) l := by rw [hT.out, List.take_of_length_le (Nat.le_refl _)]
        replace hT' := Lib.hid hT'
        clear hT
        go_wp2_with fail
        go_ret
        exact ⟨by rw [hout.out, ← hT'.out, ← not32 r1 hr1]; rfl, hB⟩

set_option maxHeartbeats 400000 in
theorem of_any (v : Value) (l : List Nat) (w : World) (hl : WL l) (hlen : l.length ≤ 1000) (hv : SL w v l) :
    Calls Try.prog 33 #[v] w fun e w' => e = .returned (.int .u32 (moreN 0 l : Nat)) ∧ Below w.heap.size w w' := by
  have hM := Lib.hid (more_any 0 v l w (by omega) hl hlen hv)
  clear hv
  go_enter Try.func33, Try.ntmps33
  go_wp2_with fail
  refine hM.out.mono ?_
  rintro e w2 ⟨rfl, hb⟩
  go_wp2_with fail
  go_ret
  exact ⟨rfl, hb⟩
set_option maxHeartbeats 400000 in
theorem refOf_any (v : Value) (l : List Nat) (w : World) (hl : WL l) (hlen : l.length ≤ 1000) (hv : SL w v l) :
    Calls Try.prog 27 #[v] w fun e w' => e = .returned (.int .u32 (moreN 0 l : Nat)) ∧ Below w.heap.size w w' := by
  have hM := Lib.hid (refMore_any 0 v l w (by omega) hl hlen hv)
  clear hv
  go_enter Try.func27, Try.ntmps27
  go_wp2_with fail
  refine hM.out.mono ?_
  rintro e w2 ⟨rfl, hb⟩
  go_wp2_with fail
  go_ret
  exact ⟨rfl, hb⟩
end Go.Proofs.Ytkmfncnfpneekaa
