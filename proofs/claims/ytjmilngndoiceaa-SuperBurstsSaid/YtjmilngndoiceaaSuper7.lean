/-
  The laws of package super: rows that are written to, and longer; what is no head.
-/
import Derived.Test.YtjmilngndoiceaaSuper6
import Derived.Test.YtjmilngndoiceaaUSealB2
set_option linter.unusedVariables false
set_option linter.unusedSimpArgs false
namespace Go.Proofs.Ytjmilngndoiceaa
open Go.RowKit

/-- x = append(x, m) -/
theorem appe_own {w5 : World} {base gx n cx gb m : Nat} {xs : List Nat} (hown : w5.ownsRow base 34 1 (.slice (some ⟨gx, 0, none⟩) n cx) n (wv xs)) (hn : xs.length = n) (hcell : w5.cell? ⟨gb, 0, none⟩ = some (.int .u64 (m : Nat))) (hbase : base ≤ w5.heap.size) (hsm : n ≤ 1000000) (hpos : 0 < n) :
    ∃ v3 w6, (Builtin.append_ #[25, 25] 25 #[.slice (some ⟨gx, 0, none⟩) n cx, .slice (some ⟨gb, 0, none⟩) 1 1]).run Try.prog w5 = .ok v3 w6 ∧ SL w6 v3 (xs ++ [m]) ∧ Below base w5 w6 ∧ ∀ k, k < w5.heap.size → k ≠ gx → w6.heap[k]? = w5.heap[k]? := by
  obtain ⟨i0, hi, hz0, hz1, hz2⟩ := info_parts infoU64
  have hnews : ∀ j u, [Value.int .u64 (m : Int)][j]? = some u → w5.cell? ((⟨gb, 0, none⟩ : Addr).add j) = some u := fun j u hj => by
    have h0 : j = 0 := by
      have := (List.getElem?_eq_some_iff.1 hj).1
      simp at this
      omega
    subst h0
    simp only [List.getElem?_cons_zero] at hj
    rw [← hj]
    simpa [Addr.add] using hcell
  have h1 : ∀ u ∈ [Value.int .u64 (m : Int)], u.oneCell' = true := fun u hu => by simp at hu; subst hu; rfl
  have hlx : (xs ++ [m]).length = n + 1 := by simp [hn]
  have hge := own_ge hown gx rfl
  by_cases hroom : n + 1 ≤ cx
  · obtain ⟨w6, hrun, ho6, hg6⟩ := run_append_fits (P := Try.prog) w5 base 25 25 34 i0 1 Try.underlying25 hi hz1 gx n cx (wv xs) hown ⟨gb, 0, none⟩ 1 1 [.int .u64 (m : Int)] rfl hnews h1 hroom
    rw [← wv_succ, ← hlx] at ho6
    exact ⟨_, w6, hrun, by rw [← hlx]; exact SL.of_owns ho6, (Below.refl _ _).grown hg6 hbase (fun k hk => by simp at hk; omega), fun k hk hne => hg6.block k hk (fun e => hne (by simpa using e))⟩
  · have hold := hown.cells (g := gx) rfl
    obtain ⟨v3, w6, hrun, ho6, hg6⟩ := run_append_arg_grows (P := Try.prog) w5 25 25 34 i0 (.int .u64 0) 1 8 Try.underlying25 hi hz0 hz1 hz2 rfl (by decide) ⟨gx, 0, none⟩ n cx (wv xs) (by rw [wv_len]; omega) hold ⟨gb, 0, none⟩ 1 1 [.int .u64 (m : Int)] rfl hnews (by omega) (by unfold maxLen; omega) (by omega)
    rw [← wv_succ, ← hlx] at ho6
    have hB6 : Below w5.heap.size w5 w6 := (Below.refl _ _).grown hg6 (Nat.le_refl _) (by simp)
    exact ⟨v3, w6, hrun, SL.of_owns ho6, hB6.mono hbase, fun k hk _ => hB6.block k hk⟩
/-- a word of a row that is the call's own is written to -/
theorem own_set {w : World} {base g n cap i x : Nat} {xs : List Nat} (h : w.ownsRow base 34 1 (.slice (some ⟨g, 0, none⟩) n cap) n (wv xs)) :
    (w.setCell ⟨g, i, none⟩ (.int .u64 x)).ownsRow base 34 1 (.slice (some ⟨g, 0, none⟩) n cap) n (wv (xs.set i x)) := by
  obtain ⟨h0, hr⟩ := h
  rcases hr with ⟨hv, _⟩ | ⟨g', cap', cur, hv, hbg, hg, h1, h2, h3, h4⟩
  · simp at hv
  · simp only [Value.slice.injEq, Option.some.injEq, Addr.mk.injEq, and_true, true_and] at hv
    obtain ⟨rfl, rfl⟩ := hv
    refine ⟨by simpa [wv_len] using h0, .inr ⟨g, cap, _, rfl, hbg, heap_setCell_same w g i cur _ (.int .u64 x) hg, h1, h2, by simpa using h3, ?_⟩⟩
    rw [Array.toList_setIfInBounds, List.take_set, h4]
    simp [wv, List.map_set]
theorem own_cell {w : World} {base g n cap : Nat} {xs : List Nat} (h : w.ownsRow base 34 1 (.slice (some ⟨g, 0, none⟩) n cap) n (wv xs)) (hn : xs.length = n) (i : Nat) (hi : i < n) :
    w.cell? ⟨g, i, none⟩ = some (.int .u64 (xs.getD i 0 : Nat)) ∧ w.frozen? ⟨g, i, none⟩ = false := by
  obtain ⟨h0, hr⟩ := h
  rcases hr with ⟨hv, _⟩ | ⟨g', cap', cur, hv, hbg, hg, h1, h2, h3, h4⟩
  · simp at hv
  · simp only [Value.slice.injEq, Option.some.injEq, Addr.mk.injEq, and_true, true_and] at hv
    obtain ⟨rfl, rfl⟩ := hv
    have hrc := row_cell hg i
    refine ⟨?_, hrc.2⟩
    rw [hrc.1, ← wv_at xs i (by omega), ← h4, List.getElem?_take, if_pos (by omega), Array.getElem?_toList]
theorem sOk_not {l : List Nat} {W L G : Nat} (h : l.take 8 = headW W L G) (hw : l.length ≠ W) : sOk l = false := by
  unfold sOk
  rw [h]
  have : ¬ headW W L G = headW l.length (l.getD 3 0) (gNat l.length (l.getD 3 0)) := fun hh => hw (headW_inj hh).1.symm
  rw [decide_eq_false this, Bool.and_false, Bool.and_false]
end Go.Proofs.Ytjmilngndoiceaa
