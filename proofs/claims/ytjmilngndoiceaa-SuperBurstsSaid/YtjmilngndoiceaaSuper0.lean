/-
  Package super: rows of words that are the call's own, and 'append(l, make([]uint64, k)...)' onto them.
-/
import Derived.Test.YtjmilngndoiceaaUSeal4
import Derived.Test.YtjmilngndoiceaaUSealB2
import Derived.Lib.AppendZerosOnto
set_option linter.unusedVariables false
set_option linter.unusedSimpArgs false
namespace Go.Proofs.Ytjmilngndoiceaa
open Go.RowKit

/-- block g is the row of l's words, and nothing else -/
def Rw (w : World) (g : Nat) (l : List Nat) : Prop := w.heap[g]? = some (.cells (wv l).toArray 34 (0, 0))
theorem Rw.keep {w w1 : World} {g B : Nat} {l : List Nat} (h : Rw w g l) (hb : Below B w w1) (hg : g < B) : Rw w1 g l := (hb.block g hg).trans h
theorem Rw.lt {w : World} {g : Nat} {l : List Nat} (h : Rw w g l) : g < w.heap.size := (Array.getElem?_eq_some_iff.1 h).1
theorem Rw.sl {w : World} {g : Nat} {l : List Nat} (h : Rw w g l) : SL w (.slice (some ⟨g, 0, none⟩) l.length l.length) l :=
  .inr ⟨g, 0, _, rfl, h.lt, Nat.le_refl _, fun i hi => by
    rw [(row_cell h _).1, Nat.zero_add, List.getElem?_toArray, wv_at l i hi]⟩
theorem Rw.own {w : World} {g : Nat} {l : List Nat} (h : Rw w g l) (hl : l.length ≤ 100000) : w.ownsRow g 34 1 (.slice (some ⟨g, 0, none⟩) l.length l.length) l.length (wv l) :=
  ⟨by rw [wv_len, Nat.mul_one], .inr ⟨g, _, _, rfl, Nat.le_refl _, h, Nat.le_refl _, by unfold maxLen; omega, by simp [wv_len], by simp [wv_len, List.take_of_length_le]⟩⟩

theorem zeros_list (k : Nat) : (Builtin.zeroCells (Value.int .u64 0).cells k).toList = List.replicate k (Value.int .u64 0) := by
  unfold Builtin.zeroCells
  simp [Value.cells, Nat.mod_one]
  apply List.ext_getElem
  · simp
  · intro i h1 h2
    simp [Nat.mod_one]
theorem wv_append (a b : List Nat) : wv (a ++ b) = wv a ++ wv b := by simp [wv]
theorem wv_zeros (k : Nat) : wv (List.replicate k 0) = List.replicate k (Value.int .u64 0) := by simp [wv]
theorem appz_none {w : World} {sp : Option Addr} {n cap : Nat} (h : n ≤ cap) :
    (Builtin.append_ #[25, 3] 25 #[.slice sp n cap, .int .i64 0]).run Try.prog w = .ok (.slice sp n cap) w := by
  obtain ⟨i0, hi, hz0, hz1, hz2⟩ := info_parts infoU64
  have ht : Try.prog.underlying 25 = some (.slice 34) := Try.underlying25
  have htn : Try.prog.underlying 3 = some (.int .i64) := Try.underlying3
  have hw : IntKind.i64.wrap 0 = 0 := by decide
  cases sp <;> simp [Builtin.append_, run_underlying ht, run_underlying htn, sizeOf, typeInfo, zeroValue, hi, hz0, hz1, hz2, asInt, asIntOf, hw, h, storeCells]
set_option maxHeartbeats 1000000 in
theorem appz_own {w : World} {base g n cap k : Nat} {xs : List Nat} (hown : w.ownsRow base 34 1 (.slice (some ⟨g, 0, none⟩) n cap) n (wv xs)) (hn : xs.length = n) (hsm : n + k ≤ 1000000) (hbase : base ≤ w.heap.size) :
    ∃ g1 c1 w1, (Builtin.append_ #[25, 3] 25 #[.slice (some ⟨g, 0, none⟩) n cap, .int .i64 k]).run Try.prog w = .ok (.slice (some ⟨g1, 0, none⟩) (n + k) c1) w1 ∧
      w1.ownsRow base 34 1 (.slice (some ⟨g1, 0, none⟩) (n + k) c1) (n + k) (wv (xs ++ List.replicate k 0)) ∧ Below base w w1 ∧ SL w1 (.slice (some ⟨g, 0, none⟩) n cap) xs ∧ (n + k ≤ cap ∨ Below w.heap.size w w1) := by
  obtain ⟨i0, hi, hz0, hz1, hz2⟩ := info_parts infoU64
  have ht : Try.prog.underlying 25 = some (.slice 34) := Try.underlying25
  have htn : Try.prog.underlying 3 = some (.int .i64) := Try.underlying3
  have hw : IntKind.i64.wrap (k : Int) = k := by rw [IntKind.wrap_i64]; omega
  have hold := hown.cells (g := g) rfl
  have hSx : SL w (.slice (some ⟨g, 0, none⟩) n cap) xs := by
    exact SL.of_owns (l := xs) (by rw [hn]; exact hown)
  obtain ⟨hl0, hr⟩ := hown
  rcases hr with ⟨hv, _⟩ | ⟨g', cap', cur, hv, hbg, hg, h1, h2, h3, h4⟩
  · simp at hv
  simp only [Value.slice.injEq, Option.some.injEq, Addr.mk.injEq, and_true, true_and] at hv
  obtain ⟨rfl, rfl⟩ := hv
  rw [Nat.mul_one] at h3 h4
  by_cases h0 : k = 0
  · subst h0
    refine ⟨g, cap, w, appz_none h1, ?_, Below.refl _ _, hSx, .inl (by omega)⟩
    rw [Nat.add_zero]
    exact ⟨by simp [wv_len, hn], .inr ⟨g, cap, cur, rfl, hbg, hg, h1, h2, by omega, by simpa using h4⟩⟩
  by_cases hroom : n + k ≤ cap
  · have hst := run_storeCells_at (P := Try.prog) g n 34 (List.replicate k (Value.int .u64 0)) 0 cur w hg (by simp; omega) (by intro v hv; rw [List.eq_of_mem_replicate hv]; rfl)
    rw [Nat.add_zero, List.length_replicate] at hst
    have hns : ¬ (k * i0.size = 0) := by rw [hz1]; omega
    have hneg : ¬ ((k : Int) < 0) := by omega
    have h48 : ¬ (281474976710656 < (k : Int) * (i0.bytes : Int)) := by rw [hz2]; omega
    have hzl : (Builtin.zeroCells (Value.int .u64 0).cells k).toList = List.replicate k (Value.int .u64 0) := zeros_list k
    have hrow : (w.setRow g (cur.toList.take n ++ List.replicate k (Value.int .u64 0) ++ cur.toList.drop (n + k)).toArray).heap[g]? = some (.cells (cur.toList.take n ++ List.replicate k (Value.int .u64 0) ++ cur.toList.drop (n + k)).toArray 34 (0, 0)) := setRow_heap w g _ _ _ _ hg
    refine ⟨g, cap, _, ?_, ⟨by simp [wv_len, hn], .inr ⟨g, cap, _, rfl, hbg, hrow, hroom, h2, ?_, ?_⟩⟩, below_setRow (Below.refl _ _) hbg _, .inr ⟨g, 0, cap, by rw [hn], ?_, by omega, fun i hi => ?_⟩, .inl hroom⟩
    · simp [Builtin.append_, run_underlying ht, run_underlying htn, sizeOf, typeInfo, zeroValue, hi, hz0, asInt, asIntOf, hw, hroom, hneg, h48, hns, h0, hzl]
      rw [hz1, Nat.mul_one, show (⟨g, 0, none⟩ : Addr).add n = ⟨g, n, none⟩ by rw [Addr.add_lit, Nat.zero_add], hst]
      simp [Result.andThen]
    · simp; omega
    · rw [Nat.mul_one, h4, wv_append, wv_zeros]
      simp [List.take_append, wv_len, hn, List.take_of_length_le]
    · have := (Array.getElem?_eq_some_iff.1 hg).1
      simpa using this
    · have e1 := (row_cell hrow (0 + i)).1
      rw [e1, h4, Nat.zero_add, List.getElem?_toArray, List.append_assoc, List.getElem?_append_left (by rw [wv_len]; exact hi), wv_at xs i hi]
  · have hge : cap < n + k := by omega
    have hfc := run_firstCells_some (P := Try.prog) w.drew i0.size n ⟨g, 0, none⟩ n cap (wv xs) (by rw [wv_len, hn, hz1, Nat.mul_one]) (fun j v hj => hold j v hj)
    have hrun := Lib.run_append_grow_zeros (P := Try.prog) w 25 3 25 34 i0 (.int .u64 0) .i64 .i64 ht htn hi hz0 (some ⟨g, 0, none⟩) n cap (wv xs) hfc k (by omega) (by rw [hz1]; omega) hge (by omega) (by rw [hz2]; omega) (growslice_fits hge (by rw [hz2]; omega))
    have hcg : n + k ≤ grownCap w (n + k) cap 34 := grownCap_ge w (n + k) cap _
    have hcm : grownCap w (n + k) cap 34 ≤ maxLen := grownCap_le_maxLen w (n + k) cap _ (by unfold maxLen; omega)
    have hB : Below w.heap.size w (w.drew.alloc (.cells ((wv xs).toArray ++ Builtin.zeroCells (Value.int .u64 0).cells k ++ Builtin.zeroCells (Value.int .u64 0).cells (grownCap w (n + k) cap 34 - (n + k))) 34)) := (Below.refl _ _).drew.alloc (Nat.le_refl _) _
    refine ⟨w.heap.size, _, _, hrun, ⟨by simp [wv_len, hn], .inr ⟨w.heap.size, _, _, rfl, hbase, heap_alloc_new w.drew _, hcg, hcm, ?_, ?_⟩⟩, hB.mono hbase, hSx.keep hB, .inr hB⟩
    · simp [size_zeroCells, Value.cells, wv_len, hn]; omega
    · simp only [Array.toList_append, zeros_list, List.append_assoc]
      rw [wv_append, wv_zeros, Nat.mul_one, ← List.append_assoc]
      exact List.take_left' (by simp [wv_len, hn])

set_option maxHeartbeats 1000000 in
theorem seal_own (v : Value) (l : List Nat) (w : World) (hl : WL l) (hlen : l.length ≤ 900) (hv : SL w v l) :
    Calls Try.prog 17 #[v] w fun e w' => e = .returned (.slice (some ⟨w.heap.size, 0, none⟩) (l.length + 1) (l.length + 1)) ∧ Rw w' w.heap.size (l ++ [moreN 0 l]) ∧ Below w.heap.size w w' := by
  obtain ⟨i0, hi, hz0, hz1, hz2⟩ := info_parts infoU64
  have hvv := hv
  have hv1 : ∃ sp cap, v = .slice sp l.length cap := by
    rcases hv with ⟨rfl, sp, cap, rfl⟩ | ⟨g, off, cap, rfl, _⟩
    · exact ⟨_, _, rfl⟩
    · exact ⟨_, _, rfl⟩
  obtain ⟨sp, cap, rfl⟩ := hv1
  have hn1 := Lib.hid (show ((l.length : Int) + 1) = ((l.length + 1 : Nat) : Int) by omega)
  go_enter Try.func17, Try.ntmps17
  go_wp2_with (at_make; refine wpList_make_full _ rfl _ _ 25 rfl w.heap.size 34 i0 (.int .u64 0) 1 Try.underlying25 hi hz0 hz1 .i64 .i64 _ _ (l.length + 1) rfl rfl hn1.out hn1.out (by rw [hz2]; omega) (by unfold maxLen; omega) (Nat.le_refl _) ?_; intro w1 hown hgr)
  have hrow := row_of_owns hown rfl
  rw [show (madeCells (Value.int IntKind.u64 0).cells ((l.length + 1) * 1)).toList = List.replicate (l.length + 1) (Value.int .u64 0) by
    rw [Nat.mul_one]; exact toList_madeCells_one _ _] at hrow
  have hB1 : Below w.heap.size w w1 := (Below.refl _ _).grown hgr (Nat.le_refl _) (by simp)
  obtain ⟨w2, hrun, hrow2, hb2⟩ := copyW l hrow (hvv.keep hB1)
  rw [show Nat.min l.length (l.length + 1) = l.length from Nat.min_eq_left (by omega), List.take_of_length_le (Nat.le_refl _), show l.length + 1 - l.length = 1 by omega] at hrow2
  rw [hrun]
  have hB2 : Below w.heap.size w w2 := hB1.trans hb2
  have hg2 : w.heap.size < w2.heap.size := (Array.getElem?_eq_some_iff.1 hrow2).1
  have hO := Lib.hid (of_any _ l w2 hl (by omega) (hvv.keep hB2))
  have hS2 := Lib.hid (hvv.keep hB2)
  have hR := Lib.hid (row_cell hrow2)
  replace hrow2 := Lib.hid hrow2
  clear hrun hrow hown hgr hvv hb2 hB1
  go_wp2_with fail
  refine hO.out.mono ?_
  rintro e w3 ⟨rfl, hb3⟩
  have hB3 : Below w.heap.size w w3 := hB2.trans (hb3.mono hB2.size)
  have hc3 : w3.cell? ⟨w.heap.size, l.length, none⟩ = some (.int .u64 0) := by
    rw [(bcell hb3).1 _ _ hg2, (hR.out l.length).1]
    simp [wv]
  have hf3 : w3.frozen? ⟨w.heap.size, l.length, none⟩ = false := by rw [(bcell hb3).2 _ _ hg2]; exact (hR.out l.length).2
  have hrow3 := Lib.hid ((hb3.block w.heap.size hg2).trans hrow2.out)
  have hm := moreN_lt 0 l
  generalize hmm : moreN 0 l = m at *
  replace hmm := Lib.hid hmm
  go_wp2_with fail
  go_ret
  refine ⟨rfl, ?_, hB3.setCell (Nat.le_refl _) _⟩
  unfold Rw
  rw [heap_setCell_same w3 _ _ _ _ _ hrow3.out, wv_append]
  congr 3
  apply Array.ext'
  simp only [Array.toList_setIfInBounds, List.replicate_one]
  rw [show l.length = (wv l).length by rw [wv_len], hmm.out]
  simp [wv]
end Go.Proofs.Ytjmilngndoiceaa
