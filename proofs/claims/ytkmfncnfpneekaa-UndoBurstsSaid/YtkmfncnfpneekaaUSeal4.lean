/-
  What the calls of package seal answer: Seal, Open.
-/
import Derived.Test.YtkmfncnfpneekaaUSeal3
import Derived.Laws.CopyOwn
import Derived.Deep.RegionHeld3
set_option linter.unusedVariables false
namespace Go.Proofs.Ytkmfncnfpneekaa
open Go.RowKit

theorem infoU64 : (Try.prog.info? 22).map (fun i => (i.zero, i.size, i.bytes)) = some (some (.int .u64 0), 1, 8) := by kernel_rfl
theorem infoU64s : (Try.prog.info? 22).map (·.size) = some 1 := by kernel_rfl
theorem row_cell {w : World} {g : Nat} {cs : Array Value} {t : TypeId} (h : w.heap[g]? = some (.cells cs t (0, 0))) (i : Nat) : w.cell? ⟨g, i, none⟩ = cs[i]? ∧ w.frozen? ⟨g, i, none⟩ = false := by
  constructor <;> simp [World.cell?, World.frozen?, h]
theorem row_of_owns {w : World} {base e g n cap : Nat} {xs : List Value} (h : w.ownsRow base e 1 (.slice (some ⟨g, 0, none⟩) n cap) n xs) (hc : n = cap) : w.heap[g]? = some (.cells xs.toArray e (0, 0)) := by
  rcases h.2 with ⟨hv, _⟩ | ⟨g', cap', cur, hv, hb, hg, h1, h2, h3, h4⟩
  · simp at hv
  · simp only [Value.slice.injEq, Option.some.injEq, Addr.mk.injEq, and_true, true_and] at hv
    obtain ⟨rfl, rfl⟩ := hv
    subst hc
    rw [hg]
    have : cur.toList = xs := by
      rw [← h4, List.take_of_length_le (by simp [h3])]
    rw [← this]
def wv (l : List Nat) : List Value := l.map fun x : Nat => Value.int .u64 (x : Int)
theorem wv_len (l : List Nat) : (wv l).length = l.length := by simp [wv]
theorem wv_at (l : List Nat) (i : Nat) (h : i < l.length) : (wv l)[i]? = some (.int .u64 (l.getD i 0 : Nat)) := by
  unfold wv
  rw [List.getElem?_map, List.getElem?_eq_getElem h, List.getD_eq_getElem?_getD, List.getElem?_eq_getElem h]
  rfl
set_option maxRecDepth 10000 in
theorem copyW {w1 : World} {g d cap : Nat} {sp : Option Addr} {t : TypeId} (l : List Nat) (h : w1.heap[g]? = some (.cells (List.replicate d (Value.int .u64 0)).toArray t (0, 0))) (hv : SL w1 (.slice sp l.length cap) l) :
    ∃ w2, (Builtin.copy_ #[23, 23] 3 #[.slice (some ⟨g, 0, none⟩) d d, .slice sp l.length cap]).run Try.prog w1 = .ok (goInt (Nat.min l.length d)) w2 ∧
      w2.heap[g]? = some (.cells (wv (l.take (Nat.min l.length d)) ++ List.replicate (d - Nat.min l.length d) (Value.int .u64 0)).toArray t (0, 0)) ∧ Below g w1 w2 := by
  by_cases h0 : Nat.min l.length d = 0
  · refine ⟨w1, ?_, ?_, Below.refl _ _⟩
    · rw [h0]; exact run_copy_none w1 _ _ _ 22 _ _ _ _ _ _ Try.underlying23 infoU64s h0
    · rw [h0]; simpa [wv] using h
  · rcases hv with ⟨rfl, _⟩ | ⟨g', off, cap', hv, hg, hcap, hc⟩
    · exact absurd (by simp) h0
    · simp only [Value.slice.injEq, true_and] at hv
      obtain ⟨rfl, rfl⟩ := hv
      have hk1 : Nat.min l.length d ≤ l.length := Nat.min_le_left _ _
      have hk2 : Nat.min l.length d ≤ d := Nat.min_le_right _ _
      generalize hk : Nat.min l.length d = k at *
      have hcs : (wv (l.take k)).length = k := by rw [wv_len]; simp; omega
      have hrun := run_copy_row (P := Try.prog) w1 23 23 3 22 g 0 d d ⟨g', off, none⟩ l.length cap _ t (wv (l.take k)) Try.underlying23 infoU64s h (by rw [hcs, ← hk])
        (fun j v hj => by
          have hjk : j < k := by
            have := (List.getElem?_eq_some_iff.1 hj).1
            omega
          rw [wv_at _ j (by simp; omega)] at hj
          rw [← hj, show (⟨g', off, none⟩ : Addr).add j = ⟨g', off + j, none⟩ by simp [Addr.add], hc j (by omega)]
          congr 3
          rw [List.getD_eq_getElem?_getD, List.getD_eq_getElem?_getD, List.getElem?_take, if_pos hjk])
        (by rw [hcs]; simp; omega) (fun v hv => by unfold wv at hv; obtain ⟨x, _, rfl⟩ := List.mem_map.1 hv; rfl)
      refine ⟨_, by rw [← hcs]; exact hrun, ?_, below_setRow (Below.refl _ _) (Nat.le_refl _) _⟩
      have := setRow_heap w1 g (List.replicate d (Value.int .u64 0)).toArray (wv (l.take k) ++ List.replicate (d - k) (Value.int .u64 0)).toArray t _ h
      rw [← this]
      congr 3
      simp [hcs]
set_option maxRecDepth 10000 in
set_option maxHeartbeats 1000000 in
theorem seal_any (v : Value) (l : List Nat) (w : World) (hl : WL l) (hlen : l.length ≤ 900) (hv : SL w v l) :
    Calls Try.prog 25 #[v] w fun e w' => ∃ v', e = .returned v' ∧ SL w' v' (l ++ [moreN 0 l]) ∧ Below w.heap.size w w' := by
  obtain ⟨i0, hi, hz0, hz1, hz2⟩ := info_parts infoU64
  have hvv := hv
  have hv1 : ∃ sp cap, v = .slice sp l.length cap := by
    rcases hv with ⟨rfl, sp, cap, rfl⟩ | ⟨g, off, cap, rfl, _⟩
    · exact ⟨_, _, rfl⟩
    · exact ⟨_, _, rfl⟩
  obtain ⟨sp, cap, rfl⟩ := hv1
  have hn1 := Lib.hid (show ((l.length : Int) + 1) = ((l.length + 1 : Nat) : Int) by omega)
  go_enter Try.func25, Try.ntmps25
  go_wp2_with (at_make; refine wpList_make_full _ rfl _ _ 23 rfl w.heap.size 22 i0 (.int .u64 0) 1 Try.underlying23 hi hz0 hz1 .i64 .i64 _ _ (l.length + 1) rfl rfl hn1.out hn1.out (by rw [hz2]; omega) (by unfold maxLen; omega) (Nat.le_refl _) ?_; intro w1 hown hgr)
  have hrow := row_of_owns hown rfl
  rw [show (madeCells (Value.int IntKind.u64 0).cells ((l.length + 1) * 1)).toList = List.replicate (l.length + 1) (Value.int .u64 0) by
    rw [Nat.mul_one]; exact toList_madeCells_one _ _] at hrow
  have hB1 : Below w.heap.size w w1 := (Below.refl _ _).grown hgr (Nat.le_refl _) (by simp)
  obtain ⟨w2, hrun, hrow2, hb2⟩ := copyW l hrow (hvv.keep hB1)
  rw [show Nat.min l.length (l.length + 1) = l.length from Nat.min_eq_left (by omega), List.take_of_length_le (Nat.le_refl _), show l.length + 1 - l.length = 1 by omega] at hrow2
  rw [hrun]
  have hB2 : Below w.heap.size w w2 := hB1.trans hb2
  have hg2 : w.heap.size < w2.heap.size := (Array.getElem?_eq_some_iff.1 hrow2).1
  have hO := Lib.hid (of_any _ l w2 hl (by omega) (hvv.keep hB2))
  have hS2 := Lib.hid (hvv.keep hB2)
  have hR := Lib.hid (row_cell hrow2)
  clear hrun hrow hrow2 hown hgr hvv hb2 hB1
  go_wp2_with fail
  refine hO.out.mono ?_
  rintro e w3 ⟨rfl, hb3⟩
  have hB3 : Below w.heap.size w w3 := hB2.trans (hb3.mono hB2.size)
  have hc3 : w3.cell? ⟨w.heap.size, l.length, none⟩ = some (.int .u64 0) := by
    rw [(bcell hb3).1 _ _ hg2, (hR.out l.length).1]
    simp [wv]
  have hf3 : w3.frozen? ⟨w.heap.size, l.length, none⟩ = false := by rw [(bcell hb3).2 _ _ hg2]; exact (hR.out l.length).2
  have hm := moreN_lt 0 l
  generalize hmm : moreN 0 l = m at *
  replace hmm := Lib.hid hmm
  go_wp2_with fail
  go_ret
  refine ⟨_, rfl, ?_, hB3.setCell (Nat.le_refl _) _⟩
  rw [hmm.out]
  refine .inr ⟨w.heap.size, 0, l.length + 1, by simp, ?_, by simp, fun i hi => ?_⟩
  · have := Nat.lt_of_lt_of_le hg2 hb3.size
    simpa using this
  · simp only [List.length_append, List.length_singleton] at hi
    rw [Nat.zero_add]
    by_cases e : i = l.length
    · subst e
      rw [World.cell?_setCell_same _ _ _ hc3]
      simp
    · rw [World.cell?_setCell_other _ _ _ _ (by intro h; simp only [Addr.mk.injEq] at h; omega), (bcell hb3).1 _ _ hg2, (hR.out i).1]
      have hi2 : i < l.length := by omega
      rw [List.getElem?_toArray, List.getElem?_append_left (by rw [wv_len]; exact hi2), wv_at l i hi2]
      simp [List.getD_eq_getElem?_getD, List.getElem?_append_left hi2]

theorem cellK {w w1 : World} {b o : Nat} {v : Value} (h : w.cell? ⟨b, o, none⟩ = some v) (hb : Below w.heap.size w w1) : w1.cell? ⟨b, o, none⟩ = some v := by
  rw [(bcell hb).1 _ _ (World.block_lt_of_cell? w _ h)]; exact h
theorem sl_take {l : List Nat} {N g off cap : Nat} {w w1 : World} (hN : l.length = N + 1) (hcap : N + 1 ≤ cap) (hg : g < w.heap.size) (hc : ∀ i, i < N + 1 → w.cell? ⟨g, off + i, none⟩ = some (.int .u64 (l.getD i 0 : Nat))) (hb : Below w.heap.size w w1) (k : Nat) (hk : k ≤ N + 1) :
    SL w1 (.slice (some ⟨g, off, none⟩) k cap) (l.take k) := by
  have hlk : (l.take k).length = k := by simp; omega
  refine .inr ⟨g, off, cap, by rw [hlk], Nat.lt_of_lt_of_le hg hb.size, by omega, fun i hi => ?_⟩
  rw [(bcell hb).1 _ _ hg, hc i (by omega)]
  congr 3
  rw [List.getD_eq_getElem?_getD, List.getD_eq_getElem?_getD, List.getElem?_take, if_pos (by omega)]
end Go.Proofs.Ytkmfncnfpneekaa
