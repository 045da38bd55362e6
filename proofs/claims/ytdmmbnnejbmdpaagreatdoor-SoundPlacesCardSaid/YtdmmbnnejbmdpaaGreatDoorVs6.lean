/-
  Part of the proof of SoundPlaces.
-/
import Derived.Test.YtdmmbnnejbmdpaaGreatDoorVs2
import Derived.Test.YtdmmbnnejbmdpaaGreatDoorVs5
import Derived.Deep.RegionHeld3
import Derived.Laws.CopyOwn
import Derived.BigQuiet
import Derived.Deep.QuietTactic
import Derived.Test.YtdmmbnnejbmdpaaGreatDoorVs0
set_option maxRecDepth 10000
set_option maxHeartbeats 800000
set_option linter.unusedVariables false
set_option linter.unusedSimpArgs false
section
namespace Go.Proofs.YtdmmbnnejbmdpaaGreatDoor
open Go.RowKit
theorem infoU64 : (Tryz.prog.info? 33).map (fun i => (i.zero, i.size, i.bytes)) = some (some (.int .u64 0), 1, 8) := by kernel_rfl
theorem infoU64s : (Tryz.prog.info? 33).map (·.size) = some 1 := by kernel_rfl
theorem row_cell {w : World} {g : Nat} {cs : Array Value} {t : TypeId} (h : w.heap[g]? = some (.cells cs t (0, 0))) (i : Nat) : w.cell? ⟨g, i, none⟩ = cs[i]? ∧ w.frozen? ⟨g, i, none⟩ = false := by
 constructor <;> simp [World.cell?, World.frozen?, h]
theorem row_of_owns {w : World} {base e g n cap : Nat} {xs : List Value} (h : w.ownsRow base e 1 (.slice (some ⟨g, 0, none⟩) n cap) n xs) (hc : n = cap) : w.heap[g]? = some (.cells xs.toArray e (0, 0)) := by
 rcases h.2 with ⟨hv, _⟩ | ⟨g', cap', cur, hv, hb, hg, h1, h2, h3, h4⟩
 ·simp at hv
 ·simp only [Value.slice.injEq, Option.some.injEq, Addr.mk.injEq, and_true, true_and] at hv
  obtain ⟨rfl, rfl⟩ := hv
  subst hc
  rw [hg]
  have : cur.toList = xs := by
   rw [← h4, List.take_of_length_le (by simp [h3])]
  rw [← this]
def wv (l : List Nat) : List Value := l.map fun x : Nat => Value.int .u64 (x : Int)
theorem wv_len (l : List Nat) : (wv l).length = l.length := by simp [wv]
theorem wv_at (l : List Nat) (i : Nat) (h : i < l.length) : (wv l)[i]? = some (.int .u64 (l.getD i 0 : Nat)) := by
 unfold wv
 rw [List.getElem?_map, List.getElem?_eq_getElem h, List.getD_eq_getElem?_getD, List.getElem?_eq_getElem h]
 rfl
theorem copyW {w1 : World} {g d cap : Nat} {sp : Option Addr} {t : TypeId} (l : List Nat) (h : w1.heap[g]? = some (.cells (List.replicate d (Value.int .u64 0)).toArray t (0, 0))) (hv : SL w1 (.slice sp l.length cap) l) :
 ∃ w2, (Builtin.copy_ #[25, 25] 3 #[.slice (some ⟨g, 0, none⟩) d d, .slice sp l.length cap]).run Tryz.prog w1 = .ok (goInt (Nat.min l.length d)) w2 ∧
   w2.heap[g]? = some (.cells (wv (l.take (Nat.min l.length d)) ++ List.replicate (d - Nat.min l.length d) (Value.int .u64 0)).toArray t (0, 0)) ∧ Below g w1 w2 := by
 by_cases h0 : Nat.min l.length d = 0
 ·refine ⟨w1, ?_, ?_, Below.refl _ _⟩
  ·rw [h0]; exact run_copy_none w1 _ _ _ 33 _ _ _ _ _ _ Tryz.underlying25 infoU64s h0
  ·rw [h0]; simpa [wv] using h
 ·rcases hv with ⟨rfl, _⟩ | ⟨g', off, cap', hv, hg, hcap, hc⟩
  ·exact absurd (by simp) h0
  ·simp only [Value.slice.injEq, true_and] at hv
   obtain ⟨rfl, rfl⟩ := hv
   have hk1 : Nat.min l.length d ≤ l.length := Nat.min_le_left _ _
   have hk2 : Nat.min l.length d ≤ d := Nat.min_le_right _ _
   generalize hk : Nat.min l.length d = k at *
   have hcs : (wv (l.take k)).length = k := by rw [wv_len]; simp; omega
   have hrun := run_copy_row (P := Tryz.prog) w1 25 25 3 33 g 0 d d ⟨g', off, none⟩ l.length cap _ t (wv (l.take k)) Tryz.underlying25 infoU64s h (by rw [hcs, ← hk])
    (fun j v hj => by
      have hjk : j < k := by
       have := (List.getElem?_eq_some_iff.1 hj).1
       omega
      rw [wv_at _ j (by simp; omega)] at hj
      rw [← hj, show (⟨g', off, none⟩ : Addr).add j = ⟨g', off + j, none⟩ by simp [Addr.add], hc j (by omega)]
      congr 3
      rw [List.getD_eq_getElem?_getD, List.getD_eq_getElem?_getD, List.getElem?_take, if_pos hjk])
    (by rw [hcs]; simp; omega) (fun v hv => by unfold wv at hv; obtain ⟨x, _, rfl⟩ := List.mem_map.1 hv; rfl)
   refine ⟨_, by rw [← hcs]; exact hrun, ?_, below_setRow (Below.refl _ _) (Nat.le_refl _) _⟩
   have := setRow_heap w1 g (List.replicate d (Value.int .u64 0)).toArray (wv (l.take k) ++ List.replicate (d - k) (Value.int .u64 0)).toArray t _ h
   rw [← this]
   congr 3
   simp [hcs]
theorem cellK {w w1 : World} {b o : Nat} {v : Value} (h : w.cell? ⟨b, o, none⟩ = some v) (hb : Below w.heap.size w w1) : w1.cell? ⟨b, o, none⟩ = some v := by
 rw [(bcell hb).1 _ _ (World.block_lt_of_cell? w _ h)]; exact h
end Go.Proofs.YtdmmbnnejbmdpaaGreatDoor
end
section
namespace Go.Proofs.YtdmmbnnejbmdpaaGreatDoor
open Go.RowKit
theorem end_any (s c g : Int) (w : World) :
 Calls Tryz.prog 121 #[.agg #[.int .i64 s, .int .i64 c, .int .u64 g]] w fun e w' => e = .returned (.agg #[.int .i64 0, .int .i64 0, .int .u64 g]) ∧ Below w.heap.size w w' := by
 go_enter Tryz.func121, Tryz.ntmps121
 go_wp2
 go_returns
 exact ⟨rfl, by go_grown⟩
theorem right_idle (c g : Int) (w : World) (hc : c = 0) (hg : g ≤ 281474976710655) :
 Calls Tryz.prog 102 #[.agg #[.int .i64 0, .int .i64 c, .int .u64 g]] w fun e w' => e = .returned (.bool true) ∧ Below w.heap.size w w' := by
 subst hc
 go_enter Tryz.func102, Tryz.ntmps102
 go_wp2
 go_region_held3 (fun w' => w'.cell? ⟨w.heap.size, 0, none⟩ = some (.int .i64 0) ∧ w'.cell? ⟨w.heap.size, 1, none⟩ = some (.int .i64 0) ∧ w'.cell? ⟨w.heap.size, 2, none⟩ = some (.int .u64 g) ∧ w.heap.size < w'.heap.size ∧ Below w.heap.size w w')
  (((try go_split_ands); refine ⟨?_, ?_, ?_, ?_, ?_⟩ <;> first
    | (rw [hb.cell (by assumption)]; assumption) | (have := hb.size; omega) | (exact Below.trans (by assumption) (hb.mono (Nat.le_of_lt (by assumption))))
    | (go_keep; done) | (go_grown; done)))
  ((go_at_call 121; refine (end_any _ _ _ _).mono ?_; rintro e w2 ⟨rfl, hb⟩))
 go_wp2
 go_ret
 go_split_ands
 exact ⟨rfl, by assumption⟩
theorem right_idle_no (c g : Int) (w : World) (hc : c ≠ 0) (hg : g ≤ 281474976710655) :
 Calls Tryz.prog 102 #[.agg #[.int .i64 0, .int .i64 c, .int .u64 g]] w fun e w' => e = .returned (.bool false) ∧ Below w.heap.size w w' := by
 go_enter Tryz.func102, Tryz.ntmps102
 go_wp2
 have hc1 : (c == 0) = false := by simpa using hc
 go_region_held3 (fun w' => w'.cell? ⟨w.heap.size, 0, none⟩ = some (.int .i64 0) ∧ w'.cell? ⟨w.heap.size, 1, none⟩ = some (.int .i64 c) ∧ w'.cell? ⟨w.heap.size, 2, none⟩ = some (.int .u64 g) ∧ w.heap.size < w'.heap.size ∧ Below w.heap.size w w')
  (((try go_split_ands); refine ⟨?_, ?_, ?_, ?_, ?_⟩ <;> first
    | (rw [hb.cell (by assumption)]; assumption) | (have := hb.size; omega) | (exact Below.trans (by assumption) (hb.mono (Nat.le_of_lt (by assumption))))
    | (go_keep; done) | (go_grown; done)))
  ((go_at_call 121; refine (end_any _ _ _ _).mono ?_; rintro e w2 ⟨rfl, hb⟩))
 go_wp2
 go_ret
 go_split_ands
 exact ⟨rfl, by assumption⟩
theorem right_work (s c g : Int) (w : World) (hs : 1 ≤ s) (hs2 : s ≤ 2) (hc : 0 ≤ c) (hc2 : c ≤ 16383) (hg : g ≤ 281474976710655) :
 Calls Tryz.prog 102 #[.agg #[.int .i64 s, .int .i64 c, .int .u64 g]] w fun e w' => e = .returned (.bool true) ∧ Below w.heap.size w w' := by
 go_enter Tryz.func102, Tryz.ntmps102
 go_wp2
 go_ret
 exact ⟨rfl, by go_grown⟩
theorem right_work_no (s c g : Int) (w : World) (hs : 1 ≤ s) (hs2 : s ≤ 2) (hc : c < 0 ∨ 16383 < c) (hg : g ≤ 281474976710655) :
 Calls Tryz.prog 102 #[.agg #[.int .i64 s, .int .i64 c, .int .u64 g]] w fun e w' => e = .returned (.bool false) ∧ Below w.heap.size w w' := by
 rcases hc with hc | hc
 ·go_enter Tryz.func102, Tryz.ntmps102
  go_wp2
  go_ret
  exact ⟨rfl, by go_grown⟩
 ·go_enter Tryz.func102, Tryz.ntmps102
  go_wp2
  go_ret
  exact ⟨ret_b (by simp; omega), by go_grown⟩
theorem right_out (s c g : Int) (w : World) (h : s < 0 ∨ 2 < s ∨ (0 ≤ s ∧ s ≤ 2 ∧ 281474976710655 < g)) :
 Calls Tryz.prog 102 #[.agg #[.int .i64 s, .int .i64 c, .int .u64 g]] w fun e w' => e = .returned (.bool false) ∧ Below w.heap.size w w' := by
 rcases h with h | h | ⟨h, h2, h3⟩
 ·go_enter Tryz.func102, Tryz.ntmps102
  go_wp2
  go_ret
  exact ⟨rfl, by go_grown⟩
 ·go_enter Tryz.func102, Tryz.ntmps102
  go_wp2
  go_ret
  exact ⟨rfl, by go_grown⟩
 ·go_enter Tryz.func102, Tryz.ntmps102
  go_wp2
  go_ret
  exact ⟨rfl, by go_grown⟩
def okB (s c g : Int) : Bool := decide (0 ≤ s ∧ s ≤ 2 ∧ 0 ≤ c ∧ c ≤ 16383 ∧ g ≤ 281474976710655 ∧ (s = 0 → c = 0))
theorem okB_t {s c g : Int} (h : okB s c g = true) : 0 ≤ s ∧ s ≤ 2 ∧ 0 ≤ c ∧ c ≤ 16383 ∧ g ≤ 281474976710655 ∧ (s = 0 → c = 0) := of_decide_eq_true h
theorem okB_f {s c g : Int} (h : okB s c g = false) : ¬ (0 ≤ s ∧ s ≤ 2 ∧ 0 ≤ c ∧ c ≤ 16383 ∧ g ≤ 281474976710655 ∧ (s = 0 → c = 0)) := of_decide_eq_false h
theorem right_t_mk (s c g : Int) (w : World) (h : okB s c g = true) :
 Calls Tryz.prog 102 #[.agg #[.int .i64 s, .int .i64 c, .int .u64 g]] w fun e w' => e = .returned (.bool true) ∧ Below w.heap.size w w' := by
 obtain ⟨h1, h2, h3, h4, h5, h6⟩ := okB_t h
 by_cases hs : s = 0
 ·subst hs; exact right_idle c g w (h6 rfl) h5
 ·exact right_work s c g w (by omega) h2 h3 h4 h5
theorem right_f_mk (s c g : Int) (w : World) (h : okB s c g = false) :
 Calls Tryz.prog 102 #[.agg #[.int .i64 s, .int .i64 c, .int .u64 g]] w fun e w' => e = .returned (.bool false) ∧ Below w.heap.size w w' := by
 have h1 := okB_f h
 by_cases ho : s < 0 ∨ 2 < s ∨ (0 ≤ s ∧ s ≤ 2 ∧ 281474976710655 < g)
 ·exact right_out s c g w ho
 ·by_cases hs : s = 0
  ·subst hs; exact right_idle_no c g w (by omega) (by omega)
  ·exact right_work_no s c g w (by omega) (by omega) (by omega) (by omega)
theorem refRight_t_mk (s c g : Int) (w : World) (h : okB s c g = true) :
 Calls Tryz.prog 80 #[.agg #[.int .i64 s, .int .i64 c, .int .u64 g]] w fun e w' => e = .returned (.bool true) ∧ Below w.heap.size w w' := by
 obtain ⟨h1, h2, h3, h4, h5, h6⟩ := okB_t h
 by_cases hs : s = 0
 ·subst hs
  obtain rfl := h6 rfl
  clear h6
  go_enter Tryz.func80, Tryz.ntmps80
  go_wp2
  go_ret
  exact ⟨rfl, by go_grown⟩
 ·clear h6
  have hs1 : 1 ≤ s := by omega
  go_enter Tryz.func80, Tryz.ntmps80
  go_wp2
  go_ret
  exact ⟨rfl, by go_grown⟩
theorem refRight_f_mk (s c g : Int) (w : World) (h : okB s c g = false) :
 Calls Tryz.prog 80 #[.agg #[.int .i64 s, .int .i64 c, .int .u64 g]] w fun e w' => e = .returned (.bool false) ∧ Below w.heap.size w w' := by
 have h1 := okB_f h
 clear h
 by_cases a1 : s < 0
 ·clear h1
  go_enter Tryz.func80, Tryz.ntmps80
  go_wp2
  go_ret
  exact ⟨rfl, by go_grown⟩
 by_cases a2 : 2 < s
 ·clear h1
  go_enter Tryz.func80, Tryz.ntmps80
  go_wp2
  go_ret
  exact ⟨rfl, by go_grown⟩
 by_cases a3 : c < 0
 ·clear h1
  go_enter Tryz.func80, Tryz.ntmps80
  go_wp2
  go_ret
  exact ⟨rfl, by go_grown⟩
 by_cases a4 : 16383 < c
 ·clear h1
  go_enter Tryz.func80, Tryz.ntmps80
  go_wp2
  go_ret
  exact ⟨rfl, by go_grown⟩
 by_cases a5 : 281474976710655 < g
 ·clear h1
  go_enter Tryz.func80, Tryz.ntmps80
  go_wp2
  go_ret
  exact ⟨rfl, by go_grown⟩
 have hs : s = 0 := by omega
 have hc1 : 1 ≤ c := by omega
 clear h1
 subst hs
 go_enter Tryz.func80, Tryz.ntmps80
 go_wp2
 go_ret
 exact ⟨ret_b (by simp; omega), by go_grown⟩
end Go.Proofs.YtdmmbnnejbmdpaaGreatDoor
end
