/-
  Part of the proof of JournalUndo.
-/
import Derived.Test.YtkkbngcgphlikaaGreatDoorJu7
import Derived.BigQuiet
import Derived.Test.YtkkbngcgphlikaaGreatDoorJu0
set_option maxRecDepth 10000
set_option maxHeartbeats 400000
set_option linter.unusedVariables false
set_option linter.unusedSimpArgs false
section
namespace Go.Proofs.YtkkbngcgphlikaaGreatDoor
section
variable {P : Program} {L : List Oper} {Q : Exit → Act → World → Prop} {md : Region.Mode} {S : World → Prop} {n : Nat}
theorem takeQ (i : Nat) {o : Oper} {v : Value} {fuel : Nat} {listed l' : Array Bool} {a a' : Act} {w : World} (h : wpAnyH P md L.toArray Q S fuel l' a' w)
 (hi : L[i]? = some o := by rfl)
 (hs : Region.noSelect L.toArray = true := by kernel_rfl) (hf : Region.free md L.toArray listed i = true := by kernel_rfl) (hr : (Region.ready md L.toArray listed).contains i = true := by kernel_rfl)
 (hQ : ∀ c a w, Q (.panic c) (a.put o.dst v) w → Q (.panic c) a w := by (intro _ _ _ h; exact h)) (hw : Region.wanted o (yielded L.toArray a.tmps) = true := by rfl) (hS : S w := by assumption)
 (hy : ∀ w, S w → (execOp a.eval o).run P w = .ok (.value v) w := by (intro w hSw; (try dsimp only at hSw); go_simp <;> with_reducible rfl))
 (ha : a.put o.dst v = a' := by ((try simp only [Act.put,sA,sB,sC]); try rfl))
 (hl : listed.setIfInBounds i true = l' := by ((try simp only [List.setIfInBounds_toArray, List.set_cons_zero, List.set_cons_succ]); try rfl)) : wpAnyH P md L.toArray Q S (fuel + 1) listed a w :=
 takeL i hi hs hf hr hQ hw hS hy (by rw [ha, hl]; exact h)
theorem takeV (i : Nat) {o : Oper} {v : Value} {fuel : Nat} {listed l' : Array Bool} {a a' : Act} {w : World} (h : wpAnyH P md L.toArray Q S fuel l' a' w)
 (hi : L[i]? = some o := by rfl)
 (hs : Region.noSelect L.toArray = true := by kernel_rfl) (hf : Region.free md L.toArray listed i = true := by kernel_rfl) (hr : (Region.ready md L.toArray listed).contains i = true := by kernel_rfl)
 (hQ : ∀ c a w, Q (.panic c) (a.put o.dst v) w → Q (.panic c) a w := by (intro _ _ _ h; exact h)) (hw : Region.wanted o (yielded L.toArray a.tmps) = true := by rfl) (hS : S w := by assumption)
 (hy : ∀ w, S w → (execOp a.eval o).run P w = .ok (.value v) w := by (intro w hSw; (try dsimp only at hSw); (try go_split_ands); go_simp <;> with_reducible rfl))
 (ha : a.put o.dst v = a' := by ((try simp only [Act.put,sA,sB,sC]); try rfl))
 (hl : listed.setIfInBounds i true = l' := by ((try simp only [List.setIfInBounds_toArray, List.set_cons_zero, List.set_cons_succ]); try rfl)) : wpAnyH P md L.toArray Q S (fuel + 1) listed a w :=
 takeL i hi hs hf hr hQ hw hS hy (by rw [ha, hl]; exact h)
theorem takeVS (i : Nat) {o : Oper} {v : Value} {fuel : Nat} {listed l' : Array Bool} {a a' : Act} {w : World} (inv : HeadInv md L.toArray n listed) (h : HeadInv md L.toArray n l' → wpAnyS P md L.toArray Q S n fuel l' a' w)
 (T : TailAt md L.toArray n := by exact (tailAt (by kernel_rfl))) (hin : i < n := by decide)
 (hi : L[i]? = some o := by rfl)
 (hs : Region.noSelect L.toArray = true := by kernel_rfl) (hf : Region.free md L.toArray listed i = true := by kernel_rfl) (hr : (Region.ready md L.toArray listed).contains i = true := by kernel_rfl)
 (hQ : ∀ c a w, Q (.panic c) (a.put o.dst v) w → Q (.panic c) a w := by (intro _ _ _ h; exact h)) (hw : Region.wanted o (yielded L.toArray a.tmps) = true := by rfl) (hS : S w := by assumption)
 (hy : ∀ w, S w → (execOp a.eval o).run P w = .ok (.value v) w := by (intro w hSw; (try dsimp only at hSw); (try go_split_ands); go_simp <;> with_reducible rfl))
 (ha : a.put o.dst v = a' := by ((try simp only [Act.put,sA,sB,sC]); try rfl))
 (hl : listed.setIfInBounds i true = l' := by ((try simp only [List.setIfInBounds_toArray, List.set_cons_zero, List.set_cons_succ]); try rfl)) : wpAnyS P md L.toArray Q S n (fuel + 1) listed a w :=
 takeS i T inv hin hi hs hf hr hQ hw hS hy (fun q => by rw [ha, hl]; exact h (by rw [← hl]; exact q))
theorem takeU (i : Nat) {o : Oper} {v : Value} {fuel : Nat} {listed l' : Array Bool} {a a' : Act} {w : World} (h : wpAnyH P md L.toArray Q S fuel l' a' w)
 (hi : L[i]? = some o := by rfl)
 (hs : Region.noSelect L.toArray = true := by kernel_rfl) (hf : Region.free md L.toArray listed i = true := by kernel_rfl) (hr : (Region.ready md L.toArray listed).contains i = true := by kernel_rfl)
 (hQ : ∀ c a w, Q (.panic c) (a.put o.dst v) w → Q (.panic c) a w := by (intro _ _ _ h; exact h)) (hw : Region.wanted o (yielded L.toArray a.tmps) = true := by rfl) (hS : S w := by assumption)
 (hy : ∀ w, S w → (execOp a.eval o).run P w = .ok (.value v) w := by (intro w hSw; (subst hSw); go_simp <;> with_reducible rfl))
 (ha : a.put o.dst v = a' := by ((try simp only [Act.put,sA,sB,sC]); try rfl))
 (hl : listed.setIfInBounds i true = l' := by ((try simp only [List.setIfInBounds_toArray, List.set_cons_zero, List.set_cons_succ]); try rfl)) : wpAnyH P md L.toArray Q S (fuel + 1) listed a w :=
 takeL i hi hs hf hr hQ hw hS hy (by rw [ha, hl]; exact h)
theorem takeUS (i : Nat) {o : Oper} {v : Value} {fuel : Nat} {listed l' : Array Bool} {a a' : Act} {w : World} (inv : HeadInv md L.toArray n listed) (h : HeadInv md L.toArray n l' → wpAnyS P md L.toArray Q S n fuel l' a' w)
 (T : TailAt md L.toArray n := by exact (tailAt (by kernel_rfl))) (hin : i < n := by decide)
 (hi : L[i]? = some o := by rfl)
 (hs : Region.noSelect L.toArray = true := by kernel_rfl) (hf : Region.free md L.toArray listed i = true := by kernel_rfl) (hr : (Region.ready md L.toArray listed).contains i = true := by kernel_rfl)
 (hQ : ∀ c a w, Q (.panic c) (a.put o.dst v) w → Q (.panic c) a w := by (intro _ _ _ h; exact h)) (hw : Region.wanted o (yielded L.toArray a.tmps) = true := by rfl) (hS : S w := by assumption)
 (hy : ∀ w, S w → (execOp a.eval o).run P w = .ok (.value v) w := by (intro w hSw; (subst hSw); go_simp <;> with_reducible rfl))
 (ha : a.put o.dst v = a' := by ((try simp only [Act.put,sA,sB,sC]); try rfl))
 (hl : listed.setIfInBounds i true = l' := by ((try simp only [List.setIfInBounds_toArray, List.set_cons_zero, List.set_cons_succ]); try rfl)) : wpAnyS P md L.toArray Q S n (fuel + 1) listed a w :=
 takeS i T inv hin hi hs hf hr hQ hw hS hy (fun q => by rw [ha, hl]; exact h (by rw [← hl]; exact q))
theorem idleQ (i : Nat) {o : Oper} {fuel : Nat} {listed l' : Array Bool} {a a' : Act} {w : World} (h : wpAnyH P md L.toArray Q S fuel l' a' w)
 (hi : L[i]? = some o := by rfl)
 (hs : Region.noSelect L.toArray = true := by kernel_rfl) (hf : Region.free md L.toArray listed i = true := by kernel_rfl) (hr : (Region.ready md L.toArray listed).contains i = true := by kernel_rfl)
 (hQ : ∀ c a w, Q (.panic c) (a.put o.dst undef) w → Q (.panic c) a w := by (intro _ _ _ h; exact h)) (hw : Region.wanted o (yielded L.toArray a.tmps) = false := by rfl) (hS : S w := by assumption)
 (ha : a.put o.dst undef = a' := by ((try simp only [Act.put,sA,sB,sC]); try rfl))
 (hl : listed.setIfInBounds i true = l' := by ((try simp only [List.setIfInBounds_toArray, List.set_cons_zero, List.set_cons_succ]); try rfl)) : wpAnyH P md L.toArray Q S (fuel + 1) listed a w :=
 idleL i hi hs hf hr hQ hw hS (by rw [ha, hl]; exact h)
end
end Go.Proofs.YtkkbngcgphlikaaGreatDoor
end
section
namespace Go.Proofs.YtkkbngcgphlikaaGreatDoor
open Go.RowKit
theorem end_any (s c g : Int) (w : World) :
 Calls Tryz.prog 72 #[.agg #[.int .i64 s, .int .i64 c, .int .u64 g]] w fun e w' => e = .returned (.agg #[.int .i64 0, .int .i64 0, .int .u64 g]) ∧ Below w.heap.size w w' := by
 go_enter Tryz.func72, Tryz.ntmps72
 go_wp2
 go_returns
 exact ⟨rfl, by go_grown⟩
theorem right_idle (c g : Int) (w : World) (hc : c = 0) (hg : g ≤ 281474976710655) :
 Calls Tryz.prog 166 #[.agg #[.int .i64 0, .int .i64 c, .int .u64 g]] w fun e w' => e = .returned (.bool true) ∧ Below w.heap.size w w' := by
 subst hc
 go_enter Tryz.func166, Tryz.ntmps166
 go_wp2
 go_region_held3 (fun w' => w'.cell? ⟨w.heap.size, 0, none⟩ = some (.int .i64 0) ∧ w'.cell? ⟨w.heap.size, 1, none⟩ = some (.int .i64 0) ∧ w'.cell? ⟨w.heap.size, 2, none⟩ = some (.int .u64 g) ∧ w.heap.size < w'.heap.size ∧ Below w.heap.size w w')
  (((try go_split_ands); refine ⟨?_, ?_, ?_, ?_, ?_⟩ <;> first
    | (rw [hb.cell (by assumption)]; assumption) | (have := hb.size; omega) | (exact Below.trans (by assumption) (hb.mono (Nat.le_of_lt (by assumption))))
    | (go_keep; done) | (go_grown; done)))
  ((go_at_call 72; refine (end_any _ _ _ _).mono ?_; rintro e w2 ⟨rfl, hb⟩))
 go_wp2
 go_ret
 go_split_ands
 exact ⟨rfl, by assumption⟩
theorem right_idle_no (c g : Int) (w : World) (hc : c ≠ 0) (hg : g ≤ 281474976710655) :
 Calls Tryz.prog 166 #[.agg #[.int .i64 0, .int .i64 c, .int .u64 g]] w fun e w' => e = .returned (.bool false) ∧ Below w.heap.size w w' := by
 go_enter Tryz.func166, Tryz.ntmps166
 go_wp2
 have hc1 : (c == 0) = false := by simpa using hc
 go_region_held3 (fun w' => w'.cell? ⟨w.heap.size, 0, none⟩ = some (.int .i64 0) ∧ w'.cell? ⟨w.heap.size, 1, none⟩ = some (.int .i64 c) ∧ w'.cell? ⟨w.heap.size, 2, none⟩ = some (.int .u64 g) ∧ w.heap.size < w'.heap.size ∧ Below w.heap.size w w')
  (((try go_split_ands); refine ⟨?_, ?_, ?_, ?_, ?_⟩ <;> first
    | (rw [hb.cell (by assumption)]; assumption) | (have := hb.size; omega) | (exact Below.trans (by assumption) (hb.mono (Nat.le_of_lt (by assumption))))
    | (go_keep; done) | (go_grown; done)))
  ((go_at_call 72; refine (end_any _ _ _ _).mono ?_; rintro e w2 ⟨rfl, hb⟩))
 go_wp2
 go_ret
 go_split_ands
 exact ⟨rfl, by assumption⟩
theorem right_work (s c g : Int) (w : World) (hs : 1 ≤ s) (hs2 : s ≤ 2) (hc : 0 ≤ c) (hc2 : c ≤ 16383) (hg : g ≤ 281474976710655) :
 Calls Tryz.prog 166 #[.agg #[.int .i64 s, .int .i64 c, .int .u64 g]] w fun e w' => e = .returned (.bool true) ∧ Below w.heap.size w w' := by
 go_enter Tryz.func166, Tryz.ntmps166
 go_wp2
 go_ret
 exact ⟨rfl, by go_grown⟩
theorem right_work_no (s c g : Int) (w : World) (hs : 1 ≤ s) (hs2 : s ≤ 2) (hc : c < 0 ∨ 16383 < c) (hg : g ≤ 281474976710655) :
 Calls Tryz.prog 166 #[.agg #[.int .i64 s, .int .i64 c, .int .u64 g]] w fun e w' => e = .returned (.bool false) ∧ Below w.heap.size w w' := by
 rcases hc with hc | hc
 ·go_enter Tryz.func166, Tryz.ntmps166
  go_wp2
  go_ret
  exact ⟨rfl, by go_grown⟩
 go_enter Tryz.func166, Tryz.ntmps166
 go_wp2
 go_ret
 exact ⟨ret_b (by simp; omega), by go_grown⟩
theorem right_out (s c g : Int) (w : World) (h : s < 0 ∨ 2 < s ∨ (0 ≤ s ∧ s ≤ 2 ∧ 281474976710655 < g)) :
 Calls Tryz.prog 166 #[.agg #[.int .i64 s, .int .i64 c, .int .u64 g]] w fun e w' => e = .returned (.bool false) ∧ Below w.heap.size w w' := by
 rcases h with h | h | ⟨h, h2, h3⟩
 ·go_enter Tryz.func166, Tryz.ntmps166
  go_wp2
  go_ret
  exact ⟨rfl, by go_grown⟩
 ·go_enter Tryz.func166, Tryz.ntmps166
  go_wp2
  go_ret
  exact ⟨rfl, by go_grown⟩
 go_enter Tryz.func166, Tryz.ntmps166
 go_wp2
 go_ret
 exact ⟨rfl, by go_grown⟩
def okB (s c g : Int) : Bool := decide (0 ≤ s ∧ s ≤ 2 ∧ 0 ≤ c ∧ c ≤ 16383 ∧ g ≤ 281474976710655 ∧ (s = 0 → c = 0))
theorem okB_t {s c g : Int} (h : okB s c g = true) : 0 ≤ s ∧ s ≤ 2 ∧ 0 ≤ c ∧ c ≤ 16383 ∧ g ≤ 281474976710655 ∧ (s = 0 → c = 0) := of_decide_eq_true h
theorem okB_f {s c g : Int} (h : okB s c g = false) : ¬ (0 ≤ s ∧ s ≤ 2 ∧ 0 ≤ c ∧ c ≤ 16383 ∧ g ≤ 281474976710655 ∧ (s = 0 → c = 0)) := of_decide_eq_false h
theorem right_t_mk (s c g : Int) (w : World) (h : okB s c g = true) :
 Calls Tryz.prog 166 #[.agg #[.int .i64 s, .int .i64 c, .int .u64 g]] w fun e w' => e = .returned (.bool true) ∧ Below w.heap.size w w' := by
 obtain ⟨h1, h2, h3, h4, h5, h6⟩ := okB_t h
 by_cases hs : s = 0
 ·subst hs; exact right_idle c g w (h6 rfl) h5
 exact right_work s c g w (by omega) h2 h3 h4 h5
theorem right_f_mk (s c g : Int) (w : World) (h : okB s c g = false) :
 Calls Tryz.prog 166 #[.agg #[.int .i64 s, .int .i64 c, .int .u64 g]] w fun e w' => e = .returned (.bool false) ∧ Below w.heap.size w w' := by
 have h1 := okB_f h
 by_cases ho : s < 0 ∨ 2 < s ∨ (0 ≤ s ∧ s ≤ 2 ∧ 281474976710655 < g)
 ·exact right_out s c g w ho
 by_cases hs : s = 0
 ·subst hs; exact right_idle_no c g w (by omega) (by omega)
 exact right_work_no s c g w (by omega) (by omega) (by omega) (by omega)
end Go.Proofs.YtkkbngcgphlikaaGreatDoor
end
