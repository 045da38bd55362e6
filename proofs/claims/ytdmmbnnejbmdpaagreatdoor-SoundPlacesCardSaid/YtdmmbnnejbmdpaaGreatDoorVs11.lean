/-
  Part of the proof of SoundPlaces.
-/
import Derived.Test.YtdmmbnnejbmdpaaGreatDoorVs26
import Derived.Test.YtdmmbnnejbmdpaaGreatDoorVs3
import Derived.Test.YtdmmbnnejbmdpaaGreatDoorVs8
import Derived.Test.YtdmmbnnejbmdpaaGreatDoorVs0
set_option maxRecDepth 10000
set_option maxHeartbeats 800000
set_option linter.unusedVariables false
set_option linter.unusedSimpArgs false
section
namespace Go.Proofs.YtdmmbnnejbmdpaaGreatDoor
section
variable {P : Program} {L : List Oper} {Q : Exit → Act → World → Prop} {md : Region.Mode} {S : World → Prop} {n : Nat}
theorem takeQ (i : Nat) {o : Oper} {v : Value} {fuel : Nat} {listed l' : Array Bool} {a a' : Act} {w : World} (h : wpAnyH P md L.toArray Q S fuel l' a' w)
 (hi : L[i]? = some o := by rfl)
 (hs : Region.noSelect L.toArray = true := by kernel_rfl) (hf : Region.free md L.toArray listed i = true := by kernel_rfl) (hr : (Region.ready md L.toArray listed).contains i = true := by kernel_rfl)
 (hQ : ∀ c a w, Q (.panic c) (a.put o.dst v) w → Q (.panic c) a w := by (intro _ _ _ h; exact h)) (hw : Region.wanted o (yielded L.toArray a.tmps) = true := by rfl) (hS : S w := by assumption)
 (hy : ∀ w, S w → (execOp a.eval o).run P w = .ok (.value v) w := by (intro w hSw; (try dsimp only at hSw); go_simp <;> with_reducible rfl))
 (ha : a.put o.dst v = a' := by ((try simp only [Act.put,sA,sB,sC]); try rfl))
 (hl : listed.setIfInBounds i true = l' := by ((try simp only [List.setIfInBounds_toArray, List.set_cons_zero, List.set_cons_succ]); try rfl)) : wpAnyH P md L.toArray Q S (fuel + 1) listed a w :=
 takeL i hi hs hf hr hQ hw hS hy (by rw [ha, hl]; exact h)
theorem takeV (i : Nat) {o : Oper} {v : Value} {fuel : Nat} {listed l' : Array Bool} {a a' : Act} {w : World} (h : wpAnyH P md L.toArray Q S fuel l' a' w)
 (hi : L[i]? = some o := by rfl)
 (hs : Region.noSelect L.toArray = true := by kernel_rfl) (hf : Region.free md L.toArray listed i = true := by kernel_rfl) (hr : (Region.ready md L.toArray listed).contains i = true := by kernel_rfl)
 (hQ : ∀ c a w, Q (.panic c) (a.put o.dst v) w → Q (.panic c) a w := by (intro _ _ _ h; exact h)) (hw : Region.wanted o (yielded L.toArray a.tmps) = true := by rfl) (hS : S w := by assumption)
 (hy : ∀ w, S w → (execOp a.eval o).run P w = .ok (.value v) w := by (intro w hSw; (try dsimp only at hSw); (try go_split_ands); go_simp <;> with_reducible rfl))
 (ha : a.put o.dst v = a' := by ((try simp only [Act.put,sA,sB,sC]); try rfl))
 (hl : listed.setIfInBounds i true = l' := by ((try simp only [List.setIfInBounds_toArray, List.set_cons_zero, List.set_cons_succ]); try rfl)) : wpAnyH P md L.toArray Q S (fuel + 1) listed a w :=
 takeL i hi hs hf hr hQ hw hS hy (by rw [ha, hl]; exact h)
theorem takeVS (i : Nat) {o : Oper} {v : Value} {fuel : Nat} {listed l' : Array Bool} {a a' : Act} {w : World} (inv : HeadInv md L.toArray n listed) (h : HeadInv md L.toArray n l' → wpAnyS P md L.toArray Q S n fuel l' a' w)
 (T : TailAt md L.toArray n := by exact (tailAt (by kernel_rfl))) (hin : i < n := by decide)
 (hi : L[i]? = some o := by rfl)
 (hs : Region.noSelect L.toArray = true := by kernel_rfl) (hf : Region.free md L.toArray listed i = true := by kernel_rfl) (hr : (Region.ready md L.toArray listed).contains i = true := by kernel_rfl)
 (hQ : ∀ c a w, Q (.panic c) (a.put o.dst v) w → Q (.panic c) a w := by (intro _ _ _ h; exact h)) (hw : Region.wanted o (yielded L.toArray a.tmps) = true := by rfl) (hS : S w := by assumption)
 (hy : ∀ w, S w → (execOp a.eval o).run P w = .ok (.value v) w := by (intro w hSw; (try dsimp only at hSw); (try go_split_ands); go_simp <;> with_reducible rfl))
 (ha : a.put o.dst v = a' := by ((try simp only [Act.put,sA,sB,sC]); try rfl))
 (hl : listed.setIfInBounds i true = l' := by ((try simp only [List.setIfInBounds_toArray, List.set_cons_zero, List.set_cons_succ]); try rfl)) : wpAnyS P md L.toArray Q S n (fuel + 1) listed a w :=
 takeS i T inv hin hi hs hf hr hQ hw hS hy (fun q => by rw [ha, hl]; exact h (by rw [← hl]; exact q))
theorem idleQ (i : Nat) {o : Oper} {fuel : Nat} {listed l' : Array Bool} {a a' : Act} {w : World} (h : wpAnyH P md L.toArray Q S fuel l' a' w)
 (hi : L[i]? = some o := by rfl)
 (hs : Region.noSelect L.toArray = true := by kernel_rfl) (hf : Region.free md L.toArray listed i = true := by kernel_rfl) (hr : (Region.ready md L.toArray listed).contains i = true := by kernel_rfl)
 (hQ : ∀ c a w, Q (.panic c) (a.put o.dst undef) w → Q (.panic c) a w := by (intro _ _ _ h; exact h)) (hw : Region.wanted o (yielded L.toArray a.tmps) = false := by rfl) (hS : S w := by assumption)
 (ha : a.put o.dst undef = a' := by ((try simp only [Act.put,sA,sB,sC]); try rfl))
 (hl : listed.setIfInBounds i true = l' := by ((try simp only [List.setIfInBounds_toArray, List.set_cons_zero, List.set_cons_succ]); try rfl)) : wpAnyH P md L.toArray Q S (fuel + 1) listed a w :=
 idleL i hi hs hf hr hQ hw hS (by rw [ha, hl]; exact h)
end
end Go.Proofs.YtdmmbnnejbmdpaaGreatDoor
end
section
namespace Go.Proofs.YtdmmbnnejbmdpaaGreatDoor
def isLog (t : List Nat) (lane : Int) (n i : Nat) : Bool := decide (kN (t.getD i 0) = 4) && decide ((lnN (t.getD i 0) : Int) = lane) && decide (mN (t.getD i 0) = n)
def logsN (t : List Nat) (lane : Int) (n m : Nat) : List Nat := (List.range m).filter (isLog t lane n)
def logsR (t : List Nat) (lane : Int) (m : Nat) : List Nat := (List.range m).flatMap fun n => logsN t lane n t.length
def logsT (t : List Nat) (lane : Int) : List Nat := if t.all okN then logsR t lane 8 else []
theorem logsN_succ (t : List Nat) (lane : Int) (n m : Nat) : logsN t lane n (m + 1) = logsN t lane n m ++ (if isLog t lane n m then [m] else []) := by
 unfold logsN; rw [List.range_succ, List.filter_append]
 by_cases h : isLog t lane n m = true <;> simp [h]
theorem logsR_succ (t : List Nat) (lane : Int) (m : Nat) : logsR t lane (m + 1) = logsR t lane m ++ logsN t lane m t.length := by
 unfold logsR; rw [List.range_succ, List.flatMap_append]; simp
theorem logsN_len (t : List Nat) (lane : Int) (n m : Nat) : (logsN t lane n m).length ≤ m := by
 unfold logsN
 have := List.length_filter_le (isLog t lane n) (List.range m)
 rw [List.length_range] at this; exact this
theorem logsR_len (t : List Nat) (lane : Int) : ∀ m, (logsR t lane m).length ≤ m * t.length
 | 0 => by simp [logsR]
 | m + 1 => by
   rw [logsR_succ, List.length_append, Nat.succ_mul]
   have := logsR_len t lane m
   have := logsN_len t lane m t.length
   omega
def keyL (t : List Nat) (x : Nat) : Int := (mN (t.getD x 0) : Nat)
def keyT (t : List Nat) (N : Nat) (x : Nat) : Int := keyL t x * N + x
theorem logsR_srt (t : List Nat) (lane : Int) (N : Nat) (hN : t.length ≤ N) (m : Nat) : (logsR t lane m).Pairwise (fun x y => keyT t N x < keyT t N y) := by
 unfold logsR
 rw [List.pairwise_flatMap]
 constructor
 ·intro n _
  unfold logsN
  rw [List.pairwise_filter]
  refine (List.pairwise_lt_range).imp (fun {x y} h hx hy => ?_)
  unfold isLog at hx hy
  simp only [Bool.and_eq_true, decide_eq_true_eq] at hx hy
  unfold keyT keyL
  rw [hx.2, hy.2]; omega
 ·refine (List.pairwise_lt_range).imp (fun {a b} hab x hx y hy => ?_)
  unfold logsN at hx hy
  rw [List.mem_filter, List.mem_range] at hx hy
  unfold isLog at hx hy
  simp only [Bool.and_eq_true, decide_eq_true_eq] at hx hy
  unfold keyT keyL
  rw [hx.2.2, hy.2.2]
  have h1 : ((a : Int) + 1) * (N : Int) ≤ b * N := Int.mul_le_mul_of_nonneg_right (by omega) (by omega)
  rw [Int.add_mul] at h1
  omega
end Go.Proofs.YtdmmbnnejbmdpaaGreatDoor
end
section
namespace Go.Proofs.YtdmmbnnejbmdpaaGreatDoor
open Go.RowKit
theorem chk_0 (s : Int) (w : World) (ht : Tab w) (h1 : 0 ≤ s) (h2 : s ≤ 2) : Calls Tryz.prog 113 #[.int .i64 s] w fun e w' => e = .returned (.int .i64 0) ∧ w = w' := by
 go_enter Tryz.func113, Tryz.ntmps113
 go_wp2_with (first | (go_at_call 130; ((with_reducible refine (rgt_t s _ (by omega) (by omega)).mono ?_); rintro e w' ⟨rfl, rfl⟩)) | (go_at_call 111; ((with_reducible refine (of_0 s _ ht h1 h2).mono ?_); rintro e w' ⟨rfl, rfl⟩)) | (go_at_call 131; ((with_reducible refine (taken_any s _ (by omega) (by omega)).mono ?_); rintro e w' ⟨rfl, rfl⟩)))
 go_ret
 exact ⟨rfl, rfl⟩
theorem chk_1 (s : Int) (w : World) (ht : Tab w) (h1 : 3 ≤ s) (h2 : s ≤ 6) : Calls Tryz.prog 113 #[.int .i64 s] w fun e w' => e = .returned (.int .i64 0) ∧ w = w' := by
 go_enter Tryz.func113, Tryz.ntmps113
 go_wp2_with (first | (go_at_call 130; ((with_reducible refine (rgt_t s _ (by omega) (by omega)).mono ?_); rintro e w' ⟨rfl, rfl⟩)) | (go_at_call 111; ((with_reducible refine (of_1 s _ ht h1 h2).mono ?_); rintro e w' ⟨rfl, rfl⟩)) | (go_at_call 131; ((with_reducible refine (taken_any s _ (by omega) (by omega)).mono ?_); rintro e w' ⟨rfl, rfl⟩)))
 go_ret
 exact ⟨rfl, rfl⟩
theorem chk_2 (s : Int) (w : World) (ht : Tab w) (h1 : 7 ≤ s) (h2 : s ≤ 14) : Calls Tryz.prog 113 #[.int .i64 s] w fun e w' => e = .returned (.int .i64 0) ∧ w = w' := by
 go_enter Tryz.func113, Tryz.ntmps113
 go_wp2_with (first | (go_at_call 130; ((with_reducible refine (rgt_t s _ (by omega) (by omega)).mono ?_); rintro e w' ⟨rfl, rfl⟩)) | (go_at_call 111; ((with_reducible refine (of_2 s _ ht h1 h2).mono ?_); rintro e w' ⟨rfl, rfl⟩)) | (go_at_call 131; ((with_reducible refine (taken_any s _ (by omega) (by omega)).mono ?_); rintro e w' ⟨rfl, rfl⟩)))
 go_ret
 exact ⟨rfl, rfl⟩
theorem chk_3 (s : Int) (w : World) (ht : Tab w) (h1 : 15 ≤ s) (h2 : s ≤ 4096) : Calls Tryz.prog 113 #[.int .i64 s] w fun e w' => e = .returned (.int .i64 ((s + 33) / 32)) ∧ w = w' := by
 go_enter Tryz.func113, Tryz.ntmps113
 go_wp2_with (first | (go_at_call 130; ((with_reducible refine (rgt_t s _ (by omega) (by omega)).mono ?_); rintro e w' ⟨rfl, rfl⟩)) | (go_at_call 111; ((with_reducible refine (of_3 s _ ht h1 h2).mono ?_); rintro e w' ⟨rfl, rfl⟩)) | (go_at_call 131; ((with_reducible refine (taken_any s _ (by omega) (by omega)).mono ?_); rintro e w' ⟨rfl, rfl⟩)))
 go_ret
 exact ⟨ret_i (by omega), rfl⟩
theorem chk_4 (s : Int) (w : World) (ht : Tab w) (h1 : 4097 ≤ s) : Calls Tryz.prog 113 #[.int .i64 s] w fun e w' => e = .returned (.int .i64 0) ∧ w = w' := by
 go_enter Tryz.func113, Tryz.ntmps113
 go_wp2_with (first | (go_at_call 130; ((with_reducible refine (rgt_f s _ (by omega)).mono ?_); rintro e w' ⟨rfl, rfl⟩)) | (go_at_call 111; ((with_reducible refine (of_4 s _ ht h1).mono ?_); rintro e w' ⟨rfl, rfl⟩)) | (go_at_call 131; ((with_reducible refine (taken_any s _ (by omega) (by omega)).mono ?_); rintro e w' ⟨rfl, rfl⟩)))
 go_ret
 exact ⟨rfl, rfl⟩
theorem chk_5 (s : Int) (w : World) (ht : Tab w) (h1 : s ≤ -1) : Calls Tryz.prog 113 #[.int .i64 s] w fun e w' => e = .returned (.int .i64 0) ∧ w = w' := by
 go_enter Tryz.func113, Tryz.ntmps113
 go_wp2_with (first | (go_at_call 130; ((with_reducible refine (rgt_f s _ (by omega)).mono ?_); rintro e w' ⟨rfl, rfl⟩)) | (go_at_call 111; ((with_reducible refine (of_5 s _ ht h1).mono ?_); rintro e w' ⟨rfl, rfl⟩)) | (go_at_call 131; ((with_reducible refine (taken_any s _ (by omega) (by omega)).mono ?_); rintro e w' ⟨rfl, rfl⟩)))
 go_ret
 exact ⟨rfl, rfl⟩
theorem rom_0 (s : Int) (w : World) (ht : Tab w) (h1 : 0 ≤ s) (h2 : s ≤ 2) : Calls Tryz.prog 87 #[.int .i64 s] w fun e w' => e = .returned (.int .i64 4) ∧ w = w' := by
 go_enter Tryz.func87, Tryz.ntmps87
 go_wp2_with (first | (go_at_call 111; ((with_reducible refine (of_0 s _ ht h1 h2).mono ?_); rintro e w' ⟨rfl, rfl⟩)) | (go_at_call 113; ((with_reducible refine (chk_0 s _ ht h1 h2).mono ?_); rintro e w' ⟨rfl, rfl⟩)) | (go_at_call 112; ((with_reducible refine (blk_0 0 _ ht rfl).mono ?_); rintro e w' ⟨rfl, rfl⟩)))
 go_ret
 exact ⟨rfl, rfl⟩
theorem rom_1 (s : Int) (w : World) (ht : Tab w) (h1 : 3 ≤ s) (h2 : s ≤ 6) : Calls Tryz.prog 87 #[.int .i64 s] w fun e w' => e = .returned (.int .i64 8) ∧ w = w' := by
 go_enter Tryz.func87, Tryz.ntmps87
 go_wp2_with (first | (go_at_call 111; ((with_reducible refine (of_1 s _ ht h1 h2).mono ?_); rintro e w' ⟨rfl, rfl⟩)) | (go_at_call 113; ((with_reducible refine (chk_1 s _ ht h1 h2).mono ?_); rintro e w' ⟨rfl, rfl⟩)) | (go_at_call 112; ((with_reducible refine (blk_1 1 _ ht rfl).mono ?_); rintro e w' ⟨rfl, rfl⟩)))
 go_ret
 exact ⟨rfl, rfl⟩
theorem rom_2 (s : Int) (w : World) (ht : Tab w) (h1 : 7 ≤ s) (h2 : s ≤ 14) : Calls Tryz.prog 87 #[.int .i64 s] w fun e w' => e = .returned (.int .i64 16) ∧ w = w' := by
 go_enter Tryz.func87, Tryz.ntmps87
 go_wp2_with (first | (go_at_call 111; ((with_reducible refine (of_2 s _ ht h1 h2).mono ?_); rintro e w' ⟨rfl, rfl⟩)) | (go_at_call 113; ((with_reducible refine (chk_2 s _ ht h1 h2).mono ?_); rintro e w' ⟨rfl, rfl⟩)) | (go_at_call 112; ((with_reducible refine (blk_2 2 _ ht rfl).mono ?_); rintro e w' ⟨rfl, rfl⟩)))
 go_ret
 exact ⟨rfl, rfl⟩
theorem rom_3 (s : Int) (w : World) (ht : Tab w) (h1 : 15 ≤ s) (h2 : s ≤ 4096) : Calls Tryz.prog 87 #[.int .i64 s] w fun e w' => e = .returned (.int .i64 ((s + 33) / 32 * 32)) ∧ w = w' := by
 go_enter Tryz.func87, Tryz.ntmps87
 go_wp2_with (first | (go_at_call 111; ((with_reducible refine (of_3 s _ ht h1 h2).mono ?_); rintro e w' ⟨rfl, rfl⟩)) | (go_at_call 113; ((with_reducible refine (chk_3 s _ ht h1 h2).mono ?_); rintro e w' ⟨rfl, rfl⟩)))
 go_ret
 exact ⟨rfl, rfl⟩
theorem rom_4 (s : Int) (w : World) (ht : Tab w) (h1 : 4097 ≤ s) : Calls Tryz.prog 87 #[.int .i64 s] w fun e w' => e = .returned (.int .i64 0) ∧ w = w' := by
 go_enter Tryz.func87, Tryz.ntmps87
 go_wp2_with (first | (go_at_call 111; ((with_reducible refine (of_4 s _ ht h1).mono ?_); rintro e w' ⟨rfl, rfl⟩)) | (go_at_call 113; ((with_reducible refine (chk_4 s _ ht h1).mono ?_); rintro e w' ⟨rfl, rfl⟩)))
 go_ret
 exact ⟨rfl, rfl⟩
theorem rom_5 (s : Int) (w : World) (ht : Tab w) (h1 : s ≤ -1) : Calls Tryz.prog 87 #[.int .i64 s] w fun e w' => e = .returned (.int .i64 0) ∧ w = w' := by
 go_enter Tryz.func87, Tryz.ntmps87
 go_wp2_with (first | (go_at_call 111; ((with_reducible refine (of_5 s _ ht h1).mono ?_); rintro e w' ⟨rfl, rfl⟩)) | (go_at_call 113; ((with_reducible refine (chk_5 s _ ht h1).mono ?_); rintro e w' ⟨rfl, rfl⟩)))
 go_ret
 exact ⟨rfl, rfl⟩
def romJ (s : Int) : Int := if s < 0 then 0 else if s ≤ 2 then 4 else if s ≤ 6 then 8 else if s ≤ 14 then 16 else if s ≤ 4096 then (s + 33) / 32 * 32 else 0
theorem rom_any (s : Int) (w : World) (ht : Tab w) : Calls Tryz.prog 87 #[.int .i64 s] w fun e w' => e = .returned (.int .i64 (romJ s)) ∧ w = w' := by
 by_cases a1 : s < 0
 ·rw [show romJ s = 0 by simp [romJ, a1]]; exact rom_5 s w ht (by omega)
 by_cases a2 : s ≤ 2
 ·rw [show romJ s = 4 by simp [romJ, a1, a2]]; exact rom_0 s w ht (by omega) a2
 by_cases a3 : s ≤ 6
 ·rw [show romJ s = 8 by simp [romJ, a1, a2, a3]]; exact rom_1 s w ht (by omega) a3
 by_cases a5 : s ≤ 14
 ·rw [show romJ s = 16 by simp [romJ, a1, a2, a3, a5]]; exact rom_2 s w ht (by omega) a5
 by_cases a6 : s ≤ 4096
 ·rw [show romJ s = (s + 33) / 32 * 32 by simp [romJ, a1, a2, a3, a5, a6]]; exact rom_3 s w ht (by omega) a6
 ·rw [show romJ s = 0 by simp [romJ, a1, a2, a3, a5, a6]]; exact rom_4 s w ht (by omega)
end Go.Proofs.YtdmmbnnejbmdpaaGreatDoor
end
