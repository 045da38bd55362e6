/-
  Part of the proof of SoundPlaces.
-/
import Derived.Test.YtdmmbnnejbmdpaaGreatDoorVs1
import Derived.Test.YtdmmbnnejbmdpaaGreatDoorVs11
import Derived.Test.YtdmmbnnejbmdpaaGreatDoorVs2
import Derived.Test.YtdmmbnnejbmdpaaGreatDoorVs6
import Derived.Test.YtdmmbnnejbmdpaaGreatDoorVs8
import Derived.Deep.RegionHeld3
import Derived.Lib.Hide
import Derived.OwnWalkIn
import Derived.StillTail
import Derived.BigRegion
import Derived.Test.YtdmmbnnejbmdpaaGreatDoorVs0
set_option maxRecDepth 10000
set_option maxHeartbeats 1000000
set_option linter.unusedVariables false
set_option linter.unusedSimpArgs false
section
namespace Go.Proofs.YtdmmbnnejbmdpaaGreatDoor
section
variable {P : Program} {L : List Oper} {Q : Exit → Act → World → Prop} {md : Region.Mode} {S : World → Prop} {n : Nat}
theorem takeH (i : Nat) {o : Oper} {v : Value} {fuel : Nat} {listed l' : Array Bool} {a a' : Act} {w : World} (h : wpAnyH P md L.toArray Q S fuel l' a' w)
 (hi : L[i]? = some o := by rfl)
 (hs : Region.noSelect L.toArray = true := by kernel_rfl) (hf : Region.free md L.toArray listed i = true := by kernel_rfl) (hr : (Region.ready md L.toArray listed).contains i = true := by kernel_rfl)
 (hQ : ∀ c a w, Q (.panic c) (a.put o.dst v) w → Q (.panic c) a w := by (intro _ _ _ h; exact h)) (hw : Region.wanted o (yielded L.toArray a.tmps) = true := by rfl) (hS : S w := by assumption)
 (hy : ∀ w, S w → (execOp a.eval o).run P w = .ok (.value v) w := by (intro w hSw; (try dsimp only at hSw); have zz := hCF.out _ hSw; (try go_split_ands); go_simp <;> with_reducible rfl))
 (ha : a.put o.dst v = a' := by ((try simp only [Act.put,sA,sB,sC]); try rfl))
 (hl : listed.setIfInBounds i true = l' := by ((try simp only [List.setIfInBounds_toArray, List.set_cons_zero, List.set_cons_succ]); try rfl)) : wpAnyH P md L.toArray Q S (fuel + 1) listed a w :=
 takeL i hi hs hf hr hQ hw hS hy (by rw [ha, hl]; exact h)
theorem takeHS (i : Nat) {o : Oper} {v : Value} {fuel : Nat} {listed l' : Array Bool} {a a' : Act} {w : World} (inv : HeadInv md L.toArray n listed) (h : HeadInv md L.toArray n l' → wpAnyS P md L.toArray Q S n fuel l' a' w)
 (T : TailAt md L.toArray n := by exact (tailAt (by kernel_rfl))) (hin : i < n := by decide)
 (hi : L[i]? = some o := by rfl)
 (hs : Region.noSelect L.toArray = true := by kernel_rfl) (hf : Region.free md L.toArray listed i = true := by kernel_rfl) (hr : (Region.ready md L.toArray listed).contains i = true := by kernel_rfl)
 (hQ : ∀ c a w, Q (.panic c) (a.put o.dst v) w → Q (.panic c) a w := by (intro _ _ _ h; exact h)) (hw : Region.wanted o (yielded L.toArray a.tmps) = true := by rfl) (hS : S w := by assumption)
 (hy : ∀ w, S w → (execOp a.eval o).run P w = .ok (.value v) w := by (intro w hSw; (try dsimp only at hSw); have zz := hCF.out _ hSw; (try go_split_ands); go_simp <;> with_reducible rfl))
 (ha : a.put o.dst v = a' := by ((try simp only [Act.put,sA,sB,sC]); try rfl))
 (hl : listed.setIfInBounds i true = l' := by ((try simp only [List.setIfInBounds_toArray, List.set_cons_zero, List.set_cons_succ]); try rfl)) : wpAnyS P md L.toArray Q S n (fuel + 1) listed a w :=
 takeS i T inv hin hi hs hf hr hQ hw hS hy (fun q => by rw [ha, hl]; exact h (by rw [← hl]; exact q))
end
end Go.Proofs.YtdmmbnnejbmdpaaGreatDoor
end
section

namespace Go.Proofs.YtdmmbnnejbmdpaaGreatDoor
open Go.RowKit Go.ChangeShapes Go.WideShapes Go.Deep
def eI (x : Nat) : List Value := [.int .i64 (x : Nat)]
theorem eI_len (x : Nat) : (eI x).length = 1 := rfl
theorem infoI : (Tryz.prog.info? 3).map (fun i => (i.zero, i.size, i.bytes)) = some (some (.int .i64 0), 1, 8) := by kernel_rfl
theorem iT : ElT Tryz.prog 86 3 1 8 eI :=
 ⟨Tryz.underlying86, by obtain ⟨i0, h1, h2, h3, h4⟩ := info_parts infoI; exact ⟨i0, _, h1, h2, h3, h4, rfl⟩, eI_len, fun x u hu => by simp only [eI, List.mem_singleton] at hu; subst hu; rfl, by decide, by decide⟩
abbrev IKO (w : World) (base : Nat) (v : Value) (l : List Nat) : Prop := OwnE 3 1 eI w base v l
end Go.Proofs.YtdmmbnnejbmdpaaGreatDoor
end
section
namespace Go.Proofs.YtdmmbnnejbmdpaaGreatDoor
open Go.RowKit
def Deb (w : World) : Prop := ∀ i, i < 64 → w.cell? ⟨6, i, none⟩ = some (.int .u8 (debTab.getD i 0))
theorem Deb.keep {W w1 : World} {n : Nat} (h : Deb W) (hb : Below n W w1) (hn : 6 < n) : Deb w1 := fun i hi => by
 rw [hb.cell (p := ⟨6, i, none⟩) hn]; exact h i hi
theorem tz_idx (x a : Nat) (hx : x < 18446744073709551616) (hx0 : x ≠ 0) (hlow : x &&& (2 ^ 64 - x) = a) :
 IntKind.u64.wrap (bits BinOp.and IntKind.u64 (x : Int) (IntKind.u64.wrap (-(x : Int))) * 285870213051353865) / 288230376151711744 = ((a * 285870213051353865 % 18446744073709551616 / 288230376151711744 : Nat) : Int) := by
 have e1 : IntKind.u64.wrap (-(x : Int)) = ((2 ^ 64 - x : Nat) : Int) := by rw [IntKind.wrap_u64]; omega
 rw [e1, u64_and_nat x _ hx (by omega), hlow, IntKind.wrap_u64]
 omega
theorem tz_walk (x k idx : Nat) (w : World) (hx0 : ((x : Int) == 0) = false)
 (key : IntKind.u64.wrap (bits BinOp.and IntKind.u64 (x : Int) (IntKind.u64.wrap (-(x : Int))) * 285870213051353865) / 288230376151711744 = (idx : Int))
 (hi : idx < 64) (hk : k < 64) (hcell : w.cell? ⟨6, idx, none⟩ = some (.int .u8 k)) :
 Calls Tryz.prog 139 #[.int .u64 x] w fun e w' => e = .returned (.int .i64 k) ∧ w = w' := by
 go_enter Tryz.func139, Tryz.ntmps139
 go_wp2_with (simp only [key])
 go_ret
 exact ⟨rfl, rfl⟩
theorem tz_any (t m : Nat) (w : World) (h : 2 ^ t * (2 * m + 1) < 2 ^ 64) (hd : Deb w) :
 Calls Tryz.prog 139 #[.int .u64 (((2 ^ t * (2 * m + 1) : Nat) : Int))] w fun e w' => e = .returned (.int .i64 t) ∧ w = w' := by
 have ht := tz_lt t m h
 have hp := Nat.pow_pos (n := t) (a := 2) (by omega)
 have h0 : 0 < 2 ^ t * (2 * m + 1) := Nat.mul_pos hp (by omega)
 have hlt : 2 ^ t * 285870213051353865 % 18446744073709551616 / 288230376151711744 < 64 := Nat.div_lt_of_lt_mul (Nat.lt_of_lt_of_le (Nat.mod_lt _ (by decide)) (by decide))
 have hc := hd _ hlt
 rw [show debTab.getD (2 ^ t * 285870213051353865 % 18446744073709551616 / 288230376151711744) 0 = t from deb_all ⟨t, ht⟩] at hc
 have hna := neg_and t m h
 generalize 2 ^ t * (2 * m + 1) = x at *
 exact tz_walk x t _ w (by simp; omega) (tz_idx x (2 ^ t) (by omega) (by omega) hna) hlt ht hc
end Go.Proofs.YtdmmbnnejbmdpaaGreatDoor
end
section
namespace Go.Proofs.YtdmmbnnejbmdpaaGreatDoor
open Go.RowKit
theorem ret_uu {a b c d : Int} (h : a = b) (h' : c = d) : Ending.returned (.tuple #[.int .u64 a, .int .i64 c]) = .returned (.tuple #[.int .u64 b, .int .i64 d]) := by rw [h, h']
theorem get_stage (x : Int) (w : World) (h0 : 0 ≤ x) (h1 : x < 18446744073709551616) :
 Calls Tryz.prog 101 #[.int .u64 x, .int .i64 0, .int .i64 2] w fun e w' => e = .returned (.int .u64 (x % 4)) ∧ w = w' := by
 refine (get_yes x 0 2 w h0 h1 (by omega) (by omega) (by omega) (by omega)).mono ?_
 rintro e w' ⟨rfl, rfl⟩
 refine ⟨?_, rfl⟩
 obtain ⟨X, rfl⟩ := Int.eq_ofNat_of_zero_le h0
 simp [getI, getN]
theorem get_count (x : Int) (w : World) (h0 : 0 ≤ x) (h1 : x < 18446744073709551616) :
 Calls Tryz.prog 101 #[.int .u64 x, .int .i64 2, .int .i64 14] w fun e w' => e = .returned (.int .u64 (x / 4 % 16384)) ∧ w = w' := by
 refine (get_yes x 2 14 w h0 h1 (by omega) (by omega) (by omega) (by omega)).mono ?_
 rintro e w' ⟨rfl, rfl⟩
 refine ⟨?_, rfl⟩
 obtain ⟨X, rfl⟩ := Int.eq_ofNat_of_zero_le h0
 simp [getI, getN]
theorem get_gen (x : Int) (w : World) (h0 : 0 ≤ x) (h1 : x < 18446744073709551616) :
 Calls Tryz.prog 101 #[.int .u64 x, .int .i64 16, .int .i64 48] w fun e w' => e = .returned (.int .u64 (x / 65536)) ∧ w = w' := by
 refine (get_yes x 16 48 w h0 h1 (by omega) (by omega) (by omega) (by omega)).mono ?_
 rintro e w' ⟨rfl, rfl⟩
 refine ⟨?_, rfl⟩
 obtain ⟨X, rfl⟩ := Int.eq_ofNat_of_zero_le h0
 have e : X / 65536 % 281474976710656 = X / 65536 := Nat.mod_eq_of_lt (by omega)
 simp [getI, getN, e]
theorem refEncode_t (s c g : Int) (w : World) (h : okB s c g = true) (hg : 0 ≤ g) :
 Calls Tryz.prog 56 #[.agg #[.int .i64 s, .int .i64 c, .int .u64 g]] w fun e w' => e = .returned (.tuple #[.int .u64 (s + c * 4 + g * 65536), .int .i64 0]) ∧ Below w.heap.size w w' := by
 obtain ⟨h1, h2, h3, h4, h5, h6⟩ := okB_t h
 clear h6
 have H := lh h
 clear h
 go_enter Tryz.func56, Tryz.ntmps56
 go_wp2_with fail
 refine (refRight_t_mk _ _ _ _ H.out).mono ?_
 rintro e w1 ⟨rfl, hb⟩
 obtain ⟨hc, hf⟩ := bcell hb
 go_wp2_with fail
 go_ret2
 exact ⟨ret_uu (by omega) rfl, (bZ _ _).trans (hb.mono (by simp))⟩
theorem refEncode_f (s c g : Int) (w : World) (h : okB s c g = false) :
 Calls Tryz.prog 56 #[.agg #[.int .i64 s, .int .i64 c, .int .u64 g]] w fun e w' => e = .returned (.tuple #[.int .u64 0, .int .i64 1]) ∧ Below w.heap.size w w' := by
 have H := lh h
 clear h
 go_enter Tryz.func56, Tryz.ntmps56
 go_wp2_with fail
 refine (refRight_f_mk _ _ _ _ H.out).mono ?_
 rintro e w1 ⟨rfl, hb⟩
 obtain ⟨hc, hf⟩ := bcell hb
 go_wp2_with fail
 go_ret2
 exact ⟨rfl, (bZ _ _).trans (hb.mono (by simp))⟩
theorem decode_t (x : Int) (w : World) (h0 : 0 ≤ x) (h1 : x < 18446744073709551616) (h : okB (x % 4) (x / 4 % 16384) (x / 65536) = true) :
 Calls Tryz.prog 70 #[.int .u64 x] w fun e w' => e = .returned (.tuple #[.agg #[.int .i64 (x % 4), .int .i64 (x / 4 % 16384), .int .u64 (x / 65536)], .bool true]) ∧ Below w.heap.size w w' := by
 have H := lh h
 clear h
 go_enter Tryz.func70, Tryz.ntmps70
 go_wp2_with (first
  | (go_at_call 101; ((with_reducible refine (get_stage x _ h0 h1).mono ?_); rintro e w' ⟨rfl, rfl⟩))
  | (go_at_call 101; ((with_reducible refine (get_count x _ h0 h1).mono ?_); rintro e w' ⟨rfl, rfl⟩))
  | (go_at_call 101; ((with_reducible refine (get_gen x _ h0 h1).mono ?_); rintro e w' ⟨rfl, rfl⟩))
  | fail)
 refine (right_t_mk _ _ _ _ H.out).mono ?_
 rintro e w1 ⟨rfl, hb⟩
 obtain ⟨hc, hf⟩ := bcell hb
 have hz : w.heap.size + 1 < w1.heap.size := by have := hb.size; simp at this; omega
 have d0 : w1.cell? ⟨w.heap.size, 0, none⟩ = some (.int .i64 0) := by rw [hc _ _ (by simp; omega)]; simp [go_sem]
 have d1 : w1.cell? ⟨w.heap.size, 1, none⟩ = some (.int .i64 0) := by rw [hc _ _ (by simp; omega)]; simp [go_sem]
 have d2 : w1.cell? ⟨w.heap.size, 2, none⟩ = some (.int .u64 0) := by rw [hc _ _ (by simp; omega)]; simp [go_sem]
 have hB : Below w.heap.size w w1 := ((bZ _ _).alloc (by simp) _).trans (hb.mono (by simp; omega))
 go_wp2_with fail
 refine bodyPost_ret (v := .tuple #[.agg #[.int .i64 (x % 4), .int .i64 (x / 4 % 16384), .int .u64 (x / 65536)], .bool true]) (by simp [results, Tryz.results70, go_sem, d0, d1, d2]) rfl ⟨rfl, ?_⟩
 go_grown
theorem decode_f (x : Int) (w : World) (h0 : 0 ≤ x) (h1 : x < 18446744073709551616) (h : okB (x % 4) (x / 4 % 16384) (x / 65536) = false) :
 Calls Tryz.prog 70 #[.int .u64 x] w fun e w' => e = .returned (.tuple #[.agg #[.int .i64 0, .int .i64 0, .int .u64 0], .bool false]) ∧ Below w.heap.size w w' := by
 have H := lh h
 clear h
 go_enter Tryz.func70, Tryz.ntmps70
 go_wp2_with (first
  | (go_at_call 101; ((with_reducible refine (get_stage x _ h0 h1).mono ?_); rintro e w' ⟨rfl, rfl⟩))
  | (go_at_call 101; ((with_reducible refine (get_count x _ h0 h1).mono ?_); rintro e w' ⟨rfl, rfl⟩))
  | (go_at_call 101; ((with_reducible refine (get_gen x _ h0 h1).mono ?_); rintro e w' ⟨rfl, rfl⟩))
  | fail)
 refine (right_f_mk _ _ _ _ H.out).mono ?_
 rintro e w1 ⟨rfl, hb⟩
 obtain ⟨hc, hf⟩ := bcell hb
 have hz : w.heap.size + 1 < w1.heap.size := by have := hb.size; simp at this; omega
 have d0 : w1.cell? ⟨w.heap.size, 0, none⟩ = some (.int .i64 0) := by rw [hc _ _ (by simp; omega)]; simp [go_sem]
 have d1 : w1.cell? ⟨w.heap.size, 1, none⟩ = some (.int .i64 0) := by rw [hc _ _ (by simp; omega)]; simp [go_sem]
 have d2 : w1.cell? ⟨w.heap.size, 2, none⟩ = some (.int .u64 0) := by rw [hc _ _ (by simp; omega)]; simp [go_sem]
 have hB : Below w.heap.size w w1 := ((bZ _ _).alloc (by simp) _).trans (hb.mono (by simp; omega))
 go_wp2_with fail
 refine bodyPost_ret (v := .tuple #[.agg #[.int .i64 0, .int .i64 0, .int .u64 0], .bool false]) (by simp [results, Tryz.results70, go_sem, d0, d1, d2]) rfl ⟨rfl, ?_⟩
 go_grown
end Go.Proofs.YtdmmbnnejbmdpaaGreatDoor
end
section
namespace Go.Proofs.YtdmmbnnejbmdpaaGreatDoor
theorem logsR_in {t : List Nat} {lane : Int} {m x : Nat} (h : x ∈ logsR t lane m) : x < t.length ∧ kN (t.getD x 0) = 4 ∧ ((lnN (t.getD x 0) : Nat) : Int) = lane := by
 unfold logsR logsN isLog at h
 simp only [List.mem_filter, List.mem_range, List.mem_flatMap, Bool.and_eq_true, decide_eq_true_eq] at h
 obtain ⟨_, _, h1, ⟨h2, h3⟩, _⟩ := h
 exact ⟨h1, h2, h3⟩
end Go.Proofs.YtdmmbnnejbmdpaaGreatDoor
end
