/-
  Package oid: strconv.FormatUint.
-/
import Derived.Test.YtdblioggncnapaaDoorOd1
set_option linter.unusedVariables false
set_option linter.unusedSimpArgs false
set_option maxRecDepth 100000
namespace Go.Proofs.YtdblioggncnapaaDoor
open Go.Lib Go.Shelf Go.RowKit Go.Sort
set_option maxHeartbeats 6400000 in
theorem ifmtu_any (u : Nat) (hu64 : u < 18446744073709551616) (w : World) (ht : Tb w) :
    Calls Tryd.prog 34 #[.int .u64 u, .int .i64 10] w fun e w' => e = .returned (.string ⟨(decDigits u).toArray⟩) ∧ Below w.heap.size w w' := by
  by_cases hs : u < 100
  · have hw : IntKind.i64.wrap (u : Int) = (u : Int) := by rw [IntKind.wrap_i64]; omega
    have hlt : ((u : Int) < 100) := by omega
    go_enter Tryd.func34, Tryd.ntmps34
    go_wp2_with (go_at_call 39; refine (small_any u hs _).mono ?_; rintro e w' ⟨rfl, rfl⟩)
    go_ret
    exact ⟨rfl, Below.refl _ _⟩
  · have hu1 : 1 ≤ u := by omega
    have hnlt : ¬ ((u : Int) < 100) := by omega
    have hnd20 : nDigits u ≤ 20 := by have := numDigits_eq u hu1 hu64; split at this <;> omega
    have hal : Tryd.prog.arrayLen 64 = 24 := by simp [Program.arrayLen, Tryd.underlying64]
    have hsl : ∀ W, (Instr.sliceAt 64 (.pointer (some ⟨w.heap.size, 0, none⟩)) none (some (.int .i64 (nDigits u : Int))) none).run Tryd.prog W = .ok (.slice (some ⟨w.heap.size, 0, none⟩) (nDigits u) 24) W := fun W => by
      rw [run_sliceAt_array_h W 64 ⟨w.heap.size, 0, none⟩ (by simp [Program.arrayLen, Program.elem, Tryd.underlying64]) .i64 (nDigits u : Int) (by omega) (by rw [hal]; omega)]
      have hel : Tryd.prog.elem 64 = 5 := by simp [Program.elem, Tryd.underlying64]
      rw [hel, hal]
      go_simp
    have hH0 := holds_zero0 w 64 (nDigits u) (by omega)
    have hfmt := fmt10_any w.heap.size 0 24 u (Array.replicate (nDigits u) 0) (w.alloc (.cells zeros24 64)) hH0 (by rw [Array.size_replicate]; exact lt_pow_nDigits u) hu64 (by rw [Array.size_replicate]; omega)
    rw [Array.size_replicate] at hfmt
    have HH0 := hid hH0
    clear hH0 hal
    go_enter Tryd.func34, Tryd.ntmps34
    go_wp2_with (first
      | (go_at_call 40; refine (numd_any u hu1 hu64 _ (tabIs_alloc ht _)).mono ?_; rintro e w' ⟨rfl, rfl⟩)
      | (go_at_call 41; refine hfmt.mono ?_; rintro e w' ⟨rfl, k, v', dk, rfl, hF⟩;
         have hcv : (convert 67 9 (.slice (some ⟨w.heap.size, 0, none⟩) (nDigits u) 24)).run Tryd.prog ((putRow (fun (b : UInt8) => Value.int .u8 (b.toNat : Int)) (w.alloc (.cells zeros24 64)) w.heap.size 0 dk).drewN k) = .ok (.string ⟨(decDigits u).toArray⟩) ((putRow (fun (b : UInt8) => Value.int .u8 (b.toNat : Int)) (w.alloc (.cells zeros24 64)) w.heap.size 0 dk).drewN k) := (by
           have h := run_convert_bytes_back (P := Tryd.prog) ((putRow (fun (b : UInt8) => Value.int .u8 (b.toNat : Int)) (w.alloc (.cells zeros24 64)) w.heap.size 0 dk).drewN k) 67 9 5 ⟨w.heap.size, 0, none⟩ 24 (decDigits u) Tryd.underlying67 Tryd.underlying5 Tryd.underlying9 (fun j hj => by
             rw [row_is_numeral hF j hj, add_plain, World.cell?_drewN]
             exact cell?_putRow (fun (b : UInt8) => Value.int .u8 (b.toNat : Int)) _ w.heap.size 0 _ dk HH0.out (by rw [hF.size, Array.size_replicate]) j (by rw [hF.size]; rw [decDigits_length] at hj; exact hj))
           rw [decDigits_length] at h
           exact h)))
    go_ret
    obtain ⟨os, eo⟩ := fin_at w (.cells zeros24 64) dk k 0
    refine ⟨rfl, ?_⟩
    rw [eo]; exact below_grow _ w (Nat.le_refl _) k os
theorem fmtu_any (u : Nat) (hu64 : u < 18446744073709551616) (w : World) (ht : Tb w) :
    Calls Tryd.prog 27 #[.int .u64 u, .int .i64 10] w fun e w' => e = .returned (.string ⟨(decDigits u).toArray⟩) ∧ Below w.heap.size w w' := by
  go_enter Tryd.func27, Tryd.ntmps27
  go_wp2_with (go_at_call 34; refine (ifmtu_any u hu64 _ ht).mono ?_; rintro e w' ⟨rfl, hb⟩)
  go_ret
  exact ⟨rfl, hb⟩
end Go.Proofs.YtdblioggncnapaaDoor
