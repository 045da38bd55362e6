/-
  Package oid: Text, Name.
-/
import Derived.Test.YtdblioggncnapaaDoorOd2
import Derived.Test.YtdblioggncnapaaDoorOd4
import Derived.Test.YtdblioggncnapaaDoorRegX
import Derived.Test.YtdblioggncnapaaDoorRegW
import Derived.Test.YtdblioggncnapaaDoorRegS
set_option linter.unusedVariables false
set_option linter.unusedSimpArgs false
set_option maxRecDepth 100000
namespace Go.Proofs.YtdblioggncnapaaDoor
open Go.Lib Go.Shelf Go.RowKit
theorem name_any (at_ t s n : Int) (w : World) :
    Calls Tryd.prog 20 #[.int .i64 at_, nV t s n] w fun e w' => e = .returned (nV at_ t n) ∧ Below w.heap.size w w' := by
  unfold nV
  go_enter Tryd.func20, Tryd.ntmps20
  go_wp2
  go_returns
  exact ⟨rfl, by go_grown⟩
theorem cellK {w w1 : World} {b o : Nat} {v : Value} (h : w.cell? ⟨b, o, none⟩ = some v) (hb : Below w.heap.size w w1) : w1.cell? ⟨b, o, none⟩ = some v := by
  rw [(bcell hb).1 _ _ (World.block_lt_of_cell? w _ h)]; exact h
theorem dec_len {u : Nat} (h : u < 18446744073709551616) : (decDigits u).length ≤ 20 := by
  rw [decDigits_length]
  by_cases h1 : 1 ≤ u
  · have := numDigits_eq u h1 h; split at this <;> omega
  · rw [nDigits_small (by omega)]; omega
/-- a name's text -/
def textB (a t n : Int) : ByteArray := if 0 ≤ a ∧ 0 ≤ t then ⟨(textL a.toNat t.toNat n.toNat).toArray⟩ else ⟨#[]⟩
theorem add3 (a t n : List UInt8) : (((⟨a.toArray⟩ : ByteArray) ++ ⟨#[46]⟩) ++ ⟨t.toArray⟩ ++ ⟨#[46]⟩) ++ ⟨n.toArray⟩ = ⟨(a ++ 46 :: (t ++ 46 :: n)).toArray⟩ := by
  apply ByteArray.ext
  apply Array.ext'
  simp
set_option maxHeartbeats 1000000 in
theorem text_any (a t n : Int) (w : World) (ht : Tb w) (ha1 : a < 9223372036854775808) (ht1 : t < 9223372036854775808) (hn0 : 0 ≤ n) (hn1 : n < 18446744073709551616) :
    Calls Tryd.prog 18 #[nV a t n] w fun e w' => e = .returned (.string (textB a t n)) ∧ Below w.heap.size w w' := by
  unfold nV textB
  by_cases k1 : 0 ≤ a
  · by_cases k2 : 0 ≤ t
    · rw [if_pos ⟨k1, k2⟩]
      obtain ⟨a, rfl⟩ := Int.eq_ofNat_of_zero_le k1
      obtain ⟨t, rfl⟩ := Int.eq_ofNat_of_zero_le k2
      obtain ⟨n, rfl⟩ := Int.eq_ofNat_of_zero_le hn0
      have hI1 := Lib.hid (fun w h => itoa_any a (by omega) w h)
      have hI2 := Lib.hid (fun w h => itoa_any t (by omega) w h)
      have hI3 := Lib.hid (fun w h => fmtu_any n (by omega) w h)
      have hA := add3 (decDigits a) (decDigits t) (decDigits n)
      simp only [Int.toNat_natCast]
      have e1 : ¬ ((a : Int) < 0) := by omega
      have e2 : ¬ ((t : Int) < 0) := by omega
      unfold textL
      rw [← hA]
      clear hA
      go_enter Tryd.func18, Tryd.ntmps18
      go_wp2_with fail
      have hC0 := C3.new w (.int .i64 a) (.int .i64 t) (.int .u64 n) 36
      have hb0 : Below w.heap.size w (w.alloc (.cells #[.int .i64 a, .int .i64 t, .int .u64 n] 36)) := (Below.refl _ _).alloc (Nat.le_refl _) _
      have hb1 : Below w.heap.size w (w.alloc (.cells #[.int .i64 a, .int .i64 t, .int .u64 n] 36)).drew := ⟨hb0.os, hb0.tape, hb0.output, hb0.size, hb0.block⟩
      have ht1' := ht.next hb0
      have z1 : ¬ 9223372036854775807 < (decDigits a).length + 1 := by have := dec_len (u := a) (by omega); omega
      have z2 : ¬ 9223372036854775807 < (decDigits a).length + 1 + (decDigits t).length := by have := dec_len (u := a) (by omega); have := dec_len (u := t) (by omega); omega
      have z3 : ¬ 9223372036854775807 < (decDigits a).length + 1 + (decDigits t).length + 1 := by have := dec_len (u := a) (by omega); have := dec_len (u := t) (by omega); omega
      have z4 : ¬ 9223372036854775807 < (decDigits a).length + 1 + (decDigits t).length + 1 + (decDigits n).length := by have := dec_len (u := a) (by omega); have := dec_len (u := t) (by omega); have := dec_len (u := n) (by omega); omega
      refine wp_region_held_drew (S := (fun w' => w'.cell? ⟨w.heap.size, 0, none⟩ = some (.int .i64 (a : Nat)) ∧ w'.cell? ⟨w.heap.size, 1, none⟩ = some (.int .i64 (t : Nat)) ∧ w'.cell? ⟨w.heap.size, 2, none⟩ = some (.int .u64 (n : Nat)) ∧ Tb w' ∧ Below w.heap.size w w' ∧ w.heap.size < w'.heap.size)) (by kernel_rfl) ?_ (fun hHeld => ?_)
      · (try dsimp only)
        (first | exact ⟨hC0.1, hC0.2.1, hC0.2.2, ht1', hb1, hC0.lt⟩ | (obtain ⟨q0, q1, q2, qT, qB, qS⟩ := hHeld; exact ⟨cellK q0 hb, cellK q1 hb, cellK q2 hb, qT.next hb, qB.trans (hb.mono (by omega)), Nat.lt_of_lt_of_le qS hb.size⟩))
      refine takeL 0 (v := ?_) rfl (by kernel_rfl) (by kernel_rfl) (by kernel_rfl) (fun _ _ _ h => h) (by rfl) (by assumption) ?_ ?_
      rotate_left
      · (intro w hSw; (try dsimp only at hSw); go_simp <;> with_reducible rfl)
      try simp only [Act.put, List.setIfInBounds_toArray, List.set_cons_zero, List.set_cons_succ]
      refine takeL 1 (v := ?_) rfl (by kernel_rfl) (by kernel_rfl) (by kernel_rfl) (fun _ _ _ h => h) (by rfl) (by assumption) ?_ ?_
      rotate_left
      · (intro w hSw; (try dsimp only at hSw); go_simp <;> with_reducible rfl)
      try simp only [Act.put, List.setIfInBounds_toArray, List.set_cons_zero, List.set_cons_succ]
      refine takeL 4 (v := ?_) rfl (by kernel_rfl) (by kernel_rfl) (by kernel_rfl) (fun _ _ _ h => h) (by rfl) (by assumption) ?_ ?_
      rotate_left
      · (intro w hSw; (try dsimp only at hSw); go_simp <;> with_reducible rfl)
      try simp only [Act.put, List.setIfInBounds_toArray, List.set_cons_zero, List.set_cons_succ]
      refine takeL 5 (v := ?_) rfl (by kernel_rfl) (by kernel_rfl) (by kernel_rfl) (fun _ _ _ h => h) (by rfl) (by assumption) ?_ ?_
      rotate_left
      · (intro w hSw; (try dsimp only at hSw); go_simp <;> with_reducible rfl)
      try simp only [Act.put, List.setIfInBounds_toArray, List.set_cons_zero, List.set_cons_succ]
      refine takeL 9 (v := ?_) rfl (by kernel_rfl) (by kernel_rfl) (by kernel_rfl) (fun _ _ _ h => h) (by rfl) (by assumption) ?_ ?_
      rotate_left
      · (intro w hSw; (try dsimp only at hSw); go_simp <;> with_reducible rfl)
      try simp only [Act.put, List.setIfInBounds_toArray, List.set_cons_zero, List.set_cons_succ]
      refine takeL 10 (v := ?_) rfl (by kernel_rfl) (by kernel_rfl) (by kernel_rfl) (fun _ _ _ h => h) (by rfl) (by assumption) ?_ ?_
      rotate_left
      · (intro w hSw; (try dsimp only at hSw); go_simp <;> with_reducible rfl)
      try simp only [Act.put, List.setIfInBounds_toArray, List.set_cons_zero, List.set_cons_succ]
      refine oneL 2 rfl (by kernel_rfl) (fun K hK => ?_)
      go_simp
      (have qT := hHeld.2.2.2.1; go_at_call 26; (with_reducible refine (hI1.out _ qT).mono ?_); rintro e w8 ⟨rfl, hb⟩)
      refine hK.out _ _ ?_ (fun hHeld2 => ?_)
      · (try dsimp only)
        (first | exact ⟨hC0.1, hC0.2.1, hC0.2.2, ht1', hb1, hC0.lt⟩ | (obtain ⟨q0, q1, q2, qT, qB, qS⟩ := hHeld; exact ⟨cellK q0 hb, cellK q1 hb, cellK q2 hb, qT.next hb, qB.trans (hb.mono (by omega)), Nat.lt_of_lt_of_le qS hb.size⟩))
      clear hK K hHeld
      have hHeld := hHeld2
      clear hHeld2
      try simp only [Act.put, List.setIfInBounds_toArray, List.set_cons_zero, List.set_cons_succ]
      refine takeL 3 (v := ?_) rfl (by kernel_rfl) (by kernel_rfl) (by kernel_rfl) (fun _ _ _ h => h) (by rfl) (by assumption) ?_ ?_
      rotate_left
      · (intro w hSw; (try dsimp only at hSw); go_simp <;> with_reducible rfl)
      try simp only [Act.put, List.setIfInBounds_toArray, List.set_cons_zero, List.set_cons_succ]
      refine oneL 6 rfl (by kernel_rfl) (fun K hK => ?_)
      go_simp
      (have qT := hHeld.2.2.2.1; go_at_call 26; (with_reducible refine (hI2.out _ qT).mono ?_); rintro e w8 ⟨rfl, hb⟩)
      refine hK.out _ _ ?_ (fun hHeld2 => ?_)
      · (try dsimp only)
        (first | exact ⟨hC0.1, hC0.2.1, hC0.2.2, ht1', hb1, hC0.lt⟩ | (obtain ⟨q0, q1, q2, qT, qB, qS⟩ := hHeld; exact ⟨cellK q0 hb, cellK q1 hb, cellK q2 hb, qT.next hb, qB.trans (hb.mono (by omega)), Nat.lt_of_lt_of_le qS hb.size⟩))
      clear hK K hHeld
      have hHeld := hHeld2
      clear hHeld2
      try simp only [Act.put, List.setIfInBounds_toArray, List.set_cons_zero, List.set_cons_succ]
      refine takeL 7 (v := ?_) rfl (by kernel_rfl) (by kernel_rfl) (by kernel_rfl) (fun _ _ _ h => h) (by rfl) (by assumption) ?_ ?_
      rotate_left
      · (intro w hSw; (try dsimp only at hSw); go_simp <;> with_reducible rfl)
      try simp only [Act.put, List.setIfInBounds_toArray, List.set_cons_zero, List.set_cons_succ]
      refine takeL 8 (v := ?_) rfl (by kernel_rfl) (by kernel_rfl) (by kernel_rfl) (fun _ _ _ h => h) (by rfl) (by assumption) ?_ ?_
      rotate_left
      · (intro w hSw; (try dsimp only at hSw); go_simp <;> with_reducible rfl)
      try simp only [Act.put, List.setIfInBounds_toArray, List.set_cons_zero, List.set_cons_succ]
      refine oneL 11 rfl (by kernel_rfl) (fun K hK => ?_)
      go_simp
      (have qT := hHeld.2.2.2.1; go_at_call 27; (with_reducible refine (hI3.out _ qT).mono ?_); rintro e w8 ⟨rfl, hb⟩)
      refine hK.out _ _ ?_ (fun hHeld2 => ?_)
      · (try dsimp only)
        (first | exact ⟨hC0.1, hC0.2.1, hC0.2.2, ht1', hb1, hC0.lt⟩ | (obtain ⟨q0, q1, q2, qT, qB, qS⟩ := hHeld; exact ⟨cellK q0 hb, cellK q1 hb, cellK q2 hb, qT.next hb, qB.trans (hb.mono (by omega)), Nat.lt_of_lt_of_le qS hb.size⟩))
      clear hK K hHeld
      have hHeld := hHeld2
      clear hHeld2
      try simp only [Act.put, List.setIfInBounds_toArray, List.set_cons_zero, List.set_cons_succ]
      refine takeL 12 (v := ?_) rfl (by kernel_rfl) (by kernel_rfl) (by kernel_rfl) (fun _ _ _ h => h) (by rfl) (by assumption) ?_ ?_
      rotate_left
      · (intro w hSw; (try dsimp only at hSw); go_simp <;> with_reducible rfl)
      try simp only [Act.put, List.setIfInBounds_toArray, List.set_cons_zero, List.set_cons_succ]
      refine takeL 13 (v := ?_) rfl (by kernel_rfl) (by kernel_rfl) (by kernel_rfl) (fun _ _ _ h => h) (by rfl) (by assumption) ?_ ?_
      rotate_left
      · (intro w hSw; (try dsimp only at hSw); go_simp <;> with_reducible rfl)
      try simp only [Act.put, List.setIfInBounds_toArray, List.set_cons_zero, List.set_cons_succ]
      refine wpAnyH_done (by kernel_rfl) ?_ _
      obtain ⟨q0, q1, q2, qT, qB, qS⟩ := hHeld
      go_wp2_with fail
      go_ret
      exact ⟨rfl, qB⟩
    · rw [if_neg (fun h => k2 h.2)]
      have e1 : ¬ (a < 0) := by omega
      have e2 : (t < 0) := by omega
      go_enter Tryd.func18, Tryd.ntmps18
      go_wp2_with fail
      go_ret
      exact ⟨rfl, by go_grown⟩
  · rw [if_neg (fun h => k1 h.1)]
    have e1 : (a < 0) := by omega
    go_enter Tryd.func18, Tryd.ntmps18
    go_wp2_with fail
    go_ret
    exact ⟨rfl, by go_grown⟩
end Go.Proofs.YtdblioggncnapaaDoor
