/-
  The laws of package span: SpanAdds.
-/
import Derived.Test.YthklgmpphfdfoaaSpan7b
import Derived.Test.YthklgmpphfdfoaaSpan8
set_option linter.unusedVariables false
namespace Go.Proofs.Ythklgmpphfdfoaa
open Go.RowKit

theorem tmod300 (a : Int) : -299 ≤ a.tmod 300 ∧ a.tmod 300 ≤ 299 := by
  rcases Int.le_total 0 a with h | h
  · rw [Int.tmod_eq_emod_of_nonneg h]; omega
  · obtain ⟨y, rfl⟩ : ∃ y, a = -y := ⟨-a, by omega⟩
    rw [Int.neg_tmod, Int.tmod_eq_emod_of_nonneg (by omega)]; omega
theorem ofL_right (low : Int) (n : Nat) (l : List Sp) (s : Sp) (b : Bool) : SRight (ofL low n l s b) := (ofN_inv _ _ _).1
theorem ofL_has (low : Int) (n : Nat) (l : List Sp) (s : Sp) (b : Bool) (v : Int) : SHas (ofL low n l s b) v ↔ low ≤ v ∧ v < low + n ∧ ofP b l s v = true := (ofN_inv _ _ _).2.1 v
theorem adds_eq {l : List Sp} {s : Sp} (hl : SRight l) (low : Int) (n : Nat) (hb : ∀ x ∈ l, low ≤ x.1 ∧ x.1 + x.2 ≤ low + n) (h1 : low ≤ s.1) (h2 : s.1 + s.2 ≤ low + n) : addS l s = ofL low n l s false := by
  refine SRight.eq (addS_right hl) (ofL_right _ _ _ _ _) (fun w => ?_)
  rw [addS_has hl, ofL_has]
  show _ ↔ low ≤ w ∧ w < low + n ∧ (hasB l w || inB s w) = true
  rw [Bool.or_eq_true, hasB_iff, inB_iff]
  constructor
  · intro h
    refine ⟨?_, ?_, h⟩
    · rcases h with ⟨x, hx, k⟩ | k
      · have := hb x hx; have := k.1; omega
      · have := k.1; omega
    · rcases h with ⟨x, hx, k⟩ | k
      · have := hb x hx; have := k.2; omega
      · have := k.2; omega
  · exact fun h => h.2.2
theorem miss_eq {l : List Sp} {s : Sp} (hl : SRight l) (low : Int) (n : Nat) (h1 : low ≤ s.1) (h2 : s.1 + s.2 ≤ low + n) : missS l s = ofL low n l s true := by
  refine SRight.eq (missS_right hl) (ofL_right _ _ _ _ _) (fun w => ?_)
  rw [missS_has hl, ofL_has]
  show _ ↔ low ≤ w ∧ w < low + n ∧ (inB s w && !hasB l w) = true
  rw [Bool.and_eq_true, Bool.not_eq_true', inB_iff, ← hasB_iff, ← Bool.not_eq_true]
  constructor
  · intro h
    refine ⟨?_, ?_, h⟩
    · have := h.1.1; omega
    · have := h.1.2; omega
  · exact fun h => h.2.2

set_option maxHeartbeats 1000000 in
theorem spanAdds_big (a0 a2 a3 : Int) (v : Value) (l : List Nat) (w : World) (hv : KL .u8 w v l) (hbig : 24 < l.length) :
    Calls Try.prog 9 #[.int .i8 a0, v, .int .i16 a2, .int .i8 a3] w fun e w' => e = .returned (.bool true) ∧ Below w.heap.size w w' := by
  obtain ⟨A, cap, rfl, _⟩ := hv.form rfl
  have hb : (24 : Int) < (l.length : Int) := by omega
  clear hv
  go_enter Try.func9, Try.ntmps9
  go_wp2_with fail
  refine (awake04 _).mono ?_
  rintro e w1 ⟨rfl, hb1⟩
  go_wp2_with fail
  go_ret
  exact ⟨rfl, hb1⟩
set_option maxRecDepth 10000 in
set_option maxHeartbeats 4000000 in
theorem spanAdds (a0 a2 a3 : Int) (v : Value) (l : List Nat) (w : World) (hl : BL l) (hv : KL .u8 w v l) (h01 : -128 ≤ a0) (h02 : a0 ≤ 127) (h21 : -32768 ≤ a2) (h22 : a2 ≤ 32767) (h31 : -128 ≤ a3) (h32 : a3 ≤ 127) :
    Calls Try.prog 9 #[.int .i8 a0, v, .int .i16 a2, .int .i8 a3] w fun e w' => e = .returned (.bool true) ∧ Below w.heap.size w w' := by
  by_cases hbig : 24 < l.length
  · exact spanAdds_big a0 a2 a3 v l w hv hbig
  have hv' := hv
  obtain ⟨A, cap, rfl, _⟩ := hv'.form rfl
  have hln : l.length ≤ 24 := by omega
  have hb : ¬ (24 : Int) < (l.length : Int) := by omega
  obtain ⟨X, hX⟩ : ∃ X, a2.tmod 300 = X := ⟨_, rfl⟩
  have hX1 : -299 ≤ X := by rw [← hX]; exact (tmod300 a2).1
  have hX2 : X ≤ 299 := by rw [← hX]; exact (tmod300 a2).2
  have hM := Lib.hid (fun w1 (hb : Below w.heap.size w w1) => made_any a0 _ l w1 (by omega) (by omega) hl (by omega) (hv.keep hb))
  have hset := madeL_right a0 l
  have hmem := madeL_mem a0 l
  have hsb := madeL_sb a0 l (by omega) (by omega) (by omega)
  have hsl : (madeL a0 l).length ≤ 1000 := by rw [madeL_len]; omega
  have hss : SB (X, a3) := by unfold SB; simp only []; omega
  generalize madeL a0 l = S at *
  have hAd := Lib.hid (fun v w hv => add_any v S (X, a3) w hsb hsl hss hv)
  have hO0 := fun v w hv => of_false (-500) 1400 v S (X, a3) w (by omega) (by omega) (by omega) hsb hsl hss hv
  have hMi := Lib.hid (fun v w hv => missing_any v S (X, a3) w hsb hsl hss hv)
  have hO1 := fun v w hv => of_true (-500) 1400 v S (X, a3) w (by omega) (by omega) (by omega) hsb hsl hss hv
  have hCo := Lib.hid (fun v w hv => covers_any v S (X, a3) w hsb hsl hss hv)
  rw [show ((-500 : Int) + ((1400 : Nat) : Int)) = 900 from rfl] at hO0 hO1
  have e1 : addS S (X, a3) = ofL (-500) 1400 S (X, a3) false := adds_eq hset _ _ (fun x hx => by have := hmem x hx; omega) (by simp only []; omega) (by simp only []; omega)
  have e2 : missS S (X, a3) = ofL (-500) 1400 S (X, a3) true := miss_eq hset _ _ (by simp only []; omega) (by simp only []; omega)
  have e3 : covS S (X, a3) = ((missS S (X, a3)).length == 0) := by
    unfold covS
    rw [Bool.eq_iff_iff, List.isEmpty_iff, beq_iff_eq, List.length_eq_zero_iff]
  have hlA : (ofL (-500) 1400 S (X, a3) false).length ≤ 1000000 := by
    have := ofN_len (ofP false S (X, a3)) (-500) 1400
    unfold ofL; omega
  have hlB : (ofL (-500) 1400 S (X, a3) true).length ≤ 1000000 := by
    have := ofN_len (ofP true S (X, a3)) (-500) 1400
    unfold ofL; omega
  rw [e3] at hCo
  rw [e1] at hAd
  rw [e2] at hMi hCo
  generalize ofL (-500) 1400 S (X, a3) false = PA at *
  generalize ofL (-500) 1400 S (X, a3) true = PB at *
  have hSA := Lib.hid (fun v u w hv hu => same_any v u PA PA w hlA hv hu)
  have hSB := Lib.hid (fun v u w hv hu => same_any v u PB PB w hlB hv hu)
  rw [show decide (PA = PA) = true from by simp] at hSA
  rw [show decide (PB = PB) = true from by simp] at hSB
  replace hO0 := Lib.hid hO0
  replace hO1 := Lib.hid hO1
  simp only [] at hAd hMi hCo
  obtain ⟨nb, hnb⟩ : ∃ nb, nb = PB.length := ⟨_, rfl⟩
  rw [← hnb] at hCo
  replace hnb := Lib.hid hnb
  clear e1 e2 e3 hset hmem hsb hsl hss hlA hlB hbig hl hv
  go_enter Try.func9, Try.ntmps9
  go_wp2_with fail
  refine (awake04 _).mono ?_
  rintro e w1 ⟨rfl, hb1⟩
  go_wp2_with fail
  refine (hM.out _ hb1).mono ?_
  rintro e w2 ⟨v2, rfl, ho2, hb2⟩
  have hB2 := hb1.trans (hb2.mono hb1.size)
  have hp2 := ho2.pl.keep ((Below.refl _ _).alloc (Nat.le_refl _) (.cells #[.int .i64 X, .int .i64 a3] (45 : Nat)))
  have kk := C2.new w2 (.int .i64 X) (.int .i64 a3) (45 : Nat)
  have hB3 := hB2.alloc hB2.size (.cells #[.int .i64 X, .int .i64 a3] (45 : Nat))
  clear ho2 hb1 hb2 hB2
  go_wp2_with fail
  refine (hAd.out _ _ hp2).mono ?_
  rintro e w4 ⟨v4, rfl, ho4, hb4⟩
  have hB4 := hB3.trans (hb4.mono hB3.size)
  have hp4 := ho4.pl
  replace hp2 := hp2.keep hb4
  replace kk := kk.keep hb4
  obtain ⟨k0, k1⟩ := id kk
  clear ho4 hb4 hB3
  go_wp2_with fail
  refine (hO0.out _ _ hp2).mono ?_
  rintro e w5 ⟨v5, rfl, ho5, hb5⟩
  have hB5 := hB4.trans (hb5.mono hB4.size)
  have hp5 := ho5.pl
  replace hp2 := hp2.keep hb5
  replace hp4 := hp4.keep hb5
  replace kk := kk.keep hb5
  clear k0 k1
  obtain ⟨k0, k1⟩ := id kk
  clear ho5 hb5 hB4
  go_wp2_with fail
  refine (hMi.out _ _ hp2).mono ?_
  rintro e w6 ⟨v6, rfl, ho6, hb6⟩
  have hB6 := hB5.trans (hb6.mono hB5.size)
  have hp6 := ho6.pl
  replace hp2 := hp2.keep hb6
  replace hp4 := hp4.keep hb6
  replace hp5 := hp5.keep hb6
  replace kk := kk.keep hb6
  clear k0 k1
  obtain ⟨k0, k1⟩ := id kk
  clear ho6 hb6 hB5
  go_wp2_with fail
  refine (hO1.out _ _ hp2).mono ?_
  rintro e w7 ⟨v7, rfl, ho7, hb7⟩
  have hB7 := hB6.trans (hb7.mono hB6.size)
  have hp7 := ho7.pl
  replace hp2 := hp2.keep hb7
  replace hp4 := hp4.keep hb7
  replace hp5 := hp5.keep hb7
  replace hp6 := hp6.keep hb7
  replace kk := kk.keep hb7
  clear k0 k1
  clear ho7 hb7 hB6
  go_wp2_with fail
  refine (hSA.out _ _ _ hp4 hp5).mono ?_
  rintro e w8 ⟨rfl, hb8⟩
  have hB8 := hB7.trans (hb8.mono hB7.size)
  replace hp2 := hp2.keep hb8
  replace hp6 := hp6.keep hb8
  replace hp7 := hp7.keep hb8
  replace kk := kk.keep hb8
  clear hb8 hB7 hp4 hp5
  go_wp2_with fail
  refine (hSB.out _ _ _ hp6 hp7).mono ?_
  rintro e w9 ⟨rfl, hb9⟩
  have hB9 := hB8.trans (hb9.mono hB8.size)
  replace hp2 := hp2.keep hb9
  replace hp7 := hp7.keep hb9
  replace kk := kk.keep hb9
  obtain ⟨k0, k1⟩ := id kk
  clear hb9 hB8 hp6
  obtain ⟨A7, cap7, rfl, _⟩ := hp7.form hnb.out.symm
  go_wp2_with fail
  refine (hCo.out _ _ hp2).mono ?_
  rintro e w10 ⟨rfl, hb10⟩
  have hB10 := hB9.trans (hb10.mono hB9.size)
  clear hb10 hB9 hp2 hp7 kk k0 k1
  by_cases hz : nb = 0
  · subst hz
    go_wp2_with fail
    go_ret
    exact ⟨rfl, hB10⟩
  · have z1 : (nb == 0) = false := by rw [beq_eq_false_iff_ne]; exact hz
    have z2 : ((nb : Int) == 0) = false := by rw [beq_eq_false_iff_ne]; omega
    go_wp2_with fail
    go_ret
    exact ⟨rfl, hB10⟩
end Go.Proofs.Ythklgmpphfdfoaa
