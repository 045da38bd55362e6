/-
  The laws of package span: SpanOwn.
-/
import Derived.Test.YthklgmpphfdfoaaSpan11
set_option linter.unusedVariables false
namespace Go.Proofs.Ythklgmpphfdfoaa
open Go.RowKit

set_option maxHeartbeats 1000000 in
theorem spanOwn_big (a0 a2 : Int) (c : Nat) (v : Value) (l : List Nat) (w : World) (hv : KL .u8 w v l) (hbig : 24 < l.length) :
    Calls Try.prog 14 #[.int .i8 a0, v, .int .i16 a2, .int .u8 c] w fun e w' => e = .returned (.bool true) ∧ Below w.heap.size w w' := by
  obtain ⟨A, cap, rfl, _⟩ := hv.form rfl
  have hb : (24 : Int) < (l.length : Int) := by omega
  clear hv
  go_enter Try.func14, Try.ntmps14
  go_wp2_with fail
  refine (awake04 _).mono ?_
  rintro e w1 ⟨rfl, hb1⟩
  go_wp2_with fail
  go_ret
  exact ⟨rfl, hb1⟩

set_option maxRecDepth 10000 in
set_option maxHeartbeats 4000000 in
theorem spanOwn (a0 a2 : Int) (c : Nat) (v : Value) (l : List Nat) (w : World) (hl : BL l) (hv : KL .u8 w v l) (h01 : -128 ≤ a0) (h02 : a0 ≤ 127) (h21 : -32768 ≤ a2) (h22 : a2 ≤ 32767) (h3 : c ≤ 255) :
    Calls Try.prog 14 #[.int .i8 a0, v, .int .i16 a2, .int .u8 c] w fun e w' => e = .returned (.bool true) ∧ Below w.heap.size w w' := by
  by_cases hbig : 24 < l.length
  · exact spanOwn_big a0 a2 c v l w hv hbig
  have hv' := hv
  obtain ⟨A, cap, rfl, _⟩ := hv'.form rfl
  have hln : l.length ≤ 24 := by omega
  have hb : ¬ (24 : Int) < (l.length : Int) := by omega
  obtain ⟨X, hX⟩ : ∃ X, a2.tmod 300 = X := ⟨_, rfl⟩
  have hX1 : -299 ≤ X := by rw [← hX]; exact (tmod300 a2).1
  have hX2 : X ≤ 299 := by rw [← hX]; exact (tmod300 a2).2
  have hM := Lib.hid (fun w1 (hb : Below w.heap.size w w1) => made_any a0 _ l w1 (by omega) (by omega) hl (by omega) (hv.keep hb))
  have hsb := madeL_sb a0 l (by omega) (by omega) (by omega)
  have hsl : (madeL a0 l).length ≤ 24 := by rw [madeL_len]; omega
  generalize madeL a0 l = S at *
  have hss : SB (X, (c : Int)) := by unfold SB; simp only []; omega
  have hAd := fun v w hv => add_any v S (X, (c : Int)) w hsb (by omega) hss hv
  have hal := (addS_sb hsb hss).2
  generalize addS S (X, (c : Int)) = PA at *
  have hSS := fun v u w hv hu => same_any v u S S w (by omega) hv hu
  have hSA := fun v u w hv hu => same_any v u PA PA w (by omega) hv hu
  rw [show decide (S = S) = true from by simp] at hSS
  rw [show decide (PA = PA) = true from by simp] at hSA
  simp only [] at hAd
  replace hAd := Lib.hid hAd
  replace hSS := Lib.hid hSS
  replace hSA := Lib.hid hSA
  obtain ⟨n, hn⟩ : ∃ n, PA.length = n := ⟨_, rfl⟩
  have hn2 : n ≤ 25 := by omega
  replace hn := Lib.hid hn
  clear hsb hsl hss hal hbig hl hv
  go_enter Try.func14, Try.ntmps14
  go_wp2_with fail
  refine (awake04 _).mono ?_
  rintro e w1 ⟨rfl, hb1⟩
  go_wp2_with fail
  refine (hM.out _ hb1).mono ?_
  rintro e w2 ⟨v2, rfl, ho2, hb2⟩
  have hB2 := hb1.trans (hb2.mono hb1.size)
  have hp3 := ho2.pl.keep ((Below.refl _ _).alloc (Nat.le_refl _) (.cells #[.int .i64 X, .int .i64 (c : Int)] (45 : Nat)))
  have kk3 := C2.new w2 (.int .i64 X) (.int .i64 (c : Int)) (45 : Nat)
  have hB3 := hB2.alloc hB2.size (.cells #[.int .i64 X, .int .i64 (c : Int)] (45 : Nat))
  clear ho2 hb1 hb2 hB2
  go_wp2_with fail
  have hA3 := hAd.out _ _ hp3
  generalize hW3 : w2.alloc (.cells #[.int .i64 X, .int .i64 (c : Int)] (45 : Nat)) = w3 at *
  clear hW3
  refine hA3.mono ?_
  rintro e w4 ⟨va, rfl, ho4, hb4⟩
  have hB4 := hB3.trans (hb4.mono hB3.size)
  have hp4 := hp3.keep hb4
  have kk4 := kk3.keep hb4
  obtain ⟨k0, k1⟩ := id kk4
  have hz3 := Lib.hid hB3.size
  clear hA3 hB3
  go_wp2_with fail
  refine (hAd.out _ _ hp4).mono ?_
  rintro e w5 ⟨vb, rfl, ho5, hb5⟩
  have hB5 := hB4.trans (hb5.mono hB4.size)
  have ho45 := ho4.keep hb5
  have hr : w5.ownsRow w3.heap.size 45 2 va PA.length (spv PA) := ho45
  rw [hn.out] at hr
  have hbb : Below w3.heap.size w3 w5 := hb4.trans (hb5.mono hb4.size)
  have h34 := hb4.size
  have hsz45 := hb5.size
  have hv4 := Lib.hid (fun g (h : va.ownBlock = some g) => ho4.lt g h)
  have hva := Lib.hid (fun (h : 0 < n) => own_form ho45 (by rw [hn.out]; exact h))
  have hvl : ∃ A c, va = .slice A n c := by
    rcases ho45.2 with ⟨rfl, h0⟩ | ⟨g, cap, cur, rfl, _⟩
    · have hq := spv_len PA
      rw [h0] at hq
      have : PA.length = 0 := by simp at hq; omega
      rw [hn.out] at this
      exact ⟨none, 0, by rw [this]⟩
    · exact ⟨_, _, by rw [hn.out]⟩
  obtain ⟨Aa, ca, rfl⟩ := hvl
  clear k0 k1 hb4 hb5 ho4 ho45 hB4 hp4 kk4
  go_wp2_with fail
  go_loopw [14] (fun x wr => ∃ (k : Nat) (xs : List Value), k ≤ n ∧ x = .int .i64 k ∧ wr.ownsRow w3.heap.size 45 2 (.slice Aa n ca) n xs ∧ OwnSp wr w4.heap.size vb PA ∧ Below w3.heap.size w3 wr ∧ Below w.heap.size w wr ∧ w4.heap.size ≤ wr.heap.size) (fun x _ => n + 1 - (intOf x).toNat)
  case atStart => exact ⟨0, _, Nat.zero_le _, rfl, hr, ho5, hbb, hB5, by have := ho5; exact hsz45⟩
  case round =>
    clear hr ho5 hbb hB5
    obtain ⟨k, xs, hk, rfl, hr, ho5, hbb, hB5, hz⟩ := hrel
    by_cases hlt : k < n
    · have hlt' : (k : Int) < (n : Int) := by omega
      obtain ⟨g, ca', hva'⟩ := hva.out (by omega)
      simp only [Value.slice.injEq] at hva'
      obtain ⟨rfl, _, _⟩ := hva'
      have hgl := hr.lt g rfl
      have hxl := hr.1
      have q0 : wr.cell? ⟨g, k * 2, none⟩ = some (xs[k * 2]'(by omega)) := by rw [hr.cellAt _ (by omega), List.getElem?_eq_getElem]
      have q1 : wr.cell? ⟨g, k * 2 + 1, none⟩ = some (xs[k * 2 + 1]'(by omega)) := by rw [hr.cellAt _ (by omega), List.getElem?_eq_getElem]
      have f0 := hr.frozenAt (k * 2)
      have f1 := hr.frozenAt (k * 2 + 1)
      have s1 := (hr.stored (k * 2) (.int .i64 7)).1
      have s2 := (s1.stored (k * 2 + 1) (.int .i64 7)).1
      have hg4 := hv4.out g rfl
      have ho6 := (ho5.setFar (o := k * 2) hg4.2 (.int .i64 7)).setFar (o := k * 2 + 1) hg4.2 (.int .i64 7)
      have hb6 := (hbb.setCell (p := ⟨g, k * 2, none⟩) hg4.1 (.int .i64 7)).setCell (p := ⟨g, k * 2 + 1, none⟩) hg4.1 (.int .i64 7)
      have h30 : w.heap.size ≤ g := Nat.le_trans hz3.out hg4.1
      have hB6 := (hB5.setCell (p := ⟨g, k * 2, none⟩) h30 (.int .i64 7)).setCell (p := ⟨g, k * 2 + 1, none⟩) h30 (.int .i64 7)
      generalize xs[k * 2]'(by omega) = z0 at *
      generalize xs[k * 2 + 1]'(by omega) = z1 at *
      clear hr ho5 hbb hB5 s1 hxl
      go_wp2_with fail
      go_roundw
      case rel => exact ⟨k + 1, _, by omega, by go_num, s2, ho6, hb6, hB6, by simp; omega⟩
      case measure => simp [intOf]; omega
    · obtain rfl : k = n := by omega
      have hp5 := hp3.keep hbb
      have kk5 := kk3.keep hbb
      have pb := ho5.pl
      clear hr ho5 hbb
      go_wp2_with fail
      refine (hM.out _ hB5).mono ?_
      rintro e w6 ⟨v6, rfl, ho6, hb6⟩
      have hB6 := hB5.trans (hb6.mono hB5.size)
      have p6 := ho6.pl
      replace hp5 := hp5.keep hb6
      replace kk5 := kk5.keep hb6
      replace pb := pb.keep hb6
      clear ho6 hb6 hB5
      go_wp2_with fail
      refine (hSS.out _ _ _ hp5 p6).mono ?_
      rintro e w7 ⟨rfl, hb7⟩
      have hB7 := hB6.trans (hb7.mono hB6.size)
      replace hp5 := hp5.keep hb7
      replace kk5 := kk5.keep hb7
      replace pb := pb.keep hb7
      obtain ⟨k0, k1⟩ := id kk5
      clear hb7 hB6 p6
      go_wp2_with fail
      refine (hAd.out _ _ hp5).mono ?_
      rintro e w8 ⟨v8, rfl, ho8, hb8⟩
      have hB8 := hB7.trans (hb8.mono hB7.size)
      have p8 := ho8.pl
      replace pb := pb.keep hb8
      clear ho8 hb8 hB7 k0 k1 kk5 hp5
      go_wp2_with fail
      refine (hSA.out _ _ _ pb p8).mono ?_
      rintro e w9 ⟨rfl, hb9⟩
      have hB9 := hB8.trans (hb9.mono hB8.size)
      go_wp2_with fail
      go_ret
      exact ⟨rfl, hB9⟩
end Go.Proofs.Ythklgmpphfdfoaa
