/-
  Package oid: Decode in one; awake.
-/
import Derived.Test.YtdblioggncnapaaDoorOd7
set_option linter.unusedVariables false
set_option linter.unusedSimpArgs false
set_option maxRecDepth 100000
namespace Go.Proofs.YtdblioggncnapaaDoor
open Go.RowKit Go.Lib
theorem decH_some {l : List Nat} {t s n : Nat} (h : decH l = some (t, s, n)) : 2 ≤ l.length ∧ hdB t s n = true ∧ hdW t s = l.getD 0 0 ∧ n = l.getD 1 0 ∧ t = l.getD 0 0 % 65536 ∧ s = l.getD 0 0 / 65536 % 65536 := by
  unfold decH at h
  split at h
  · cases h
  · rename_i h2
    split at h
    · rename_i h3
      simp only [Bool.and_eq_true, decide_eq_true_eq] at h3
      cases h
      exact ⟨by omega, h3.1, (hdW_is _).2 h3.2, rfl, rfl, rfl⟩
    · cases h
theorem decode_any (v : Value) (l : List Nat) (w : World) (hv : KL .u64 w v l) (h64 : ∀ x ∈ l, x < 18446744073709551616) :
    Calls Tryd.prog 11 #[v] w fun e w' => e = .returned (.tuple #[pV (decH l), .bool (decH l).isSome]) ∧ Below w.heap.size w w' := by
  by_cases h2 : l.length < 2
  · have e : decH l = none := by unfold decH; rw [if_pos h2]
    rw [e]; exact decode_short v l w hv h2
  · have hx : l.getD 0 0 < 18446744073709551616 := by
      refine h64 _ ?_
      rw [List.getD_eq_getElem?_getD, List.getElem?_eq_getElem (by omega)]; exact List.getElem_mem _
    by_cases hr : hdB (l.getD 0 0 % 65536 : Nat) (l.getD 0 0 / 65536 % 65536 : Nat) (l.getD 1 0 : Nat) = true
    · by_cases hs : hdW (l.getD 0 0 % 65536) (l.getD 0 0 / 65536 % 65536) = l.getD 0 0
      · have e : decH l = some (l.getD 0 0 % 65536, l.getD 0 0 / 65536 % 65536, l.getD 1 0) := by
          unfold decH; rw [if_neg h2, hr, decide_eq_true ((hdW_is _).1 hs)]; rfl
        rw [e]
        exact decode_yes v l _ _ w hv h2 rfl rfl hx _ _ rfl rfl hr hs
      · have e : decH l = none := by
          unfold decH; rw [if_neg h2, hr, decide_eq_false (fun q => hs ((hdW_is _).2 q))]; rfl
        rw [e]
        exact decode_sign v l _ _ w hv h2 rfl rfl hx _ _ rfl rfl hr _ rfl hs
    · have e : decH l = none := by
        unfold decH; rw [if_neg h2, eq_false_of_ne_true hr]; rfl
      rw [e]
      exact decode_no v l _ _ w hv h2 rfl rfl hx _ _ rfl rfl (eq_false_of_ne_true hr)
theorem text85 : textL 85 3 7 = [56, 53, 46, 51, 46, 55] := by
  unfold textL
  rw [dec_big (u := 85) (by decide), dec_small (u := 85 / 10) (by decide), dec_small (u := 3) (by decide), dec_small (u := 7) (by decide)]
  rfl
set_option maxHeartbeats 1000000 in
theorem awake_any (w : World) (ht : Tb w) : Calls Tryd.prog 8 #[] w fun e w' => e = .returned (.bool true) ∧ Below w.heap.size w w' := by
  have hP := Lib.hid (fun w => parse_any ⟨#[56, 53, 46, 51, 46, 55]⟩ w (by decide))
  have hp : parseO (⟨#[56, 53, 46, 51, 46, 55]⟩ : ByteArray).data.toList = some (85, 3, 7) := by
    rw [show (⟨#[56, 53, 46, 51, 46, 55]⟩ : ByteArray).data.toList = textL 85 3 7 from text85.symm]
    exact parse_text (by decide) (by decide) (by decide)
  rw [hp] at hP
  have hE := Lib.hid (fun w => encode_yes 3 2 7 w (by decide) (by decide))
  have hT := Lib.hid (fun w ht => text_any 85 3 7 w ht (by decide) (by decide) (by decide) (by decide))
  have hx : textB 85 3 7 = ⟨#[56, 53, 46, 51, 46, 55]⟩ := by
    unfold textB
    rw [if_pos (by decide), show (85 : Int).toNat = 85 from rfl, show (3 : Int).toNat = 3 from rfl, show (7 : Int).toNat = 7 from rfl, text85]
  rw [hx] at hT
  clear hx hp
  obtain ⟨y, hy⟩ : ∃ y : Nat, hdW 3 2 = y := ⟨_, rfl⟩
  simp only [pV, nV, hy] at hP hE hT
  go_enter Tryd.func8, Tryd.ntmps8
  go_wp2_with fail
  refine (hP.out _).mono ?_
  rintro e w1 ⟨rfl, hb1⟩
  have hC := C3.new w1 (.int .i64 85) (.int .i64 3) (.int .u64 7) 36
  have hbA : Below w.heap.size w (w1.alloc (.cells #[.int .i64 85, .int .i64 3, .int .u64 7] 36)) := hb1.alloc hb1.size _
  have hz1 := hb1.size
  go_wp2_with fail
  refine (hE.out _).mono ?_
  rintro e w2 ⟨g, rfl, hg, hC2, hb2⟩
  obtain ⟨d0, d1, d2⟩ := hC.keep hb2
  obtain ⟨c0, c1⟩ := id hC2
  have hbB : Below w.heap.size w w2 := hbA.trans (hb2.mono (by have := hbA.size; omega))
  clear hb2 hbA hC
  go_wp2_with fail
  refine (hT.out _ (ht.next hbB)).mono ?_
  rintro e w3 ⟨rfl, hb3⟩
  have k1 := cellK c1 hb3
  have hbC : Below w.heap.size w w3 := hbB.trans (hb3.mono hbB.size)
  clear hb3 hbB c0 c1 d0 d1 d2 hC2
  go_wp2_with fail
  go_ret
  exact ⟨rfl, hbC⟩
end Go.Proofs.YtdblioggncnapaaDoor
