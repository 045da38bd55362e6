/-
  Package oid: the document's digits, number.
-/
import Derived.Test.YtdblioggncnapaaDoorOd5
import Derived.Laws.Runes
set_option linter.unusedVariables false
set_option linter.unusedSimpArgs false
set_option maxRecDepth 100000
namespace Go.Proofs.YtdblioggncnapaaDoor
open Go.Lib Go.Shelf Go.RowKit
theorem enc1 {d : Nat} (h : d < 128) : Utf8.encode (d : Int) = ⟨#[UInt8.ofNat d]⟩ := by
  have hv : Utf8.valid (d : Int) = true := by rw [validRune_eq]; unfold validRune; rw [decide_eq_true]; omega
  unfold Utf8.encode
  simp only [hv, if_true, Int.toNat_natCast, if_pos h]
theorem cons_ba (b : UInt8) (l : List UInt8) : (⟨#[b]⟩ : ByteArray) ++ ⟨l.toArray⟩ = ⟨(b :: l).toArray⟩ := by
  apply ByteArray.ext
  apply Array.ext'
  simp
theorem dec_step {c n : Nat} {acc : List UInt8} (h : decDigits c ++ acc = decDigits n) (h9 : 9 < c) : decDigits (c / 10) ++ (UInt8.ofNat (48 + c % 10) :: acc) = decDigits n := by
  rw [dec_big (by omega), List.append_assoc] at h
  exact h
theorem dec_end {c n : Nat} {acc : List UInt8} (h : decDigits c ++ acc = decDigits n) (h9 : ¬ 9 < c) : UInt8.ofNat (48 + c) :: acc = decDigits n := by
  rw [dec_small (by omega)] at h
  exact h
theorem dec_short {c n : Nat} {acc : List UInt8} (h : decDigits c ++ acc = decDigits n) (hn : n < 18446744073709551616) : acc.length ≤ 20 := by
  have := dec_len hn
  rw [← h, List.length_append] at this
  omega
set_option maxHeartbeats 1000000 in
theorem digits_any (n : Nat) (hn : n < 18446744073709551616) (w : World) :
    Calls Tryd.prog 28 #[.int .u64 (n : Nat)] w fun e w' => e = .returned (.string ⟨(decDigits n).toArray⟩) ∧ Below w.heap.size w w' := by
  go_enter Tryd.func28, Tryd.ntmps28
  go_wp2_with fail
  go_loop [0, 3] (fun u s => ∃ (c : Nat) (acc : List UInt8), u = .int .u64 c ∧ s = .string ⟨acc.toArray⟩ ∧ Hid (decDigits c ++ acc = decDigits n) ∧ c ≤ n) (fun u _ => (RowKit.intOf u).toNat)
  case atStart => exact ⟨n, [], rfl, rfl, List.append_nil _, Nat.le_refl _⟩
  case round =>
    obtain ⟨c, acc, rfl, rfl, hD, hc⟩ := hrel
    obtain ⟨x, hx⟩ : ∃ x : Nat, c % 10 = x := ⟨_, rfl⟩
    obtain ⟨y, hy⟩ : ∃ y : Nat, c / 10 = y := ⟨_, rfl⟩
    have hlen := dec_short hD.out hn
    by_cases h9 : 9 < c
    · have hst := Lib.hid (dec_step hD.out h9)
      rw [hx, hy] at hst
      have he := enc1 (d := 48 + x) (by omega)
      obtain ⟨b, hb⟩ : ∃ b, UInt8.ofNat (48 + x) = b := ⟨_, rfl⟩
      rw [hb] at hst he
      clear hb
      have hx2 : (c : Int) % 10 = (x : Int) := by omega
      have hx3 : (c : Int).tmod 10 = (x : Int) := by rw [Int.tmod_eq_emod_of_nonneg (by omega)]; omega
      have hy2 : (c : Int) / 10 = (y : Int) := by omega
      have hxl : x < 10 := by omega
      have h9' : (c : Int) > 9 := by omega
      have hcb := cons_ba b acc
      have hm : y < c := by omega
      have hyn : y ≤ n := by omega
      have e3 : (48 : Int) + (x : Int) = ((48 + x : Nat) : Int) := by omega
      rw [← e3] at he
      clear e3 hx hy
      go_wp2_with fail
      go_round
      case rel => exact ⟨y, b :: acc, rfl, rfl, hst, hyn⟩
      case measure => simp [RowKit.intOf]; omega
    · have hst := Lib.hid (dec_end hD.out h9)
      have he := enc1 (d := 48 + c) (by omega)
      obtain ⟨b, hb⟩ : ∃ b, UInt8.ofNat (48 + c) = b := ⟨_, rfl⟩
      rw [hb] at hst he
      clear hb
      have hcb := cons_ba b acc
      have e3 : (48 : Int) + (c : Int) = ((48 + c : Nat) : Int) := by omega
      rw [← e3] at he
      have h9' : ¬ (c : Int) > 9 := by omega
      clear e3 hx hy
      go_wp2_with fail
      go_ret
      exact ⟨by rw [hst.out]; rfl, Below.refl _ _⟩
/-- a beginning that is digits -/
structure Dgs (l : List UInt8) (k n : Nat) : Prop where
  dg : ∀ b ∈ l.take k, isDg b = true
  val : n = valL (l.take k)
theorem Dgs.start (l : List UInt8) : Dgs l 0 0 := ⟨fun b hb => by simp at hb, rfl⟩
theorem Dgs.step {l : List UInt8} {k n c : Nat} (h : Dgs l k n) (hk : k < l.length) (hd : isDg (l.getD k 0) = true) (hc : (l.getD k 0).toNat = c) : Dgs l (k + 1) (10 * n + (c - 48)) := by
  subst hc
  refine ⟨fun b hb => ?_, ?_⟩
  · rw [take_snoc8 hk] at hb
    rcases List.mem_append.1 hb with hb | hb
    · exact h.dg b hb
    · rw [List.mem_singleton] at hb; subst hb; exact hd
  · rw [take_snoc8 hk, valL_snoc, h.val]; omega
theorem Dgs.fin {l : List UInt8} {n : Nat} (h : Dgs l l.length n) (h0 : ¬ l.length = 0) (hz : l.length = 1 ∨ l.head? ≠ some 48) (hn : n ≤ 18446744073709551615) : numC l 18446744073709551615 = (n, true) := by
  have h1 := h.dg
  have h2 := h.val
  rw [List.take_length] at h1 h2
  subst h2
  exact numC_ok (canon_mk (fun e => h0 (by rw [e]; rfl)) h1 hz) hn
theorem head8 {l : List UInt8} {c : Nat} (h0 : ¬ l.length = 0) (hc : (l.getD 0 0).toNat = c) : l.head? = some 48 ↔ c = 48 := by
  cases l with
  | nil => exact absurd rfl h0
  | cons b t =>
    subst hc
    simp only [List.head?_cons, Option.some.injEq, List.getD_cons_zero]
    constructor
    · rintro rfl; rfl
    · intro h; exact UInt8.toNat_inj.1 h
theorem u8_lt (b : UInt8) : b.toNat < 256 := b.toNat_lt
theorem byte_at2 (s : ByteArray) (k : Nat) (h : k < s.size) {c : Nat} (hc : (s[k]'h).toNat = c) : (s.data.toList.getD k 0).toNat = c := by
  rw [← hc, ← byte_at s k h]
set_option maxHeartbeats 2000000 in
theorem refNumber_any (s : ByteArray) (w : World) (hs : s.size < 4294967281) :
    Calls Tryd.prog 25 #[.string s] w fun e w' => e = .returned (.tuple #[.int .u64 (numC s.data.toList 18446744073709551615).1, .bool (numC s.data.toList 18446744073709551615).2]) ∧ Below w.heap.size w w' := by
  have hby := Lib.hid (fun k h (c : Nat) hc => byte_at2 s k h (c := c) hc)
  obtain ⟨l, hl⟩ : ∃ l, s.data.toList = l := ⟨_, rfl⟩
  have hsz : l.length = s.size := by rw [← hl, Lib.size_eq]
  rw [hl] at hby ⊢
  clear hl
  obtain ⟨T, hT⟩ : ∃ T : Nat, T = 1844674407370955161 := ⟨_, rfl⟩
  have hT2 := Lib.hid hT
  go_enter Tryd.func25, Tryd.ntmps25
  clear hT
  go_wp2_with fail
  go_loop [4, 5] (fun n i => ∃ (k m : Nat), k ≤ s.size ∧ i = .int .i64 k ∧ n = .int .u64 m ∧ Hid (Dgs l k m) ∧ Hid (m ≤ 18446744073709551615)) (fun _ i => s.size + 1 - (RowKit.intOf i).toNat)
  case atStart => exact ⟨0, 0, Nat.zero_le _, rfl, rfl, Dgs.start l, (show (0 : Nat) ≤ 18446744073709551615 by omega)⟩
  case round =>
    obtain ⟨k, m, hk, rfl, rfl, hG, hm⟩ := hrel
    by_cases hlt : k < s.size
    · have hkl : k < l.length := by omega
      obtain ⟨c, hc⟩ : ∃ c : Nat, (s[k]'hlt).toNat = c := ⟨_, rfl⟩
      have hcl := Lib.hid (hby.out k hlt c hc)
      have hc256 : c < 256 := by rw [← hc]; exact u8_lt _
      have hmem := Lib.hid (getD_mem8 hkl)
      by_cases hd : 48 ≤ c ∧ c ≤ 57
      · have hdg : isDg (l.getD k 0) = true := by unfold isDg; rw [hcl.out, decide_eq_true hd.1, decide_eq_true hd.2]; rfl
        have hlo : ¬ ((c : Int) < 48) := by omega
        have hhi : ¬ ((c : Int) > 57) := by omega
        by_cases h20 : 20 < s.size
        · have hout := Lib.hid (num_long (l := l) (by omega))
          have h20' : (s.size : Int) > 20 := by omega
          clear hsz
          go_wp2_with fail
          go_ret2
          rw [hout.out]
          exact ⟨rfl, Below.refl _ _⟩
        · have h20' : ¬ (s.size : Int) > 20 := by omega
          obtain ⟨d, hd'⟩ : ∃ d : Nat, c - 48 = d := ⟨_, rfl⟩
          have hd2 : (c : Int) - 48 = (d : Int) := by omega
          have hd9 : d ≤ 9 := by omega
          have hst := Lib.hid (hG.out.step hkl hdg hcl.out)
          rw [hd'] at hst
          have hov := Lib.hid (fun (h : 18446744073709551615 < 10 * m + d) => show numC l 18446744073709551615 = (0, false) from Good.over (k := k + 1) (by rw [← hst.out.val]; exact h))
          have hTv := hT2.out
          clear hsz hd hdg hd'
          rcases Nat.lt_trichotomy m T with q | q | q
          · have q1 : ¬ (m : Int) > 1844674407370955161 := by omega
            have q2 : ¬ (m : Int) = 1844674407370955161 := by omega
            have q4 : 10 * m + d ≤ 18446744073709551615 := by omega
            replace q4 := Lib.hid q4
            have q5 : (m : Int) < 1844674407370955161 := by omega
            clear hTv
            go_wp2_with fail
            go_round
            case rel => exact ⟨k + 1, 10 * m + d, by omega, by go_num, by go_num, hst, q4⟩
            case measure => simp [RowKit.intOf]; omega
          · by_cases h5 : 5 < d
            · have q1 : ¬ (m : Int) > 1844674407370955161 := by omega
              have q2 : (m : Int) = 1844674407370955161 := by omega
              have q3 : (d : Int) > 5 := by omega
              have hout := Lib.hid (hov.out (by omega))
              clear hTv q
              go_wp2_with fail
              go_ret2
              rw [hout.out]
              exact ⟨rfl, Below.refl _ _⟩
            · have q1 : ¬ (m : Int) > 1844674407370955161 := by omega
              have q2 : (m : Int) = 1844674407370955161 := by omega
              have q3 : ¬ (d : Int) > 5 := by omega
              have q4 : 10 * m + d ≤ 18446744073709551615 := by omega
              have q6 : (18446744073709551610 : Int) + (d : Int) = ((10 * m + d : Nat) : Int) := by omega
              replace q4 := Lib.hid q4
              replace q6 := Lib.hid q6
              clear hTv q
              go_wp2_with fail
              go_round
              case rel => exact ⟨k + 1, 10 * m + d, by omega, by go_num, congrArg _ q6.out, hst, q4⟩
              case measure => simp [RowKit.intOf]; omega
          · have q1 : (m : Int) > 1844674407370955161 := by omega
            have hout := Lib.hid (hov.out (by omega))
            clear hTv
            go_wp2_with fail
            go_ret2
            rw [hout.out]
            exact ⟨rfl, Below.refl _ _⟩
      · have hdg : isDg (l.getD k 0) = false := by
          unfold isDg; rw [hcl.out]
          by_cases q : 48 ≤ c
          · rw [decide_eq_false (p := c ≤ 57) (by omega), Bool.and_false]
          · rw [decide_eq_false (p := 48 ≤ c) q, Bool.false_and]
        have hout := Lib.hid (numC_none (m := 18446744073709551615) (num_none_dg hmem.out hdg))
        clear hdg hsz
        by_cases q : c < 48
        · have hlo : ((c : Int) < 48) := by omega
          go_wp2_with fail
          go_ret2
          rw [hout.out]
          exact ⟨rfl, Below.refl _ _⟩
        · have hlo : ¬ ((c : Int) < 48) := by omega
          have hhi : ((c : Int) > 57) := by omega
          go_wp2_with fail
          go_ret2
          rw [hout.out]
          exact ⟨rfl, Below.refl _ _⟩
    · obtain rfl : k = l.length := by omega
      have hG2 := Lib.hid hG.out
      by_cases h0 : l.length = 0
      · have hout := Lib.hid (show numC l 18446744073709551615 = (0, false) from numC_none (by rw [List.length_eq_zero_iff.1 h0]; rfl))
        have hse : s = ByteArray.empty := by
          apply ByteArray.ext
          apply Array.ext'
          refine List.eq_nil_of_length_eq_zero ?_
          rw [Array.length_toList]
          show s.size = 0
          omega
        clear hG hby hG2
        subst hse
        replace h0 := Lib.hid h0
        replace hsz := Lib.hid hsz
        rw [h0.out] at hk hlt ⊢
        go_wp2_with fail
        go_ret2
        rw [hout.out]
        exact ⟨rfl, Below.refl _ _⟩
      · have h0s : 0 < s.size := by omega
        obtain ⟨c, hc⟩ : ∃ c : Nat, (s[0]'h0s).toNat = c := ⟨_, rfl⟩
        have hcl := Lib.hid (hby.out 0 h0s c hc)
        have hhd := Lib.hid (head8 h0 hcl.out)
        rw [hsz] at hlt hk ⊢
        have hsz2 := Lib.hid hsz
        have hne0 : ¬ ((s.size : Int) = 0) := by omega
        have hse : ¬ s = ByteArray.empty := fun e => by rw [e] at h0s; exact absurd h0s (by decide)
        clear hlt hk
        by_cases h48 : c = 48
        · subst h48
          by_cases h1 : s.size = 1
          · have hout := Lib.hid (hG2.out.fin h0 (.inl (by omega)) hm.out)
            have h1' : ¬ (s.size : Int) > 1 := by omega
            replace h1 := Lib.hid h1
            clear hsz h0
            go_wp2_with fail
            go_ret2
            rw [hout.out]
            exact ⟨rfl, Below.refl _ _⟩
          · have hout := Lib.hid (show numC l 18446744073709551615 = (0, false) from numC_none (num_none_zero (hhd.out.2 rfl) (by omega)))
            have h1' : (s.size : Int) > 1 := by omega
            clear hsz h0 h1
            go_wp2_with fail
            go_ret2
            rw [hout.out]
            exact ⟨rfl, Below.refl _ _⟩
        · have hout := Lib.hid (hG2.out.fin h0 (.inr (fun h => h48 (hhd.out.1 h))) hm.out)
          have hc48 : ¬ (c : Int) = 48 := by omega
          clear hsz h0 h48
          go_wp2_with fail
          go_ret2
          rw [hout.out]
          exact ⟨rfl, Below.refl _ _⟩
end Go.Proofs.YtdblioggncnapaaDoor
