/-
  Package oid: what a text of digits tells (the code's).
-/
import Derived.Test.YtdblioggncnapaaDoorOd1
import Derived.Laws.RangeAny
set_option linter.unusedVariables false
set_option linter.unusedSimpArgs false
set_option maxRecDepth 100000
namespace Go.Proofs.YtdblioggncnapaaDoor
open Go.Lib Go.Shelf Go.RowKit
theorem byte_at (s : ByteArray) (k : Nat) (h : k < s.size) : s[k]'h = s.data.toList.getD k 0 := by
  rw [List.getD_eq_getElem?_getD, List.getElem?_eq_getElem (by rw [Array.length_toList]; exact h)]
  simp [ByteArray.getElem_eq_getElem_data]
theorem below_iter (w : World) (s : ByteArray) (p : Nat) : Below w.heap.size w (w.iter s p) := (Below.refl _ w).alloc (Nat.le_refl _) _
set_option maxHeartbeats 1000000 in
theorem number_any (s : ByteArray) (m : Nat) (hm : 9 ≤ m) (hm64 : m < 18446744073709551616) (w : World) (hs : s.size < 4294967281) :
    Calls Tryd.prog 24 #[.string s, .int .u64 m] w fun e w' => e = .returned (.tuple #[.int .u64 (numC s.data.toList m).1, .bool (numC s.data.toList m).2]) ∧ Below w.heap.size w w' := by
  obtain ⟨l, hl⟩ : ∃ l, s.data.toList = l := ⟨_, rfl⟩
  have hsz : l.length = s.size := by rw [← hl, Lib.size_eq]
  rw [hl]
  have hby := fun k h => byte_at s k h
  rw [hl] at hby
  replace hby := Lib.hid hby
  go_enter Tryd.func24, Tryd.ntmps24
  go_wp2_with fail
  go_loopw [6] (fun n wr => ∃ (pos k : Nat), pos ≤ s.size ∧ wr = w.iter s pos ∧ n = .int .u64 k ∧ Hid (Good l pos k) ∧ k ≤ m) (fun _ wr => s.size - wr.iterPos w.heap.size)
  case atStart => exact ⟨0, 0, Nat.zero_le _, rfl, rfl, Good.start l, Nat.zero_le _⟩
  case round =>
    obtain ⟨pos, n, hpos, rfl, rfl, hG, hnm⟩ := hrel
    by_cases hp : pos < s.size
    · have hb := hby.out pos hp
      have hpl : pos < l.length := by omega
      by_cases ha : (s[pos]'hp).toNat < 128
      · have hnx : ∀ ty, (Instr.next (.pointer (some ⟨w.heap.size, 0, none⟩)) true ty).run Tryd.prog (w.iter s pos) = _ := fun ty => run_next_ascii w s pos ty hp ha
        rw [hb] at hnx ha
        obtain ⟨c, hc⟩ : ∃ c : Nat, (l.getD pos 0).toNat = c := ⟨_, rfl⟩
        rw [hc] at hnx ha
        replace hb := Lib.hid hb
        by_cases hd : isDg (l.getD pos 0) = true
        · have hd' : 48 ≤ c ∧ c ≤ 57 := by
            unfold isDg at hd; rw [hc] at hd
            simpa only [Bool.and_eq_true, decide_eq_true_eq] using hd
          have hlo : ¬ ((c : Int) < 48) := by omega
          have hhi : ¬ ((c : Int) > 57) := by omega
          by_cases hz : 0 < pos ∧ n = 0
          · obtain ⟨hz1, rfl⟩ := hz
            have hz1' : ((pos : Int) > 0) := by omega
            have hout := Lib.hid (hG.out.zeroOut hpl hz1 rfl)
            go_wp2
            go_ret2
            rw [numC_none hout.out]
            exact ⟨rfl, below_iter _ _ _⟩
          · have hz0 : pos = 0 ∨ ¬ n = 0 := by omega
            have hst := Lib.hid (hG.out.step hpl hd hz0)
            rw [hc] at hst
            have hzz : ¬ (pos : Int) > 0 ∨ ((pos : Int) > 0 ∧ ¬ (n : Int) = 0) := by omega
            by_cases hov : n > (m - (c - 48)) / 10
            · have hov' : ((n : Int) > ((m : Int) - ((c : Int) - 48)) / 10) := by omega
              have hout := Lib.hid (show m < valL (l.take (pos + 1)) by rw [← hst.out.val]; omega)
              rcases hzz with hzz | ⟨hz1, hz2⟩
              · go_wp2
                go_ret2
                rw [Good.over hout.out]
                exact ⟨rfl, below_iter _ _ _⟩
              · go_wp2
                go_ret2
                rw [Good.over hout.out]
                exact ⟨rfl, below_iter _ _ _⟩
            · have hov' : ¬ ((n : Int) > ((m : Int) - ((c : Int) - 48)) / 10) := by omega
              have hle := Lib.hid (show n * 10 + (c - 48) ≤ m by omega)
              have hk := Lib.hid (show (n : Int) * 10 + ((c : Int) - 48) = ((n * 10 + (c - 48) : Nat) : Int) by omega)
              rcases hzz with hzz | ⟨hz1, hz2⟩
              · go_wp2
                go_roundw
                case rel => exact ⟨pos + 1, n * 10 + (c - 48), by omega, rfl, congrArg _ hk.out, hst.out, hle.out⟩
                case measure => simp; omega
              · go_wp2
                go_roundw
                case rel => exact ⟨pos + 1, n * 10 + (c - 48), by omega, rfl, congrArg _ hk.out, hst.out, hle.out⟩
                case measure => simp; omega
        · have hd' : c < 48 ∨ 57 < c := by
            unfold isDg at hd; rw [hc] at hd
            simp only [Bool.and_eq_true, decide_eq_true_eq] at hd
            omega
          have hout := Lib.hid (num_none_dg (getD_mem8 hpl) (by simpa using hd))
          rcases hd' with hd' | hd'
          · have hlo : ((c : Int) < 48) := by omega
            go_wp2
            go_ret2
            rw [numC_none hout.out]
            exact ⟨rfl, below_iter _ _ _⟩
          · have hlo : ¬ ((c : Int) < 48) := by omega
            have hhi : ((c : Int) > 57) := by omega
            go_wp2
            go_ret2
            rw [numC_none hout.out]
            exact ⟨rfl, below_iter _ _ _⟩
      · have hnx : ∀ ty, (Instr.next (.pointer (some ⟨w.heap.size, 0, none⟩)) true ty).run Tryd.prog (w.iter s pos) = _ := fun ty => run_next_any w s pos ty hp
        have hh := decode_high s pos hp (by omega)
        rw [hb] at ha
        obtain ⟨r, hr⟩ : ∃ r : Nat, (Utf8.decode s pos).1 = r := ⟨_, rfl⟩
        rw [hr] at hnx hh
        have hlo : ¬ ((r : Int) < 48) := by omega
        have hhi : ((r : Int) > 57) := by omega
        have hout := Lib.hid (num_none_dg (getD_mem8 hpl) (show isDg (l.getD pos 0) = false by unfold isDg; rw [decide_eq_false (p := (l.getD pos 0).toNat ≤ 57) (by omega), Bool.and_false]))
        go_wp2
        go_ret2
        rw [numC_none hout.out]
        exact ⟨rfl, below_iter _ _ _⟩
    · have hnx : ∀ ty, (Instr.next (.pointer (some ⟨w.heap.size, 0, none⟩)) true ty).run Tryd.prog (w.iter s pos) = _ := fun ty => run_next_end w s pos ty hp
      have hpe : pos = l.length := by omega
      have hG2 := Lib.hid (hpe ▸ hG.out : Good l l.length n)
      replace hsz := Lib.hid hsz
      clear hpe hG
      by_cases h0 : l.length = 0
      · replace h0 := Lib.hid h0
        have hse : s = ByteArray.empty := by
          apply ByteArray.ext
          apply Array.ext'
          rw [hl]
          exact List.length_eq_zero_iff.1 h0.out
        have hout := Lib.hid (show numC l m = (0, false) from numC_none (by rw [List.length_eq_zero_iff.1 h0.out]; rfl))
        have hn0 : n = 0 := by
          have := hG2.out.val
          rw [List.length_eq_zero_iff.1 h0.out] at this
          exact this
        subst hn0
        subst hse
        go_wp2
        go_ret2
        rw [hout.out]
        exact ⟨rfl, below_iter _ _ _⟩
      · have hse : s.toList.isEmpty = false := by rw [Lib.toList_data, hl]; exact List.isEmpty_eq_false_iff.2 (fun e => h0 (by rw [e]; rfl))
        have hf := Lib.hid (hG2.out.fin h0)
        replace h0 := Lib.hid h0
        have hout := Lib.hid (show numC l m = (n, true) by rw [numC_ok hf.out.1 (by rw [← hf.out.2]; exact hnm), ← hf.out.2])
        go_wp2
        go_ret2
        rw [hout.out]
        exact ⟨rfl, below_iter _ _ _⟩
end Go.Proofs.YtdblioggncnapaaDoor
