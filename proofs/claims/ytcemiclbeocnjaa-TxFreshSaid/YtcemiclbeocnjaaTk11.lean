/-
  The laws of package tx: TxDeep.
-/
import Derived.Test.YtcemiclbeocnjaaTk10
import Derived.Test.YtcemiclbeocnjaaTkO
set_option linter.unusedVariables false
set_option linter.unusedSimpArgs false
namespace Go.Proofs.Ytcemiclbeocnjaa
open Go.RowKit Go.ChangeShapes Go.WideShapes Go.Deep Go.Maps

theorem spoilt_N {w0 w : World} {B : Nat} {F : Nat → Prop} {s : St} (h : TxN w0 w B F s) :
    Calls Try.prog 47 #[.pointer (some ⟨B, 0, none⟩)] w fun e w' => e = .returned (.bool s.bad) ∧ w' = w := Spoilt_any B F s w h.tx
theorem named_N {w0 w : World} {B : Nat} {F : Nat → Prop} {s : St} (h : TxN w0 w B F s) :
    Calls Try.prog 46 #[.pointer (some ⟨B, 0, none⟩)] w fun e w' => e = .returned (.tuple #[.int .i64 s.root, .bool s.named]) ∧ TxN w0 w' B F s ∧ Below w.heap.size w w' := by
  refine (Named_any B F s w h.tx).mono ?_
  rintro e w1 ⟨rfl, hb⟩
  exact ⟨rfl, h.keep hb, hb⟩
theorem noted_N {w0 w : World} {B : Nat} {F : Nat → Prop} {s : St} (h : TxN w0 w B F s) (hlen : s.noted.length ≤ 1000000) :
    Calls Try.prog 38 #[.pointer (some ⟨B, 0, none⟩)] w fun e w' => ∃ v, e = .returned v ∧ SpN w' F v s.noted ∧ (∀ k, v.ownBlock = some k → w.heap.size ≤ k) ∧ TxN w0 w' B F s ∧ Below w.heap.size w w' := by
  refine (Noted_any B F s w h.tx hlen).mono ?_
  rintro e w1 ⟨v, rfl, ho, hb⟩
  exact ⟨v, rfl, ⟨ho.mono (Nat.zero_le _), fun k e q => by have := h.tx.lt k q; have := ((ownSp_iff.1 ho).lt k e).1; omega⟩, fun k e => ((ownSp_iff.1 ho).lt k e).1, h.keep hb, hb⟩
def sDeep (d : Int) : St := { st0 with depth := d }

set_option maxRecDepth 10000 in
set_option maxHeartbeats 2000000 in
theorem txDeep (v : Value) (l : List Bool) (w : World) (hlen : l.length ≤ 9223372036854775807) (hv : BoL w v l) :
    Calls Try.prog 10 #[v] w fun e w' => e = .returned (.bool true) ∧ Below w.heap.size w w' := by
  obtain ⟨n, hn⟩ : ∃ n, l.length = n := ⟨_, rfl⟩
  obtain ⟨A, cap, rfl, hC⟩ := EL.form hv hn
  replace hC := Lib.hid hC
  have hn9 : n ≤ 9223372036854775807 := by omega
  clear hv hn hlen
  have hAw := awake_any w
  by_cases hbig : 200 < n
  · have t1 : decide ((200 : Int) < (n : Int)) = true := decide_eq_true (by omega)
    clear hC
    go_enter Try.func10, Try.ntmps10
    go_wp2_with (go_at_call 29; refine hAw.mono ?_; rintro e w1 ⟨rfl, hb⟩)
    go_ret
    exact ⟨rfl, hb⟩
  have t1 : decide ((200 : Int) < (n : Int)) = false := decide_eq_false (by omega)
  go_enter Try.func10, Try.ntmps10
  go_wp2_with (first
    | (go_at_call 29; refine hAw.mono ?_; rintro e w1 ⟨rfl, hb⟩)
    | (go_at_call 31; refine (new_N w1).mono ?_; rintro e w2 ⟨B, F, rfl, T0⟩))
  have T1 : TxN w1 w2 B F (sDeep 0) := T0
  have hsz := hb.size
  clear T0 hAw t1
  go_loopw [5, 6] (fun d i wr => ∃ (k : Nat) (d0 : Int), k ≤ n ∧ i = .int .i64 k ∧ d = .int .i64 d0 ∧ 0 ≤ d0 ∧ d0 ≤ k ∧ TxN w1 wr B F (sDeep d0)) (fun _ i _ => n + 1 - (intOf i).toNat)
  case atStart => exact ⟨0, 0, Nat.zero_le _, rfl, rfl, by omega, by omega, T1⟩
  case round =>
    clear T1
    obtain ⟨k, d0, hk, rfl, rfl, h0, hdk, T⟩ := hrel
    have hB := hb.trans (T.bel.mono hsz)
    by_cases hlt : k < n
    · obtain ⟨g, off, rfl, hcap, _, hg, hcl⟩ := hC.out wr k hB hlt
      have c0 := hcl 0 (by omega)
      clear hcl
      rw [Nat.add_zero, Nat.mul_one] at c0
      have hlt' : (k : Int) < (n : Int) := by omega
      generalize l.getD k default = b at *
      replace c0 : wr.cell? ⟨g, off + k, none⟩ = some (.bool b) := c0
      have hbe := begin_N T h0 (by show d0 ≤ 1000000; omega)
      have hen := end_N T h0 (by show d0 ≤ 1000000; omega)
      replace hbe : Calls Try.prog 44 #[.pointer (some ⟨B, 0, none⟩)] wr fun e w' => e = .returned (.int .i64 (d0 + 1)) ∧ TxN w1 w' B F (sDeep (d0 + 1)) ∧ Step F wr F w' := hbe
      replace hen : Calls Try.prog 45 #[.pointer (some ⟨B, 0, none⟩)] wr fun e w' => e = .returned (.int .i64 (max (d0 - 1) 0)) ∧ TxN w1 w' B F (sDeep (max (d0 - 1) 0)) ∧ Step F wr F w' := hen
      clear T hB
      cases b with
      | true =>
        have t2 : (d0 + 1 != d0 + 1) = false := by simp
        clear hen
        go_wp2_with (go_at_call 44; refine hbe.mono ?_; rintro e w3 ⟨rfl, T3, _⟩; clear hbe)
        go_roundw
        case rel => exact ⟨k + 1, d0 + 1, by omega, by go_num, by first | rfl | go_num, by omega, by omega, T3⟩
        case measure => simp [intOf]; omega
      | false =>
        obtain ⟨d1, hd1⟩ : ∃ d1, max (d0 - 1) 0 = d1 := ⟨_, rfl⟩
        rw [hd1] at hen
        have hm : (if d0 - 1 < 0 then (0 : Int) else d0 - 1) = d1 := by rw [← hd1]; split <;> omega
        have hm2 : (if (0 : Int) ≤ d0 - 1 then d0 - 1 else (0 : Int)) = d1 := by rw [← hd1]; split <;> omega
        have hm3 : (if d0 - 1 ≤ 0 then (0 : Int) else d0 - 1) = d1 := by rw [← hd1]; split <;> omega
        have hm4 : (if (0 : Int) < d0 - 1 then d0 - 1 else (0 : Int)) = d1 := by rw [← hd1]; split <;> omega
        have hm5 : max (0 : Int) (d0 - 1) = d1 := by rw [← hd1]; omega
        have t2 : (d1 != d1) = false := by simp
        have hd2 : 0 ≤ d1 ∧ d1 ≤ k := by omega
        clear hbe hd1
        go_wp2_with (go_at_call 45; refine hen.mono ?_; rintro e w3 ⟨rfl, T3, _⟩; clear hen)
        go_roundw
        case rel => exact ⟨k + 1, d1, by omega, by go_num, by first | rfl | go_num, by omega, by omega, T3⟩
        case measure => simp [intOf]; omega
    · obtain rfl : k = n := by omega
      have hNm := named_N T
      have hroot : (sDeep d0).root = 0 := rfl
      have hnam : (sDeep d0).named = false := rfl
      have hbad : (sDeep d0).bad = false := rfl
      rw [hroot, hnam] at hNm
      clear T hC hB hroot hnam
      go_wp2_with (first
        | (go_at_call 46; refine hNm.mono ?_; rintro e w3 ⟨rfl, T3, _⟩; have hSp := spoilt_N T3; rw [hbad] at hSp; have hNo := noted_N T3 (by show 0 ≤ 1000000; omega); clear hNm hbad)
        | (go_at_call 47; refine hSp.mono ?_; rintro e w4 ⟨rfl, rfl⟩; clear hSp)
        | (go_at_call 38; refine hNo.mono ?_; rintro e w5 ⟨vN, rfl, oN, _, T5, _⟩; obtain ⟨A5, cap5, rfl, _⟩ := ((ownSp_iff.1 oN.own).el spE_len).form (n := 0) rfl; clear oN hNo))
      go_ret
      exact ⟨rfl, hb.trans (T5.bel.mono hsz)⟩
end Go.Proofs.Ytcemiclbeocnjaa
