/-
  The laws of package tx: TxPlays.
-/
import Derived.Test.YtcemiclbeocnjaaTk19
set_option linter.unusedVariables false
set_option linter.unusedSimpArgs false
namespace Go.Proofs.Ytcemiclbeocnjaa
open Go.RowKit Go.ChangeShapes Go.WideShapes Go.Deep Go.Maps
attribute [local irreducible] wpList

theorem fewO_at {l : List Ox} (h : FewL l) {k : Nat} (hk : k < l.length) : FewO (l.getD k default) := by
  rw [List.getD_eq_getElem?_getD, List.getElem?_eq_getElem hk]
  exact h.1 _ (List.getElem_mem hk)

set_option maxRecDepth 10000 in
set_option maxHeartbeats 4000000 in
theorem txPlays (v : Value) (l : List Ox) (w : World) (hl : OL l) (hv : OPL w v l) :
    Calls Try.prog 6 #[v] w fun e w' => e = .returned (.bool true) ∧ Below w.heap.size w w' := by
  obtain ⟨n, hn⟩ : ∃ n, l.length = n := ⟨_, rfl⟩
  have hAw := awake_any w
  have hFw := Lib.hid (fun (w1 : World) (hb : Below w.heap.size w w1) => few_any v l w1 hl (hv.keep hb))
  obtain ⟨A, cap, rfl, hC⟩ := EL.form hv hn
  replace hC := Lib.hid hC
  have hn9 : n ≤ 9223372036854775807 := by have := hl.1; omega
  have hnn := Lib.hid hn
  clear hv hl hn
  go_enter Try.func6, Try.ntmps6
  go_wp2_with (first
    | (go_at_call 29; refine hAw.mono ?_; rintro e w1 ⟨rfl, hb1⟩
       have hF1 := hFw.out w1 hb1
       clear hAw)
    | (go_at_call 30; refine hF1.mono ?_; rintro e w2 ⟨⟨t, rfl, ht⟩, hb2⟩
       have hb2w := hb1.trans (hb2.mono hb1.size)
       replace ht := Lib.hid ht
       clear hF1
       cases t)
    | (go_at_call 31; refine (new_N w2).mono ?_; rintro e w3 ⟨B, F, rfl, T0⟩))
  · go_ret
    exact ⟨rfl, hb2w⟩
  have hsz2 := hb2w.size
  have hFL := Lib.hid (ht.out (by first | trivial | rfl))
  have hD0 := start_both T0
  have hB2 := Lib.hid (show w3.heap.size = w3.heap.size from rfl)
  obtain ⟨B2, hB2e⟩ : ∃ B2, w3.heap.size = B2 := ⟨_, rfl⟩
  rw [hB2e] at hD0 ⊢
  have hn40 : n ≤ 40 := by have := hFL.out.2; have := hnn.out; omega
  clear T0 hB2e hB2 ht hFw
  go_loopw [7] (fun i wr => ∃ k : Nat, k ≤ n ∧ i = .int .i64 k ∧ DoP w2 B B2 k wr) (fun i _ => n + 1 - (intOf i).toNat)
  case atStart => exact ⟨0, Nat.zero_le _, rfl, hD0⟩
  case round =>
    clear hD0
    obtain ⟨k, hk, rfl, hD⟩ := hrel
    have hB := hb2w.trans (hD.bel.mono hsz2)
    by_cases hlt : k < n
    · obtain ⟨g, off, rfl, hcap, _, hg, hcl⟩ := hC.out wr k hB hlt
      have hlt' : (k : Int) < (n : Int) := by omega
      have hfo := fewO_at hFL.out (k := k) (by have := hnn.out; omega)
      have hCk := Lib.hid (fun (w' : World) (hb' : Below w.heap.size w w') => hC.out w' k hb' hlt)
      obtain ⟨o, hoq⟩ : ∃ o, l.getD k default = o := ⟨_, rfl⟩
      rw [hoq] at hfo hcl
      replace hoq := Lib.hid hoq
      have hDo := do_any o hD (by omega) hfo
      obtain ⟨kd, ⟨fr, mn⟩, ⟨a1, a2, a3, a4, a5⟩, at_, a7, sz, a9⟩ := o
      have c0 : wr.cell? ⟨g, off + k * 12, none⟩ = some (.int .u8 (kd : Nat)) := hcl 0 (by omega)
      have c1 : wr.cell? ⟨g, off + k * 12 + 1, none⟩ = some (.int .i64 fr) := hcl 1 (by omega)
      have c2 : wr.cell? ⟨g, off + k * 12 + 2, none⟩ = some (.int .i64 mn) := hcl 2 (by omega)
      have c3 : wr.cell? ⟨g, off + k * 12 + 3, none⟩ = some (.int .i64 a1) := hcl 3 (by omega)
      have c4 : wr.cell? ⟨g, off + k * 12 + 4, none⟩ = some (.int .i64 a2) := hcl 4 (by omega)
      have c5 : wr.cell? ⟨g, off + k * 12 + 5, none⟩ = some (.int .i64 a3) := hcl 5 (by omega)
      have c6 : wr.cell? ⟨g, off + k * 12 + 6, none⟩ = some (.int .i64 a4) := hcl 6 (by omega)
      have c7 : wr.cell? ⟨g, off + k * 12 + 7, none⟩ = some (.bool a5) := hcl 7 (by omega)
      have c8 : wr.cell? ⟨g, off + k * 12 + 8, none⟩ = some (.int .i64 at_) := hcl 8 (by omega)
      have c9 : wr.cell? ⟨g, off + k * 12 + 9, none⟩ = some (.int .i64 a7) := hcl 9 (by omega)
      have c10 : wr.cell? ⟨g, off + k * 12 + 10, none⟩ = some (.int .i64 sz) := hcl 10 (by omega)
      have c11 : wr.cell? ⟨g, off + k * 12 + 11, none⟩ = some (.int .u64 a9) := hcl 11 (by omega)
      have hat : I64 at_ := ⟨by have := hfo.2.2.2.2.1; simp only [] at this; omega, by have := hfo.2.2.2.2.2.1; simp only [] at this; omega⟩
      simp only [oE, fE] at hDo
      clear hcl hfo
      go_wp2_with (first
        | (go_at_call 32; refine hDo.mono ?_; rintro e w4 ⟨rfl, hD4⟩
           have hB4 := hb2w.trans (hD4.bel.mono hsz2)
           obtain ⟨g4, off4, he4, _, _, hg4, hcl4⟩ := hCk.out w4 hB4
           cases he4
           rw [hoq.out] at hcl4
           have z8 : w4.cell? ⟨g, off + k * 12 + 3 + 5, none⟩ = some (.int .i64 at_) := hcl4 8 (by omega)
           have hSm := sameB_any at_ hD4 (by omega) hat
           clear hDo hcl4 hD c0 c1 c2 c3 c4 c5 c6 c7 c8 c9 c10 c11)
        | (go_at_call 33; refine hSm.mono ?_; rintro e w5 ⟨rfl, hb5⟩
           have hD5 := hD4.keep hb5
           clear hSm z8))
      go_roundw
      case rel => exact ⟨k + 1, by omega, by go_num, hD5⟩
      case measure => simp [intOf]; omega
    · obtain rfl : k = n := by omega
      clear hC
      go_wp2_with fail
      go_ret
      exact ⟨rfl, hB⟩
end Go.Proofs.Ytcemiclbeocnjaa
