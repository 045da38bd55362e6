/-
  The laws of package seal: SealBursts (walks).
-/
import Derived.Test.YtjmilngndoiceaaUSealB1
import Derived.Test.YtjmilngndoiceaaUSeal9
import Derived.ArgAppend
set_option linter.unusedVariables false
namespace Go.Proofs.Ytjmilngndoiceaa
open Go.RowKit

set_option maxHeartbeats 1000000 in
/-- two lists of one length: are they one? -/
theorem words_any (v u : Value) (l m : List Nat) (w : World) (hlen : l.length ≤ 1000) (hm : m.length = l.length) (hpos : 0 < l.length) (hv : SL w v l) (hu : SL w u m) :
    Calls Try.prog 11 #[v, u] w fun e w' => e = .returned (.bool (decide (l = m))) ∧ Below w.heap.size w w' := by
  obtain ⟨N, hn⟩ : ∃ N, l.length = N + 1 := ⟨l.length - 1, by omega⟩
  obtain ⟨g, o, p, rfl, hg, hp, hc⟩ := hv.pos hn
  obtain ⟨g2, o2, p2, rfl, hg2, hp2, hc2⟩ := hu.pos (n := N) (by omega)
  have HC := Lib.hid hc
  have HC2 := Lib.hid hc2
  clear hc hc2 hv hu
  have hm' : m.length = N + 1 := by omega
  generalize hM : N + 1 = M at *
  have hM1 : M ≤ 1000 := by omega
  have HN := Lib.hid hn
  have HM := Lib.hid hm'
  clear hn hlen hM hm hm' hpos
  go_enter Try.func11, Try.ntmps11
  go_wp2_with fail
  go_loopw [5] (fun i wr => ∃ k : Nat, k ≤ M ∧ i = .int .i64 k ∧ Hid (∀ j, j < k → l.getD j 0 = m.getD j 0) ∧ Below w.heap.size w wr) (fun i _ => M + 1 - (intOf i).toNat)
  case atStart => exact ⟨0, Nat.zero_le _, rfl, (fun j hj => by omega), Below.refl _ _⟩
  case round =>
    obtain ⟨k, hk, rfl, hE, hB⟩ := hrel
    by_cases hlt : k < M
    · have hlt' : (k : Int) < (M : Int) := by omega
      have c1 := ((bcell hB).1 g (o + k) hg).trans (HC.out k hlt)
      have c2 := ((bcell hB).1 g2 (o2 + k) hg2).trans (HC2.out k hlt)
      by_cases hxy : l.getD k 0 = m.getD k 0
      · have hE2 : Hid (∀ j, j < k + 1 → l.getD j 0 = m.getD j 0) := fun j hj => by
          by_cases e : j = k
          · subst e; exact hxy
          · exact hE.out j (by omega)
        rw [← hxy] at c2
        generalize l.getD k 0 = x at *
        have e1 : ((x : Int) == (x : Int)) = true := by simp
        clear hxy
        go_wp2_with fail
        go_region
        all_goals (try go_wp2_with fail)
        go_roundw
        case rel => exact ⟨k + 1, by omega, by go_num, hE2, hB.drew⟩
        case measure => simp [intOf]; omega
      · have hd : Hid (decide (l = m) = false) := by
          refine decide_eq_false (fun h => hxy ?_)
          rw [h]
        have e1 : ((l.getD k 0 : Nat) : Int) ≠ ((m.getD k 0 : Nat) : Int) := by omega
        generalize l.getD k 0 = x at *
        generalize m.getD k 0 = y at *
        have e2 : ((x : Int) == (y : Int)) = false := by rw [beq_eq_false_iff_ne]; exact e1
        have e3 : ((x : Int) != (y : Int)) = true := by rw [bne_iff_ne]; exact e1
        clear hxy
        go_wp2_with fail
        go_region
        all_goals (try go_wp2_with fail)
        all_goals
          go_ret
          exact ⟨by rw [hd.out]; rfl, hB.drew⟩
    · obtain rfl : k = M := by omega
      have hd : Hid (decide (l = m) = true) := by
        refine decide_eq_true ?_
        apply List.ext_getElem?
        intro j
        by_cases hj : j < k
        · have := hE.out j hj
          rw [List.getElem?_eq_getElem (by rw [HN.out]; exact hj), List.getElem?_eq_getElem (by rw [HM.out]; exact hj)]
          rw [List.getD_eq_getElem?_getD, List.getD_eq_getElem?_getD, List.getElem?_eq_getElem (by rw [HN.out]; exact hj), List.getElem?_eq_getElem (by rw [HM.out]; exact hj)] at this
          simpa using this
        · rw [List.getElem?_eq_none (by rw [HN.out]; omega), List.getElem?_eq_none (by rw [HM.out]; omega)]
      go_wp2_with fail
      go_ret
      exact ⟨by rw [hd.out]; rfl, hB⟩
theorem owns_keep {w w1 : World} {base e n : Nat} {v : Value} {xs : List Value} (h : w.ownsRow base e 1 v n xs) (hb : Below w.heap.size w w1) : w1.ownsRow base e 1 v n xs := by
  refine ⟨h.1, ?_⟩
  rcases h.2 with h2 | ⟨g, cap, cur, hv, hbg, hg, h1, h2, h3, h4⟩
  · exact .inl h2
  · exact .inr ⟨g, cap, cur, hv, hbg, by rw [hb.block g (Array.getElem?_eq_some_iff.1 hg).1]; exact hg, h1, h2, h3, h4⟩
theorem wpList_append_run {P : Program} {w w' : World} {ops : Array Oper} {rest : List Oper} {o : Oper} {a : Act} {Q : Exit → Act → World → Prop} (hg : o.guard = none) (s x : Operand) (t : TypeId)
    (hop : o.op = Op.call { callee := Callee.builtin Builtin.append, args := #[s, x], argTypes := #[t, t] }) (vs vx v : Value) (hs : a.eval s = vs) (hx : a.eval x = vx)
    (hrun : (Builtin.append_ #[t, t] o.type #[vs, vx]).run P w = .ok v w') (h : wpList P ops Q rest (a.put o.dst v) w') : wpList P ops Q (o :: rest) a w := by
  refine wpList_plain hg fun K hK => ?_
  unfold Oper.wp
  simp [execOp, hop, resolve, invoke, builtin, hs, hx, hrun, Result.andThen]
  exact hK _ _ h
theorem append_sum {w5 : World} {base gx n cx gb m : Nat} {xs : List Nat} (hown : w5.ownsRow base 34 1 (.slice (some ⟨gx, 0, none⟩) n cx) n (wv xs)) (hn : xs.length = n) (hcell : w5.cell? ⟨gb, 0, none⟩ = some (.int .u64 (m : Nat))) (hbase : base ≤ w5.heap.size) (hsm : n ≤ 40) (hpos : 0 < n) :
    ∃ v3 w6, (Builtin.append_ #[25, 25] 25 #[.slice (some ⟨gx, 0, none⟩) n cx, .slice (some ⟨gb, 0, none⟩) 1 1]).run Try.prog w5 = .ok v3 w6 ∧ SL w6 v3 (xs ++ [m]) ∧ SL w6 (.slice (some ⟨gx, 0, none⟩) n cx) xs ∧ Below base w5 w6 := by
  obtain ⟨i0, hi, hz0, hz1, hz2⟩ := info_parts infoU64
  have hnews : ∀ j u, [Value.int .u64 (m : Int)][j]? = some u → w5.cell? ((⟨gb, 0, none⟩ : Addr).add j) = some u := fun j u hj => by
    have h0 : j = 0 := by
      have := (List.getElem?_eq_some_iff.1 hj).1
      simp at this
      omega
    subst h0
    simp only [List.getElem?_cons_zero] at hj
    rw [← hj]
    simpa [Addr.add] using hcell
  have h1 : ∀ u ∈ [Value.int .u64 (m : Int)], u.oneCell' = true := fun u hu => by simp at hu; subst hu; rfl
  have hlx : (xs ++ [m]).length = n + 1 := by simp [hn]
  have hge := own_ge hown gx rfl
  by_cases hroom : n + 1 ≤ cx
  · obtain ⟨w6, hrun, ho6, hg6⟩ := run_append_fits (P := Try.prog) w5 base 25 25 34 i0 1 Try.underlying25 hi hz1 gx n cx (wv xs) hown ⟨gb, 0, none⟩ 1 1 [.int .u64 (m : Int)] rfl hnews h1 hroom
    rw [← wv_succ, ← hlx] at ho6
    have hS := SL.of_owns ho6
    refine ⟨_, w6, hrun, by rw [← hlx]; exact hS, ?_, (Below.refl _ _).grown hg6 hbase (fun k hk => by simp at hk; omega)⟩
    obtain ⟨g3, o3, c3, hv3, hg3, hc3, hcells⟩ := hS.pos hlx
    rw [hlx] at hv3
    simp only [Value.slice.injEq, Option.some.injEq, Addr.mk.injEq, and_true, true_and] at hv3
    obtain ⟨⟨rfl, rfl⟩, rfl⟩ := hv3
    refine .inr ⟨gx, 0, cx, by rw [hn], hg3, by omega, fun i hi => ?_⟩
    have := hcells i (by omega)
    rw [this, List.getD_eq_getElem?_getD, List.getD_eq_getElem?_getD, List.getElem?_append_left hi]
  · have hold := hown.cells (g := gx) rfl
    obtain ⟨v3, w6, hrun, ho6, hg6⟩ := run_append_arg_grows (P := Try.prog) w5 25 25 34 i0 (.int .u64 0) 1 8 Try.underlying25 hi hz0 hz1 hz2 rfl (by decide) ⟨gx, 0, none⟩ n cx (wv xs) (by rw [wv_len]; omega) hold ⟨gb, 0, none⟩ 1 1 [.int .u64 (m : Int)] rfl hnews (by omega) (by unfold maxLen; omega) (by omega)
    rw [← wv_succ, ← hlx] at ho6
    have hB6 : Below w5.heap.size w5 w6 := (Below.refl _ _).grown hg6 (Nat.le_refl _) (by simp)
    have hX : SL w5 (.slice (some ⟨gx, 0, none⟩) xs.length cx) xs := SL.of_owns (by rw [hn]; exact hown)
    rw [hn] at hX
    exact ⟨v3, w6, hrun, SL.of_owns ho6, hX.keep hB6, hB6.mono hbase⟩
end Go.Proofs.Ytjmilngndoiceaa
