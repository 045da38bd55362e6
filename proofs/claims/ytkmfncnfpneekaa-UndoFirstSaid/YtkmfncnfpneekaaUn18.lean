/-
  The laws of package undo: UndoList.
-/
import Derived.Test.YtkmfncnfpneekaaUn16
set_option linter.unusedVariables false
set_option linter.unusedSimpArgs false
namespace Go.Proofs.Ytkmfncnfpneekaa
open Go.RowKit Go.ChangeShapes Go.WideShapes Go.Deep

theorem encAll_snoc (gn : Nat) (l : List Pe) (x : Pe) : encAll gn (l ++ [x]) = encAll gn l ++ encP gn x := by
  unfold encAll
  rw [List.flatMap_append]
  simp
theorem encAll_take (gn : Nat) (l : List Pe) (k : Nat) (h : k < l.length) : encAll gn (l.take (k + 1)) = encAll gn (l.take k) ++ encP gn (l.getD k default) := by
  rw [List.take_succ_eq_append_getElem h, encAll_snoc, List.getD_eq_getElem?_getD, List.getElem?_eq_getElem h]
  rfl
theorem encAll_len (gn : Nat) : ∀ (l : List Pe), (∀ x ∈ l, x.2.length ≤ 20) → (encAll gn l).length ≤ 22 * l.length
  | [], _ => by simp [encAll]
  | x :: l, h => by
    have h1 := encAll_len gn l (fun y hy => h y (List.mem_cons_of_mem _ hy))
    have h2 := h x (by simp)
    show (encP gn x ++ encAll gn l).length ≤ _
    rw [List.length_append, encP_len, List.length_cons]
    omega
theorem encAll_pos (gn : Nat) : ∀ (l : List Pe), 0 < l.length → 0 < (encAll gn l).length
  | [], h => by simp at h
  | x :: l, _ => by
    show 0 < (encP gn x ++ encAll gn l).length
    rw [List.length_append, encP_len]
    omega
theorem encAll_WL {gn : Nat} : ∀ {l : List Pe}, (∀ x ∈ l, rightP x = true) → (∀ x ∈ l, WL x.2) → WL (encAll gn l)
  | [], _, _ => fun y hy => by simp [encAll] at hy
  | x :: l, h, hw => fun y hy => by
    rcases List.mem_append.1 (show y ∈ encP gn x ++ encAll gn l from hy) with q | q
    · exact encP_WL (h x (by simp)) (hw x (by simp)) y q
    · exact encAll_WL (fun z hz => h z (List.mem_cons_of_mem _ hz)) (fun z hz => hw z (List.mem_cons_of_mem _ hz)) y q
theorem all_getD {l : List Pe} {n : Nat} {P : Pe → Prop} (hn : l.length = n) (h : ∀ j, j < n → P (l.getD j default)) : ∀ x ∈ l, P x := fun x hx => by
  obtain ⟨j, hj, rfl⟩ := List.mem_iff_getElem.1 hx
  have := h j (by omega)
  rwa [List.getD_eq_getElem?_getD, List.getElem?_eq_getElem hj] at this
def FewI (e : Ending) (l : List Pe) : Prop := ∃ t : Bool, e = .returned (.bool t) ∧ (t = true → FewP l) ∧ (FewP l → t = true)
theorem fewI_f (l : List Pe) (h : ¬ FewP l) : FewI (.returned (.bool false)) l := ⟨false, rfl, fun q => (by cases q), fun q => absurd q h⟩
set_option maxRecDepth 10000 in
set_option maxHeartbeats 1000000 in
theorem few_is (v : Value) (l : List Pe) (w : World) (hv : EN w v l) (hz : l.length ≤ 9223372036854775807) :
    Calls Try.prog 19 #[v] w fun e w' => FewI e l ∧ Below w.heap.size w w' := by
  obtain ⟨n, hn⟩ : ∃ n, l.length = n := ⟨_, rfl⟩
  obtain ⟨A, cap, rfl, hC⟩ := hv.form hn
  have hE := Lib.hid (fun (h : ∀ j, j < n → (l.getD j default).2.length ≤ 20) (h2 : n ≤ 12) => fewP_of hn h h2)
  have hn9 : n ≤ 9223372036854775807 := by omega
  replace hC := Lib.hid hC
  have hff := Lib.hid (fewI_f l)
  have hall := Lib.hid (fun (h : FewP l) k (hk : k < n) => show (l.getD k default).2.length ≤ 20 from h.1 _ (by rw [List.getD_eq_getElem?_getD, List.getElem?_eq_getElem (by omega)]; exact List.getElem_mem _))
  have hlen := Lib.hid (fun (h : FewP l) => show n ≤ 12 from by have := h.2; omega)
  clear hv hn hz
  go_enter Try.func19, Try.ntmps19
  go_wp2_with fail
  go_loopw [3] (fun i wr => ∃ k : Nat, k ≤ n ∧ i = .int .i64 k ∧ Hid (∀ j, j < k → (l.getD j default).2.length ≤ 20) ∧ Below w.heap.size w wr) (fun i _ => n + 1 - (intOf i).toNat)
  case atStart => exact ⟨0, Nat.zero_le _, rfl, fun j hj => absurd hj (Nat.not_lt_zero _), Below.refl _ _⟩
  case round =>
    obtain ⟨k, hk, rfl, hF, hB⟩ := hrel
    by_cases hlt : k < n
    · obtain ⟨g, off, A2, c2, rfl, hcap, hg, c0, c1, _⟩ := hC.out wr k hB hlt
      have hlt' : (k : Int) < (n : Int) := by omega
      have hnew : Hid ((l.getD k default).2.length ≤ 20 → ∀ j, j < k + 1 → (l.getD j default).2.length ≤ 20) := fun q j hj => by
        by_cases e : j = k
        · subst e; exact q
        · exact hF.out j (by omega)
      have hno := Lib.hid (fun (h : FewP l) => hall.out h k hlt)
      generalize (l.getD k default).2.length = m at *
      by_cases q0 : m ≤ 20
      · have p0 : (m : Int) ≤ 20 := by omega
        have hR := Lib.hid (hnew.out q0)
        go_wp2_with fail
        go_roundw
        case rel => exact ⟨k + 1, by omega, by go_num, hR, hB⟩
        case measure => simp [intOf]; omega
      · have p0 : (20 : Int) < (m : Int) := by omega
        go_wp2_with fail
        go_ret
        exact ⟨hff.out (fun h => q0 (hno.out h)), hB⟩
    · obtain rfl : k = n := by omega
      by_cases h6 : k ≤ 12
      · have h7 : (k : Int) ≤ 12 := by omega
        go_wp2_with fail
        go_ret
        exact ⟨⟨true, by simp [h7], fun _ => hE.out hF.out h6, fun _ => rfl⟩, hB⟩
      · have h7 : (12 : Int) < (k : Int) := by omega
        go_wp2_with fail
        go_ret
        exact ⟨⟨false, by simp; omega, fun q => (by cases q), fun q => absurd (hlen.out q) h6⟩, hB⟩

set_option maxRecDepth 10000 in
set_option maxHeartbeats 400000 in
theorem undoList (gn ot : Nat) (v : Value) (l : List Pe) (w : World) (hgn : gn < 18446744073709551616) (hot : ot < 18446744073709551616) (hv : EN w v l) (hWl : ∀ x ∈ l, WL x.2) (hz : l.length ≤ 9223372036854775807) :
    Calls Try.prog 6 #[.int .u64 (gn : Nat), .int .u64 (ot : Nat), v] w fun e w' => e = .returned (.bool true) ∧ Below w.heap.size w w' := by
  have hAw := awake13 w
  obtain ⟨n, hn⟩ : ∃ n, l.length = n := ⟨_, rfl⟩
  obtain ⟨A, cap, rfl, hC⟩ := hv.form hn
  obtain ⟨i0, hi, hz0, hz1, hz2⟩ := info_parts infoU64
  replace hC := Lib.hid hC
  have hvh := Lib.hid hv
  have hzh := Lib.hid hz
  have hnh := Lib.hid hn
  clear hv hz hn
  by_cases hfew : ¬ FewP l
  · go_enter Try.func6, Try.ntmps6
    go_wp2_with (first
      | (go_at_call 10; refine hAw.mono ?_; rintro e w1 ⟨rfl, hb1⟩
         have hF := few_is _ l w1 (hvh.out.keep hb1) hzh.out
         clear hAw)
      | (go_at_call 19; refine hF.mono ?_; rintro e w2 ⟨⟨t, rfl, ht, _⟩, hb⟩
         have hb2 := hb1.trans (hb.mono hb1.size)
         obtain rfl : t = false := by
           cases t with
           | false => rfl
           | true => exact absurd (ht rfl) hfew
         clear hF hb hb1))
    go_ret
    exact ⟨rfl, hb2⟩
  replace hfew : FewP l := Classical.not_not.1 hfew
  have hl20 := hfew.1
  have hl12 : n ≤ 12 := by have := hfew.2; have := hnh.out; omega
  replace hfew := Lib.hid hfew
  go_enter Try.func6, Try.ntmps6
  go_wp2_with (first
    | (go_at_call 10; refine hAw.mono ?_; rintro e w1 ⟨rfl, hb1⟩
       have hF := few_is _ l w1 (hvh.out.keep hb1) hzh.out
       clear hAw)
    | (go_at_call 19; refine hF.mono ?_; rintro e w2 ⟨⟨t, rfl, _, ht⟩, hb⟩
       have hb2 := hb1.trans (hb.mono hb1.size)
       obtain rfl : t = true := ht hfew.out
       clear hF hb hb1 ht))
  go_loopw [9, 10] (fun vo i wr => ∃ (k : Nat) (Ao : Option Addr) (mo co : Nat) (J : List Nat), k ≤ n ∧ i = .int .i64 k ∧ vo = .slice Ao mo co ∧ Hid (J.length = mo) ∧ Hid (J = encAll gn (l.take k)) ∧ Hid (∀ j, j < k → rightP (l.getD j default) = true) ∧ OwnU wr w.heap.size (.slice Ao mo co) J ∧ Below w.heap.size w wr) (fun _ i _ => n + 1 - (intOf i).toNat)
  case atStart => exact ⟨0, none, 0, 0, [], Nat.zero_le _, rfl, rfl, rfl, rfl, fun j hj => absurd hj (Nat.not_lt_zero _), World.ownsRow_nil _ _ _ _, hb2⟩
  case round =>
    clear hb2
    obtain ⟨k, Ao, mo, co, J, hk, rfl, rfl, hJl, hJ, hRt, hOw, hB⟩ := hrel
    by_cases hlt : k < n
    · obtain ⟨g, off, A2, c2, rfl, hcap, hg, c0, c1, hko⟩ := hC.out wr k hB hlt
      have hlt' : (k : Int) < (n : Int) := by omega
      have hJk := Lib.hid (show encAll gn (l.take (k + 1)) = J ++ encP gn (l.getD k default) from by rw [encAll_take gn l k (by have := hnh.out; omega), hJ.out])
      have hm : l.getD k default ∈ l := by rw [List.getD_eq_getElem?_getD, List.getElem?_eq_getElem (by have := hnh.out; omega)]; exact List.getElem_mem _
      have hx20 := hl20 _ hm
      have hWx := hWl _ hm
      have hJ800 : J.length ≤ 22 * k := by
        have := encAll_len gn (l.take k) (fun x hx => hl20 x (List.mem_of_mem_take hx))
        rw [← hJ.out, List.length_take] at this
        omega
      have hnew : Hid (rightP (l.getD k default) = true → ∀ j, j < k + 1 → rightP (l.getD j default) = true) := fun q j hj => by
        by_cases e : j = k
        · subst e; exact q
        · exact hRt.out j (by omega)
      clear hm hJ
      generalize l.getD k default = x at *
      obtain ⟨a, os⟩ := x
      simp only [] at c0 c1 hko hx20 hWx
      obtain ⟨m, hmm⟩ : ∃ m, os.length = m := ⟨_, rfl⟩
      rw [hmm] at c1 hko
      cases hr : rightP (a, os) with
      | true =>
        have hR := Lib.hid (hnew.out hr)
        have hE := Encode_yes gn (a, .slice A2 m c2, os) wr hgn hko hWx (by show os.length ≤ 800; omega) hr
        replace hE : Calls _ _ _ _ (fun e w' => ∃ v, e = .returned (.tuple #[v, .int .i64 0]) ∧ KL .u64 w' v (encP gn (a, os)) ∧ Below _ _ w') := hE
        simp only [eV, eE] at hE
        have hel := Lib.hid (encP_len gn (a, os))
        have hel2 : Hid ((encP gn (a, os)).length = m + 2) := by show _ = _; rw [hel.out]; show os.length + 2 = _; rw [hmm]
        have hm20 : m ≤ 20 := by omega
        clear hr hnew hRt hx20 hmm hel
        generalize encP gn (a, os) = en at *
        have hJ8 := Lib.hid hJ800
        go_wp2_with (first
          | (go_at_call 11; refine hE.mono ?_; rintro e w3 ⟨v3, rfl, hK3, hb⟩
             have hB3 := hB.trans (hb.mono hB.size)
             obtain ⟨v4, w4, hr4, hO4, hb4⟩ := appW (hOw.keep hb) hK3 hB3.size (by have := hJ8.out; omega) (by rw [hel2.out]; omega)
             have hB4 := hB3.trans hb4
             obtain ⟨A3, c3, rfl, _⟩ := hK3.form hel2.out
             have hl4 : (J ++ en).length = mo + (m + 2) := by rw [List.length_append, hJl.out, hel2.out]
             obtain ⟨A4, c4, hv4, _⟩ := hO4.form
             rw [hl4] at hv4
             subst hv4
             replace hl4 := Lib.hid hl4
             clear hE hb hB hOw hb4)
          | (at_builtin; refine wpList_append_run rfl _ _ 23 rfl _ _ _ rfl rfl hr4 ?_; clear hr4))
        go_roundw
        case rel => exact ⟨k + 1, A4, _, c4, _, by omega, by go_num, rfl, hl4, hJk.out.symm, hR, hO4, hB4⟩
        case measure => simp [intOf]; omega
      | false =>
        have hE := Encode_no (gn : Nat) (a, .slice A2 m c2, os) wr hko hr
        simp only [eV, eE] at hE
        clear hr hnew hRt hx20 hmm
        go_wp2_with (first
          | (go_at_call 11; refine hE.mono ?_; rintro e w3 ⟨rfl, hb⟩
             have hB3 := hB.trans (hb.mono hB.size)
             clear hE hb hB hOw))
        go_ret
        exact ⟨ret_b (by simp), hB3⟩
    · obtain rfl : k = n := by omega
      have hright := all_getD (P := fun x => rightP x = true) hnh.out hRt.out
      rw [show l.take k = l from List.take_of_length_le (by rw [hnh.out]; exact Nat.le_refl _)] at hJ
      have hJW : WL J := by rw [hJ.out]; exact encAll_WL hright hWl
      have hJ800 : J.length ≤ 22 * k := by
        have := encAll_len gn l hl20
        rw [← hJ.out, hnh.out] at this
        exact this
      have hdl : decL gn J = some l := by rw [hJ.out]; exact decL_enc rfl hright
      have h1 := Decode_any gn _ J wr hgn hJW (by omega) hOw.kl
      rw [hdl] at h1
      simp only [Option.isSome_some, Option.getD_some] at h1
      by_cases h0 : k = 0
      · subst h0
        clear hright hJ hJW hJ800 hdl hRt
        go_wp2_with (first
          | (go_at_call 16; refine h1.mono ?_; rintro e w3 ⟨v3, rfl, hN3, hb⟩
             have hB3 := hB.trans (hb.mono hB.size)
             have hOw3 := hOw.keep hb
             have hSm := same_any v3 _ l l w3 (by rw [hnh.out]; omega) (fun x hx => by have := hl20 x hx; omega) hN3 (hvh.out.keep hB3)
             rw [decide_eq_true rfl] at hSm
             clear h1 hb hN3 hOw)
          | (go_at_call 18; refine hSm.mono ?_; rintro e w4 ⟨rfl, hb⟩
             have hB4 := hB3.trans (hb.mono hB3.size)
             have hOw4 := hOw3.keep hb
             clear hSm hb hB3 hOw3))
        go_ret
        exact ⟨ret_b (by simp), hB4⟩
      · have hk0 : 0 < k := by omega
        have hk0' : ((k : Int) == 0) = false := by rw [beq_eq_false_iff_ne]; omega
        have hpos : 0 < J.length := by rw [hJ.out]; exact encAll_pos gn l (by rw [hnh.out]; exact hk0)
        obtain ⟨mw', hmw'⟩ : ∃ q, mo = q + 1 := ⟨mo - 1, by have := hJl.out; omega⟩
        subst hmw'
        have hmw := Lib.hid hJl.out
        have hot2 : (decL ot J).isSome = decide (gn % 65536 = ot % 65536) := by
          by_cases q : gn % 65536 = ot % 65536
          · rw [hJ.out, decL_enc q hright, decide_eq_true q]; rfl
          · rw [hJ.out, decL_other q hright (by rw [hnh.out]; exact hk0), decide_eq_false q]; rfl
        have hsh : decL gn (J.take mw') = none := by
          have := decL_short (gn := gn) hright (by rw [hnh.out]; exact hk0)
          rwa [← hJ.out, hJl.out, Nat.add_sub_cancel] at this
        have hD2 := Lib.hid (fun w' (h : KL .u64 w' (.slice Ao (mw' + 1) co) J) => Decode_any ot _ J w' hot hJW (by omega) h)
        have hD3 := Lib.hid (fun w' (h : KL .u64 w' (.slice Ao mw' co) (J.take mw')) => Decode_any gn _ (J.take mw') w' hgn (fun y hy => hJW y (List.mem_of_mem_take hy)) (by rw [List.length_take]; omega) h)
        rw [hot2] at hD2
        rw [hsh] at hD3
        simp only [Option.isSome_none, Option.getD_none] at hD3
        have hcap : mw' ≤ co := by
          obtain ⟨A5, c5, e5, h5⟩ := hOw.kl
          simp only [Value.slice.injEq] at e5
          obtain ⟨rfl, _, rfl⟩ := e5
          obtain ⟨_, _, _, _, h6, _⟩ := h5 hpos
          have := hJl.out
          omega
        have hsl := run_slice_to (P := Try.prog) (ty := 23) Try.underlying23 hi Ao (mw' + 1) co mw' hcap
        have hsb : IntKind.i64.wrap (((mw' + 1 : Nat) : Int) - 1) = (mw' : Int) := by rw [IntKind.wrap_i64]; have := hJl.out; omega
        have hsb2 : ((mw' + 1 : Nat) : Int) - 1 = (mw' : Int) := by omega
        have hsb3 : (mw' : Int) + 1 - 1 = (mw' : Int) := by omega
        have hsb4 : IntKind.i64.wrap ((mw' : Int) + 1 - 1) = (mw' : Int) := by rw [IntKind.wrap_i64]; have := hJl.out; omega
        have hmb : mw' ≤ 1000 := by have := hJl.out; omega
        have hsb5 : IntKind.i64.wrap (mw' : Int) = (mw' : Int) := by rw [IntKind.wrap_i64]; omega
        obtain ⟨q1, hq1⟩ : ∃ q, gn % 65536 = q := ⟨_, rfl⟩
        obtain ⟨q2, hq2⟩ : ∃ q, ot % 65536 = q := ⟨_, rfl⟩
        have fg : (gn : Int) % 65536 = (q1 : Int) := by omega
        have fo : (ot : Int) % 65536 = (q2 : Int) := by omega
        have fg' : (gn : Int).tmod 65536 = (q1 : Int) := by rw [Int.tmod_eq_emod_of_nonneg (by omega)]; omega
        have fo' : (ot : Int).tmod 65536 = (q2 : Int) := by rw [Int.tmod_eq_emod_of_nonneg (by omega)]; omega
        rw [hq1, hq2] at hD2
        clear hright hJ hJW hJ800 hdl hRt hot2 hsh hq1 hq2 hpos
        obtain ⟨b, hbq⟩ : ∃ b, decide (q1 = q2) = b := ⟨_, rfl⟩
        rw [hbq] at hD2
        have hbe : ((q1 : Int) == (q2 : Int)) = b := by
          rw [← hbq]
          by_cases q : q1 = q2
          · subst q; simp
          · rw [decide_eq_false q, beq_eq_false_iff_ne]; omega
        have hbb : (b == b) = true := by simp
        clear hbq
        go_wp2_with (first
          | (go_at_call 16; refine h1.mono ?_; rintro e w3 ⟨v3, rfl, hN3, hb⟩
             have hB3 := hB.trans (hb.mono hB.size)
             have hOw3 := hOw.keep hb
             have hSm := same_any v3 _ l l w3 (by rw [hnh.out]; omega) (fun x hx => by have := hl20 x hx; omega) hN3 (hvh.out.keep hB3)
             rw [decide_eq_true rfl] at hSm
             clear h1 hb hN3 hOw)
          | (go_at_call 18; refine hSm.mono ?_; rintro e w4 ⟨rfl, hb⟩
             have hB4 := hB3.trans (hb.mono hB3.size)
             have hOw4 := hOw3.keep hb
             clear hSm hb hB3 hOw3
             have h2 := hD2.out w4 hOw4.kl)
          | (go_at_call 16; refine h2.mono ?_; rintro e w5 ⟨v5, rfl, _, hb⟩
             have hB5 := hB4.trans (hb.mono hB4.size)
             have hOw5 := hOw4.keep hb
             have h3 := hD3.out w5 (hOw5.kl.take mw' (by rw [hmw.out]; omega))
             clear h2 hb hB4 hOw4)
          | (go_at_call 16; refine h3.mono ?_; rintro e w6 ⟨v6, rfl, _, hb⟩
             have hB6 := hB5.trans (hb.mono hB5.size)
             clear h3 hb hB5 hOw5))
        go_ret
        exact ⟨ret_b (by simp), hB6⟩
end Go.Proofs.Ytkmfncnfpneekaa
