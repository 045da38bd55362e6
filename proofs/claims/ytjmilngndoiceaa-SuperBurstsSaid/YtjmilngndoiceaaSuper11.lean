/-
  The laws of package super: SuperDecodes.
-/
import Derived.Test.YtjmilngndoiceaaSuper10
import Derived.Maps.AppendAt
set_option linter.unusedVariables false
set_option linter.unusedSimpArgs false
namespace Go.Proofs.Ytjmilngndoiceaa
open Go.RowKit

theorem rdec_any (v : Value) (l : List Nat) (N : Nat) (w : World) (hn : l.length = N) (hN : N ≤ 1000000) (hv : SL w v l) :
    Calls Try.prog 13 #[v] w fun e w' => e = .returned (decR N (l.getD 3 0) (sOk l)) ∧ Below w.heap.size w w' := by
  by_cases h8 : N < 8
  · have := rdec_short v l N w hn h8 hv
    rw [sOk_short (by omega)]
    exact this
  · obtain ⟨M, hM⟩ : ∃ M, l.length = M + 1 := ⟨l.length - 1, by omega⟩
    obtain ⟨g, o, p, rfl, hg, hp, hc⟩ := hv.pos hM
    rw [← hM, hn] at hp hc ⊢
    exact rdec_in l N g o p w hn (by omega) hN hg hp hc
/-- append of a list of words to a row of the call's own -/
theorem appSL {w : World} {base g n cap : Nat} {u : Value} {xs ys : List Nat} (hown : w.ownsRow base 34 1 (.slice (some ⟨g, 0, none⟩) n cap) n (wv xs)) (hn : xs.length = n) (hu : SL w u ys) (hb : base ≤ w.heap.size) (hsm : n ≤ 100000) (hsm2 : ys.length ≤ 100000) :
    ∃ g' c' w', (Builtin.append_ #[25, 25] 25 #[.slice (some ⟨g, 0, none⟩) n cap, u]).run Try.prog w = .ok (.slice (some ⟨g', 0, none⟩) (n + ys.length) c') w' ∧
      w'.ownsRow base 34 1 (.slice (some ⟨g', 0, none⟩) (n + ys.length) c') (n + ys.length) (wv (xs ++ ys)) ∧ Below base w w' := by
  obtain ⟨i0, hi, hz0, hz1, hz2⟩ := info_parts infoU64
  have ht : Try.prog.underlying 25 = some (.slice 34) := Try.underlying25
  have key : ∀ (a : Addr) (m c : Nat) (news : List Nat), news.length = m → (∀ j x, (wv news)[j]? = some x → w.cell? (a.add j) = some x) → m ≤ 100000 → ∃ g' c' w', (Builtin.append_ #[25, 25] 25 #[.slice (some ⟨g, 0, none⟩) n cap, .slice (some a) m c]).run Try.prog w = .ok (.slice (some ⟨g', 0, none⟩) (n + m) c') w' ∧
      w'.ownsRow base 34 1 (.slice (some ⟨g', 0, none⟩) (n + m) c') (n + m) (wv (xs ++ news)) ∧ Below base w w' := by
    intro a m c news hm hc hs
    obtain ⟨v', w', hrun, k1, k2, k3, k4⟩ := run_append_own_at (P := Try.prog) w base 25 25 34 i0 (.int .u64 0) 1 8 Try.underlying25 hi hz0 hz1 hz2 rfl (by decide) _ n (wv xs) hown a m c (wv news) (by rw [wv_len]; omega) hc (fun v hv => by unfold wv at hv; obtain ⟨x, _, rfl⟩ := List.mem_map.1 hv; rfl) (by unfold maxLen; omega) (by omega) hb
    have hf : ∃ g' c', v' = .slice (some ⟨g', 0, none⟩) (n + m) c' := by
      rcases k1.2 with ⟨rfl, _⟩ | ⟨g', c', cur, rfl, _⟩
      · exact absurd (k3.1 rfl).1 (by simp)
      · exact ⟨g', c', rfl⟩
    obtain ⟨g', c', rfl⟩ := hf
    rw [← wv_append] at k1
    exact ⟨g', c', w', hrun, k1, (Below.refl _ _).grown k2 hb (fun j hj => own_ge hown j hj)⟩
  rcases hu with ⟨rfl, sp, c, rfl⟩ | ⟨g2, off, c, rfl, hg2, hcap, hc⟩
  · rcases sp with _ | a
    · refine ⟨g, cap, w, ?_, by simpa using hown, Below.refl _ _⟩
      rcases hown.2 with ⟨h, _⟩ | ⟨g', cap', cur, h, _, _, hnc, _⟩
      · simp at h
      · simp only [Value.slice.injEq, Option.some.injEq, Addr.mk.injEq, and_true, true_and] at h
        obtain ⟨rfl, rfl⟩ := h
        simp [Builtin.append_, run_underlying ht, sizeOf, typeInfo, hi, Builtin.lenOf, Builtin.firstCells, hnc, storeCells]
    · exact key a 0 c [] rfl (fun j x hj => by simp [wv] at hj) (by omega)
  · refine key ⟨g2, off, none⟩ ys.length c ys rfl (fun j x hj => ?_) hsm2
    have hjl : j < ys.length := by
      have := (List.getElem?_eq_some_iff.1 hj).1
      rwa [wv_len] at this
    rw [wv_at ys j hjl] at hj
    rw [← hj, show (⟨g2, off, none⟩ : Addr).add j = ⟨g2, off + j, none⟩ by simp [Addr.add], hc j hjl]
theorem own_far {w : World} {base e g n cap b o : Nat} {xs : List Value} (h : w.ownsRow base e 1 (.slice (some ⟨g, 0, none⟩) n cap) n xs) (hne : g ≠ b) (u : Value) : (w.setCell ⟨b, o, none⟩ u).ownsRow base e 1 (.slice (some ⟨g, 0, none⟩) n cap) n xs := by
  refine ⟨h.1, ?_⟩
  rcases h.2 with ⟨hv, _⟩ | ⟨g', cap', cur, hv, hb, hg, h1, h2, h3, h4⟩
  · simp at hv
  · have hv2 := hv
    simp only [Value.slice.injEq, Option.some.injEq, Addr.mk.injEq, and_true, true_and] at hv2
    obtain ⟨rfl, rfl⟩ := hv2
    exact .inr ⟨g, cap, cur, rfl, hb, (Below.heap_setCell w ⟨b, o, none⟩ u g (by simp only []; exact hne)).trans hg, h1, h2, h3, h4⟩
theorem decR_form (N L : Nat) (b : Bool) : ∃ x y e : Int, decR N L b = .tuple #[.agg #[.int .i64 x, .int .i64 y], .int .i64 e] := by
  cases b
  · exact ⟨0, 0, 7, rfl⟩
  · exact ⟨N, L, 0, rfl⟩
set_option maxHeartbeats 1000000 in
theorem superDecodes_big (v : Value) (l : List Nat) (n : Nat) (w : World) (hv : SL w v l) (hbig : 8 < l.length) :
    Calls Try.prog 4 #[v, .int .u16 n] w fun e w' => e = .returned (.bool true) ∧ Below w.heap.size w w' := by
  obtain ⟨sp, cap, rfl⟩ := hv.form
  have hb : (8 : Int) < (l.length : Int) := by omega
  clear hv
  go_enter Try.func4, Try.ntmps4
  go_wp2_with fail
  refine (awake06 _).mono ?_
  rintro e w1 ⟨rfl, hb1⟩
  go_wp2_with fail
  go_ret
  exact ⟨rfl, hb1⟩
set_option maxRecDepth 10000 in
set_option maxHeartbeats 8000000 in
theorem superDecodes (v : Value) (l : List Nat) (n : Nat) (w : World) (hl : WL l) (hv : SL w v l) (hn : n < 65536) :
    Calls Try.prog 4 #[v, .int .u16 n] w fun e w' => e = .returned (.bool true) ∧ Below w.heap.size w w' := by
  by_cases hbig : 8 < l.length
  · exact superDecodes_big v l n w hv hbig
  have hvv := hv
  obtain ⟨sp, cap, rfl⟩ := hv.form
  have hln : l.length ≤ 8 := by omega
  have hb : ¬ (8 : Int) < (l.length : Int) := by omega
  obtain ⟨k, hk⟩ : ∃ k, k = n % 301 := ⟨_, rfl⟩
  have hk2 : k ≤ 300 := by omega
  have hmod : (n : Int) % 301 = (k : Int) := by omega
  clear hk hbig hv
  go_enter Try.func4, Try.ntmps4
  go_wp2_with fail
  refine (awake06 _).mono ?_
  rintro e w1 ⟨rfl, hB1⟩
  have hS1 := hvv.keep (hB1.trans (((Below.refl w1.heap.size w1).alloc (Nat.le_refl _) (.cells #[] (34 : Nat))).mono hB1.size))
  have hO0 : (w1.alloc (.cells #[] (34 : Nat))).ownsRow w1.heap.size 34 1 (.slice (some ⟨w1.heap.size, 0, none⟩) 0 0) 0 (wv []) := World.ownsRow_lit (base := w1.heap.size) (e := 34) (size := 1) w1 #[] 0 (Nat.le_refl _) (by unfold maxLen; omega) rfl
  obtain ⟨g2, c2, w2, hrun2, hO2, hb2⟩ := appSL (xs := []) hO0 rfl hS1 (by simp) (by omega) (by omega)
  rw [Nat.zero_add, List.nil_append] at hO2
  rw [Nat.zero_add] at hrun2
  have hB2 : Below w.heap.size w w2 := (hB1.alloc hB1.size _).trans (hb2.mono hB1.size)
  have hz2 : w1.heap.size ≤ w2.heap.size := by have := hb2.size; simp at this; omega
  obtain ⟨g3, c3, w3, hrun3, hO3, hb3, _, _⟩ := appz_own (k := k) hO2 rfl (by omega) hz2
  have hB3 : Below w.heap.size w w3 := hB2.trans (hb3.mono hB1.size)
  obtain ⟨N, hN⟩ : ∃ N, l.length + k = N := ⟨_, rfl⟩
  rw [hN] at hrun3 hO3
  have hxl : (l ++ List.replicate k 0).length = N := by simp [hN]
  have hxw : WL (l ++ List.replicate k 0) := hl.app (zeros_WL k)
  generalize l ++ List.replicate k 0 = x at *
  have hS3 : SL w3 (.slice (some ⟨g3, 0, none⟩) N c3) x := SL.of_owns' hO3 hxl
  have hN2 : N ≤ 308 := by omega
  have hD1 := dec_any _ x w3 hxw hS3
  rw [hxl] at hD1
  have hD2 := fun w4 (hb : Below w3.heap.size w3 w4) => rdec_any _ x N w4 hxl (by omega) (hS3.keep hb)
  obtain ⟨a, b, er, hde⟩ := decR_form N (x.getD 3 0) (sOk x)
  rw [hde] at hD1 hD2
  clear hde
  replace hD1 := Lib.hid hD1
  replace hD2 := Lib.hid hD2
  have hwb := Lib.hid hB1.size
  have hg3 := Lib.hid (own_ge hO3 g3 rfl)
  replace hxl := Lib.hid hxl
  replace hN := Lib.hid hN
  clear hB1 hS1 hO0 hO2 hb2 hB2 hb3 hvv
  go_wp2_with (first | (at_builtin; refine Lib.wpList_append_run _ rfl _ _ _ _ rfl _ _ rfl rfl _ _ hrun2 ?_) | (at_builtin; refine Lib.wpList_append_run _ rfl _ _ _ _ rfl _ _ rfl rfl _ _ hrun3 ?_))
  clear hrun2 hrun3 hz2
  refine hD1.out.mono ?_
  rintro e w4 ⟨rfl, hb4⟩
  have hB4 := hB3.trans (hb4.mono hB3.size)
  have p4 := C2.new w4 (.int .i64 a) (.int .i64 b) (23 : Nat)
  have f4 := F2.new w4 (.int .i64 a) (.int .i64 b) (23 : Nat)
  have hb4s := Lib.hid hb4.size
  have hb34 : Below w3.heap.size w3 (w4.alloc (.cells #[.int .i64 a, .int .i64 b] (23 : Nat))) := hb4.alloc hb4.size _
  have hB5 := hB4.alloc hB4.size (.cells #[.int .i64 a, .int .i64 b] (23 : Nat))
  clear hb4 hB4 hB3
  go_wp2_with fail
  refine (hD2.out _ hb34).mono ?_
  rintro e w6 ⟨rfl, hb6⟩
  have hB6 := hB5.trans (hb6.mono hB5.size)
  have hz46 := Lib.hid (show w4.heap.size + 1 ≤ w6.heap.size by have := hb6.size; simp at this; omega)
  have p6 := (p4.keep hb6).alloc (.cells #[.int .i64 a, .int .i64 b] (23 : Nat))
  have f6 := (f4.keep p4.lt hb6).alloc (p4.keep hb6).lt (.cells #[.int .i64 a, .int .i64 b] (23 : Nat))
  have q6 := C2.new w6 (.int .i64 a) (.int .i64 b) (23 : Nat)
  have g6 := F2.new w6 (.int .i64 a) (.int .i64 b) (23 : Nat)
  have hb36 := (hb34.trans (hb6.mono hb34.size)).alloc (by have := hb34.size; have := hb6.size; omega) (.cells #[.int .i64 a, .int .i64 b] (23 : Nat))
  have hB7 := hB6.alloc hB6.size (.cells #[.int .i64 a, .int .i64 b] (23 : Nat))
  have hO7 := own_below hO3 hb36
  obtain ⟨p0, p1⟩ := id p6
  obtain ⟨q0, q1⟩ := id q6
  clear hb6 hB6 hb34 hB5 p4 f4
  by_cases h8 : N < 8
  · go_wp2_with fail
    go_ret
    exact ⟨rfl, hB7⟩
  have h7 : (7 : Int) ≤ (N : Int) := by omega
  have h70 : (7 : Int) < (N : Int) := by omega
  obtain ⟨hc1, hc2⟩ := own_cap hO7
  have hcN : (7 : Int) ≤ (c3 : Int) := by omega
  have hS7 : SL _ (.slice (some ⟨g3, 0, none⟩) N c3) x := SL.of_owns' hO7 hxl.out
  have hOf := Lib.hid (of_any _ _ _ (hxw.take 7) (by simp; omega) (hS7.take (m := 7) (by rw [hxl.out]; omega)))
  have hm := moreN_lt 0 (x.take 7)
  generalize hmm : moreN 0 (x.take 7) = m at *
  clear hmm hS7
  go_wp2_with fail
  refine hOf.out.mono ?_
  rintro e w8 ⟨rfl, hb8⟩
  have hB8 := hB7.trans (hb8.mono hB7.size)
  have p8 := p6.keep hb8
  have q8 := q6.keep hb8
  have f8 := f6.keep p6.lt hb8
  have g8 := g6.keep q6.lt hb8
  have hO8 := own_below hO7 hb8
  obtain ⟨c7, f7⟩ := own_cell hO8 hxl.out 7 (by omega)
  have hO9 := own_set (i := 7) (x := m) hO8
  have hgl : g3 < w4.heap.size := by
    have h1 := Nat.lt_of_lt_of_le (hS3.lt (by rw [hxl.out]; omega)) hb4s.out
    exact h1
  have hgw : w.heap.size ≤ g3 := Nat.le_trans hwb.out hg3.out
  have hB9 : Below w.heap.size w (w8.setCell ⟨g3, 7, none⟩ (.int .u64 m)) := hB8.setCell (by simp only []; exact hgw) _
  have hl46 : w4.heap.size + 1 ≤ w6.heap.size := hz46.out
  have k1 : Below (g3 + 1) w8 w8 := Below.refl _ _
  have p9 : C2 (w8.setCell ⟨g3, 7, none⟩ (.int .u64 m)) w4.heap.size (.int .i64 a) (.int .i64 b) := ⟨by rw [World.cell?_setCell_other _ _ _ _ (by intro h; simp only [Addr.mk.injEq] at h; omega)]; exact p8.1, by rw [World.cell?_setCell_other _ _ _ _ (by intro h; simp only [Addr.mk.injEq] at h; omega)]; exact p8.2⟩
  have q9 : C2 (w8.setCell ⟨g3, 7, none⟩ (.int .u64 m)) w6.heap.size (.int .i64 a) (.int .i64 b) := ⟨by rw [World.cell?_setCell_other _ _ _ _ (by intro h; simp only [Addr.mk.injEq] at h; omega)]; exact q8.1, by rw [World.cell?_setCell_other _ _ _ _ (by intro h; simp only [Addr.mk.injEq] at h; omega)]; exact q8.2⟩
  have f9 : F2 (w8.setCell ⟨g3, 7, none⟩ (.int .u64 m)) w4.heap.size := ⟨by rw [World.frozen?_setCell]; exact f8.1, by rw [World.frozen?_setCell]; exact f8.2⟩
  have g9 : F2 (w8.setCell ⟨g3, 7, none⟩ (.int .u64 m)) w6.heap.size := ⟨by rw [World.frozen?_setCell]; exact g8.1, by rw [World.frozen?_setCell]; exact g8.2⟩
  have hxl9 : (x.set 7 m).length = N := by rw [List.length_set]; exact hxl.out
  have hxw9 : WL (x.set 7 m) := fun y hy => by
    rcases List.mem_or_eq_of_mem_set hy with h | h
    · exact hxw y h
    · omega
  generalize x.set 7 m = y at *
  have hS9 : SL (w8.setCell ⟨g3, 7, none⟩ (.int .u64 m)) (.slice (some ⟨g3, 0, none⟩) N c3) y := SL.of_owns' hO9 hxl9
  have hD3 := dec_any _ y _ hxw9 hS9
  rw [hxl9] at hD3
  have hD4 := fun w4 (hs : SL w4 (.slice (some ⟨g3, 0, none⟩) N c3) y) => rdec_any _ y N w4 hxl9 (by omega) hs
  have hxl9' := Lib.hid hxl9
  obtain ⟨a2, b2, er2, hde⟩ := decR_form N (y.getD 3 0) (sOk y)
  rw [hde] at hD3 hD4
  clear hde hxl9 hxw9 hO8 hO7 p8 q8 f8 g8 p6 q6 f6 g6 hb36 hB8 hB7 hb8 p0 p1 q0 q1 hS9 k1
  replace hD3 := Lib.hid hD3
  replace hD4 := Lib.hid hD4
  go_wp2_with fail
  refine hD3.out.mono ?_
  rintro e w10 ⟨rfl, hb10⟩
  have hB10 := hB9.trans (hb10.mono hB9.size)
  have p10 := p9.keep hb10
  have q10 := q9.keep hb10
  have f10 := f9.keep p9.lt hb10
  have g10 := g9.keep q9.lt hb10
  obtain ⟨w11, e11, p11, hb11⟩ := st2_ex p10 (.int .i64 a2) (.int .i64 b2)
  have q11 : C2 w11 w6.heap.size (.int .i64 a) (.int .i64 b) := by
    rw [e11]
    exact ⟨by rw [World.cell?_setCell_other _ _ _ _ (by intro h; simp only [Addr.mk.injEq] at h; omega), World.cell?_setCell_other _ _ _ _ (by intro h; simp only [Addr.mk.injEq] at h; omega)]; exact q10.1, by rw [World.cell?_setCell_other _ _ _ _ (by intro h; simp only [Addr.mk.injEq] at h; omega), World.cell?_setCell_other _ _ _ _ (by intro h; simp only [Addr.mk.injEq] at h; omega)]; exact q10.2⟩
  have hO10 := own_below hO9 hb10
  have hO11 : w11.ownsRow w1.heap.size 34 1 (.slice (some ⟨g3, 0, none⟩) N c3) N (wv y) := by
    rw [e11]
    exact own_far (own_far hO10 (by omega) _) (by omega) _
  have hS11 := SL.of_owns' hO11 hxl9'.out
  have f11 : F2 w11 w6.heap.size := by
    rw [e11]
    exact ⟨by rw [World.frozen?_setCell, World.frozen?_setCell]; exact g10.1, by rw [World.frozen?_setCell, World.frozen?_setCell]; exact g10.2⟩
  have hB11 : Below w.heap.size w w11 := hB10.trans (hb11.mono (Nat.le_trans hgw (by omega)))
  obtain ⟨p0, p1⟩ := id p10
  obtain ⟨f0, f1⟩ := id f10
  clear hO9 hO10 hO11 hB9 hB10 p9 q9 f9 g9 q10 g10 hb10 c7 f7
  go_wp2_with fail
  rw [← e11]
  clear e11 p0 p1 f0 f1 p10 f10 hb11
  refine (hD4.out _ hS11).mono ?_
  rintro e w12 ⟨rfl, hb12⟩
  have hB12 := hB11.trans (hb12.mono hB11.size)
  have p12 := p11.keep hb12
  have q12 := q11.keep hb12
  have f12 := f11.keep q11.lt hb12
  obtain ⟨w13, e13, q13, hb13⟩ := st2_ex q12 (.int .i64 a2) (.int .i64 b2)
  have p13 : C2 w13 w4.heap.size (.int .i64 a2) (.int .i64 b2) := by
    rw [e13]
    exact ⟨by rw [World.cell?_setCell_other _ _ _ _ (by intro h; simp only [Addr.mk.injEq] at h; omega), World.cell?_setCell_other _ _ _ _ (by intro h; simp only [Addr.mk.injEq] at h; omega)]; exact p12.1, by rw [World.cell?_setCell_other _ _ _ _ (by intro h; simp only [Addr.mk.injEq] at h; omega), World.cell?_setCell_other _ _ _ _ (by intro h; simp only [Addr.mk.injEq] at h; omega)]; exact p12.2⟩
  have hB13 : Below w.heap.size w w13 := hB12.trans (hb13.mono (Nat.le_trans hgw (by omega)))
  rw [e13] at hB13
  obtain ⟨q0, q1⟩ := id q12
  obtain ⟨f0, f1⟩ := id f12
  obtain ⟨s0, s1⟩ := id p12
  have ne1 : ¬ w4.heap.size = w6.heap.size := by omega
  have ne2 : ¬ w6.heap.size = w4.heap.size := by omega
  clear hb12 hB11 hB12 p11 q11 f11 hS11 p12 q12 f12 e13 p13 q13 hb13
  go_wp2_with fail
  go_ret
  exact ⟨rfl, hB13⟩
end Go.Proofs.Ytjmilngndoiceaa
