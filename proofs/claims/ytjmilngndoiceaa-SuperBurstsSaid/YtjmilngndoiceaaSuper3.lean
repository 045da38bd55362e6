/-
  What the calls of package super answer: Decode.
-/
import Derived.Test.YtjmilngndoiceaaSuper3a
import Derived.Laws.ResultCell
set_option linter.unusedVariables false
set_option linter.unusedSimpArgs false
namespace Go.Proofs.Ytjmilngndoiceaa
open Go.RowKit

def headW (W L G : Nat) : List Nat := headL W L G ++ [moreN 0 (headL W L G)]
theorem take8 (l : List Nat) (h : 8 ≤ l.length) : l.take 8 = [l.getD 0 0, l.getD 1 0, l.getD 2 0, l.getD 3 0, l.getD 4 0, l.getD 5 0, l.getD 6 0, l.getD 7 0] := by
  match l, h with
  | a :: b :: c :: d :: e :: f :: g :: i :: r, _ => simp
theorem st2_ex {W : World} {g : Nat} {a b : Value} (h : C2 W g a b) (x y : Value) : ∃ w9, w9 = ((W.setCell ⟨g, 0, none⟩ x).setCell ⟨g, 1, none⟩ y) ∧ C2 w9 g x y ∧ Below g W w9 := by
  obtain ⟨h0, h1⟩ := h
  refine ⟨_, rfl, ?_, ((Below.refl _ _).setCell (by simp) _).setCell (by simp) _⟩
  refine ⟨?_, ?_⟩ <;> simp [go_sem, *]
def decR (N L : Nat) (b : Bool) : Value := match b with
  | true => .tuple #[.agg #[.int .i64 N, .int .i64 L], .int .i64 0]
  | false => .tuple #[.agg #[.int .i64 0, .int .i64 0], .int .i64 7]
set_option maxHeartbeats 1000000 in
theorem dec_ok (v : Value) (l : List Nat) (L G N : Nat) (w : World) (hn : l.length = N) (h8 : 8 ≤ N) (hL : l.getD 3 0 = L) (hG : gN N L = (G : Int)) (hg : gOk N L = true) (hv : SL w v l) :
    Calls Try.prog 12 #[v] w fun e w' => e = .returned (decR N L (decide (l.take 8 = headW N L G))) ∧ Below w.heap.size w w' := by
  obtain ⟨M, hM⟩ : ∃ M, l.length = M + 1 := ⟨l.length - 1, by omega⟩
  have hS := Lib.hid hv
  obtain ⟨g, o, p, rfl, hgs, hp, hc⟩ := hv.pos hM
  rw [← hM, hn] at hS hp hc ⊢
  obtain ⟨h1, h2, h3, h4⟩ := gOk_t hg
  have c3 := hc 3 (by omega)
  rw [hL] at c3
  have hE := Lib.hid (fun w => senc_t N L G w hg hG)
  have f1 : IntKind.i64.wrap (L : Int) = (L : Int) := by rw [IntKind.wrap_i64]; omega
  have f2 : ¬ ((N : Int) < 8) := by omega
  have f3 : (3 : Int) < (N : Int) := by omega
  obtain ⟨x0, hx0⟩ : ∃ x, Hid (l.getD 0 0 = x) := ⟨_, Lib.hid rfl⟩
  obtain ⟨x1, hx1⟩ : ∃ x, Hid (l.getD 1 0 = x) := ⟨_, Lib.hid rfl⟩
  obtain ⟨x2, hx2⟩ : ∃ x, Hid (l.getD 2 0 = x) := ⟨_, Lib.hid rfl⟩
  obtain ⟨x3, hx3⟩ : ∃ x, Hid (l.getD 3 0 = x) := ⟨_, Lib.hid rfl⟩
  obtain ⟨x4, hx4⟩ : ∃ x, Hid (l.getD 4 0 = x) := ⟨_, Lib.hid rfl⟩
  obtain ⟨x5, hx5⟩ : ∃ x, Hid (l.getD 5 0 = x) := ⟨_, Lib.hid rfl⟩
  obtain ⟨x6, hx6⟩ : ∃ x, Hid (l.getD 6 0 = x) := ⟨_, Lib.hid rfl⟩
  obtain ⟨x7, hx7⟩ : ∃ x, Hid (l.getD 7 0 = x) := ⟨_, Lib.hid rfl⟩
  have hP := Lib.hid (fun (w1 : World) (hb : Below w.heap.size w w1) => parts_x _ l w1 x0 x1 x2 x3 x4 x5 x6 x7 hx0.out hx1.out hx2.out hx3.out hx4.out hx5.out hx6.out hx7.out (by omega) (hS.out.keep hb))
  replace hn := Lib.hid hn
  replace hL := Lib.hid hL
  replace hM := Lib.hid hM
  replace hG := Lib.hid hG
  replace hg := Lib.hid hg
  clear hc
  go_enter Try.func12, Try.ntmps12
  go_wp2_with fail
  refine (hE.out _).mono ?_
  rintro e w2 ⟨ge, rfl, hge, hR, hb2⟩
  have hB2 : Below w.heap.size w w2 := (((Below.refl _ _).alloc (Nat.le_refl _) _).alloc (by simp) _).trans (hb2.mono (by simp; omega))
  have kk := ((C2.new w (.int .i64 0) (.int .i64 0) 23).alloc (.cells #[.int .i64 N, .int .i64 L] 23)).keep hb2
  have ff := ((F2.new w (.int .i64 0) (.int .i64 0) 23).alloc (by simp) (.cells #[.int .i64 N, .int .i64 L] 23)).keep (by simp; omega) hb2
  have jj := (C2.new (w.alloc (.cells #[.int .i64 0, .int .i64 0] 23)) (.int .i64 N) (.int .i64 L) 23).keep hb2
  simp only [World.size_alloc] at jj
  go_wp2_with fail
  refine (hP.out _ hB2).mono ?_
  rintro e w3 ⟨rfl, hb3⟩
  have hB3 := hB2.trans (hb3.mono hB2.size)
  replace ff := ff.keep kk.lt hb3
  replace kk := kk.keep hb3
  replace jj := jj.keep hb3
  go_wp2_with fail
  generalize hwl : headL N L G ++ [moreN 0 (headL N L G)] = wl at *
  replace hwl := Lib.hid hwl
  obtain ⟨y0, hy0⟩ : ∃ x, Hid (wl.getD 0 0 = x) := ⟨_, Lib.hid rfl⟩
  obtain ⟨y1, hy1⟩ : ∃ x, Hid (wl.getD 1 0 = x) := ⟨_, Lib.hid rfl⟩
  obtain ⟨y2, hy2⟩ : ∃ x, Hid (wl.getD 2 0 = x) := ⟨_, Lib.hid rfl⟩
  obtain ⟨y3, hy3⟩ : ∃ x, Hid (wl.getD 3 0 = x) := ⟨_, Lib.hid rfl⟩
  obtain ⟨y4, hy4⟩ : ∃ x, Hid (wl.getD 4 0 = x) := ⟨_, Lib.hid rfl⟩
  obtain ⟨y5, hy5⟩ : ∃ x, Hid (wl.getD 5 0 = x) := ⟨_, Lib.hid rfl⟩
  obtain ⟨y6, hy6⟩ : ∃ x, Hid (wl.getD 6 0 = x) := ⟨_, Lib.hid rfl⟩
  obtain ⟨y7, hy7⟩ : ∃ x, Hid (wl.getD 7 0 = x) := ⟨_, Lib.hid rfl⟩
  have hl8 : wl.length = 8 := by rw [← hwl.out]; simp [headL]
  have hSw := hR.sl.keep hb3
  rw [hl8] at hSw
  have hQ := parts_x (.slice (some ⟨ge, 0, none⟩) 8 8) wl w3 y0 y1 y2 y3 y4 y5 y6 y7 hy0.out hy1.out hy2.out hy3.out hy4.out hy5.out hy6.out hy7.out (by omega) hSw
  refine hQ.mono ?_
  rintro e w4 ⟨rfl, hb4⟩
  have hB4 := hB3.trans (hb4.mono hB3.size)
  replace ff := ff.keep kk.lt hb4
  replace kk := kk.keep hb4
  replace jj := jj.keep hb4
  clear hR hSw hb2 hb3 hb4 hB2 hB3 hQ
  obtain ⟨k0, k1⟩ := id kk
  obtain ⟨f0, f1⟩ := id ff
  obtain ⟨j0, j1⟩ := id jj
  have hT : l.take 8 = [x0, x1, x2, x3, x4, x5, x6, x7] := by rw [take8 l (by have := hn.out; omega), hx0.out, hx1.out, hx2.out, hx3.out, hx4.out, hx5.out, hx6.out, hx7.out]
  have hW : headW N L G = [y0, y1, y2, y3, y4, y5, y6, y7] := by
    rw [show headW N L G = wl from hwl.out, ← hy0.out, ← hy1.out, ← hy2.out, ← hy3.out, ← hy4.out, ← hy5.out, ← hy6.out, ← hy7.out, ← take8 wl (by omega), List.take_of_length_le (by omega)]
  clear hx0 hx1 hx2 hx3 hx4 hx5 hx6 hx7 hy0 hy1 hy2 hy3 hy4 hy5 hy6 hy7 hP hE hv hS
  replace hT := Lib.hid hT
  replace hW := Lib.hid hW
  go_wp2_with fail
  rw [eq8]
  by_cases hE : [x0, x1, x2, x3, x4, x5, x6, x7] = [y0, y1, y2, y3, y4, y5, y6, y7]
  · rw [decide_eq_true hE]
    replace hE := Lib.hid hE
    simp only [Result.andThen, Bool.not_true, Bool.not_false]
    go_wp2_with fail
    (try simp only [Exit.inBlock, Exit.then])
    obtain ⟨w7, hw7, hC7, hb7⟩ := st2_ex kk (.int .i64 N) (.int .i64 L)
    rw [← hw7]
    refine bodyPost_ret (v := .tuple #[.agg #[.int .i64 N, .int .i64 L], .int .i64 0]) ?_ rfl ⟨by rw [hT.out, hW.out, decide_eq_true hE.out]; rfl, hB4.trans hb7⟩
    rw [results_cell_tmp rfl]
    obtain ⟨t0, t1⟩ := hC7
    clear hw7 hb7 kk jj ff k0 k1 f0 f1 j0 j1
    go_simp
  · rw [decide_eq_false hE]
    replace hE := Lib.hid hE
    simp only [Result.andThen, Bool.not_true, Bool.not_false]
    go_wp2_with fail
    (try simp only [Exit.inBlock, Exit.then])
    obtain ⟨w7, hw7, hC7, hb7⟩ := st2_ex kk (.int .i64 0) (.int .i64 0)
    rw [← hw7]
    refine bodyPost_ret (v := .tuple #[.agg #[.int .i64 0, .int .i64 0], .int .i64 7]) ?_ rfl ⟨by rw [hT.out, hW.out, decide_eq_false hE.out]; rfl, hB4.trans hb7⟩
    rw [results_cell_tmp rfl]
    obtain ⟨t0, t1⟩ := hC7
    clear hw7 hb7 kk jj ff k0 k1 f0 f1 j0 j1
    go_simp
theorem gOk_wrap (N L : Nat) (hL : L < 18446744073709551616) (h : gOk N L = false) : gOk N (IntKind.i64.wrap L) = false := by
  have h1 := gOk_f h
  refine decide_eq_false (fun h2 => h1 ?_)
  rw [IntKind.wrap_i64] at h2
  omega
set_option maxHeartbeats 1000000 in
theorem dec_no (v : Value) (l : List Nat) (L N : Nat) (w : World) (hn : l.length = N) (hL : l.getD 3 0 = L) (hl : L < 18446744073709551616) (hg : gOk N L = false) (hv : SL w v l) :
    Calls Try.prog 12 #[v] w fun e w' => e = .returned (decR N L false) ∧ Below w.heap.size w w' := by
  by_cases h8 : 8 ≤ N
  · obtain ⟨M, hM⟩ : ∃ M, l.length = M + 1 := ⟨l.length - 1, by omega⟩
    obtain ⟨g, o, p, rfl, hgs, hp, hc⟩ := hv.pos hM
    rw [← hM, hn] at hp hc ⊢
    have c3 := hc 3 (by omega)
    rw [hL] at c3
    have hE := Lib.hid (fun w => senc_f N (IntKind.i64.wrap L) w (gOk_wrap N L hl hg))
    generalize f1 : IntKind.i64.wrap (L : Int) = J at *
    have f2 : ¬ ((N : Int) < 8) := by omega
    have f3 : (3 : Int) < (N : Int) := by omega
    clear hc hL hn hM hv hg
    go_enter Try.func12, Try.ntmps12
    go_wp2_with fail
    refine (hE.out _).mono ?_
    rintro e w2 ⟨rfl, hb2⟩
    have hB2 : Below w.heap.size w w2 := (((Below.refl _ _).alloc (Nat.le_refl _) _).alloc (by simp) _).trans (hb2.mono (by simp; omega))
    have kk := ((C2.new w (.int .i64 0) (.int .i64 0) 23).alloc (.cells #[.int .i64 N, .int .i64 J] 23)).keep hb2
    have ff := ((F2.new w (.int .i64 0) (.int .i64 0) 23).alloc (by simp) (.cells #[.int .i64 N, .int .i64 J] 23)).keep (by simp; omega) hb2
    obtain ⟨k0, k1⟩ := id kk
    obtain ⟨f0, f1⟩ := id ff
    clear hE hb2
    go_wp2_with fail
    (try simp only [Exit.inBlock, Exit.then])
    obtain ⟨w7, hw7, hC7, hb7⟩ := st2_ex kk (.int .i64 0) (.int .i64 0)
    rw [← hw7]
    refine bodyPost_ret (v := .tuple #[.agg #[.int .i64 0, .int .i64 0], .int .i64 7]) ?_ rfl ⟨rfl, hB2.trans hb7⟩
    rw [results_cell_tmp rfl]
    obtain ⟨t0, t1⟩ := hC7
    clear hw7 hb7 kk ff k0 k1 f0 f1
    go_simp
  · obtain ⟨sp, cap, rfl⟩ := hv.form
    rw [hn]
    have f2 : (N : Int) < 8 := by omega
    clear hL hn hv hg
    have kk := C2.new w (.int .i64 0) (.int .i64 0) 23
    go_enter Try.func12, Try.ntmps12
    go_wp2_with fail
    refine bodyPost_ret (v := .tuple #[.agg #[.int .i64 0, .int .i64 0], .int .i64 7]) ?_ rfl ⟨rfl, (Below.refl _ _).alloc (Nat.le_refl _) _⟩
    rw [results_cell_tmp rfl]
    obtain ⟨t0, t1⟩ := kk
    go_simp
/-- what Decode tells -/
def sOk (l : List Nat) : Bool := decide (8 ≤ l.length) && (gOk (l.length : Nat) (l.getD 3 0 : Nat) && decide (l.take 8 = headW l.length (l.getD 3 0) (gNat l.length (l.getD 3 0))))
theorem dec_any (v : Value) (l : List Nat) (w : World) (hl : WL l) (hv : SL w v l) :
    Calls Try.prog 12 #[v] w fun e w' => e = .returned (decR l.length (l.getD 3 0) (sOk l)) ∧ Below w.heap.size w w' := by
  have hL : l.getD 3 0 < 18446744073709551616 := by
    by_cases h : 3 < l.length
    · exact hl.at 3 h
    · rw [List.getD_eq_getElem?_getD, List.getElem?_eq_none (by omega)]; decide
  cases hg : gOk (l.length : Nat) (l.getD 3 0 : Nat) with
  | false =>
    rw [show sOk l = false by unfold sOk; rw [hg]; simp]
    exact dec_no v l _ _ w rfl rfl hL hg hv
  | true =>
    have := gOk_t hg
    rw [show sOk l = decide (l.take 8 = headW l.length (l.getD 3 0) (gNat l.length (l.getD 3 0))) by unfold sOk; rw [hg, decide_eq_true (show 8 ≤ l.length by omega)]; rfl]
    exact dec_ok v l _ _ _ w rfl (by omega) rfl (gNat_eq hg) hg hv
end Go.Proofs.Ytjmilngndoiceaa
