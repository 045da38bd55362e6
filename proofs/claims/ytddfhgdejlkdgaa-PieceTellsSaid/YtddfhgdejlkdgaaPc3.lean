/-
  What the document's call Made answers; lists of numbers in memory.
-/
import Derived.Test.YtddfhgdejlkdgaaPc2
set_option linter.unusedVariables false
set_option linter.unusedSimpArgs false
namespace Go.Proofs.Ytddfhgdejlkdgaa
open Go.RowKit

/-- v is a list of numbers of a kind in memory -/
def KL (K : IntKind) (w : World) (v : Value) (l : List Nat) : Prop :=
  ∃ A cap, v = .slice A l.length cap ∧ (0 < l.length → ∃ g off, A = some ⟨g, off, none⟩ ∧ g < w.heap.size ∧ l.length ≤ cap ∧ ∀ i, i < l.length → w.cell? ⟨g, off + i, none⟩ = some (.int K (l.getD i 0 : Nat)))
theorem KL.keep {K : IntKind} {w w1 : World} {v : Value} {l : List Nat} (h : KL K w v l) (hb : Below w.heap.size w w1) : KL K w1 v l := by
  obtain ⟨A, cap, hv, h⟩ := h
  refine ⟨A, cap, hv, fun hl => ?_⟩
  obtain ⟨g, off, hA, hg, hc, hi⟩ := h hl
  exact ⟨g, off, hA, Nat.lt_of_lt_of_le hg hb.size, hc, fun i h => by rw [(bcell hb).1 _ _ hg]; exact hi i h⟩
theorem KL.form {K : IntKind} {w : World} {v : Value} {l : List Nat} {n : Nat} (h : KL K w v l) (hn : l.length = n) : ∃ A cap, v = .slice A n cap ∧
    ∀ w1 i, Below w.heap.size w w1 → i < n → ∃ g off, A = some ⟨g, off, none⟩ ∧ n ≤ cap ∧ g < w1.heap.size ∧ w1.cell? ⟨g, off + i, none⟩ = some (.int K (l.getD i 0 : Nat)) := by
  obtain ⟨A, cap, hv, h⟩ := h
  refine ⟨A, cap, by rw [hv, hn], fun w1 i hb hi => ?_⟩
  obtain ⟨g, off, hA, hg, hc, hcell⟩ := h (by omega)
  refine ⟨g, off, hA, by omega, Nat.lt_of_lt_of_le hg hb.size, ?_⟩
  rw [(bcell hb).1 _ _ hg]; exact hcell i (by omega)
def BL (l : List Nat) : Prop := ∀ x ∈ l, x < 256
theorem BL.at {l : List Nat} (h : BL l) (i : Nat) (hi : i < l.length) : l.getD i 0 < 256 := by
  rw [List.getD_eq_getElem?_getD, List.getElem?_eq_getElem hi]
  exact h _ (List.getElem_mem hi)

def madeN (f : Int) (l : List Nat) : Nat → List Sp × Int
  | 0 => ([], f)
  | k + 1 => ((madeN f l k).1 ++ [((madeN f l k).2 + 1 + ((l.getD (2 * k) 0 : Nat) : Int) % 9, 1 + ((l.getD (2 * k + 1) 0 : Nat) : Int) % 9)], (madeN f l k).2 + 1 + ((l.getD (2 * k) 0 : Nat) : Int) % 9 + (1 + ((l.getD (2 * k + 1) 0 : Nat) : Int) % 9))
def madeL (f : Int) (l : List Nat) : List Sp := (madeN f l (l.length / 2)).1
theorem madeN_bd (f : Int) (l : List Nat) : ∀ k : Nat, f + 2 * k ≤ (madeN f l k).2 ∧ (madeN f l k).2 ≤ f + 18 * k ∧ (madeN f l k).1.length = k ∧ SRight (madeN f l k).1 ∧ (∀ x ∈ (madeN f l k).1, f < x.1 ∧ x.1 + x.2 ≤ (madeN f l k).2)
  | 0 => ⟨by simp [madeN], by simp [madeN], rfl, SRight.nil, by simp [madeN]⟩
  | k + 1 => by
    obtain ⟨h1, h2, h3, h4, h5⟩ := madeN_bd f l k
    have e1 : 0 ≤ ((l.getD (2 * k) 0 : Nat) : Int) % 9 ∧ ((l.getD (2 * k) 0 : Nat) : Int) % 9 ≤ 8 := by omega
    have e2 : 0 ≤ ((l.getD (2 * k + 1) 0 : Nat) : Int) % 9 ∧ ((l.getD (2 * k + 1) 0 : Nat) : Int) % 9 ≤ 8 := by omega
    simp only [madeN]
    generalize ((l.getD (2 * k) 0 : Nat) : Int) % 9 = a at *
    generalize ((l.getD (2 * k + 1) 0 : Nat) : Int) % 9 = b at *
    generalize madeN f l k = t at *
    refine ⟨by omega, by omega, by simp [h3], SRight.app.2 ⟨h4, SRight.one.2 (by simp only []; omega), fun x hx y hy => ?_⟩, fun x hx => ?_⟩
    · simp at hy; subst hy
      have := (h5 x hx).2
      simp only []; omega
    · rcases List.mem_append.1 hx with hx | hx
      · have := h5 x hx; omega
      · simp at hx; subst hx; simp only []; omega
theorem madeL_right (f : Int) (l : List Nat) : SRight (madeL f l) := (madeN_bd f l _).2.2.2.1
theorem madeL_len (f : Int) (l : List Nat) : (madeL f l).length = l.length / 2 := (madeN_bd f l _).2.2.1
theorem madeL_mem (f : Int) (l : List Nat) (x : Sp) (hx : x ∈ madeL f l) : f < x.1 ∧ x.1 + x.2 ≤ f + 9 * l.length := by
  obtain ⟨h1, h2, h3, h4, h5⟩ := madeN_bd f l (l.length / 2)
  have := h5 x hx
  omega
theorem madeL_sb (f : Int) (l : List Nat) (h1 : -1000000 ≤ f) (h2 : f ≤ 1000000) (h3 : l.length ≤ 100000) : SBs (madeL f l) := fun x hx => by
  have := madeL_mem f l x hx
  have := (madeL_right f l).1 x hx
  unfold SB; omega

set_option maxHeartbeats 2000000 in
theorem made_any (f : Int) (v : Value) (l : List Nat) (w : World) (h1 : -1000000 ≤ f) (h2 : f ≤ 1000000) (hl : BL l) (hlen : l.length ≤ 1000) (hv : KL .u8 w v l) :
    Calls Try.prog 22 #[.int .i64 f, v] w fun e w' => ∃ v', e = .returned v' ∧ OwnSp w' w.heap.size v' (madeL f l) ∧ Below w.heap.size w w' := by
  obtain ⟨n, hn⟩ : ∃ n, l.length = n := ⟨_, rfl⟩
  obtain ⟨A, cap, rfl, hC⟩ := hv.form hn
  have hI := Lib.hid (fun i (hi : i < n) => hl.at i (by omega))
  have hD := Lib.hid (fun k => madeN_bd f l k)
  have hE := Lib.hid (fun k (hk : k = n / 2) => show (madeN f l k).1 = madeL f l from by rw [hk, ← hn]; rfl)
  have hS1 := Lib.hid (fun k => show (madeN f l (k + 1)).1 = (madeN f l k).1 ++ [((madeN f l k).2 + 1 + ((l.getD (2 * k) 0 : Nat) : Int) % 9, 1 + ((l.getD (2 * k + 1) 0 : Nat) : Int) % 9)] from rfl)
  have hS2 := Lib.hid (fun k => show (madeN f l (k + 1)).2 = (madeN f l k).2 + 1 + ((l.getD (2 * k) 0 : Nat) : Int) % 9 + (1 + ((l.getD (2 * k + 1) 0 : Nat) : Int) % 9) from rfl)
  replace hC := Lib.hid hC
  have hlen' : n ≤ 1000 := by omega
  clear hl hlen hn
  go_enter Try.func22, Try.ntmps22
  go_wp2_with fail
  go_loopw [0, 5, 6] (fun fr v i wr => ∃ (k j : Nat) (F : Int) (P : List Sp), Hid (j = 2 * k) ∧ j ≤ n ∧ i = .int .i64 j ∧ fr = .int .i64 F ∧ Hid (F = (madeN f l k).2) ∧ Hid (P = (madeN f l k).1) ∧ OwnSp wr w.heap.size v P ∧ Below w.heap.size w wr) (fun _ _ i _ => n + 1 - (intOf i).toNat)
  case atStart => exact ⟨0, 0, f, [], rfl, Nat.zero_le _, rfl, rfl, rfl, rfl, OwnSp.nil _ _, Below.refl _ _⟩
  case round =>
    obtain ⟨k, j, F, P, hj, hjn, rfl, rfl, hF, hP, hown, hB⟩ := hrel
    by_cases hlt : j + 1 < n
    · obtain ⟨g, off, rfl, hcap, hg, c0⟩ := hC.out wr j hB (by omega)
      obtain ⟨g', off', hA, _, _, c1⟩ := hC.out wr (j + 1) hB hlt
      simp only [Option.some.injEq, Addr.mk.injEq, and_true] at hA
      obtain ⟨rfl, rfl⟩ := hA
      obtain ⟨d1, d2, d3, d4, d5⟩ := hD.out k
      rw [← hF.out] at d1 d2
      rw [← hP.out] at d3
      clear d4 d5
      have hx := hI.out j (by omega)
      have hy := hI.out (j + 1) hlt
      have hPl : P.length ≤ 1000000 := by have := hj.out; omega
      have hFb1 : -2000000 ≤ F := by omega
      have hFb2 : F ≤ 2000000 := by have := hj.out; omega
      have hF2 := Lib.hid (show F + 1 + ((l.getD j 0 : Nat) : Int) % 9 + (1 + ((l.getD (j + 1) 0 : Nat) : Int) % 9) = (madeN f l (k + 1)).2 from by rw [hS2.out, ← hF.out, ← hj.out])
      have hP2 := Lib.hid (show P ++ [(F + 1 + ((l.getD j 0 : Nat) : Int) % 9, 1 + ((l.getD (j + 1) 0 : Nat) : Int) % 9)] = (madeN f l (k + 1)).1 from by rw [hS1.out, ← hF.out, ← hP.out, ← hj.out])
      have hj2 := Lib.hid (show j + 2 = 2 * (k + 1) from by have := hj.out; omega)
      generalize l.getD j 0 = x at *
      generalize l.getD (j + 1) 0 = y at *
      have m1 : 0 ≤ (x : Int) % 9 ∧ (x : Int) % 9 ≤ 8 := by omega
      have m2 : 0 ≤ (y : Int) % 9 ∧ (y : Int) % 9 ≤ 8 := by omega
      obtain ⟨a1, a2⟩ := m1
      obtain ⟨b1, b2⟩ := m2
      have q1 : (j : Int) + 1 < (n : Int) := by omega
      have q2 : (j : Int) < (n : Int) := by omega
      clear d1 d2 d3 hx hy
      obtain ⟨v', w2, hrun, ho, hg2, hl2⟩ := app1 (w := wr.alloc (.cells #[.int .i64 (F + 1 + (x : Int) % 9), .int .i64 (1 + (y : Int) % 9)] (24 : Nat))) (l := P) (s := (F + 1 + (x : Int) % 9, 1 + (y : Int) % 9)) (base := w.heap.size) (hown.keep ((Below.refl _ _).alloc (Nat.le_refl _) _)) (C2.new wr (.int .i64 (F + 1 + (x : Int) % 9)) (.int .i64 (1 + (y : Int) % 9)) (24 : Nat)) (by have := hB.size; simp; omega) hPl
      have hB2 : Below w.heap.size w w2 := (hB.alloc hB.size _).grown hg2 (by have := hB.size; simp; omega) (fun j hj => (hown.lt _ hj).1)
      clear hg2 hl2 hown
      go_wp2_with (at_builtin; refine wpList_append_run rfl _ _ 22 rfl _ _ _ rfl rfl hrun ?_)
      clear hrun
      go_wp2_with fail
      go_roundw
      case rel => exact ⟨k + 1, j + 2, _, _, hj2, by omega, by go_num, rfl, hF2, hP2, ho, hB2⟩
      case measure => simp [intOf]; omega
    · have hR := Lib.hid (show P = madeL f l from by rw [hP.out, hE.out k (by have := hj.out; omega)])
      have q1 : (n : Int) ≤ (j : Int) + 1 := by omega
      go_wp2_with fail
      go_ret
      exact ⟨_, rfl, by rw [← hR.out]; exact hown, hB⟩

theorem OwnSp.bump {w : World} {base g cap m : Nat} {L : List Sp} {x : Sp} (h : OwnSp w base (.slice (some ⟨g, 0, none⟩) (m + 1) cap) (L ++ [x])) (hm : L.length = m) :
    OwnSp (w.setCell ⟨g, m * 2 + 1, none⟩ (.int .i64 (x.2 + 1))) base (.slice (some ⟨g, 0, none⟩) (m + 1) cap) (L ++ [(x.1, x.2 + 1)]) ∧ w.cell? ⟨g, m * 2 + 1, none⟩ = some (.int .i64 x.2) ∧ w.frozen? ⟨g, m * 2 + 1, none⟩ = false ∧ base ≤ g := by
  unfold OwnSp at h
  have hl : (L ++ [x]).length = m + 1 := by simp [hm]
  have hl2 : (L ++ [(x.1, x.2 + 1)]).length = m + 1 := by simp [hm]
  rw [hl] at h
  have hst := (h.stored (m * 2 + 1) (.int .i64 (x.2 + 1))).1
  refine ⟨?_, ?_, h.frozenAt _, (h.lt g rfl).1⟩
  · unfold OwnSp
    rw [hl2]
    have e : (spv (L ++ [x])).set (m * 2 + 1) (.int .i64 (x.2 + 1)) = spv (L ++ [(x.1, x.2 + 1)]) := by
      rw [spv_app, spv_app, List.set_append_right _ _ (by rw [spv_len]; omega), spv_len, hm, show m * 2 + 1 - m * 2 = 1 by omega]
      rfl
    rw [← e]
    exact hst
  · rw [h.cellAt _ (by omega), spv_app, List.getElem?_append_right (by rw [spv_len]; omega), spv_len, hm, show m * 2 + 1 - m * 2 = 1 by omega]
    rfl
end Go.Proofs.Ytddfhgdejlkdgaa
