/-
  The laws of package undo: what UndoFirst needs: notes of what was, in a row of the call's own.
-/
import Derived.Test.YtkmfncnfpneekaaUn18
import Derived.Test.YtkmfncnfpneekaaUn11
set_option linter.unusedVariables false
set_option linter.unusedSimpArgs false
namespace Go.Proofs.Ytkmfncnfpneekaa
open Go.RowKit Go.ChangeShapes Go.WideShapes Go.Deep

theorem ext_getD {l m : List Nat} (h : l.length = m.length) (h2 : ∀ i, i < l.length → l.getD i 0 = m.getD i 0) : l = m := by
  apply List.ext_getElem h
  intro i h3 h4
  have := h2 i h3
  rwa [List.getD_eq_getElem?_getD, List.getD_eq_getElem?_getD, List.getElem?_eq_getElem h3, List.getElem?_eq_getElem h4] at this
/-- what was noted, put back over what was put -/
theorem putB_back (J os : List Nat) (a : Nat) (h : a + os.length ≤ J.length) : putB (putB J (a : Nat) os) (a : Nat) ((J.drop a).take os.length) = J := by
  refine ext_getD (by rw [putB_len, putB_len]) (fun w hw => ?_)
  rw [putB_len, putB_len] at hw
  rw [putB_at _ _ _ _ (by rw [putB_len]; exact hw), putB_at _ _ _ _ hw]
  have hl : ((J.drop a).take os.length).length = os.length := by rw [List.length_take, List.length_drop]; omega
  unfold hit
  simp only [hl]
  by_cases q : ((a : Nat) : Int) ≤ (w : Int) ∧ (w : Int) < (a : Int) + (os.length : Int)
  · rw [if_pos q, Option.getD_some, show ((w : Int) - (a : Int)).toNat = w - a from by omega, List.getD_eq_getElem?_getD, List.getElem?_take_of_lt (by omega), List.getElem?_drop, show a + (w - a) = w from by omega, ← List.getD_eq_getElem?_getD]
  · rw [if_neg q, Option.getD_none, if_neg q, Option.getD_none]
theorem back_step {J : List Nat} {N : List Pe} {I : List Nat} {a : Nat} {os : List Nat} (h : backL J N = I) (hl : a + os.length ≤ J.length) : backL (putB J (a : Nat) os) (N ++ [((((a : Nat) : Int), (J.drop a).take os.length) : Pe)]) = I := by
  unfold backL
  rw [List.foldr_append]
  show backL (putB (putB J (a : Nat) os) (a : Nat) ((J.drop a).take os.length)) N = I
  rw [putB_back J os a hl, h]
/-- taken back twice it is the same -/
theorem back_twice {J I : List Nat} {N : List Pe} (h : backL J N = I) : backL I N = I := by
  have hl : I.length = J.length := by rw [← h, backL_len]
  refine ext_getD (by rw [backL_len]) (fun w hw => ?_)
  rw [backL_len] at hw
  rw [backL_at I w hw]
  have e := backL_at J w (by omega) N
  rw [h] at e
  cases hf : firstHit N w with
  | none => rfl
  | some y => rw [hf] at e; rw [e]; rfl
theorem drop_take_succ (J : List Nat) (a j : Nat) (h : a + j < J.length) : (J.drop a).take (j + 1) = (J.drop a).take j ++ [J.getD (a + j) 0] := by
  rw [List.take_succ_eq_append_getElem (by rw [List.length_drop]; omega), List.getElem_drop, List.getD_eq_getElem?_getD, List.getElem?_eq_getElem h]
  rfl
def Lt (v : Value) (W : World) : Prop := ∀ g o m c, v = .slice (some ⟨g, o, none⟩) m c → g < W.heap.size
theorem Lt.mono {v : Value} {W w : World} (h : Lt v W) (hs : W.heap.size ≤ w.heap.size) : Lt v w := fun g o m c e => Nat.lt_of_lt_of_le (h g o m c e) hs
theorem OwnU.lt {w : World} {base : Nat} {v : Value} {l : List Nat} (h : OwnU w base v l) : Lt v w ∧ ∀ g o m c, v = .slice (some ⟨g, o, none⟩) m c → base ≤ g := by
  rcases h.2 with ⟨hv, _⟩ | ⟨g', cap, cur, hv, hb, hg, _⟩
  · exact ⟨fun g o m c e => (by rw [hv] at e; cases e), fun g o m c e => (by rw [hv] at e; cases e)⟩
  · refine ⟨fun g o m c e => ?_, fun g o m c e => ?_⟩
    · rw [hv] at e
      simp only [Value.slice.injEq, Option.some.injEq, Addr.mk.injEq, and_true] at e
      obtain ⟨⟨rfl, rfl⟩, rfl, rfl⟩ := e
      exact (Array.getElem?_eq_some_iff.1 hg).1
    · rw [hv] at e
      simp only [Value.slice.injEq, Option.some.injEq, Addr.mk.injEq, and_true] at e
      obtain ⟨⟨rfl, rfl⟩, rfl, rfl⟩ := e
      exact hb
/-- what was noted: a row of the call's own, each entry with its old words, away from it and from block gN -/
structure OF (n₀ gN : Nat) (xs : List Ex) (v : Value) (W : World) : Prop where
  row : OwnE 25 2 eS W n₀ v xs
  all : ∀ x ∈ xs, KL .u64 W x.2.1 x.2.2 ∧ Lt x.2.1 W ∧ Off x.2.1 v.ownBlock ∧ Off x.2.1 (some gN)
  ne : v.ownBlock ≠ some gN
  lt : gN < W.heap.size
theorem OF.nil {n₀ gN : Nat} {W : World} (h : gN < W.heap.size) : OF n₀ gN [] (.slice none 0 0) W := ⟨OwnE.nil _ _ _ _ _, fun x hx => by simp at hx, by simp [Value.ownBlock], h⟩
theorem OF.keep {n₀ gN : Nat} {xs : List Ex} {v : Value} {W w : World} (h : OF n₀ gN xs v W) (hb : Below W.heap.size W w) : OF n₀ gN xs v w :=
  ⟨h.row.keep hb, fun x hx => by obtain ⟨a, b, c, d⟩ := h.all x hx; exact ⟨a.keep hb, b.mono hb.size, c, d⟩, h.ne, Nat.lt_of_lt_of_le h.lt hb.size⟩
theorem OF.set {n₀ gN : Nat} {xs : List Ex} {v : Value} {W : World} (h : OF n₀ gN xs v W) (i : Nat) (u : Value) : OF n₀ gN xs v (W.setCell ⟨gN, i, none⟩ u) :=
  ⟨h.row.kept (grownBy_set W gN i u) (.inr h.ne), fun x hx => by obtain ⟨a, b, c, d⟩ := h.all x hx; exact ⟨a.grown (grownBy_set W gN i u) d, b.mono (by simp), c, d⟩, h.ne, by simpa using h.lt⟩
theorem OF.en {n₀ gN : Nat} {xs : List Ex} {v : Value} {W : World} (h : OF n₀ gN xs v W) : EN W v (xs.map px) := ⟨xs, h.row.el eS_len, fun x hx => (h.all x hx).1, rfl⟩
theorem OF.add {n₀ gN : Nat} {xs : List Ex} {v : Value} {W : World} {a : Int} {A : Option Addr} {m c : Nat} {os : List Nat} (h : OF n₀ gN xs v W) (hk : KL .u64 W (.slice A m c) os) (hlt : Lt (.slice A m c) W) (hoff : Off (.slice A m c) v.ownBlock) (hoffN : Off (.slice A m c) (some gN)) (hb : n₀ ≤ W.heap.size) (hlen : xs.length ≤ 1000) :
    ∃ A' c' w1, (Builtin.append_ #[34, 34] 34 #[v, .slice (some ⟨W.heap.size, 0, none⟩) 1 1]).run Try.prog (W.alloc (.cells #[.int .i64 a, .slice A m c] (25 : Nat))) = .ok (.slice A' (xs.length + 1) c') w1 ∧ OF n₀ gN (xs ++ [(a, .slice A m c, os)]) (.slice A' (xs.length + 1) c') w1 ∧ Below n₀ W w1 ∧
      (∀ {base n c2 : Nat} {J : List Nat}, OwnU W base (.slice (some ⟨gN, 0, none⟩) n c2) J → OwnU w1 base (.slice (some ⟨gN, 0, none⟩) n c2) J) := by
  have hB1 : Below W.heap.size W (W.alloc (.cells #[.int .i64 a, .slice A m c] (25 : Nat))) := (Below.refl _ _).alloc (Nat.le_refl _) _
  have hlit : EL 2 eS (W.alloc (.cells #[.int .i64 a, .slice A m c] (25 : Nat))) (.slice (some ⟨W.heap.size, 0, none⟩) 1 1) [((a, .slice A m c, os) : Ex)] := (OwnE.lit 25 eS_len W [((a, .slice A m c, os) : Ex)] _ rfl (by simp)).el eS_len
  obtain ⟨v', w1, hrun, ho, hg, hl2, hnn⟩ := appE enT (h.row.keep hB1) hlit (by simp; omega) (by omega) (by simp)
  have hlm : (xs ++ [((a, .slice A m c, os) : Ex)]).length = xs.length + 1 := by simp
  obtain ⟨g', cap', hv', hg1, hg2, hg3⟩ := ho.form (by rw [hlm]; omega)
  rw [hlm] at hv'
  subst hv'
  have hsz : W.heap.size < w1.heap.size := by have := hg.size; simp at this; omega
  have hoffx : ∀ (v2 : Value), Lt v2 W → Off v2 v.ownBlock → Off v2 (Value.slice (some ⟨g', 0, none⟩) (xs.length + 1) cap').ownBlock := fun v2 h1 h2 => by
    rcases hl2 with e | e
    · rw [e]; exact h2
    · rw [e]
      intro g o m c e2 q
      have := h1 g o m c e2
      simp at q
      omega
  refine ⟨_, _, w1, hrun, ⟨ho, fun x hx => ?_, ?_, by have := h.lt; omega⟩, (hB1.mono hb).trans ((Below.refl _ _).grown hg (by simp; omega) (fun j hj => (h.row.lt j hj).1)), fun hN => World.ownsRow.kept (OwnU.keep hN hB1) hg (.inr (fun e => h.ne e.symm))⟩
  · rw [List.mem_append, List.mem_singleton] at hx
    rcases hx with hx | rfl
    · obtain ⟨k2, k3, k4, k5⟩ := h.all x hx
      exact ⟨(k2.keep hB1).grown hg k4, k3.mono (Nat.le_of_lt hsz), hoffx _ k3 k4, k5⟩
    · exact ⟨(hk.keep hB1).grown hg hoff, hlt.mono (Nat.le_of_lt hsz), hoffx _ hlt hoff, hoffN⟩
  · rcases hl2 with e | e
    · rw [e]; exact h.ne
    · rw [e]
      intro q
      have := h.lt
      simp at q
      omega
/-- one word noted -/
theorem x1_step {wq : World} {xb j : Nat} {a : Int} {Aq : Option Addr} {cq : Nat} {q : List Nat} {X : Nat} (hX : Bk wq xb (.int .i64 a) (.slice Aq j cq)) (hO : OwnU wq (xb + 1) (.slice Aq j cq) q) (hq : q.length = j) (hj : j ≤ 1000) :
    ∃ A' c' w', (Builtin.append_ #[23, 23] 23 #[.slice Aq j cq, .slice (some ⟨wq.heap.size, 0, none⟩) 1 1]).run Try.prog (wq.alloc (.cells #[.int .u64 (X : Nat)] (22 : Nat))).drew = .ok (.slice A' (j + 1) c') w' ∧
      (w'.cell? ⟨xb, 1, none⟩ = some (.slice Aq j cq) ∧ w'.frozen? ⟨xb, 1, none⟩ = false) ∧ Bk (w'.setCell ⟨xb, 1, none⟩ (.slice A' (j + 1) c')) xb (.int .i64 a) (.slice A' (j + 1) c') ∧ OwnU (w'.setCell ⟨xb, 1, none⟩ (.slice A' (j + 1) c')) (xb + 1) (.slice A' (j + 1) c') (q ++ [X]) ∧ Below xb wq (w'.setCell ⟨xb, 1, none⟩ (.slice A' (j + 1) c')) := by
  have hB1 : Below wq.heap.size wq (wq.alloc (.cells #[.int .u64 (X : Nat)] (22 : Nat))).drew := ((Below.refl _ _).alloc (Nat.le_refl _) _).drew
  have hxl := hX.lt
  have hsz : (wq.alloc (.cells #[.int .u64 (X : Nat)] (22 : Nat))).drew.heap.size = wq.heap.size + 1 := by simp
  obtain ⟨v', w', hrun, ho, hg, _⟩ := appWg (w := (wq.alloc (.cells #[.int .u64 (X : Nat)] (22 : Nat))).drew) (hO.keep hB1) (u := .slice (some ⟨wq.heap.size, 0, none⟩) 1 1) (m := [X]) (KL.one wq X 22) (by rw [hsz]; omega) (by omega) (by simp)
  obtain ⟨A', c', hv', _⟩ := ho.form
  rw [List.length_append, hq, List.length_singleton] at hv'
  subst hv'
  have hne : ∀ k, (Value.slice Aq j cq).ownBlock = some k → xb ≠ k := fun k e => by have := (World.ownsRow.lt hO k e).1; omega
  have hkw : Bk w' xb (.int .i64 a) (.slice Aq j cq) := (hg.block xb (by rw [hsz]; omega) (fun e => hne xb e.symm rfl)).trans (hX.keep hB1)
  have hne2 : (Value.slice A' (j + 1) c').ownBlock ≠ some xb := fun e => by have := (World.ownsRow.lt ho xb e).1; omega
  refine ⟨A', c', w', hrun, row_cell hkw 1, set_blk (show w'.heap[xb]? = some (.cells #[.int .i64 a, .slice Aq j cq] 25 (0, 0)) from hkw), World.ownsRow.kept ho (grownBy_set w' xb 1 _) (.inr hne2), ?_⟩
  exact ((hB1.mono (Nat.le_of_lt hxl)).trans ((Below.refl _ _).grown hg (by rw [hsz]; omega) (fun k e => by have := (World.ownsRow.lt hO k e).1; omega))).setCell (p := ⟨xb, 1, none⟩) (Nat.le_refl _) _
end Go.Proofs.Ytkmfncnfpneekaa
