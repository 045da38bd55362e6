/-
  The laws of package tx: steps, and what they leave; the chapter's example.
-/
import Derived.Test.YtcemiclbeocnjaaTk9
set_option linter.unusedVariables false
set_option linter.unusedSimpArgs false
namespace Go.Proofs.Ytcemiclbeocnjaa
open Go.RowKit Go.ChangeShapes Go.WideShapes Go.Deep Go.Maps

theorem keys0 : KeysOf (fun _ => none) [] := ⟨List.Pairwise.nil, fun x => by simp⟩
theorem made0 : madeL (fun _ => none) = [] := by rw [madeL_eq keys0]; rfl
theorem good0 {noted : List Sp} {depth : Int} {bad : Bool} {gone : List Int} {root : Int} {named : Bool} (h : Ok noted) : GoodS ⟨noted, fun _ => none, 0, depth, bad, gone, root, named⟩ := ⟨h, fun x f q => (by cases q), Nat.zero_le _⟩
theorem may0 (noted : List Sp) (n : Nat) (depth : Int) (bad : Bool) (gone : List Int) (root : Int) (named : Bool) : mayL ⟨noted, fun _ => none, n, depth, bad, gone, root, named⟩ = noted := by
  unfold mayL
  simp only []
  rw [made0]; rfl
theorem okOne {a b : Int} (h : 0 ≤ a) (h1 : 1 ≤ b) (h2 : a + b ≤ 300) : Ok [(a, b)] := ⟨SRight.one.2 h1, fun w hw => by
  have := (SHas.one _ _).1 hw
  unfold SIn at this
  simp only [] at this
  omega⟩
theorem one_span (w : World) (a b : Int) : PL (w.alloc (.cells #[.int .i64 a, .int .i64 b] (63 : Nat))) (.slice (some ⟨w.heap.size, 0, none⟩) 1 1) [(a, b)] :=
  (ownSp_iff.2 (OwnE.lit 63 spE_len w [(a, b)] #[.int .i64 a, .int .i64 b] rfl (by simp))).pl
def sA : St := { st0 with noted := [(10, 10)] }
def sB : St := { st0 with noted := [(10, 15)] }
def sC : St := { sB with depth := 1 }
def sD : St := { sC with gone := [3] }
theorem ok10 : Ok [((10 : Int), (10 : Int))] := okOne (by omega) (by omega) (by omega)
theorem ok15 : Ok [((10 : Int), (15 : Int))] := okOne (by omega) (by omega) (by omega)
theorem inn {a b : Int} (h : 0 ≤ a) (h2 : a + b ≤ 300) : ∀ z, SIn (a, b) z → 0 ≤ z ∧ z < 300 := fun z hz => by
  unfold SIn at hz
  simp only [] at hz
  omega

/-- from one world to the next: what may be changed next may be changed now, or is new; nothing else has changed -/
structure Step (F : Nat → Prop) (w : World) (F' : Nat → Prop) (w' : World) : Prop where
  sub : ∀ k, F' k → F k ∨ w.heap.size ≤ k
  chg : Chg F w w'
theorem Step.of_below (F : Nat → Prop) {w w' : World} (h : Below w.heap.size w w') : Step F w F w' := ⟨fun k q => .inl q, Chg.of_below F h⟩
theorem Step.same {F : Nat → Prop} {w w' : World} (h : Chg F w w') : Step F w F w' := ⟨fun k q => .inl q, h⟩
theorem Step.trans {F F1 F2 : Nat → Prop} {a b c : World} (h : Step F a F1 b) (k : Step F1 b F2 c) : Step F a F2 c :=
  ⟨fun j q => by
    rcases k.sub j q with q | q
    · exact h.sub j q
    · exact .inr (Nat.le_trans h.chg.size q), h.chg.trans k.chg h.sub⟩
/-- what is kept apart -/
def Apart (F G : Nat → Prop) : Prop := ∀ k, F k → ¬ G k
theorem Apart.step {F F' G : Nat → Prop} {w w' : World} (h : Apart F G) (hs : Step F w F' w') (hl : ∀ k, G k → k < w.heap.size) : Apart F' G := fun k q g => by
  rcases hs.sub k q with q | q
  · exact h k q g
  · have := hl k g; omega
/-- a transaction since a world -/
structure TxN (w0 w : World) (B : Nat) (F : Nat → Prop) (s : St) : Prop where
  tx : TxAt w B F s
  low : ∀ k, F k → w0.heap.size ≤ k
  bel : Below w0.heap.size w0 w
theorem TxN.go {w0 w w' : World} {B : Nat} {F F' : Nat → Prop} {s s' : St} (h : TxN w0 w B F s) (hs : Step F w F' w') (ht : TxAt w' B F' s') : TxN w0 w' B F' s' :=
  ⟨ht, fun k q => by
    rcases hs.sub k q with q | q
    · exact h.low k q
    · exact Nat.le_trans h.bel.size q, h.bel.trans (hs.chg.below h.low h.bel.size)⟩
theorem TxN.keep {w0 w w' : World} {B : Nat} {F : Nat → Prop} {s : St} (h : TxN w0 w B F s) (hb : Below w.heap.size w w') : TxN w0 w' B F s := h.go (Step.of_below F hb) (h.tx.keep hb)
/-- a list of spans that a transaction doesn't change -/
structure SpN (w : World) (F : Nat → Prop) (v : Value) (l : List Sp) : Prop where
  own : OwnSp w 0 v l
  far : ∀ k, v.ownBlock = some k → ¬ F k
theorem SpN.go {w w' : World} {F F' : Nat → Prop} {v : Value} {l : List Sp} (h : SpN w F v l) (hs : Step F w F' w') : SpN w' F' v l :=
  ⟨h.own.chg hs.chg h.far, fun k e q => by
    rcases hs.sub k q with q | q
    · exact h.far k e q
    · have := ((ownSp_iff.1 h.own).lt k e).2; omega⟩
theorem SpN.keep {w w' : World} {F : Nat → Prop} {v : Value} {l : List Sp} (h : SpN w F v l) (hb : Below w.heap.size w w') : SpN w' F v l := h.go (Step.of_below F hb)
theorem new_N (w : World) : Calls Try.prog 31 #[] w fun e w' => ∃ B F, e = .returned (.pointer (some ⟨B, 0, none⟩)) ∧ TxN w w' B F st0 := by
  refine (New_any w).mono ?_
  rintro e w1 ⟨B, F, rfl, T, h1, h2⟩
  exact ⟨B, F, rfl, T, h1, h2⟩
theorem note_N {w0 w : World} {B : Nat} {F : Nat → Prop} {s : St} (h : TxN w0 w B F s) (hg : GoodS s) {a b : Int} (hx : SB (a, b)) (hin : ∀ z, SIn (a, b) z → 0 ≤ z ∧ z < 300) :
    Calls Try.prog 35 #[.pointer (some ⟨B, 0, none⟩), .agg #[.int .i64 a, .int .i64 b]] w fun e w' => ∃ v F', e = .returned v ∧ SpN w' F' v (missS (mayL s) (a, b)) ∧ TxN w0 w' B F' { s with noted := noteS s.noted (missS (mayL s) (a, b)) } ∧ Step F w F' w' ∧ (∀ k, v.ownBlock = some k → w.heap.size ≤ k) ∧ (∃ L, KeysOf s.fresh L) := by
  refine (Note_any B F s (a, b) w h.tx hg hx hin).mono ?_
  rintro e w1 ⟨v, F', rfl, ho, ht, hs, hf, hk, hc⟩
  exact ⟨v, F', rfl, ⟨ho.mono (Nat.zero_le _), hf⟩, h.go ⟨hs, hc⟩ ht, ⟨hs, hc⟩, fun k e => ((ownSp_iff.1 ho).lt k e).1, hk⟩
theorem may_N {w0 w : World} {B : Nat} {F : Nat → Prop} {s : St} (h : TxN w0 w B F s) (hg : GoodS s) {a b : Int} (hx : SB (a, b)) :
    Calls Try.prog 34 #[.pointer (some ⟨B, 0, none⟩), .agg #[.int .i64 a, .int .i64 b]] w fun e w' => e = .returned (.bool (covS (mayL s) (a, b))) ∧ TxN w0 w' B F s ∧ Below w.heap.size w w' ∧ (∃ L, KeysOf s.fresh L) := by
  refine (May_any B F s (a, b) w h.tx hg hx).mono ?_
  rintro e w1 ⟨rfl, hk, hb⟩
  exact ⟨rfl, h.keep hb, hb, hk⟩
theorem begin_N {w0 w : World} {B : Nat} {F : Nat → Prop} {s : St} (h : TxN w0 w B F s) (h0 : 0 ≤ s.depth) (hd : s.depth ≤ 1000000) :
    Calls Try.prog 44 #[.pointer (some ⟨B, 0, none⟩)] w fun e w' => e = .returned (.int .i64 (s.depth + 1)) ∧ TxN w0 w' B F { s with depth := s.depth + 1 } ∧ Step F w F w' := by
  refine (Begin_any B F s w h.tx h0 hd).mono ?_
  rintro e w1 ⟨rfl, ht, hc⟩
  exact ⟨rfl, h.go (Step.same hc) ht, Step.same hc⟩
theorem end_N {w0 w : World} {B : Nat} {F : Nat → Prop} {s : St} (h : TxN w0 w B F s) (h0 : 0 ≤ s.depth) (hd : s.depth ≤ 1000000) :
    Calls Try.prog 45 #[.pointer (some ⟨B, 0, none⟩)] w fun e w' => e = .returned (.int .i64 (max (s.depth - 1) 0)) ∧ TxN w0 w' B F { s with depth := max (s.depth - 1) 0 } ∧ Step F w F w' := by
  refine (End_any B F s w h.tx h0 hd).mono ?_
  rintro e w1 ⟨rfl, ht, hc⟩
  exact ⟨rfl, h.go (Step.same hc) ht, Step.same hc⟩
theorem free_N {w0 w : World} {B : Nat} {F : Nat → Prop} {s : St} (x : Int) (h : TxN w0 w B F s) (hlen : s.gone.length ≤ 1000000) :
    Calls Try.prog 63 #[.pointer (some ⟨B, 0, none⟩), .int .i64 x] w fun e w' => ∃ F', e = .returned (.bool (!decide (x ∈ s.gone))) ∧ TxN w0 w' B F' { s with gone := if x ∈ s.gone then s.gone else s.gone ++ [x] } ∧ Step F w F' w' := by
  by_cases q : x ∈ s.gone
  · refine (Free_no B F s x w h.tx hlen q).mono ?_
    rintro e w1 ⟨rfl, hb⟩
    exact ⟨F, by rw [decide_eq_true q]; rfl, by rw [if_pos q]; exact h.keep hb, Step.of_below F hb⟩
  · refine (Free_yes B F s x w h.tx hlen q).mono ?_
    rintro e w1 ⟨rfl, ⟨F', ht, hs⟩, hc⟩
    exact ⟨F', by rw [decide_eq_false q]; rfl, by rw [if_neg q]; exact h.go ⟨hs, hc⟩ ht, ⟨hs, hc⟩⟩
theorem freed_N {w0 w : World} {B : Nat} {F : Nat → Prop} {s : St} (x : Int) (h : TxN w0 w B F s) (hlen : s.gone.length ≤ 1000000) :
    Calls Try.prog 64 #[.pointer (some ⟨B, 0, none⟩), .int .i64 x] w fun e w' => e = .returned (.bool (decide (x ∈ s.gone))) ∧ TxN w0 w' B F s ∧ Below w.heap.size w w' := by
  refine (Freed_any B F s x w h.tx (by omega)).mono ?_
  rintro e w1 ⟨rfl, hb⟩
  exact ⟨rfl, h.keep hb, hb⟩
theorem same_N {w : World} {F : Nat → Prop} {v : Value} {l : List Sp} {a b : Int} (h : SpN w F v l) (hl : l = [(a, b)]) :
    Calls Try.prog 62 #[v, .slice (some ⟨w.heap.size, 0, none⟩) 1 1] (w.alloc (.cells #[.int .i64 a, .int .i64 b] (63 : Nat))) fun e w' => e = .returned (.bool true) ∧ Below w.heap.size w w' := by
  subst hl
  have hb : Below w.heap.size w (w.alloc (.cells #[.int .i64 a, .int .i64 b] (63 : Nat))) := (Below.refl _ w).alloc (Nat.le_refl _) _
  refine (same_any v _ [(a, b)] [(a, b)] _ (by simp) (h.keep hb).own.pl (one_span w a b)).mono ?_
  rintro e w1 ⟨rfl, hb2⟩
  exact ⟨by simp, hb.trans (hb2.mono hb.size)⟩

set_option maxRecDepth 10000 in
set_option maxHeartbeats 2000000 in
theorem awake_any (w : World) : Calls Try.prog 29 #[] w fun e w' => e = .returned (.bool true) ∧ Below w.heap.size w w' := by
  go_enter Try.func29, Try.ntmps29
  go_wp2_with (first
    | (go_at_call 31; refine (new_N w).mono ?_; rintro e w1 ⟨B, F, rfl, T1⟩
       have hN1 := note_N (a := 10) (b := 10) T1 (good0 Ok.nil) (by unfold SB; simp) (inn (by omega) (by omega))
       rw [show mayL st0 = [] from may0 _ _ _ _ _ _ _, show missS [] ((10 : Int), (10 : Int)) = [(10, 10)] from by decide] at hN1
       clear T1)
    | (go_at_call 35; refine hN1.mono ?_; rintro e w2 ⟨vA, F1, rfl, oA, T2, _, _, _⟩
       replace T2 : TxN w w2 B F1 sA := T2
       have hN2 := note_N (a := 15) (b := 10) T2 (good0 ok10) (by unfold SB; simp) (inn (by omega) (by omega))
       rw [show mayL sA = [(10, 10)] from may0 _ _ _ _ _ _ _, show missS [((10 : Int), (10 : Int))] ((15 : Int), (10 : Int)) = [(20, 5)] from by decide] at hN2
       clear hN1 T2)
    | (go_at_call 35; refine hN2.mono ?_; rintro e w3 ⟨vB, F2, rfl, oB, T3, S3, _, _⟩
       replace T3 : TxN w w3 B F2 sB := T3
       replace oA := oA.go S3
       have hBg := begin_N T3 (by decide) (by decide)
       clear hN2 T3 S3)
    | (go_at_call 44; refine hBg.mono ?_; rintro e w4 ⟨rfl, T4, S4⟩
       replace T4 : TxN w w4 B F2 sC := T4
       replace oA := oA.go S4
       replace oB := oB.go S4
       have hSA := same_N oA rfl
       have hdep : (sB.depth + 1 : Int) = 1 := rfl
       clear hBg S4)
    | (go_at_call 62; refine hSA.mono ?_; rintro e w5 ⟨rfl, hb5⟩
       replace T4 := T4.keep hb5
       have hSB := same_N (oB.keep hb5) rfl
       clear hSA hb5)
    | (go_at_call 62; refine hSB.mono ?_; rintro e w6 ⟨rfl, hb6⟩
       replace T4 := T4.keep hb6
       have hMy := may_N (a := 12) (b := 12) T4 (good0 ok15) (by unfold SB; simp)
       rw [show mayL sC = [(10, 15)] from may0 _ _ _ _ _ _ _, show covS [((10 : Int), (15 : Int))] ((12 : Int), (12 : Int)) = true from by decide] at hMy
       clear hSB hb6 oA oB T4)
    | (go_at_call 34; refine hMy.mono ?_; rintro e w7 ⟨rfl, T7, hb7, _⟩
       have hFr := free_N 3 T7 (by decide)
       rw [decide_eq_false (show ¬ (3 : Int) ∈ sC.gone from by decide), if_neg (show ¬ (3 : Int) ∈ sC.gone from by decide)] at hFr
       clear hMy T7 hb7)
    | (go_at_call 63; refine hFr.mono ?_; rintro e w8 ⟨F8, rfl, T8, S8⟩
       replace T8 : TxN w w8 B F8 sD := T8
       have hFd := freed_N 3 T8 (by decide)
       rw [decide_eq_true (show (3 : Int) ∈ sD.gone from by decide)] at hFd
       clear hFr T8 S8)
    | (go_at_call 64; refine hFd.mono ?_; rintro e w9 ⟨rfl, T9, hb9⟩; clear hFd))
  go_ret
  exact ⟨rfl, T9.bel⟩
end Go.Proofs.Ytcemiclbeocnjaa
