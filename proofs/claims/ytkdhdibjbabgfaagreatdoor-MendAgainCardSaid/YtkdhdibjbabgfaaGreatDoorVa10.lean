/-
  Part of the proof of MendAgain.
-/
import Derived.Test.YtkdhdibjbabgfaaGreatDoorVa23
import Derived.Test.YtkdhdibjbabgfaaGreatDoorVa9
section
namespace Go.Proofs.YtkdhdibjbabgfaaGreatDoor
open Go.RowKit
theorem ret_ii {a b c d : Int} (h : a = b) (h' : c = d) : Ending.returned (.tuple #[.int .i64 a, .int .i64 c]) = .returned (.tuple #[.int .i64 b, .int .i64 d]) := by rw [h, h']
theorem ret_g {a b c d : Int} (h : a = b) (h' : c = d) : Ending.returned (.agg #[.int .i64 a, .int .i64 c]) = .returned (.agg #[.int .i64 b, .int .i64 d]) := by rw [h, h']
theorem field1 (x y : Int) (w : World) : (Instr.field 51 (.agg #[.int .i64 x, .int .i64 y]) 1).run Tryz.prog w = .ok (.int .i64 y) w := by kernel_rfl
set_option maxRecDepth 10000 in
set_option maxHeartbeats 400000 in
theorem chunks_t (W L : Int) (w : World) (h : gOk W L = true) :
 Calls Tryz.prog 109 #[.agg #[.int .i64 W, .int .i64 L]] w fun e w' => e = .returned (.int .i64 (gN W L)) ∧ Below w.heap.size w w' := by
 have H := Lib.hid h
 clear h
 have hfd := field1
 go_enter Tryz.func109, Tryz.ntmps109
 go_wp2_with fail
 refine (table_t W L _ H.out).mono ?_
 rintro e w1 ⟨rfl, hb⟩
 go_wp2_with fail
 go_ret
 exact ⟨rfl, ((Below.refl _ _).alloc (Nat.le_refl _) _).trans (hb.mono (by simp))⟩
def cFrom (W L i : Int) : Int := 10 + 73 * L + gN W L + i * 32
end Go.Proofs.YtkdhdibjbabgfaaGreatDoor
end
section
namespace Go.Proofs.YtkdhdibjbabgfaaGreatDoor
open Go.RowKit
def lOk (W L i : Int) : Bool := gOk W L && decide (0 ≤ i ∧ i < L)
theorem lOk_t {W L i : Int} (h : lOk W L i = true) : gOk W L = true ∧ 0 ≤ i ∧ i < L := by
 simp only [lOk, Bool.and_eq_true, decide_eq_true_eq] at h; exact h
def Cap (w : World) (b : Nat) (x : Value) : Prop := w.cell? ⟨b, 0, none⟩ = some x
end Go.Proofs.YtkdhdibjbabgfaaGreatDoor
end
section
set_option linter.unusedVariables false
set_option linter.unusedSimpArgs false
namespace Go.Proofs.YtkdhdibjbabgfaaGreatDoor
open Go.RowKit Go.ChangeShapes Go.WideShapes Go.Deep
structure Bs (ke : Nat → Int) (n k : Nat) (d0 d : List Nat) : Prop where
 mv : Mv 0 n d0 d
 ls : Lss nI d 0 20 20 n
 rest : Srt nI d (20 * k) n
 one : 1 ≤ k → Srt ke d 0 20
 two : 2 ≤ k → Srt ke d 20 40
theorem Bs.start {ke : Nat → Int} {n : Nat} {d : List Nat} (h : Srt nI d 0 n) : Bs ke n 0 d d := ⟨Mv.refl _ _ _, asc_lss h, h, fun h => by omega, fun h => by omega⟩
theorem Bs.step {ke : Nat → Int} {n k : Nat} {d0 d e : List Nat} (h : Bs ke n k d0 d) (hk : k ≤ 1) (hn : 20 * k + 20 ≤ n) (m : Mv (20 * k) (20 * k + 20) d e) (s : Srt ke e (20 * k) (20 * k + 20)) : Bs ke n (k + 1) d0 e := by
 have hk2 : k = 0 ∨ k = 1 := by omega
 refine ⟨h.mv.trans (m.wide (Nat.zero_le _) hn), h.ls.mvA m (by omega) (by omega), ?_, fun _ => ?_, fun q => ?_⟩
 ·exact (h.rest.mono (by omega) (Nat.le_refl _)).mv m (.inl (by omega))
 ·rcases hk2 with rfl | rfl
  ·exact s
  ·exact (h.one (Nat.le_refl _)).mv m (.inr (by omega))
 ·obtain rfl : k = 1 := by omega
  exact s
structure Bf (ke : Nat → Int) (n : Nat) (d0 d : List Nat) : Prop where
 mv : Mv 0 n d0 d
 ls : Lss nI d 0 20 20 n
 few : n ≤ 20 → Srt ke d 0 n
 lo : 20 < n → Srt ke d 0 20
 hi : 20 < n → Srt ke d 20 n
theorem Bs.last {ke : Nat → Int} {n k : Nat} {d0 d e : List Nat} (h : Bs ke n k d0 d) (hk : k ≤ 2) (hn : 20 * k ≤ n) (hn2 : n < 20 * k + 20) (h40 : n ≤ 40) (m : Mv (20 * k) n d e) (s : Srt ke e (20 * k) n) : Bf ke n d0 e := by
 have hk2 : k = 0 ∨ k = 1 ∨ k = 2 := by omega
 have hls : Lss nI e 0 20 20 n := h.ls.mvA m (by omega) (by omega)
 refine ⟨h.mv.trans (m.wide (Nat.zero_le _) (Nat.le_refl _)), hls, fun q => ?_, fun q => ?_, fun q => ?_⟩
 ·rcases hk2 with rfl | rfl | rfl
  ·exact s
  ·obtain rfl : n = 20 := by omega
   exact (h.one (Nat.le_refl _)).mv m (.inr (by omega))
  ·omega
 ·exact (h.one (by omega)).mv m (.inr (by omega))
 ·rcases hk2 with rfl | rfl | rfl
  ·omega
  ·exact s
  ·obtain rfl : n = 40 := by omega
   exact (h.two (Nat.le_refl _)).mv m (.inr (by omega))
set_option maxRecDepth 100000 in
set_option maxHeartbeats 2000000 in
theorem stable_any (cb : Array Value) (f ke : Nat → Int) (N base g n cap : Nat) (w0 : World) (d0 : List Nat) (w : World) (HC : Hid (CmpOk cb f N base w0)) (K : Hid (Key N f ke)) (S0 : SD w0 base g n cap d0 w) (hn : n ≤ 40) (hN : Hid (∀ x ∈ d0, x < N)) (hA : Hid (Srt nI d0 0 n)) :
 Calls Tryz.prog 132 #[.slice (some ⟨g, 0, none⟩) n cap, .int .i64 n, .func (.func 107) #[] cb] w fun e w' => e = .returned (.tuple #[]) ∧ ∃ d1, SD w0 base g n cap d1 w' ∧ Mv 0 n d0 d1 ∧ Srt ke d1 0 n := by
 replace S0 := Lib.hid S0
 have hIn := Lib.hid (fun (a b : Nat) (d : List Nat) (w : World) (S : SD w0 base g n cap d w) (h1 : a ≤ b) (h2 : b ≤ n) (hN : ∀ x ∈ d, x < N) (hA : Srt nI d a b) => insertion_any cb f ke N a b base g n cap d w0 w HC K S h1 h2 (by omega) hN hA)
 have hSy := Lib.hid (symMerge_ok cb f ke N base g n cap w0 HC K (by omega) 1000)
 have hn' : (n : Int) ≤ 40 := by omega
 go_enter Tryz.func132, Tryz.ntmps132
 go_wp2_with fail
 go_loopw [7, 8] (fun u v wr => ∃ (k : Nat) (d : List Nat), k ≤ 2 ∧ 20 * k ≤ n ∧ u = .int .i64 (20 * k : Nat) ∧ v = .int .i64 (20 * k + 20 : Nat) ∧ Hid (SD w0 base g n cap d wr) ∧ Hid (Bs ke n k d0 d)) (fun u _ _ => 41 - (intOf u).toNat)
 case atStart => exact ⟨0, d0, by omega, by omega, rfl, rfl, S0, Bs.start hA⟩
 case round =>
  obtain ⟨k, d, hk, hkn, rfl, rfl, hS, hB⟩ := hrel
  obtain ⟨a, ha⟩ : ∃ a, 20 * k = a := ⟨_, rfl⟩
  have hNd := Lib.hid (fun x (hx : x ∈ d) => hN.out x (hB.out.mv.perm.mem_iff.1 hx))
  rw [ha]
  obtain ⟨b, hb⟩ : ∃ b, a + 20 = b := ⟨_, rfl⟩
  rw [hb]
  by_cases hlt : b ≤ n
  ·have hlt' : (b : Int) ≤ (n : Int) := by omega
   have hc := Lib.hid (hIn.out a b d wr hS.out (by omega) hlt hNd.out ((ha ▸ hB.out.rest).mono (Nat.le_refl _) hlt))
   have hst := Lib.hid (fun (e : List Nat) (m : Mv a b d e) (s : Srt ke e a b) => hB.out.step (by omega) (by omega) (by rw [ha, hb]; exact m) (by rw [ha, hb]; exact s))
   replace ha := Lib.hid ha
   replace hb := Lib.hid hb
   go_wp2_with fail
   refine hc.out.mono ?_
   rintro e w1 ⟨rfl, d1, S1, M1, T1⟩
   have hB2 := Lib.hid (hst.out d1 M1 T1)
   replace S1 := Lib.hid S1
   clear M1 T1 hst hc
   go_wp2_with fail
   go_roundw
   case rel => exact ⟨k + 1, d1, by have := ha.out; have := hb.out; omega, by have := ha.out; have := hb.out; omega, by congr 1; have := ha.out; have := hb.out; omega, by congr 1; have := ha.out; have := hb.out; omega, S1, hB2⟩
   case measure => have := ha.out; have := hb.out; first | (simp [intOf]; done) | (simp [intOf]; omega)
  ·have hlt' : ¬ (b : Int) ≤ (n : Int) := by omega
   have hc := Lib.hid (hIn.out a n d wr hS.out (by omega) (Nat.le_refl _) hNd.out (ha ▸ hB.out.rest))
   have hst := Lib.hid (fun (e : List Nat) (m : Mv a n d e) (s : Srt ke e a n) => hB.out.last hk hkn (by omega) hn (by rw [ha]; exact m) (by rw [ha]; exact s))
   replace ha := Lib.hid ha
   replace hb := Lib.hid hb
   go_wp2_with fail
   refine hc.out.mono ?_
   rintro e w1 ⟨rfl, d1, S1, M1, T1⟩
   have hF := Lib.hid (hst.out d1 M1 T1)
   replace S1 := Lib.hid S1
   clear M1 T1 hst hc hB hS hNd hlt hlt' hIn
   go_wp2_with fail
   have hN1 := Lib.hid (fun x (hx : x ∈ d1) => hN.out x (hF.out.mv.perm.mem_iff.1 hx))
   go_loopw [6] (fun u wr => ∃ d, (u = .int .i64 20 ∧ d = d1 ∧ Hid (SD w0 base g n cap d wr)) ∨ (u = .int .i64 40 ∧ Hid (SD w0 base g n cap d wr ∧ Mv 0 n d0 d ∧ Srt ke d 0 n))) (fun u _ => 41 - (intOf u).toNat)
   case atStart => exact ⟨d1, .inl ⟨rfl, rfl, S1⟩⟩
   case round =>
    obtain ⟨d, hrel⟩ := hrel
    rcases hrel with ⟨rfl, rfl, hS⟩ | ⟨rfl, hS⟩
    ·by_cases hl : 20 < n
     ·have hl' : (20 : Int) < (n : Int) := by omega
      have hm := Lib.hid (fun (w : World) (S : SD w0 base g n cap d w) => hSy.out 0 20 n d w (by omega) S (by omega) hl (Nat.le_refl _) hN1.out (hF.out.lo hl) (hF.out.hi hl) hF.out.ls)
      by_cases h40 : n = 40
      ·have hl2 : (40 : Int) ≤ (n : Int) := by omega
       have hl3 : ¬ (80 : Int) ≤ (n : Int) := by omega
       have hl4 : ¬ (60 : Int) < (n : Int) := by omega
       have hm4 := Lib.hid (fun (w : World) (S : SD w0 base g n cap d w) => show Calls Tryz.prog 142 #[.slice (some ⟨g, 0, none⟩) n cap, .int .i64 0, .int .i64 20, .int .i64 40, .func (.func 107) #[] cb] w (fun e w' => e = .returned (.tuple #[]) ∧ ∃ d1, SD w0 base g n cap d1 w' ∧ Mv 0 n d d1 ∧ Srt ke d1 0 n) from by
        have c := hm.out w S
        have e : (n : Int) = 40 := by omega
        rw [e] at c
        exact c)
       replace h40 := Lib.hid h40
       go_wp2_with fail
       go_loopw [7, 8] (fun u v wr => (u = .int .i64 0 ∧ v = .int .i64 40 ∧ Hid (SD w0 base g n cap d wr)) ∨ (u = .int .i64 40 ∧ v = .int .i64 80 ∧ Hid (∃ e, SD w0 base g n cap e wr ∧ Mv 0 n d0 e ∧ Srt ke e 0 n))) (fun u _ _ => 41 - (intOf u).toNat)
       case atStart => exact .inl ⟨rfl, rfl, hS⟩
       case round =>
        rcases hrel with ⟨rfl, rfl, hS2⟩ | ⟨rfl, rfl, hS2⟩
        ·go_wp2_with fail
         refine (hm4.out _ hS2.out).mono ?_
         rintro e w2 ⟨rfl, e2, S2, M2, T2⟩
         have hR := Lib.hid (show ∃ e, SD w0 base g n cap e w2 ∧ Mv 0 n d0 e ∧ Srt ke e 0 n from ⟨e2, S2, hF.out.mv.trans M2, T2⟩)
         clear S2 M2 T2
         go_wp2_with fail
         go_roundw
         case rel => exact .inr ⟨rfl, rfl, hR⟩
         case measure => first | (simp [intOf]; done) | (simp [intOf]; omega)
        ·go_wp2_with fail
         go_roundw
         case rel =>
          obtain ⟨e2, S2, M2, T2⟩ := hS2.out
          exact ⟨e2, .inr ⟨rfl, S2, M2, T2⟩⟩
         case measure => first | (simp [intOf]; done) | (simp [intOf]; omega)
      ·have hl2 : ¬ (40 : Int) ≤ (n : Int) := by omega
       go_wp2_with fail
       go_loopw [7, 8] (fun u v wr => u = .int .i64 0 ∧ v = .int .i64 40 ∧ Hid (SD w0 base g n cap d wr)) (fun _ _ _ => 0)
       case atStart => exact ⟨rfl, rfl, hS⟩
       case round =>
        obtain ⟨rfl, rfl, hS2⟩ := hrel
        go_wp2_with fail
        refine (hm.out _ hS2.out).mono ?_
        rintro e w2 ⟨rfl, e2, S2, M2, T2⟩
        have hR := Lib.hid (show SD w0 base g n cap e2 w2 ∧ Mv 0 n d0 e2 ∧ Srt ke e2 0 n from ⟨S2, hF.out.mv.trans M2, T2⟩)
        clear S2 M2 T2
        go_wp2_with fail
        go_roundw
        case rel => exact ⟨e2, .inr ⟨rfl, hR⟩⟩
        case measure => first | (simp [intOf]; done) | (simp [intOf]; omega)
     ·have hl' : ¬ (20 : Int) < (n : Int) := by omega
      go_wp2_with fail
      (first | go_end0 | go_ret)
      exact ⟨rfl, d, hS.out, hF.out.mv, hF.out.few (by omega)⟩
    ·have hl' : ¬ (40 : Int) < (n : Int) := by omega
     go_wp2_with fail
     (first | go_end0 | go_ret)
     exact ⟨rfl, d, hS.out⟩
set_option maxRecDepth 10000 in
theorem insertion_nil (A : Option Addr) (cap : Nat) (F : Value) (w : World) :
 Calls Tryz.prog 141 #[.slice A 0 cap, .int .i64 0, .int .i64 0, F] w fun e w' => e = .returned (.tuple #[]) ∧ w' = w := by
 go_enter Tryz.func141, Tryz.ntmps141
 go_wp2_with fail
 go_loopw [8] (fun u wr => u = .int .i64 1 ∧ wr = w) (fun _ _ => 0)
 case atStart => exact ⟨rfl, rfl⟩
 case round =>
  obtain ⟨rfl, rfl⟩ := hrel
  go_wp2_with fail
  (first | go_end0 | go_ret)
  exact ⟨rfl, rfl⟩
set_option maxRecDepth 100000 in
theorem stable_nil (A : Option Addr) (cap : Nat) (F : Value) (w : World) :
 Calls Tryz.prog 132 #[.slice A 0 cap, .int .i64 0, F] w fun e w' => e = .returned (.tuple #[]) ∧ w' = w := by
 go_enter Tryz.func132, Tryz.ntmps132
 go_wp2_with fail
 go_loopw [7, 8] (fun u v wr => u = .int .i64 0 ∧ v = .int .i64 20 ∧ wr = w) (fun _ _ _ => 0)
 case atStart => exact ⟨rfl, rfl, rfl⟩
 case round =>
  obtain ⟨rfl, rfl, rfl⟩ := hrel
  go_wp2_with fail
  refine (insertion_nil A cap F _).mono ?_
  rintro e w1 ⟨rfl, rfl⟩
  go_wp2_with fail
  go_loopw [6] (fun u wr => u = .int .i64 20 ∧ wr = w1) (fun _ _ => 0)
  case atStart => exact ⟨rfl, rfl⟩
  case round =>
   obtain ⟨rfl, rfl⟩ := hrel
   go_wp2_with fail
   (first | go_end0 | go_ret)
   exact ⟨rfl, rfl⟩
set_option maxRecDepth 10000 in
theorem sortStable_nil (A : Option Addr) (cap : Nat) (F : Value) (w : World) :
 Calls Tryz.prog 106 #[.slice A 0 cap, F] w fun e w' => e = .returned (.tuple #[]) ∧ w' = w := by
 go_enter Tryz.func106, Tryz.ntmps106
 go_wp2_with fail
 refine (stable_nil A cap F _).mono ?_
 rintro e w1 ⟨rfl, rfl⟩
 go_wp2_with fail
 (first | go_end0 | go_ret)
 exact ⟨rfl, rfl⟩
set_option maxRecDepth 10000 in
theorem sortStable_any (cb : Array Value) (f ke : Nat → Int) (N base g n cap : Nat) (w0 : World) (d0 : List Nat) (w : World) (HC : Hid (CmpOk cb f N base w0)) (K : Hid (Key N f ke)) (S0 : SD w0 base g n cap d0 w) (hn : n ≤ 40) (hN : Hid (∀ x ∈ d0, x < N)) (hA : Hid (Srt nI d0 0 n)) :
 Calls Tryz.prog 106 #[.slice (some ⟨g, 0, none⟩) n cap, .func (.func 107) #[] cb] w fun e w' => e = .returned (.tuple #[]) ∧ ∃ d1, SD w0 base g n cap d1 w' ∧ Mv 0 n d0 d1 ∧ Srt ke d1 0 n := by
 have hS := stable_any cb f ke N base g n cap w0 d0 w HC K S0 hn hN hA
 replace S0 := Lib.hid S0
 go_enter Tryz.func106, Tryz.ntmps106
 go_wp2_with fail
 refine hS.mono ?_
 rintro e w1 ⟨rfl, hP⟩
 replace hP := Lib.hid hP
 go_wp2_with fail
 (first | go_end0 | go_ret)
 exact ⟨rfl, hP.out⟩
end Go.Proofs.YtkdhdibjbabgfaaGreatDoor
end
section
set_option linter.unusedVariables false
set_option linter.unusedSimpArgs false
namespace Go.Proofs.YtkdhdibjbabgfaaGreatDoor
open Go.RowKit Go.ChangeShapes Go.WideShapes Go.Deep Go.Shelf
attribute [local go_sem] Oper.semAt_some
abbrev Bv := Int × Ex
def bk (L : List Ex) (k : Nat) : List Bv := ((List.range' k (L.length - k)).map fun i : Nat => ((i : Int), L.getD i default)).reverse
theorem bk_nil (L : List Ex) : bk L L.length = [] := by unfold bk; simp
theorem bk_succ (L : List Ex) (k : Nat) (h : k < L.length) : bk L k = bk L (k + 1) ++ [((k : Int), L.getD k default)] := by
 unfold bk
 rw [show L.length - k = (L.length - (k + 1)) + 1 from by omega, List.range'_succ, List.map_cons, List.reverse_cons]
theorem bk_pre (L : List Ex) : ∀ k, k ≤ L.length → bk L k <+: bk L 0
 | 0, _ => List.prefix_refl _
 | k + 1, h => List.IsPrefix.trans (l₂ := bk L k) ⟨_, (bk_succ L k (by omega)).symm⟩ (bk_pre L k (by omega))
theorem bk_len (L : List Ex) (k : Nat) : (bk L k).length = L.length - k := by unfold bk; simp
structure Mb {α : Type} (n₀ Bo Bs : Nat) (t : TypeId) (u : Value) (W : World) (J : List α → World → Prop) (pre : List α) (w : World) : Prop where
 B : Below n₀ W w
 j : J pre w
 J : ∀ W1 W2, J pre W1 → Below W1.heap.size W1 W2 → J pre W2
 n : n₀ ≤ W.heap.size
 o : Bo < w.heap.size
 lt : OwnLt w Bo
 s : Boxed w Bs t u
 ne : Bs ≠ Bo
 no : ¬ OwnAt w Bo Bs
theorem Mb.keep {α : Type} {n₀ Bo Bs : Nat} {t : TypeId} {u : Value} {W w w1 : World} {J : List α → World → Prop} {pre : List α} (h : Mb n₀ Bo Bs t u W J pre w) (hb : Below w.heap.size w w1) : Mb n₀ Bo Bs t u W J pre w1 :=
 ⟨h.B.trans (hb.mono (Nat.le_trans h.n h.B.size)), h.J _ _ h.j hb, h.J, h.n, Nat.lt_of_lt_of_le h.o hb.size, fun b q => Nat.lt_of_lt_of_le (h.lt b ((ownAt_keep hb h.o).1 q)) hb.size, bx_keep h.s hb, h.ne, fun q => h.no ((ownAt_keep hb h.o).1 q)⟩
theorem Mb.kp {α : Type} {n₀ Bo Bs : Nat} {t : TypeId} {u : Value} {W w w1 : World} {J : List α → World → Prop} {pre pre' : List α} (h : Mb n₀ Bo Bs t u W J pre w) (hk : Kp n₀ Bo w w1) (hj : J pre' w1) (hJ : ∀ W1 W2, J pre' W1 → Below W1.heap.size W1 W2 → J pre' W2) : Mb n₀ Bo Bs t u W J pre' w1 :=
 ⟨h.B.trans hk.1, hj, hJ, h.n, Nat.lt_of_lt_of_le h.o hk.1.size, hk.2.2.2 h.lt, bx_kp h.s hk h.ne h.no, h.ne, fun q => h.no (hk.2.2.1 Bs h.s.lt q)⟩
theorem abides_below2 {α : Type} {J : List α → World → Prop} {B : Nat} (h : AbidesFrom B J) : ∀ pre W1 W2, J pre W1 → Below W1.heap.size W1 W2 → J pre W2 := fun pre W1 W2 hj hb =>
 h pre W1 W2 none hj ⟨hb.os, hb.tape, hb.output, hb.size, fun k hk _ => hb.block k hk⟩ (fun r e => by cases e)
set_option maxRecDepth 10000 in
set_option maxHeartbeats 1000000 in
theorem bwd1_in (n : Nat) (hn : 1 ≤ n) (l Bo Bl n₀ N cap : Nat) (A : Option Addr) (L : List Ex) (hlen : L.length = N) (hsl : ∀ x ∈ L, ∃ A n c, x.2.1 = .slice A n c) (hN : N ≤ 1000) (J Jx : List Bv → World → Prop)
 (hJ : ∀ pre W1 W2, J pre W1 → Below W1.heap.size W1 W2 → J pre W2)
 (hY : ∀ pre (y : Bv) W, J pre W → y.2 ∈ L → pre.length < N → YieldAt Fence.wide (n - 1) Tryz.prog l #[.int .i64 y.1, .agg #[.int .i64 y.2.1, y.2.2.1]] W fun e W' =>
   (e = .returned (.bool true) ∧ J (pre ++ [y]) W' ∧ Kp n₀ Bo W W') ∨ (e = .returned (.bool false) ∧ Jx (pre ++ [y]) W'))
 (W : World) (hBo : Bo < W.heap.size) (hOl : OwnLt W Bo) (hBl : Boxed W Bl 60 (.slice A N cap)) (hne : Bl ≠ Bo) (hno : ¬ OwnAt W Bo Bl) (hn₀ : n₀ ≤ W.heap.size)
 (hC : ∀ w1, Below n₀ W w1 → EL 2 eS w1 (.slice A N cap) L) (h0 : J [] W) :
 CallsIn Fence.wide n Tryz.prog 125 #[.func (.yield l) #[] #[], .pointer (some ⟨Bl, 0, none⟩)] W fun e W' => (∃ v, e = .returned v) ∧
  ((∃ ys, ys = bk L 0 ∧ J ys W') ∨ (∃ pre, pre <+: bk L 0 ∧ Jx pre W')) := by
 have hmk : Mb n₀ Bo Bl 60 (.slice A N cap) W J [] W := ⟨Below.refl _ _, h0, hJ [], hn₀, hBo, hOl, hBl, hne, hno⟩
 have hb0 : bk L N = [] := by rw [← hlen]; exact bk_nil L
 rw [← hb0] at hmk
 have hbs := Lib.hid (fun k (hk : k < N) => bk_succ L k (by omega))
 have hbp := Lib.hid (fun k (hk : k ≤ N) => bk_pre L k (by omega))
 have hbl := Lib.hid (fun k => bk_len L k)
 have hmem := Lib.hid (fun k (hk : k < N) => show L.getD k default ∈ L from by rw [List.getD_eq_getElem?_getD, List.getElem?_eq_getElem (by omega)]; exact List.getElem_mem _)
 have hcell := Lib.hid (fun w1 k (hb : Below n₀ W w1) (hk : k < N) => by
  obtain ⟨A', cap', e, h⟩ := EL.form (hC w1 hb) hlen
  obtain ⟨g, off, e2, h2, h3, h4, h5⟩ := h w1 k (Below.refl _ _) hk
  exact (show ∃ g off, A = some ⟨g, off, none⟩ ∧ N ≤ cap ∧ g < w1.heap.size ∧ w1.cell? ⟨g, off + k * 2, none⟩ = some (.int .i64 (L.getD k default).1) ∧ w1.cell? ⟨g, off + k * 2 + 1, none⟩ = some (slV (L.getD k default).2.1) from by
   cases e
   exact ⟨g, off, e2, h2, h4, h5 0 (by decide), h5 1 (by decide)⟩))
 replace hJ := Lib.hid hJ
 replace hY := Lib.hid hY
 replace hsl := Lib.hid hsl
 have hc0 := hBl.cell
 replace hlen := Lib.hid hlen
 clear h0 hC hb0
 refine callsIn_of_wp Tryz.func125 rfl trivial ?_ rfl
 simp only [Tryz.ntmps125, List.size_toArray, List.length_cons, List.length_nil, Nat.reduceAdd, Nat.reduceSub, Array.replicate_succ, Array.replicate_zero, List.push_toArray, List.append_toArray, List.nil_append, List.cons_append]
 gi_wp2
 gi_loopw [3] (fun x wr => ∃ k : Nat, k ≤ N ∧ x = .int .i64 ((k : Int) - 1) ∧ Mb n₀ Bo Bl 60 (.slice A N cap) W J (bk L k) wr)
  (fun x wr => (intOf x + 1).toNat)
 case atStart =>
  exact ⟨N, Nat.le_refl _, by go_num, hmk⟩
 case round =>
  obtain ⟨k, hk, rfl, hmr⟩ := hrel
  clear hmk hBl hOl hno
  cases k with
  | succ k =>
    have e1 : ((k + 1 : Nat) : Int) - 1 = (k : Int) := by omega
    rw [e1]
    obtain ⟨g, off, rfl, hcap, hg, c0, c1⟩ := hcell.out wr k hmr.B (by omega)
    have hm := hmem.out k (by omega)
    obtain ⟨A5, n5, c5, h5⟩ := hsl.out _ hm
    have hadd := Lib.hid (hbs.out k (by omega))
    have hpx := Lib.hid (hbp.out k (by omega))
    have hpl : (bk L (k + 1)).length < N := by rw [hbl.out, hlen.out]; omega
    generalize L.getD k default = x at *
    obtain ⟨xa, xv, xl⟩ := x
    simp only [] at h5
    subst h5
    simp only [slV] at c1
    have s0 := hmr.s.cell
    have k1 : (k : Int) < (N : Int) := by omega
    have k2 : (0 : Int) ≤ (k : Int) := by omega
    obtain ⟨fn, tmps, assign, body, hy, hR⟩ := hY.out (bk L (k + 1)) ((k : Int), (xa, .slice A5 n5 c5, xl)) _ hmr.j hm hpl
    dsimp only at hy
    clear hm hpl e1 hc0
    gi_wp2
    refine hR.mono ?_
    rintro e W3 (⟨rfl, hJ3, hk3⟩ | ⟨rfl, hJx3⟩)
    ·rw [← hadd.out] at hJ3
     have hM3 := hmr.kp hk3 hJ3 (hJ.out _)
     clear hmr s0 c0 c1 hk3 hJ3 hy hR
     gi_wp2
     go_roundw
     case rel => exact ⟨k, by omega, by go_num, hM3⟩
     case measure => first | (simp [intOf]; done) | (simp [intOf]; omega)
    ·gi_wp2
     refine bodyPost_ret (results_none rfl _ _ _) rfl ?_
     exact ⟨⟨_, rfl⟩, .inr ⟨_, by rw [← hadd.out]; exact hpx.out, hJx3⟩⟩
  | zero =>
    have e1 : ((0 : Nat) : Int) - 1 = -1 := by omega
    rw [e1]
    gi_wp2
    go_end0
    exact ⟨⟨_, rfl⟩, .inl ⟨_, rfl, hmr.j⟩⟩
set_option maxRecDepth 10000 in
set_option maxHeartbeats 400000 in
theorem backward_in (n : Nat) (A : Option Addr) (N cap : Nat) (w : World) :
 CallsIn Fence.wide n Tryz.prog 101 #[.slice A N cap] w fun e w' => e = .returned (.func (.func 125) #[] #[.pointer (some ⟨w.heap.size, 0, none⟩)]) ∧ w.alloc (.cells #[.slice A N cap] 60) = w' := by
 refine callsIn_wide.2 ?_
 go_enter Tryz.func101, Tryz.ntmps101
 go_wp2
 go_ret
 exact ⟨rfl, rfl⟩
theorem bwd_told (n : Nat) (hn : 1 ≤ n) (Bo Bl n₀ N cap : Nat) (A : Option Addr) (L : List Ex) (hlen : L.length = N) (hsl : ∀ x ∈ L, ∃ A n c, x.2.1 = .slice A n c) (hN : N ≤ 1000)
 (w : World) (hBo : Bo < w.heap.size) (hOl : OwnLt w Bo) (hBl : Boxed w Bl 60 (.slice A N cap)) (hne : Bl ≠ Bo) (hno : ¬ OwnAt w Bo Bl) (hn₀ : n₀ ≤ w.heap.size)
 (hC : ∀ w1, Below n₀ w w1 → EL 2 eS w1 (.slice A N cap) L) :
 SeqTold Fence.wide n Tryz.prog 125 #[.pointer (some ⟨Bl, 0, none⟩)] (fun y : Bv => #[.int .i64 y.1, .agg #[.int .i64 y.2.1, y.2.2.1]]) (Kp n₀ Bo) (fun y _ => y.2 ∈ L) (fun ys => ys = bk L 0) (fun pre => pre <+: bk L 0) N w := fun l J Jx W hb hJ _ hY h0 =>
 bwd1_in n hn l Bo Bl n₀ N cap A L hlen hsl hN J Jx (abides_below2 hJ) hY W (Nat.lt_of_lt_of_le hBo hb.size) (fun b q => Nat.lt_of_lt_of_le (hOl b ((ownAt_keep hb hBo).1 q)) hb.size) (bx_keep hBl hb) hne (fun q => hno ((ownAt_keep hb hBo).1 q)) (Nat.le_trans hn₀ hb.size) (fun w1 hb1 => hC w1 ((hb.mono hn₀).trans hb1)) h0
end Go.Proofs.YtkdhdibjbabgfaaGreatDoor
end
section
set_option linter.unusedVariables false
set_option linter.unusedSimpArgs false
namespace Go.Proofs.YtkdhdibjbabgfaaGreatDoor
open Go.RowKit Go.ChangeShapes Go.WideShapes Go.Deep Go.Shelf
attribute [local go_sem] Oper.semAt_some
theorem OwnU.walk {w w1 : World} {base : Nat} {v : Value} {l : List Nat} {row : Option Nat} (h : OwnU w base v l) (hg : w.grownBy w1 row) (hr : ∀ r, row = some r → ∃ o : Obj, w.heap[r]? = some o ∧ o.isCells = false) : OwnU w1 base v l := by
 refine World.ownsRow.kept h hg ?_
 rcases h.2 with ⟨rfl, _⟩ | ⟨g, cap, cur, rfl, _, hgb, _⟩
 ·exact .inl rfl
 ·refine .inr fun e' => ?_
  obtain ⟨o, ho, hc⟩ := hr g (by simpa [Value.ownBlock] using e'.symm)
  rw [hgb] at ho; cases ho; cases hc
theorem OwnU.row {w : World} {base g n c : Nat} {l : List Nat} (h : OwnU w base (.slice (some ⟨g, 0, none⟩) n c) l) : base ≤ g ∧ ∃ cur, w.heap[g]? = some (.cells cur 25 (0, 0)) := by
 rcases h.2 with ⟨hv, _⟩ | ⟨g', cap, cur, hv, hb, hg, _⟩
 ·cases hv
 ·cases hv; exact ⟨hb, cur, hg⟩
end Go.Proofs.YtkdhdibjbabgfaaGreatDoor
end
