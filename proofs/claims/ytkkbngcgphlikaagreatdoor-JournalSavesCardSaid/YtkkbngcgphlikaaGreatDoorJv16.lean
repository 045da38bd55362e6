/-
  Part of the proof of JournalSaves.
-/
import Derived.Test.YtkkbngcgphlikaaGreatDoorJv15
import Derived.Test.YtkkbngcgphlikaaGreatDoorJv22
import Derived.Test.YtkkbngcgphlikaaGreatDoorJv3
import Derived.Test.YtkkbngcgphlikaaGreatDoorJv4
import Derived.Test.YtkkbngcgphlikaaGreatDoorJv6
import Derived.Test.YtkkbngcgphlikaaGreatDoorJv7
import Derived.Test.YtkkbngcgphlikaaGreatDoorJv9
import Derived.Lib.SliceRun
import Derived.Test.YtkkbngcgphlikaaGreatDoorJv0
set_option maxRecDepth 100000
set_option maxHeartbeats 2000000
set_option linter.unusedVariables false
set_option linter.unusedSimpArgs false
section
namespace Go.Proofs.YtkkbngcgphlikaaGreatDoor
open Go.RowKit
def smW (a b c : Int) : Int := 10 + 73 * (1 + a % 64) + 33 * (1 + b % 200) + c % 33
def smL (a : Int) : Int := 1 + a % 64
theorem small_any (a b c : Int) (w : World) (h1 : 0 ≤ a) (h2 : a ≤ 255) (h3 : 0 ≤ b) (h4 : b ≤ 255) (h5 : 0 ≤ c) (h6 : c ≤ 255) :
 Calls Tryz.prog 52 #[.int .u8 a, .int .u8 b, .int .u8 c] w fun e w' => e = .returned (.agg #[.int .i64 (smW a b c), .int .i64 (smL a)]) ∧ Below w.heap.size w w' := by
 go_enter Tryz.func52, Tryz.ntmps52
 go_wp2
 go_returns
 refine ⟨?_, by go_grown⟩
 unfold smW smL
 exact ret_g (by omega) (by omega)
end Go.Proofs.YtkkbngcgphlikaaGreatDoor
end
section
namespace Go.Proofs.YtkkbngcgphlikaaGreatDoor
open Go.RowKit Go.ChangeShapes Go.WideShapes Go.Deep
structure Bs (ke : Nat → Int) (n k : Nat) (d0 d : List Nat) : Prop where
 mv : Mv 0 n d0 d
 ls : Lss nI d 0 20 20 n
 rest : Srt nI d (20 * k) n
 one : 1 ≤ k → Srt ke d 0 20
 two : 2 ≤ k → Srt ke d 20 40
theorem Bs.start {ke : Nat → Int} {n : Nat} {d : List Nat} (h : Srt nI d 0 n) : Bs ke n 0 d d := ⟨Mv.refl _ _ _, asc_lss h, h, fun h => by omega, fun h => by omega⟩
theorem Bs.step {ke : Nat → Int} {n k : Nat} {d0 d e : List Nat} (h : Bs ke n k d0 d) (hk : k ≤ 1) (hn : 20 * k + 20 ≤ n) (m : Mv (20 * k) (20 * k + 20) d e) (s : Srt ke e (20 * k) (20 * k + 20)) : Bs ke n (k + 1) d0 e := by
 have hk2 : k = 0 ∨ k = 1 := by omega
 refine ⟨h.mv.trans (m.wide (Nat.zero_le _) hn), h.ls.mvA m (by omega) (by omega), ?_, fun _ => ?_, fun q => ?_⟩
 ·exact (h.rest.mono (by omega) (Nat.le_refl _)).mv m (.inl (by omega))
 ·rcases hk2 with rfl | rfl
  ·exact s
  ·exact (h.one (Nat.le_refl _)).mv m (.inr (by omega))
 ·obtain rfl : k = 1 := by omega
  exact s
structure Bf (ke : Nat → Int) (n : Nat) (d0 d : List Nat) : Prop where
 mv : Mv 0 n d0 d
 ls : Lss nI d 0 20 20 n
 few : n ≤ 20 → Srt ke d 0 n
 lo : 20 < n → Srt ke d 0 20
 hi : 20 < n → Srt ke d 20 n
theorem Bs.last {ke : Nat → Int} {n k : Nat} {d0 d e : List Nat} (h : Bs ke n k d0 d) (hk : k ≤ 2) (hn : 20 * k ≤ n) (hn2 : n < 20 * k + 20) (h40 : n ≤ 40) (m : Mv (20 * k) n d e) (s : Srt ke e (20 * k) n) : Bf ke n d0 e := by
 have hk2 : k = 0 ∨ k = 1 ∨ k = 2 := by omega
 have hls : Lss nI e 0 20 20 n := h.ls.mvA m (by omega) (by omega)
 refine ⟨h.mv.trans (m.wide (Nat.zero_le _) (Nat.le_refl _)), hls, fun q => ?_, fun q => ?_, fun q => ?_⟩
 ·rcases hk2 with rfl | rfl | rfl
  ·exact s
  ·obtain rfl : n = 20 := by omega
   exact (h.one (Nat.le_refl _)).mv m (.inr (by omega))
  ·omega
 ·exact (h.one (by omega)).mv m (.inr (by omega))
 ·rcases hk2 with rfl | rfl | rfl
  ·omega
  ·exact s
  ·obtain rfl : n = 40 := by omega
   exact (h.two (Nat.le_refl _)).mv m (.inr (by omega))
theorem stable_any (cb : Array Value) (f ke : Nat → Int) (N base g n cap : Nat) (w0 : World) (d0 : List Nat) (w : World) (HC : Hid (CmpOk cb f N base w0)) (K : Hid (Key N f ke)) (S0 : SD w0 base g n cap d0 w) (hn : n ≤ 40) (hN : Hid (∀ x ∈ d0, x < N)) (hA : Hid (Srt nI d0 0 n)) :
 Calls Tryz.prog 201 #[.slice (some ⟨g, 0, none⟩) n cap, .int .i64 n, .func (.func 193) #[] cb] w fun e w' => e = .returned (.tuple #[]) ∧ ∃ d1, SD w0 base g n cap d1 w' ∧ Mv 0 n d0 d1 ∧ Srt ke d1 0 n := by
 replace S0 := lh S0
 have hIn := lh (fun (a b : Nat) (d : List Nat) (w : World) (S : SD w0 base g n cap d w) (h1 : a ≤ b) (h2 : b ≤ n) (hN : ∀ x ∈ d, x < N) (hA : Srt nI d a b) => insertion_any cb f ke N a b base g n cap d w0 w HC K S h1 h2 (by omega) hN hA)
 have hSy := lh (symMerge_ok cb f ke N base g n cap w0 HC K (by omega) 1000)
 have hn' : (n : Int) ≤ 40 := by omega
 go_enter Tryz.func201, Tryz.ntmps201
 go_wp2_with fail
 go_loopw [7, 8] (fun u v wr => ∃ (k : Nat) (d : List Nat), k ≤ 2 ∧ 20 * k ≤ n ∧ u = .int .i64 (20 * k : Nat) ∧ v = .int .i64 (20 * k + 20 : Nat) ∧ Hid (SD w0 base g n cap d wr) ∧ Hid (Bs ke n k d0 d)) (fun u _ _ => 41 - (intOf u).toNat)
 case atStart => exact ⟨0, d0, by omega, by omega, rfl, rfl, S0, Bs.start hA⟩
 case round =>
  obtain ⟨k, d, hk, hkn, rfl, rfl, hS, hB⟩ := hrel
  obtain ⟨a, ha⟩ : ∃ a, 20 * k = a := ⟨_, rfl⟩
  have hNd := lh (fun x (hx : x ∈ d) => hN.out x (hB.out.mv.perm.mem_iff.1 hx))
  rw [ha]
  obtain ⟨b, hb⟩ : ∃ b, a + 20 = b := ⟨_, rfl⟩
  rw [hb]
  by_cases hlt : b ≤ n
  ·have hlt' : (b : Int) ≤ (n : Int) := by omega
   have hc := lh (hIn.out a b d wr hS.out (by omega) hlt hNd.out ((ha ▸ hB.out.rest).mono (Nat.le_refl _) hlt))
   have hst := lh (fun (e : List Nat) (m : Mv a b d e) (s : Srt ke e a b) => hB.out.step (by omega) (by omega) (by rw [ha, hb]; exact m) (by rw [ha, hb]; exact s))
   replace ha := lh ha
   replace hb := lh hb
   go_wp2_with fail
   refine hc.out.mono ?_
   rintro e w1 ⟨rfl, d1, S1, M1, T1⟩
   have hB2 := lh (hst.out d1 M1 T1)
   replace S1 := lh S1
   clear M1 T1 hst hc
   go_wp2_with fail
   go_roundw
   case rel => exact ⟨k + 1, d1, by have := ha.out; have := hb.out; omega, by have := ha.out; have := hb.out; omega, by congr 1; have := ha.out; have := hb.out; omega, by congr 1; have := ha.out; have := hb.out; omega, S1, hB2⟩
   case measure => have := ha.out; have := hb.out; first | (simp [intOf]; done) | (simp [intOf]; omega)
  ·have hlt' : ¬ (b : Int) ≤ (n : Int) := by omega
   have hc := lh (hIn.out a n d wr hS.out (by omega) (Nat.le_refl _) hNd.out (ha ▸ hB.out.rest))
   have hst := lh (fun (e : List Nat) (m : Mv a n d e) (s : Srt ke e a n) => hB.out.last hk hkn (by omega) hn (by rw [ha]; exact m) (by rw [ha]; exact s))
   replace ha := lh ha
   replace hb := lh hb
   go_wp2_with fail
   refine hc.out.mono ?_
   rintro e w1 ⟨rfl, d1, S1, M1, T1⟩
   have hF := lh (hst.out d1 M1 T1)
   replace S1 := lh S1
   clear M1 T1 hst hc hB hS hNd hlt hlt' hIn
   go_wp2_with fail
   have hN1 := lh (fun x (hx : x ∈ d1) => hN.out x (hF.out.mv.perm.mem_iff.1 hx))
   go_loopw [6] (fun u wr => ∃ d, (u = .int .i64 20 ∧ d = d1 ∧ Hid (SD w0 base g n cap d wr)) ∨ (u = .int .i64 40 ∧ Hid (SD w0 base g n cap d wr ∧ Mv 0 n d0 d ∧ Srt ke d 0 n))) (fun u _ => 41 - (intOf u).toNat)
   case atStart => exact ⟨d1, .inl ⟨rfl, rfl, S1⟩⟩
   case round =>
    obtain ⟨d, hrel⟩ := hrel
    rcases hrel with ⟨rfl, rfl, hS⟩ | ⟨rfl, hS⟩
    ·by_cases hl : 20 < n
     ·have hl' : (20 : Int) < (n : Int) := by omega
      have hm := lh (fun (w : World) (S : SD w0 base g n cap d w) => hSy.out 0 20 n d w (by omega) S (by omega) hl (Nat.le_refl _) hN1.out (hF.out.lo hl) (hF.out.hi hl) hF.out.ls)
      by_cases h40 : n = 40
      ·have hl2 : (40 : Int) ≤ (n : Int) := by omega
       have hl3 : ¬ (80 : Int) ≤ (n : Int) := by omega
       have hl4 : ¬ (60 : Int) < (n : Int) := by omega
       have hm4 := lh (fun (w : World) (S : SD w0 base g n cap d w) => show Calls Tryz.prog 217 #[.slice (some ⟨g, 0, none⟩) n cap, .int .i64 0, .int .i64 20, .int .i64 40, .func (.func 193) #[] cb] w (fun e w' => e = .returned (.tuple #[]) ∧ ∃ d1, SD w0 base g n cap d1 w' ∧ Mv 0 n d d1 ∧ Srt ke d1 0 n) from by
        have c := hm.out w S
        have e : (n : Int) = 40 := by omega
        rw [e] at c
        exact c)
       replace h40 := lh h40
       go_wp2_with fail
       go_loopw [7, 8] (fun u v wr => (u = .int .i64 0 ∧ v = .int .i64 40 ∧ Hid (SD w0 base g n cap d wr)) ∨ (u = .int .i64 40 ∧ v = .int .i64 80 ∧ Hid (∃ e, SD w0 base g n cap e wr ∧ Mv 0 n d0 e ∧ Srt ke e 0 n))) (fun u _ _ => 41 - (intOf u).toNat)
       case atStart => exact .inl ⟨rfl, rfl, hS⟩
       case round =>
        rcases hrel with ⟨rfl, rfl, hS2⟩ | ⟨rfl, rfl, hS2⟩
        ·go_wp2_with fail
         refine (hm4.out _ hS2.out).mono ?_
         rintro e w2 ⟨rfl, e2, S2, M2, T2⟩
         have hR := lh (show ∃ e, SD w0 base g n cap e w2 ∧ Mv 0 n d0 e ∧ Srt ke e 0 n from ⟨e2, S2, hF.out.mv.trans M2, T2⟩)
         clear S2 M2 T2
         go_wp2_with fail
         go_roundw
         case rel => exact .inr ⟨rfl, rfl, hR⟩
         case measure => first | (simp [intOf]; done) | (simp [intOf]; omega)
        ·go_wp2_with fail
         go_roundw
         case rel =>
          obtain ⟨e2, S2, M2, T2⟩ := hS2.out
          exact ⟨e2, .inr ⟨rfl, S2, M2, T2⟩⟩
         case measure => first | (simp [intOf]; done) | (simp [intOf]; omega)
      ·have hl2 : ¬ (40 : Int) ≤ (n : Int) := by omega
       go_wp2_with fail
       go_loopw [7, 8] (fun u v wr => u = .int .i64 0 ∧ v = .int .i64 40 ∧ Hid (SD w0 base g n cap d wr)) (fun _ _ _ => 0)
       case atStart => exact ⟨rfl, rfl, hS⟩
       case round =>
        obtain ⟨rfl, rfl, hS2⟩ := hrel
        go_wp2_with fail
        refine (hm.out _ hS2.out).mono ?_
        rintro e w2 ⟨rfl, e2, S2, M2, T2⟩
        have hR := lh (show SD w0 base g n cap e2 w2 ∧ Mv 0 n d0 e2 ∧ Srt ke e2 0 n from ⟨S2, hF.out.mv.trans M2, T2⟩)
        clear S2 M2 T2
        go_wp2_with fail
        go_roundw
        case rel => exact ⟨e2, .inr ⟨rfl, hR⟩⟩
        case measure => first | (simp [intOf]; done) | (simp [intOf]; omega)
     ·have hl' : ¬ (20 : Int) < (n : Int) := by omega
      go_wp2_with fail
      (first | go_end0 | go_ret)
      exact ⟨rfl, d, hS.out, hF.out.mv, hF.out.few (by omega)⟩
    ·have hl' : ¬ (40 : Int) < (n : Int) := by omega
     go_wp2_with fail
     (first | go_end0 | go_ret)
     exact ⟨rfl, d, hS.out⟩
theorem insertion_nil (A : Option Addr) (cap : Nat) (F : Value) (w : World) :
 Calls Tryz.prog 216 #[.slice A 0 cap, .int .i64 0, .int .i64 0, F] w fun e w' => e = .returned (.tuple #[]) ∧ w' = w := by
 go_enter Tryz.func216, Tryz.ntmps216
 go_wp2_with fail
 go_loopw [8] (fun u wr => u = .int .i64 1 ∧ wr = w) (fun _ _ => 0)
 case atStart => exact ⟨rfl, rfl⟩
 case round =>
  obtain ⟨rfl, rfl⟩ := hrel
  go_wp2_with fail
  (first | go_end0 | go_ret)
  exact ⟨rfl, rfl⟩
theorem stable_nil (A : Option Addr) (cap : Nat) (F : Value) (w : World) :
 Calls Tryz.prog 201 #[.slice A 0 cap, .int .i64 0, F] w fun e w' => e = .returned (.tuple #[]) ∧ w' = w := by
 go_enter Tryz.func201, Tryz.ntmps201
 go_wp2_with fail
 go_loopw [7, 8] (fun u v wr => u = .int .i64 0 ∧ v = .int .i64 20 ∧ wr = w) (fun _ _ _ => 0)
 case atStart => exact ⟨rfl, rfl, rfl⟩
 case round =>
  obtain ⟨rfl, rfl, rfl⟩ := hrel
  go_wp2_with fail
  refine (insertion_nil A cap F _).mono ?_
  rintro e w1 ⟨rfl, rfl⟩
  go_wp2_with fail
  go_loopw [6] (fun u wr => u = .int .i64 20 ∧ wr = w1) (fun _ _ => 0)
  case atStart => exact ⟨rfl, rfl⟩
  case round =>
   obtain ⟨rfl, rfl⟩ := hrel
   go_wp2_with fail
   (first | go_end0 | go_ret)
   exact ⟨rfl, rfl⟩
theorem sortStable_nil (A : Option Addr) (cap : Nat) (F : Value) (w : World) :
 Calls Tryz.prog 192 #[.slice A 0 cap, F] w fun e w' => e = .returned (.tuple #[]) ∧ w' = w := by
 go_enter Tryz.func192, Tryz.ntmps192
 go_wp2_with fail
 refine (stable_nil A cap F _).mono ?_
 rintro e w1 ⟨rfl, rfl⟩
 go_wp2_with fail
 (first | go_end0 | go_ret)
 exact ⟨rfl, rfl⟩
theorem sortStable_any (cb : Array Value) (f ke : Nat → Int) (N base g n cap : Nat) (w0 : World) (d0 : List Nat) (w : World) (HC : Hid (CmpOk cb f N base w0)) (K : Hid (Key N f ke)) (S0 : SD w0 base g n cap d0 w) (hn : n ≤ 40) (hN : Hid (∀ x ∈ d0, x < N)) (hA : Hid (Srt nI d0 0 n)) :
 Calls Tryz.prog 192 #[.slice (some ⟨g, 0, none⟩) n cap, .func (.func 193) #[] cb] w fun e w' => e = .returned (.tuple #[]) ∧ ∃ d1, SD w0 base g n cap d1 w' ∧ Mv 0 n d0 d1 ∧ Srt ke d1 0 n := by
 have hS := stable_any cb f ke N base g n cap w0 d0 w HC K S0 hn hN hA
 replace S0 := lh S0
 go_enter Tryz.func192, Tryz.ntmps192
 go_wp2_with fail
 refine hS.mono ?_
 rintro e w1 ⟨rfl, hP⟩
 replace hP := lh hP
 go_wp2_with fail
 (first | go_end0 | go_ret)
 exact ⟨rfl, hP.out⟩
end Go.Proofs.YtkkbngcgphlikaaGreatDoor
end
section
namespace Go.Proofs.YtkkbngcgphlikaaGreatDoor
open Go.RowKit Go.ChangeShapes Go.WideShapes Go.Deep
def wN (o : Ox) : Nat := (wordOp o).toNat
def encW_rd (l : List Ox) : List Nat := l.flatMap fun o => [wN o, o.2.2]
def encS (l : List Ox) : List Nat := encW_rd l ++ [moreN 0 (encW_rd l)]
theorem wN_eq {o : Ox} (h : wrongB o = false) : wordOp o = ((wN o : Nat) : Int) := by
 have := wrongB_f h
 unfold wN wordOp
 omega
theorem wN_lt {o : Ox} (h : wrongB o = false) : wN o < 262144 := by
 have := wrongB_f h
 unfold wN wordOp
 omega
theorem encW_len (l : List Ox) : (encW_rd l).length = 2 * l.length := by
 induction l with
 | nil => rfl
 | cons o l ih => simp only [encW_rd, List.flatMap_cons, List.length_append, List.length_cons, List.length_nil] at *; omega
theorem encW_take (l : List Ox) (k : Nat) (h : k < l.length) : encW_rd (l.take (k + 1)) = encW_rd (l.take k) ++ [wN (l.getD k default), (l.getD k default).2.2] := by
 unfold encW_rd
 rw [List.take_succ_eq_append_getElem h, List.flatMap_append, List.getD_eq_getElem?_getD, List.getElem?_eq_getElem h]
 simp
theorem encW_WL {l : List Ox} (h : ∀ o ∈ l, wrongB o = false) (hv : OVs l) : WL (encW_rd l) := by
 intro x hx
 obtain ⟨o, ho, hx⟩ := List.mem_flatMap.1 hx
 simp only [List.mem_cons, List.not_mem_nil, or_false] at hx
 rcases hx with rfl | rfl
 ·have := wN_lt (h o ho); omega
 ·exact hv o ho
theorem KL.two (w : World) (a b : Nat) (t : TypeId) : KL .u64 (w.alloc (.cells #[.int .u64 (a : Nat), .int .u64 (b : Nat)] t)) (.slice (some ⟨w.heap.size, 0, none⟩) 2 2) [a, b] := by
 refine ⟨_, 2, rfl, fun _ => ⟨w.heap.size, 0, rfl, by simp, by simp, fun i hi => ?_⟩⟩
 match i, hi with
 | 0, _ => simp [go_sem]
 | 1, _ => simp [go_sem]
 | i + 2, hi => simp at hi; omega
theorem rightB_all {l : List Ox} (hk : l.length ≤ 19) (h : ∀ j, j < l.length → wrongB (l.getD j default) = false) : rightB_rd l = true := by
 unfold rightB_rd
 have : l.any wrongB = false := by
  rw [List.any_eq_false]
  intro x hx
  obtain ⟨i, hi, rfl⟩ := List.mem_iff_getElem.1 hx
  have := h i hi
  rw [List.getD_eq_getElem?_getD, List.getElem?_eq_getElem hi] at this
  simp at this; simp [this]
 rw [this]; simp [hk]
theorem refEnc_full (v : Value) (l : List Ox) (w : World) (hv : OPL w v l) (h : 19 < l.length) :
 Calls Tryz.prog 83 #[v] w fun e w' => e = .returned (.tuple #[.slice none 0 0, .int .i64 3]) ∧ Below w.heap.size w w' := by
 obtain ⟨A, cap, rfl, _⟩ := hv.form rfl
 have h' : (19 : Int) < (l.length : Int) := by omega
 clear hv
 go_enter Tryz.func83, Tryz.ntmps83
 go_wp2_with fail
 go_ret2
 exact ⟨rfl, Below.refl _ _⟩
end Go.Proofs.YtkkbngcgphlikaaGreatDoor
end
section
namespace Go.Proofs.YtkkbngcgphlikaaGreatDoor
open Go.RowKit
theorem refMark_yes (W L i : Int) (w : World) (h : gOk W L = true) (hi : 0 ≤ i) (hi2 : i < L) :
 Calls Tryz.prog 86 #[.agg #[.int .i64 W, .int .i64 L], .int .i64 i] w fun e w' => e = .returned (.int .i64 (10 + i)) ∧ Below w.heap.size w w' := by
 obtain ⟨h1, h2, h3, h4⟩ := gOk_t h
 have H := lh h
 clear h
 go_enter Tryz.func86, Tryz.ntmps86
 go_wp2_with fail
 refine (refRight_t W L _ H.out).mono ?_
 rintro e w1 ⟨rfl, hb⟩
 have j1 := (C2.new w (.int .i64 W) (.int .i64 L) 37).keep hb
 obtain ⟨d0, d1⟩ := id j1
 go_wp2_with fail
 go_ret
 exact ⟨rfl, (bZ _ _).trans (hb.mono (by simp))⟩
theorem refMark_t (W L i : Int) (w : World) (h : lOk W L i = true) :
 Calls Tryz.prog 86 #[.agg #[.int .i64 W, .int .i64 L], .int .i64 i] w fun e w' => e = .returned (.int .i64 (10 + i)) ∧ Below w.heap.size w w' := refMark_yes W L i w (lOk_t h).1 (lOk_t h).2.1 (lOk_t h).2.2
theorem refLog_yes (W L i : Int) (w : World) (h : gOk W L = true) (hi : 0 ≤ i) (hi2 : i < L) :
 Calls Tryz.prog 45 #[.agg #[.int .i64 W, .int .i64 L], .int .i64 i] w fun e w' => e = .returned (.agg #[.int .i64 (10 + L + i * 72), .int .i64 32]) ∧ Below w.heap.size w w' := by
 obtain ⟨h1, h2, h3, h4⟩ := gOk_t h
 have H := lh h
 clear h
 go_enter Tryz.func45, Tryz.ntmps45
 go_wp2_with fail
 refine (refRight_t W L _ H.out).mono ?_
 rintro e w1 ⟨rfl, hb⟩
 have k1 := (C2.new (w.alloc (.cells #[.int .i64 W, .int .i64 L] 37)) (.int .i64 0) (.int .i64 0) 70).keep hb
 have j1 := ((C2.new w (.int .i64 W) (.int .i64 L) 37).alloc (.cells #[.int .i64 0, .int .i64 0] 70)).keep hb
 have f1 := (F2.new (w.alloc (.cells #[.int .i64 W, .int .i64 L] 37)) (.int .i64 0) (.int .i64 0) 70).keep (by simp) hb
 simp only [World.size_alloc] at k1 f1
 have hB : Below w.heap.size w w1 := ((bZ _ _).alloc (by simp) _).trans (hb.mono (by simp; omega))
 have lt1 := k1.lt
 obtain ⟨c0, c1⟩ := id k1
 obtain ⟨d0, d1⟩ := id j1
 obtain ⟨g0, g1⟩ := id f1
 go_wp2_with fail
 refine bodyPost_ret (v := .agg #[.int .i64 (10 + L + i * 72), .int .i64 32]) (by simp [results, Tryz.results45, go_sem, c0, c1]; try omega) rfl ⟨rfl, ?_⟩
 go_grown
theorem refLog_t (W L i : Int) (w : World) (h : lOk W L i = true) :
 Calls Tryz.prog 45 #[.agg #[.int .i64 W, .int .i64 L], .int .i64 i] w fun e w' => e = .returned (.agg #[.int .i64 (10 + L + i * 72), .int .i64 32]) ∧ Below w.heap.size w w' := refLog_yes W L i w (lOk_t h).1 (lOk_t h).2.1 (lOk_t h).2.2
theorem refRedo_yes (W L i : Int) (w : World) (h : gOk W L = true) (hi : 0 ≤ i) (hi2 : i < L) :
 Calls Tryz.prog 84 #[.agg #[.int .i64 W, .int .i64 L], .int .i64 i] w fun e w' => e = .returned (.agg #[.int .i64 (10 + L + i * 72 + 32), .int .i64 40]) ∧ Below w.heap.size w w' := by
 obtain ⟨h1, h2, h3, h4⟩ := gOk_t h
 have H := lh h
 clear h
 go_enter Tryz.func84, Tryz.ntmps84
 go_wp2_with fail
 refine (refRight_t W L _ H.out).mono ?_
 rintro e w1 ⟨rfl, hb⟩
 have k1 := (C2.new (w.alloc (.cells #[.int .i64 W, .int .i64 L] 37)) (.int .i64 0) (.int .i64 0) 70).keep hb
 have j1 := ((C2.new w (.int .i64 W) (.int .i64 L) 37).alloc (.cells #[.int .i64 0, .int .i64 0] 70)).keep hb
 have f1 := (F2.new (w.alloc (.cells #[.int .i64 W, .int .i64 L] 37)) (.int .i64 0) (.int .i64 0) 70).keep (by simp) hb
 simp only [World.size_alloc] at k1 f1
 have hB : Below w.heap.size w w1 := ((bZ _ _).alloc (by simp) _).trans (hb.mono (by simp; omega))
 have lt1 := k1.lt
 obtain ⟨c0, c1⟩ := id k1
 obtain ⟨d0, d1⟩ := id j1
 obtain ⟨g0, g1⟩ := id f1
 go_wp2_with fail
 refine bodyPost_ret (v := .agg #[.int .i64 (10 + L + i * 72 + 32), .int .i64 40]) (by simp [results, Tryz.results84, go_sem, c0, c1]; try omega) rfl ⟨rfl, ?_⟩
 go_grown
theorem refRedo_t (W L i : Int) (w : World) (h : lOk W L i = true) :
 Calls Tryz.prog 84 #[.agg #[.int .i64 W, .int .i64 L], .int .i64 i] w fun e w' => e = .returned (.agg #[.int .i64 (10 + L + i * 72 + 32), .int .i64 40]) ∧ Below w.heap.size w w' := refRedo_yes W L i w (lOk_t h).1 (lOk_t h).2.1 (lOk_t h).2.2
end Go.Proofs.YtkkbngcgphlikaaGreatDoor
end
section
namespace Go.Proofs.YtkkbngcgphlikaaGreatDoor
open Go.RowKit
def scatN (I : List Nat) (P : List Int) (ws : List Nat) : Nat → List Nat
 | 0 => I
 | k + 1 => if 0 ≤ P.getD k 0 ∧ P.getD k 0 < (I.length : Int) then (scatN I P ws k).set (P.getD k 0).toNat (ws.getD k 0) else scatN I P ws k
theorem scatN_len (I : List Nat) (P : List Int) (ws : List Nat) : ∀ k, (scatN I P ws k).length = I.length
 | 0 => rfl
 | k + 1 => by
   unfold scatN
   split
   ·rw [List.length_set, scatN_len]
   ·exact scatN_len I P ws k
def Ex1 (w : World) (g i : Nat) : Prop := ∃ x, w.cell? ⟨g, i, none⟩ = some x
theorem farR {w : World} {base e size n g o : Nat} {v : Value} {xs : List Value} (h : w.ownsRow base e size v n xs) (hg : g < base) (u : Value) : (w.setCell ⟨g, o, none⟩ u).ownsRow base e size v n xs := by
 refine ⟨h.1, ?_⟩
 rcases h.2 with h2 | ⟨g', cap, cur, hv, hbg, hgc, h1, h2, h3, h4⟩
 ·exact .inl h2
 ·exact .inr ⟨g', cap, cur, hv, hbg, by rw [Below.heap_setCell w ⟨g, o, none⟩ u g' (by simp only []; omega)]; exact hgc, h1, h2, h3, h4⟩
theorem OwnI.drew {w : World} {base : Nat} {v : Value} {l : List Int} (h : OwnI w base v l) : OwnI w.drew base v l := h
theorem refScatter_any (v u t : Value) (I ws : List Nat) (l : List Sp) (w : World) (hl : PBs l) (hlen : l.length ≤ 1000) (hI : I.length ≤ 100000) (hws : ws.length ≤ 100000) (hv : KL .u64 w v I) (hu : PL w u l) (ht : KL .u64 w t ws) :
 Calls Tryz.prog 81 #[v, u, t] w fun e w' => ∃ v', e = .returned v' ∧ OwnU w' w.heap.size v' (scatN I (placesL l) ws (min (placesL l).length ws.length)) ∧ Below w.heap.size w w' := by
 obtain ⟨vo, wa, hrun, ho, hba⟩ := newW hv hI
 have hPl := lh (refPlaces_any u l wa hl hlen (hu.keep hba))
 have hlt := placesL_tk l hl l.length (Nat.le_refl _)
 rw [List.take_of_length_le (Nat.le_refl _)] at hlt
 have hnn := places_nn hl
 generalize placesL l = P at *
 obtain ⟨NI, hNI⟩ : ∃ n, I.length = n := ⟨_, rfl⟩
 obtain ⟨NW, hNW⟩ : ∃ n, ws.length = n := ⟨_, rfl⟩
 obtain ⟨n, hn⟩ : ∃ n, P.length = n := ⟨_, rfl⟩
 rw [hn, hNW]
 obtain ⟨AW, capW, rfl, hCW⟩ := ht.form hNW
 have hn9 : n ≤ 1000000 := by omega
 have hf : ∃ Ao co, vo = .slice Ao NI co ∧ (0 < NI → ∃ g, Ao = some ⟨g, 0, none⟩) := by
  rcases ho.2 with ⟨h, h0⟩ | ⟨g, cap, cur, h, _⟩
  ·exact ⟨none, 0, by rw [h, ← hNI, h0], fun q => by omega⟩
  ·exact ⟨_, _, by rw [h, hNI], fun _ => ⟨g, rfl⟩⟩
 obtain ⟨Ao, co, rfl, hAo⟩ := hf
 replace hAo := lh hAo
 have hT := lh (fun k (hk : k < n) => show 0 ≤ P.getD k 0 ∧ P.getD k 0 ≤ 2199023255552 from hnn _ (by rw [List.getD_eq_getElem?_getD, List.getElem?_eq_getElem (by omega)]; exact List.getElem_mem _))
 have hS1 := lh (fun k (h0 : 0 ≤ P.getD k 0) (h : P.getD k 0 < (NI : Int)) => show (scatN I P ws k).set (P.getD k 0).toNat (ws.getD k 0) = scatN I P ws (k + 1) from by rw [scatN, if_pos ⟨h0, by rw [hNI]; exact h⟩])
 have hS0 := lh (fun k (h : (NI : Int) ≤ P.getD k 0) => show scatN I P ws k = scatN I P ws (k + 1) from by rw [scatN, if_neg (by rw [hNI]; omega)])
 replace hCW := lh hCW
 have ho' : wa.ownsRow w.heap.size 40 1 (.slice Ao NI co) NI (I.map fun x : Nat => Value.int .u64 x) := by have h := ho; unfold OwnU at h; rwa [hNI] at h
 have hI0 := lh (show I = scatN I P ws 0 from rfl)
 have hNW9 : NW ≤ 100000 := by omega
 have hNI9 : NI ≤ 100000 := by omega
 replace hn := lh hn
 have hNI' := lh hNI
 clear ho hv hu ht hl hlen hI hlt hnn hws hNI hNW
 go_enter Tryz.func81, Tryz.ntmps81
 go_wp2_with (at_builtin; refine wpList_append_run rfl _ _ 25 rfl _ _ _ rfl rfl hrun ?_)
 refine hPl.out.mono ?_
 rintro e w1 ⟨vp, rfl, hop, hb1⟩
 have hfp : ∃ Ap cp, vp = .slice Ap n cp ∧ (0 < n → ∃ g, Ap = some ⟨g, 0, none⟩) := by
  have hn' := hn.out
  rcases hop.2 with ⟨h, h0⟩ | ⟨g, cap, cur, h, _⟩
  ·exact ⟨none, 0, by rw [h, ← hn', h0], fun q => by omega⟩
  ·exact ⟨_, _, by rw [h, hn'], fun _ => ⟨g, rfl⟩⟩
 obtain ⟨Ap, cp, rfl, hAp⟩ := hfp
 have hP1 : w1.ownsRow wa.heap.size 3 1 (.slice Ap n cp) n (P.map fun x : Int => Value.int .i64 x) := by have h := hop; unfold OwnI at h; rwa [hn.out] at h
 have hO1 : w1.ownsRow w.heap.size 40 1 (.slice Ao NI co) NI (I.map fun x : Nat => Value.int .u64 x) := by
  have h : OwnU wa w.heap.size (.slice Ao NI co) I := by unfold OwnU; rw [hNI'.out]; exact ho'
  have h2 := h.keep hb1
  unfold OwnU at h2
  rwa [hNI'.out] at h2
 have hAl := lh (fun g (h : (Value.slice Ao NI co).ownBlock = some g) => (ho'.lt g h))
 have hPl2 := lh (fun g (h : (Value.slice Ap n cp).ownBlock = some g) => (hP1.lt g h).1)
 have hsz := hb1.size
 have hB1 := hba.trans (hb1.mono hba.size)
 replace hAp := lh hAp
 clear hop ho' hPl hb1 hba hrun
 go_wp2_with fail
 go_loopw [9] (fun x wr => ∃ (k : Nat) (O : List Nat), k ≤ n ∧ k ≤ NW ∧ x = .int .i64 k ∧ Hid (O = scatN I P ws k) ∧ O.length = NI ∧ wr.ownsRow w.heap.size 40 1 (.slice Ao NI co) NI (O.map fun x : Nat => Value.int .u64 x) ∧ wr.ownsRow wa.heap.size 3 1 (.slice Ap n cp) n (P.map fun x : Int => Value.int .i64 x) ∧ Below w.heap.size w wr ∧ wa.heap.size ≤ wr.heap.size) (fun x _ => n + 1 - (intOf x).toNat)
 case atStart => exact ⟨0, I, Nat.zero_le _, Nat.zero_le _, rfl, hI0.out, hNI'.out, hO1, hP1, hB1, hsz⟩
 case round =>
  clear hO1 hP1 hB1 hsz
  obtain ⟨k, O, hk, hkw, rfl, hLe, hLl, hO, hP, hB, hsz⟩ := hrel
  by_cases hlt : k < n
  ·by_cases hlw : k < NW
   ·have hlt' : (k : Int) < (n : Int) := by omega
    have hlw' : (k : Int) < (NW : Int) := by omega
    obtain ⟨gp, rfl⟩ := hAp.out (by omega)
    have c0 : wr.cell? ⟨gp, k, none⟩ = some (.int .i64 (P.getD k 0)) := by
     have hn' := hn.out
     rw [hP.cellAt k (by omega), List.getElem?_map, List.getD_eq_getElem?_getD, List.getElem?_eq_getElem (by omega)]
     rfl
    obtain ⟨gw, ow, rfl, hcapw, hgw, _⟩ := hCW.out w k (Below.refl _ _) hlw
    obtain ⟨g2, o2, he, _, hgw2, d0⟩ := hCW.out wr k hB hlw
    cases he
    obtain ⟨t2, t3⟩ := hT.out k hlt
    have hS1k := hS1.out k
    have hS0k := hS0.out k
    rw [← hLe.out] at hS1k hS0k
    have hgp := hPl2.out gp rfl
    generalize P.getD k 0 = y at *
    obtain ⟨i, rfl⟩ := Int.eq_ofNat_of_zero_le t2
    generalize ws.getD k 0 = z at *
    by_cases k2 : i < NI
    ·have k2' : (i : Int) < (NI : Int) := by omega
     obtain ⟨go, rfl⟩ := hAo.out (by omega)
     obtain ⟨hg1, hg2⟩ := hAl.out go rfl
     have hLn := lh (hS1k t2 k2')
     simp only [Int.toNat_natCast] at hLn
     clear hS1k hS0k
     have f0 := hO.frozenAt i
     have e0 : Ex1 wr go i := ⟨_, by rw [hO.cellAt i (by omega)]; exact List.getElem?_eq_getElem (by simp; omega)⟩
     have hO' : (wr.setCell ⟨go, i, none⟩ (.int .u64 (z : Nat))).drew.ownsRow w.heap.size 40 1 (.slice (some ⟨go, 0, none⟩) NI co) NI ((O.map fun x : Nat => Value.int .u64 x).set i (.int .u64 (z : Nat))) := (World.ownsRow.stored (w := wr) hO i (.int .u64 (z : Nat))).1
     have s1 : (wr.setCell ⟨go, i, none⟩ (.int .u64 (z : Nat))).drew.cell? ⟨gp, k, none⟩ = some (.int .i64 (i : Int)) := (World.cell?_of_block (Below.heap_setCell wr ⟨go, i, none⟩ (.int .u64 (z : Nat)) gp (by simp only []; omega))).trans c0
     have s2 : (wr.setCell ⟨go, i, none⟩ (.int .u64 (z : Nat))).drew.cell? ⟨gw, ow + k, none⟩ = some (.int .u64 (z : Nat)) := (World.cell?_of_block (Below.heap_setCell wr ⟨go, i, none⟩ (.int .u64 (z : Nat)) gw (by simp only []; omega))).trans d0
     have s3 := hO'.frozenAt i
     have s4 : Ex1 (wr.setCell ⟨go, i, none⟩ (.int .u64 (z : Nat))).drew go i := ⟨_, by rw [hO'.cellAt i (by omega)]; exact List.getElem?_eq_getElem (by simp; omega)⟩
     have hO2 : (wr.setCell ⟨go, i, none⟩ (.int .u64 (z : Nat))).drew.ownsRow w.heap.size 40 1 (.slice (some ⟨go, 0, none⟩) NI co) NI ((O.set i z).map fun x : Nat => Value.int .u64 x) := by rw [List.map_set]; exact hO'
     have hP2 := farR (w := wr) (o := i) hP hg2 (.int .u64 (z : Nat))
     have hB2 := ((hB).setCell (p := ⟨go, i, none⟩) hg1 (.int .u64 (z : Nat))).drew
     have hs2 : wa.heap.size ≤ (wr.setCell ⟨go, i, none⟩ (.int .u64 (z : Nat))).drew.heap.size := by simpa using hsz
     clear hO' hO hP hB hsz
     go_wp2_with fail
     refine wp_region_held_drew (S := (fun w' => w'.cell? ⟨gp, k, none⟩ = some (.int .i64 (i : Int)) ∧ w'.cell? ⟨gw, ow + k, none⟩ = some (.int .u64 (z : Nat)) ∧ w'.frozen? ⟨go, i, none⟩ = false ∧ Ex1 w' go i)) (by kernel_rfl) ?_ (fun hHeld => ?_)
     ·(try dsimp only)
      ((try go_split_ands); refine ⟨?_, ?_, ?_, ?_⟩ <;> first | assumption | exact c0 | exact d0 | exact f0 | exact e0 | exact s1 | exact s2 | exact s3 | exact s4)
     refine takeV 0 ?_
     refine takeV 1 ?_
     refine takeV 2 ?_
     refine takeV 3 ?_
     refine takeV 4 ?_
     refine takeV 5 ?_
     refine takeV 6 ?_
     refine takeV 7 ?_
     refine takeV 8 ?_
     refine takeV 9 ?_
     refine oneL 10 rfl (by kernel_rfl) (fun K hK => ?_)
     go_simp
     (go_split_ands; obtain ⟨x0, hx0⟩ := id e0; go_simp; (try simp only [Result.andThen_ok]); (try go_simp))
     refine hK.out _ _ ?_ (fun hHeld2 => ?_)
     ·(try dsimp only)
      ((try go_split_ands); refine ⟨?_, ?_, ?_, ?_⟩ <;> first | assumption | exact c0 | exact d0 | exact f0 | exact e0 | exact s1 | exact s2 | exact s3 | exact s4)
     clear hK K
     try simp only [Act.put,sA,sB,sC]
     refine wpAnyH_done (by kernel_rfl) ?_ _
     go_wp2_with fail
     go_roundw
     case rel => exact ⟨k + 1, _, by omega, by omega, by go_num, hLn, by rw [List.length_set]; exact hLl, hO2, hP2, hB2, hs2⟩
     case measure => simp [intOf]; omega
    ·have k3 : (NI : Int) ≤ (i : Int) := by omega
     have hLn := lh (hS0k k3)
     clear hS1k hS0k
     go_wp2_with fail
     go_roundw
     case rel => exact ⟨k + 1, _, by omega, by omega, by go_num, hLn, hLl, hO, hP, hB, hsz⟩
     case measure => simp [intOf]; omega
   ·have hlt' : (k : Int) < (n : Int) := by omega
    have hlw' : (NW : Int) ≤ (k : Int) := by omega
    have hR := lh (show O = scatN I P ws (min n NW) from by rw [hLe.out, show min n NW = k by omega])
    go_wp2_with fail
    go_ret
    exact ⟨_, rfl, by rw [← hR.out]; unfold OwnU; rw [hLl]; exact hO, hB⟩
  ·have hlt' : (n : Int) ≤ (k : Int) := by omega
   have hR := lh (show O = scatN I P ws (min n NW) from by rw [hLe.out, show min n NW = k by omega])
   go_wp2_with fail
   go_ret
   exact ⟨_, rfl, by rw [← hR.out]; unfold OwnU; rw [hLl]; exact hO, hB⟩
end Go.Proofs.YtkkbngcgphlikaaGreatDoor
end
