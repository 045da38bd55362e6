/-
  Part of the proof of MendLanes.
-/
import Derived.Test.YtkdhdibjbabgfaaGreatDoorVl11
import Derived.Test.YtkdhdibjbabgfaaGreatDoorVl24
import Derived.Scope
import Derived.Test.YtkdhdibjbabgfaaGreatDoorVl0
set_option maxRecDepth 100000
set_option maxHeartbeats 2000000
set_option linter.unusedVariables false
set_option linter.unusedSimpArgs false
section
namespace Go.Proofs.YtkdhdibjbabgfaaGreatDoor
open Go.RowKit Go.ChangeShapes Go.WideShapes Go.Deep
structure Bs (ke : Nat → Int) (n k : Nat) (d0 d : List Nat) : Prop where
 mv : Mv 0 n d0 d
 ls : Lss nI d 0 20 20 n
 rest : Srt nI d (20 * k) n
 one : 1 ≤ k → Srt ke d 0 20
 two : 2 ≤ k → Srt ke d 20 40
theorem Bs.start {ke : Nat → Int} {n : Nat} {d : List Nat} (h : Srt nI d 0 n) : Bs ke n 0 d d := ⟨Mv.refl _ _ _, asc_lss h, h, fun h => by omega, fun h => by omega⟩
theorem Bs.step {ke : Nat → Int} {n k : Nat} {d0 d e : List Nat} (h : Bs ke n k d0 d) (hk : k ≤ 1) (hn : 20 * k + 20 ≤ n) (m : Mv (20 * k) (20 * k + 20) d e) (s : Srt ke e (20 * k) (20 * k + 20)) : Bs ke n (k + 1) d0 e := by
 have hk2 : k = 0 ∨ k = 1 := by omega
 refine ⟨h.mv.trans (m.wide (Nat.zero_le _) hn), h.ls.mvA m (by omega) (by omega), ?_, fun _ => ?_, fun q => ?_⟩
 ·exact (h.rest.mono (by omega) (Nat.le_refl _)).mv m (.inl (by omega))
 ·rcases hk2 with rfl | rfl
  ·exact s
  ·exact (h.one (Nat.le_refl _)).mv m (.inr (by omega))
 ·obtain rfl : k = 1 := by omega
  exact s
structure Bf (ke : Nat → Int) (n : Nat) (d0 d : List Nat) : Prop where
 mv : Mv 0 n d0 d
 ls : Lss nI d 0 20 20 n
 few : n ≤ 20 → Srt ke d 0 n
 lo : 20 < n → Srt ke d 0 20
 hi : 20 < n → Srt ke d 20 n
theorem Bs.last {ke : Nat → Int} {n k : Nat} {d0 d e : List Nat} (h : Bs ke n k d0 d) (hk : k ≤ 2) (hn : 20 * k ≤ n) (hn2 : n < 20 * k + 20) (h40 : n ≤ 40) (m : Mv (20 * k) n d e) (s : Srt ke e (20 * k) n) : Bf ke n d0 e := by
 have hk2 : k = 0 ∨ k = 1 ∨ k = 2 := by omega
 have hls : Lss nI e 0 20 20 n := h.ls.mvA m (by omega) (by omega)
 refine ⟨h.mv.trans (m.wide (Nat.zero_le _) (Nat.le_refl _)), hls, fun q => ?_, fun q => ?_, fun q => ?_⟩
 ·rcases hk2 with rfl | rfl | rfl
  ·exact s
  ·obtain rfl : n = 20 := by omega
   exact (h.one (Nat.le_refl _)).mv m (.inr (by omega))
  ·omega
 ·exact (h.one (by omega)).mv m (.inr (by omega))
 ·rcases hk2 with rfl | rfl | rfl
  ·omega
  ·exact s
  ·obtain rfl : n = 40 := by omega
   exact (h.two (Nat.le_refl _)).mv m (.inr (by omega))
theorem stable_any (cb : Array Value) (f ke : Nat → Int) (N base g n cap : Nat) (w0 : World) (d0 : List Nat) (w : World) (HC : Hid (CmpOk cb f N base w0)) (K : Hid (Key N f ke)) (S0 : SD w0 base g n cap d0 w) (hn : n ≤ 40) (hN : Hid (∀ x ∈ d0, x < N)) (hA : Hid (Srt nI d0 0 n)) :
 Calls Tryz.prog 132 #[.slice (some ⟨g, 0, none⟩) n cap, .int .i64 n, .func (.func 107) #[] cb] w fun e w' => e = .returned (.tuple #[]) ∧ ∃ d1, SD w0 base g n cap d1 w' ∧ Mv 0 n d0 d1 ∧ Srt ke d1 0 n := by
 replace S0 := lh S0
 have hIn := lh (fun (a b : Nat) (d : List Nat) (w : World) (S : SD w0 base g n cap d w) (h1 : a ≤ b) (h2 : b ≤ n) (hN : ∀ x ∈ d, x < N) (hA : Srt nI d a b) => insertion_any cb f ke N a b base g n cap d w0 w HC K S h1 h2 (by omega) hN hA)
 have hSy := lh (symMerge_ok cb f ke N base g n cap w0 HC K (by omega) 1000)
 have hn' : (n : Int) ≤ 40 := by omega
 go_enter Tryz.func132, Tryz.ntmps132
 go_wp2_with fail
 go_loopw [7, 8] (fun u v wr => ∃ (k : Nat) (d : List Nat), k ≤ 2 ∧ 20 * k ≤ n ∧ u = .int .i64 (20 * k : Nat) ∧ v = .int .i64 (20 * k + 20 : Nat) ∧ Hid (SD w0 base g n cap d wr) ∧ Hid (Bs ke n k d0 d)) (fun u _ _ => 41 - (intOf u).toNat)
 case atStart => exact ⟨0, d0, by omega, by omega, rfl, rfl, S0, Bs.start hA⟩
 case round =>
  obtain ⟨k, d, hk, hkn, rfl, rfl, hS, hB⟩ := hrel
  obtain ⟨a, ha⟩ : ∃ a, 20 * k = a := ⟨_, rfl⟩
  have hNd := lh (fun x (hx : x ∈ d) => hN.out x (hB.out.mv.perm.mem_iff.1 hx))
  rw [ha]
  obtain ⟨b, hb⟩ : ∃ b, a + 20 = b := ⟨_, rfl⟩
  rw [hb]
  by_cases hlt : b ≤ n
  ·have hlt' : (b : Int) ≤ (n : Int) := by omega
   have hc := lh (hIn.out a b d wr hS.out (by omega) hlt hNd.out ((ha ▸ hB.out.rest).mono (Nat.le_refl _) hlt))
   have hst := lh (fun (e : List Nat) (m : Mv a b d e) (s : Srt ke e a b) => hB.out.step (by omega) (by omega) (by rw [ha, hb]; exact m) (by rw [ha, hb]; exact s))
   replace ha := lh ha
   replace hb := lh hb
   go_wp2_with fail
   refine hc.out.mono ?_
   rintro e w1 ⟨rfl, d1, S1, M1, T1⟩
   have hB2 := lh (hst.out d1 M1 T1)
   replace S1 := lh S1
   clear M1 T1 hst hc
   go_wp2_with fail
   go_roundw
   case rel => exact ⟨k + 1, d1, by have := ha.out; have := hb.out; omega, by have := ha.out; have := hb.out; omega, by congr 1; have := ha.out; have := hb.out; omega, by congr 1; have := ha.out; have := hb.out; omega, S1, hB2⟩
   case measure => have := ha.out; have := hb.out; first | (simp [intOf]; done) | (simp [intOf]; omega)
  ·have hlt' : ¬ (b : Int) ≤ (n : Int) := by omega
   have hc := lh (hIn.out a n d wr hS.out (by omega) (Nat.le_refl _) hNd.out (ha ▸ hB.out.rest))
   have hst := lh (fun (e : List Nat) (m : Mv a n d e) (s : Srt ke e a n) => hB.out.last hk hkn (by omega) hn (by rw [ha]; exact m) (by rw [ha]; exact s))
   replace ha := lh ha
   replace hb := lh hb
   go_wp2_with fail
   refine hc.out.mono ?_
   rintro e w1 ⟨rfl, d1, S1, M1, T1⟩
   have hF := lh (hst.out d1 M1 T1)
   replace S1 := lh S1
   clear M1 T1 hst hc hB hS hNd hlt hlt' hIn
   go_wp2_with fail
   have hN1 := lh (fun x (hx : x ∈ d1) => hN.out x (hF.out.mv.perm.mem_iff.1 hx))
   go_loopw [6] (fun u wr => ∃ d, (u = .int .i64 20 ∧ d = d1 ∧ Hid (SD w0 base g n cap d wr)) ∨ (u = .int .i64 40 ∧ Hid (SD w0 base g n cap d wr ∧ Mv 0 n d0 d ∧ Srt ke d 0 n))) (fun u _ => 41 - (intOf u).toNat)
   case atStart => exact ⟨d1, .inl ⟨rfl, rfl, S1⟩⟩
   case round =>
    obtain ⟨d, hrel⟩ := hrel
    rcases hrel with ⟨rfl, rfl, hS⟩ | ⟨rfl, hS⟩
    ·by_cases hl : 20 < n
     ·have hl' : (20 : Int) < (n : Int) := by omega
      have hm := lh (fun (w : World) (S : SD w0 base g n cap d w) => hSy.out 0 20 n d w (by omega) S (by omega) hl (Nat.le_refl _) hN1.out (hF.out.lo hl) (hF.out.hi hl) hF.out.ls)
      by_cases h40 : n = 40
      ·have hl2 : (40 : Int) ≤ (n : Int) := by omega
       have hl3 : ¬ (80 : Int) ≤ (n : Int) := by omega
       have hl4 : ¬ (60 : Int) < (n : Int) := by omega
       have hm4 := lh (fun (w : World) (S : SD w0 base g n cap d w) => show Calls Tryz.prog 142 #[.slice (some ⟨g, 0, none⟩) n cap, .int .i64 0, .int .i64 20, .int .i64 40, .func (.func 107) #[] cb] w (fun e w' => e = .returned (.tuple #[]) ∧ ∃ d1, SD w0 base g n cap d1 w' ∧ Mv 0 n d d1 ∧ Srt ke d1 0 n) from by
        have c := hm.out w S
        have e : (n : Int) = 40 := by omega
        rw [e] at c
        exact c)
       replace h40 := lh h40
       go_wp2_with fail
       go_loopw [7, 8] (fun u v wr => (u = .int .i64 0 ∧ v = .int .i64 40 ∧ Hid (SD w0 base g n cap d wr)) ∨ (u = .int .i64 40 ∧ v = .int .i64 80 ∧ Hid (∃ e, SD w0 base g n cap e wr ∧ Mv 0 n d0 e ∧ Srt ke e 0 n))) (fun u _ _ => 41 - (intOf u).toNat)
       case atStart => exact .inl ⟨rfl, rfl, hS⟩
       case round =>
        rcases hrel with ⟨rfl, rfl, hS2⟩ | ⟨rfl, rfl, hS2⟩
        ·go_wp2_with fail
         refine (hm4.out _ hS2.out).mono ?_
         rintro e w2 ⟨rfl, e2, S2, M2, T2⟩
         have hR := lh (show ∃ e, SD w0 base g n cap e w2 ∧ Mv 0 n d0 e ∧ Srt ke e 0 n from ⟨e2, S2, hF.out.mv.trans M2, T2⟩)
         clear S2 M2 T2
         go_wp2_with fail
         go_roundw
         case rel => exact .inr ⟨rfl, rfl, hR⟩
         case measure => first | (simp [intOf]; done) | (simp [intOf]; omega)
        ·go_wp2_with fail
         go_roundw
         case rel =>
          obtain ⟨e2, S2, M2, T2⟩ := hS2.out
          exact ⟨e2, .inr ⟨rfl, S2, M2, T2⟩⟩
         case measure => first | (simp [intOf]; done) | (simp [intOf]; omega)
      ·have hl2 : ¬ (40 : Int) ≤ (n : Int) := by omega
       go_wp2_with fail
       go_loopw [7, 8] (fun u v wr => u = .int .i64 0 ∧ v = .int .i64 40 ∧ Hid (SD w0 base g n cap d wr)) (fun _ _ _ => 0)
       case atStart => exact ⟨rfl, rfl, hS⟩
       case round =>
        obtain ⟨rfl, rfl, hS2⟩ := hrel
        go_wp2_with fail
        refine (hm.out _ hS2.out).mono ?_
        rintro e w2 ⟨rfl, e2, S2, M2, T2⟩
        have hR := lh (show SD w0 base g n cap e2 w2 ∧ Mv 0 n d0 e2 ∧ Srt ke e2 0 n from ⟨S2, hF.out.mv.trans M2, T2⟩)
        clear S2 M2 T2
        go_wp2_with fail
        go_roundw
        case rel => exact ⟨e2, .inr ⟨rfl, hR⟩⟩
        case measure => first | (simp [intOf]; done) | (simp [intOf]; omega)
     ·have hl' : ¬ (20 : Int) < (n : Int) := by omega
      go_wp2_with fail
      (first | go_end0 | go_ret)
      exact ⟨rfl, d, hS.out, hF.out.mv, hF.out.few (by omega)⟩
    ·have hl' : ¬ (40 : Int) < (n : Int) := by omega
     go_wp2_with fail
     (first | go_end0 | go_ret)
     exact ⟨rfl, d, hS.out⟩
theorem insertion_nil (A : Option Addr) (cap : Nat) (F : Value) (w : World) :
 Calls Tryz.prog 141 #[.slice A 0 cap, .int .i64 0, .int .i64 0, F] w fun e w' => e = .returned (.tuple #[]) ∧ w' = w := by
 go_enter Tryz.func141, Tryz.ntmps141
 go_wp2_with fail
 go_loopw [8] (fun u wr => u = .int .i64 1 ∧ wr = w) (fun _ _ => 0)
 case atStart => exact ⟨rfl, rfl⟩
 case round =>
  obtain ⟨rfl, rfl⟩ := hrel
  go_wp2_with fail
  (first | go_end0 | go_ret)
  exact ⟨rfl, rfl⟩
theorem stable_nil (A : Option Addr) (cap : Nat) (F : Value) (w : World) :
 Calls Tryz.prog 132 #[.slice A 0 cap, .int .i64 0, F] w fun e w' => e = .returned (.tuple #[]) ∧ w' = w := by
 go_enter Tryz.func132, Tryz.ntmps132
 go_wp2_with fail
 go_loopw [7, 8] (fun u v wr => u = .int .i64 0 ∧ v = .int .i64 20 ∧ wr = w) (fun _ _ _ => 0)
 case atStart => exact ⟨rfl, rfl, rfl⟩
 case round =>
  obtain ⟨rfl, rfl, rfl⟩ := hrel
  go_wp2_with fail
  refine (insertion_nil A cap F _).mono ?_
  rintro e w1 ⟨rfl, rfl⟩
  go_wp2_with fail
  go_loopw [6] (fun u wr => u = .int .i64 20 ∧ wr = w1) (fun _ _ => 0)
  case atStart => exact ⟨rfl, rfl⟩
  case round =>
   obtain ⟨rfl, rfl⟩ := hrel
   go_wp2_with fail
   (first | go_end0 | go_ret)
   exact ⟨rfl, rfl⟩
theorem sortStable_nil (A : Option Addr) (cap : Nat) (F : Value) (w : World) :
 Calls Tryz.prog 106 #[.slice A 0 cap, F] w fun e w' => e = .returned (.tuple #[]) ∧ w' = w := by
 go_enter Tryz.func106, Tryz.ntmps106
 go_wp2_with fail
 refine (stable_nil A cap F _).mono ?_
 rintro e w1 ⟨rfl, rfl⟩
 go_wp2_with fail
 (first | go_end0 | go_ret)
 exact ⟨rfl, rfl⟩
theorem sortStable_any (cb : Array Value) (f ke : Nat → Int) (N base g n cap : Nat) (w0 : World) (d0 : List Nat) (w : World) (HC : Hid (CmpOk cb f N base w0)) (K : Hid (Key N f ke)) (S0 : SD w0 base g n cap d0 w) (hn : n ≤ 40) (hN : Hid (∀ x ∈ d0, x < N)) (hA : Hid (Srt nI d0 0 n)) :
 Calls Tryz.prog 106 #[.slice (some ⟨g, 0, none⟩) n cap, .func (.func 107) #[] cb] w fun e w' => e = .returned (.tuple #[]) ∧ ∃ d1, SD w0 base g n cap d1 w' ∧ Mv 0 n d0 d1 ∧ Srt ke d1 0 n := by
 have hS := stable_any cb f ke N base g n cap w0 d0 w HC K S0 hn hN hA
 replace S0 := lh S0
 go_enter Tryz.func106, Tryz.ntmps106
 go_wp2_with fail
 refine hS.mono ?_
 rintro e w1 ⟨rfl, hP⟩
 replace hP := lh hP
 go_wp2_with fail
 (first | go_end0 | go_ret)
 exact ⟨rfl, hP.out⟩
end Go.Proofs.YtkdhdibjbabgfaaGreatDoor
end
section
namespace Go.Proofs.YtkdhdibjbabgfaaGreatDoor
open Go.RowKit Go.ChangeShapes Go.WideShapes Go.Deep Go.Shelf
attribute [local go_sem] Oper.semAt_some
theorem EL.walk {α : Type} [Inhabited α] {sz : Nat} {en : α → List Value} (hen : ∀ x, (en x).length = sz) {w w1 : World} {v : Value} {l : List α} {row : Option Nat} (h : EL sz en w v l) (hg : w.grownBy w1 row) (hr : ∀ r, row = some r → ∃ o : Obj, w.heap[r]? = some o ∧ o.isCells = false) : EL sz en w1 v l := by
 obtain ⟨A, cap, hv, h⟩ := h
 refine ⟨A, cap, hv, fun hl => ?_⟩
 obtain ⟨g, off, rfl, hg1, hc, hi⟩ := h hl
 refine ⟨g, off, rfl, Nat.lt_of_lt_of_le hg1 hg.size, hc, fun i hil j hj => ?_⟩
 have q := hi i hil j hj
 rw [List.getElem?_eq_getElem (by rw [hen]; exact hj)] at q ⊢
 exact cell_kept q hg hr
theorem EN.walk {w w1 : World} {v : Value} {l : List Pe} {row : Option Nat} (h : EN w v l) (hg : w.grownBy w1 row) (hr : ∀ r, row = some r → ∃ o : Obj, w.heap[r]? = some o ∧ o.isCells = false) : EN w1 v l := by
 obtain ⟨xs, h1, h2, h3⟩ := h
 exact ⟨xs, h1.walk eS_len hg hr, fun x hx => (h2 x hx).walk hg hr, h3⟩
theorem evs_len (gn : Nat) : ∀ (f : Nat) (ws : List Nat), (evsF gn f ws).length ≤ ws.length
 | _, [] => by unfold evsF; simp
 | 0, _ :: _ => by unfold evsF; simp
 | f + 1, w :: ws => by
   unfold evsF
   split
   ·have := evs_len gn f ((w :: ws).drop (manyN (w :: ws) + 2))
    rw [List.length_drop, List.length_cons] at this
    rw [List.length_cons, List.length_cons]
    omega
   ·simp
theorem Decode_in (n : Nat) (hn : 3 ≤ n) (gn : Nat) (A : Option Addr) (N cap : Nat) (ws : List Nat) (w : World) (hgn : gn < 18446744073709551616) (hW : WL ws) (hlen : ws.length ≤ 800) (hN : ws.length = N) (hv : KL .u64 w (.slice A N cap) ws) :
 CallsIn Fence.wide n Tryz.prog 99 #[.int .u64 (gn : Nat), .slice A N cap] w fun e W' => ∃ v, e = .returned (.tuple #[v, .bool (decL gn ws).isSome]) ∧ EN W' v ((decL gn ws).getD []) ∧ Below w.heap.size w W' := by
 have hn1 : 1 ≤ n := by omega
 have hnE : (evs gn ws).length ≤ 1000 := Nat.le_trans (evs_len gn _ ws) (by omega)
 refine callsIn_of_wp_marks Tryz.func99 rfl trivial ?_ rfl
 simp only [Tryz.ntmps99, List.size_toArray, List.length_cons, List.length_nil, Nat.reduceAdd, Nat.reduceSub, Array.replicate_succ, Array.replicate_zero, List.push_toArray, List.append_toArray, List.nil_append, List.cons_append]
 gi_wp2
 refine wpIn_wide.2 (wp_scope_straight ((wpIn_wide (n := n)).1 ?_))
 gi_wp2
 refine wpIn_label ?_
 gi_wp2
 refine ⟨trivial, (entries_in (n - 1) gn A N cap _).mono ?_⟩
 rintro e w' ⟨rfl, rfl⟩
 gi_wp2
 have bO := (((Boxed.new w 60 (.slice none 0 0)).alloc (.cells #[.bool true] 4)).alloc (.cells #[.int .u64 (gn : Nat)] 25)).alloc (.cells #[.slice A N cap] 23)
 have bA := ((Boxed.new (w.alloc (.cells #[.slice none 0 0] 60)) 4 (.bool true)).alloc (.cells #[.int .u64 (gn : Nat)] 25)).alloc (.cells #[.slice A N cap] 23)
 have bG := (Boxed.new ((w.alloc (.cells #[.slice none 0 0] 60)).alloc (.cells #[.bool true] 4)) 25 (.int .u64 (gn : Nat))).alloc (.cells #[.slice A N cap] 23)
 have bW := Boxed.new (((w.alloc (.cells #[.slice none 0 0] 60)).alloc (.cells #[.bool true] 4)).alloc (.cells #[.int .u64 (gn : Nat)] 25)) 23 (.slice A N cap)
 have hB0 : Below w.heap.size w ((((w.alloc (.cells #[.slice none 0 0] 60)).alloc (.cells #[.bool true] 4)).alloc (.cells #[.int .u64 (gn : Nat)] 25)).alloc (.cells #[.slice A N cap] 23)) := (((bZ w _).alloc (by simp) _).alloc (by simp; omega) _).alloc (by simp; omega) _
 have hsz : ((((w.alloc (.cells #[.slice none 0 0] 60)).alloc (.cells #[.bool true] 4)).alloc (.cells #[.int .u64 (gn : Nat)] 25)).alloc (.cells #[.slice A N cap] 23)).heap.size = w.heap.size + 4 := by simp
 simp only [World.size_alloc] at bO bA bG bW
 obtain ⟨W0, hW0⟩ : ∃ W0, ((((w.alloc (.cells #[.slice none 0 0] 60)).alloc (.cells #[.bool true] 4)).alloc (.cells #[.int .u64 (gn : Nat)] 25)).alloc (.cells #[.slice A N cap] 23)) = W0 := ⟨_, rfl⟩
 rw [hW0] at bO bA bG bW hB0 hsz ⊢
 clear hW0
 refine wpIn_rangeFunc_told rfl hn1 (gf := 137) (lb := #[.pointer (some ⟨w.heap.size + 1 + 1 + 1, 0, none⟩), .pointer (some ⟨w.heap.size + 1 + 1, 0, none⟩)]) rfl trivial (enters_of Tryz.func137 (by kernel_rfl) rfl)
  (ents_told (n - 1) (by omega) w.heap.size (w.heap.size + 1 + 1) (w.heap.size + 1 + 1 + 1) w.heap.size gn (.slice A N cap) ws hW hlen hgn W0 (by omega) (ownLt_of bO (by simp [Value.ownBlock])) bG (by omega) (fun q => by have := (ownAt_iff bO).1 q; simp [Value.ownBlock] at this) bW.cell (by omega) (by omega) (fun w1 hb => hv.keep (hB0.trans hb)))
  kp_t (kp_b (by omega) (by omega)) (Below.refl _ _) (fun _ => rfl)
  (fun pre W => (DI w.heap.size w.heap.size pre W ∧ Boxed W (w.heap.size + 1) 4 (.bool true)) ∧ Below w.heap.size w W)
  (fun c pre W => (c = .exit 0 ∧ (∃ y ∈ pre, y.2 = false) ∧ Boxed W w.heap.size 60 (.slice none 0 0) ∧ Boxed W (w.heap.size + 1) 4 (.bool false)) ∧ Below w.heap.size w W)
  (OwnFrom.and (OwnFrom.and (Own.from (DI.own _ _) _) (Own.from (boxed_own (w.heap.size + 1) 4 (fun (_ : List Ev) => Value.bool true)) _)) (ownFrom_below (Nat.le_refl _) (by omega)))
  (fun c => OwnFrom.and (Own.from (fun s A B row hs hg hr => ⟨hs.1, hs.2.1, bx_walk hs.2.2.1 hg hr, bx_walk hs.2.2.2 hg hr⟩) _) (ownFrom_below (Nat.le_refl _) (by omega)))
  ⟨⟨⟨_, bO, OwnE.nil _ _ _ _ _, fun y hy => by simp at hy⟩, bA⟩, hB0⟩
  (fun y a' W => ∃ Bx, Bk W Bx (.int .i64 y.1.1) y.1.2.1 ∧ DA w.heap.size y W ∧ a' = { tmps := #[.int .u64 (gn : Nat), .slice A N cap, undef, undef, .slice none 0 0, .bool false, .pointer (some ⟨w.heap.size, 0, none⟩), .pointer (some ⟨w.heap.size + 1, 0, none⟩), .pointer (some ⟨Bx, 0, none⟩), .bool y.2, .int .u64 (gn : Nat), .slice A N cap, .func (.func 137) #[] #[.pointer (some ⟨w.heap.size + 1 + 1 + 1, 0, none⟩), .pointer (some ⟨w.heap.size + 1 + 1, 0, none⟩)], .agg #[.int .i64 y.1.1, y.1.2.1], .bool y.2, undef, undef, undef, undef, undef, undef, undef, undef], defers := [] })
  (fun y a' _ X Y row hs hg hr => by
    obtain ⟨Bx, h2, h4, h3⟩ := hs
    refine ⟨Bx, (hg.block Bx h2.lt (fun e => ?_)).trans h2, h4.walk hg (fun r e => (hr r e).2), h3⟩
    obtain ⟨_, o, ho, hc⟩ := hr Bx e.symm
    rw [show X.heap[Bx]? = _ from h2] at ho
    cases ho; simp [Obj.isCells] at hc)
  ?assign ?body ?done ?stop
 case assign =>
  rintro l pre y W K ⟨⟨hI, hA⟩, hB⟩ hT hK
  have hDA := DA.of hI hT
  have hbo : w.heap.size < W.heap.size := by obtain ⟨v, hv, _⟩ := hI; exact hv.lt
  have hIa : DI w.heap.size w.heap.size pre (W.alloc (.cells #[.int .i64 y.1.1, y.1.2.1] 64)) := DI.own _ _ _ _ _ none hI (World.grownBy_alloc W _ none) (fun r e => by cases e)
  have hDAa : DA w.heap.size y (W.alloc (.cells #[.int .i64 y.1.1, y.1.2.1] 64)) := hDA.walk (World.grownBy_alloc W _ none) (fun r e => by cases e)
  have hbx := Bk.new W (.int .i64 y.1.1) y.1.2.1
  have hBa := hB.alloc hB.size (.cells #[.int .i64 y.1.1, y.1.2.1] 64)
  have hAa := hA.alloc (.cells #[.int .i64 y.1.1, y.1.2.1] 64)
  obtain ⟨⟨ya, yv, yl⟩, yo⟩ := y
  obtain ⟨⟨A5, m5, c5, hyv⟩, hT2⟩ := hT
  simp only [] at hyv
  subst hyv
  dsimp only at *
  gi_wp2
  exact hK _ _ ((KeepsOthers.alloc _ _).from _) (kp_new hB.size hbo) ⟨⟨hIa, hAa⟩, hBa⟩ ⟨W.heap.size, hbx, hDAa, rfl⟩
 case body =>
  rintro l pre y a' W ⟨⟨hI, hA⟩, hB⟩ ⟨Bx, bX, hDA, rfl⟩ hlt
  obtain ⟨⟨ya, yv, yl⟩, yo⟩ := y
  obtain ⟨x0, x1⟩ := bX.c2
  dsimp only at *
  have hBs := hB.size
  cases yo with
  | true =>
    obtain ⟨A5, m5, c5, rfl⟩ : ∃ A m c, yv = .slice A m c := by
     obtain ⟨v, _, h⟩ := hDA
     obtain ⟨A, c, h, _⟩ := (h rfl).2.1
     exact ⟨A, _, c, h⟩
    obtain ⟨v, g', cap', w1, hv, hrun, hv1, hv2, hk2, hb2, hkp, hDI, hoth⟩ := hI.add hDA (Nat.le_refl _) hB.size (by omega)
    have hc := hv.cell
    have hc1 := hv1.cell
    have hf1 := hv1.frozen
    have hA2 := hoth hA (by omega) (by decide)
    clear hI hDA hoth
    gi_wp2_with (gi_at_builtin; refine wpListIn_append_run rfl _ _ 60 rfl _ _ _ rfl rfl hrun ?_)
    exact ⟨hk2.from _, hkp, ⟨hDI, hA2⟩, hB.trans hb2⟩
  | false =>
    obtain ⟨v, hv, _⟩ := hI
    have hc := hv.cell
    have hf := hv.frozen
    have hcA := hA.cell
    have hfA := hA.frozen
    have h1 := hv.set (.slice none 0 0)
    have h2 := h1.other (B' := w.heap.size + 1) (by omega) (.bool false)
    have h3 := (hA.other (B' := w.heap.size) (by omega) (.slice none 0 0)).set (.bool false)
    clear hDA
    gi_wp2
    exact ⟨((KeepsOthers.setCell _ _ _).trans (KeepsOthers.setCell _ _ _)).from _, ⟨rfl, ⟨_, List.mem_append_right _ (List.mem_singleton.2 rfl), rfl⟩, h2, h3⟩, (hB.setCell (p := ⟨w.heap.size, 0, none⟩) (by simp) _).setCell (p := ⟨w.heap.size + 1, 0, none⟩) (by simp) _⟩
 case done =>
  rintro D ys W hD hys ⟨⟨hI, hA⟩, hB⟩ hK
  have hall : ∀ y ∈ ys, y.2 = true := by
   obtain ⟨v, _, _, h⟩ := hI
   exact fun y hy => (h y hy).1
  have hd := lh (decL_t hys hall)
  obtain ⟨v, hv, hEN⟩ := en_of hI
  have hc := hv.cell
  have hcA := hA.cell
  clear hI hall hys
  gi_wp2
  refine wpIn_wide.2 ?_
  go_region
  all_goals gi_wp2
  rw [Exit.noGoto_ret]
  gi_wp2
  refine ⟨by simp, .inl ⟨_, _, rfl, run_takeDeferred (w := W.drew) hK, ?_⟩⟩
  refine ⟨.tuple #[v, .bool true], by simp [results, Tryz.f99, go_sem], ⟨v, ?_, ?_, hB.drew.trans (belowK_b (w := w) (Nat.le_refl _) W.drew D _ _ (by omega) hK rfl rfl)⟩⟩
  ·rw [hd.out]; rfl
  ·rw [hd.out]; exact EN.walk (w := W.drew) hEN (grownBy_putObj' _ D _) (fun r e => by cases e; exact ⟨_, hK, rfl⟩)
 case stop =>
  rintro D c pre W hD hpre ⟨⟨rfl, hex, hv, hA⟩, hB⟩ hK
  have hd := lh (decL_f hpre hex)
  have hc := hv.cell
  have hcA := hA.cell
  clear hpre hex
  gi_wp2
  refine wpIn_wide.2 ?_
  go_region
  all_goals gi_wp2
  rw [Exit.noGoto_ret]
  gi_wp2
  refine ⟨by simp, .inl ⟨_, _, rfl, run_takeDeferred (w := W.drew) hK, ?_⟩⟩
  refine ⟨.tuple #[.slice none 0 0, .bool false], by simp [results, Tryz.f99, go_sem], ⟨.slice none 0 0, ?_, ?_, hB.drew.trans (belowK_b (w := w) (Nat.le_refl _) W.drew D _ _ (by omega) hK rfl rfl)⟩⟩
  ·rw [hd.out]; rfl
  ·rw [hd.out]; exact EN.nil _
theorem Decode_any (gn : Nat) (v : Value) (ws : List Nat) (w : World) (hgn : gn < 18446744073709551616) (hW : WL ws) (hlen : ws.length ≤ 800) (hv : KL .u64 w v ws) :
 Calls Tryz.prog 99 #[.int .u64 (gn : Nat), v] w fun e w' => ∃ v', e = .returned (.tuple #[v', .bool (decL gn ws).isSome]) ∧ EN w' v' ((decL gn ws).getD []) ∧ Below w.heap.size w w' := by
 obtain ⟨A, cap, rfl, _⟩ := hv.form rfl
 exact callsIn_wide.1 (Decode_in 3 (by omega) gn A ws.length cap ws w hgn hW hlen rfl hv)
end Go.Proofs.YtkdhdibjbabgfaaGreatDoor
end
