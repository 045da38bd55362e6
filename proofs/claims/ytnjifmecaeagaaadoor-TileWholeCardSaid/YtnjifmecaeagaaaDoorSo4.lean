/-
  The library's stable sort of places, of up to forty.
-/
import Derived.Test.YtnjifmecaeagaaaDoorSo3g
set_option linter.unusedVariables false
set_option linter.unusedSimpArgs false
namespace Go.Proofs.YtnjifmecaeagaaaDoor
open Go.RowKit Go.ChangeShapes Go.WideShapes Go.Deep
/-- blocks of twenty that are sorted, the rest as it was -/
structure Bs (ke : Nat → Int) (n k : Nat) (d0 d : List Nat) : Prop where
  mv : Mv 0 n d0 d
  ls : Lss nI d 0 20 20 n
  rest : Srt nI d (20 * k) n
  one : 1 ≤ k → Srt ke d 0 20
  two : 2 ≤ k → Srt ke d 20 40
theorem Bs.start {ke : Nat → Int} {n : Nat} {d : List Nat} (h : Srt nI d 0 n) : Bs ke n 0 d d := ⟨Mv.refl _ _ _, asc_lss h, h, fun h => by omega, fun h => by omega⟩
theorem Bs.step {ke : Nat → Int} {n k : Nat} {d0 d e : List Nat} (h : Bs ke n k d0 d) (hk : k ≤ 1) (hn : 20 * k + 20 ≤ n) (m : Mv (20 * k) (20 * k + 20) d e) (s : Srt ke e (20 * k) (20 * k + 20)) : Bs ke n (k + 1) d0 e := by
  have hk2 : k = 0 ∨ k = 1 := by omega
  refine ⟨h.mv.trans (m.wide (Nat.zero_le _) hn), h.ls.mvA m (by omega) (by omega), ?_, fun _ => ?_, fun q => ?_⟩
  · exact (h.rest.mono (by omega) (Nat.le_refl _)).mv m (.inl (by omega))
  · rcases hk2 with rfl | rfl
    · exact s
    · exact (h.one (Nat.le_refl _)).mv m (.inr (by omega))
  · obtain rfl : k = 1 := by omega
    exact s
/-- behind the last insertion -/
structure Bf (ke : Nat → Int) (n : Nat) (d0 d : List Nat) : Prop where
  mv : Mv 0 n d0 d
  ls : Lss nI d 0 20 20 n
  few : n ≤ 20 → Srt ke d 0 n
  lo : 20 < n → Srt ke d 0 20
  hi : 20 < n → Srt ke d 20 n
theorem Bs.last {ke : Nat → Int} {n k : Nat} {d0 d e : List Nat} (h : Bs ke n k d0 d) (hk : k ≤ 2) (hn : 20 * k ≤ n) (hn2 : n < 20 * k + 20) (h40 : n ≤ 40) (m : Mv (20 * k) n d e) (s : Srt ke e (20 * k) n) : Bf ke n d0 e := by
  have hk2 : k = 0 ∨ k = 1 ∨ k = 2 := by omega
  have hls : Lss nI e 0 20 20 n := h.ls.mvA m (by omega) (by omega)
  refine ⟨h.mv.trans (m.wide (Nat.zero_le _) (Nat.le_refl _)), hls, fun q => ?_, fun q => ?_, fun q => ?_⟩
  · rcases hk2 with rfl | rfl | rfl
    · exact s
    · obtain rfl : n = 20 := by omega
      exact (h.one (Nat.le_refl _)).mv m (.inr (by omega))
    · omega
  · exact (h.one (by omega)).mv m (.inr (by omega))
  · rcases hk2 with rfl | rfl | rfl
    · omega
    · exact s
    · obtain rfl : n = 40 := by omega
      exact (h.two (Nat.le_refl _)).mv m (.inr (by omega))
set_option maxRecDepth 100000 in
set_option maxHeartbeats 2000000 in
theorem stable_any (cb : Array Value) (f ke : Nat → Int) (N base g n cap : Nat) (w0 : World) (d0 : List Nat) (w : World) (HC : Hid (CmpOk cb f N base w0)) (K : Hid (Key N f ke)) (S0 : SD w0 base g n cap d0 w) (hn : n ≤ 40) (hN : Hid (∀ x ∈ d0, x < N)) (hA : Hid (Srt nI d0 0 n)) :
    Calls Tryd.prog 93 #[.slice (some ⟨g, 0, none⟩) n cap, .int .i64 n, .func (.func 65) #[] cb] w fun e w' => e = .returned (.tuple #[]) ∧ ∃ d1, SD w0 base g n cap d1 w' ∧ Mv 0 n d0 d1 ∧ Srt ke d1 0 n := by
  replace S0 := Lib.hid S0
  have hIn := Lib.hid (fun (a b : Nat) (d : List Nat) (w : World) (S : SD w0 base g n cap d w) (h1 : a ≤ b) (h2 : b ≤ n) (hN : ∀ x ∈ d, x < N) (hA : Srt nI d a b) => insertion_any cb f ke N a b base g n cap d w0 w HC K S h1 h2 (by omega) hN hA)
  have hSy := Lib.hid (symMerge_ok cb f ke N base g n cap w0 HC K (by omega) 1000)
  have hn' : (n : Int) ≤ 40 := by omega
  go_enter Tryd.func93, Tryd.ntmps93
  go_wp2_with fail
  go_loopw [7, 8] (fun u v wr => ∃ (k : Nat) (d : List Nat), k ≤ 2 ∧ 20 * k ≤ n ∧ u = .int .i64 (20 * k : Nat) ∧ v = .int .i64 (20 * k + 20 : Nat) ∧ Hid (SD w0 base g n cap d wr) ∧ Hid (Bs ke n k d0 d)) (fun u _ _ => 41 - (intOf u).toNat)
  case atStart => exact ⟨0, d0, by omega, by omega, rfl, rfl, S0, Bs.start hA⟩
  case round =>
    obtain ⟨k, d, hk, hkn, rfl, rfl, hS, hB⟩ := hrel
    obtain ⟨a, ha⟩ : ∃ a, 20 * k = a := ⟨_, rfl⟩
    have hNd := Lib.hid (fun x (hx : x ∈ d) => hN.out x (hB.out.mv.perm.mem_iff.1 hx))
    rw [ha]
    obtain ⟨b, hb⟩ : ∃ b, a + 20 = b := ⟨_, rfl⟩
    rw [hb]
    by_cases hlt : b ≤ n
    · have hlt' : (b : Int) ≤ (n : Int) := by omega
      have hc := Lib.hid (hIn.out a b d wr hS.out (by omega) hlt hNd.out ((ha ▸ hB.out.rest).mono (Nat.le_refl _) hlt))
      have hst := Lib.hid (fun (e : List Nat) (m : Mv a b d e) (s : Srt ke e a b) => hB.out.step (by omega) (by omega) (by rw [ha, hb]; exact m) (by rw [ha, hb]; exact s))
      replace ha := Lib.hid ha
      replace hb := Lib.hid hb
      go_wp2_with fail
      refine hc.out.mono ?_
      rintro e w1 ⟨rfl, d1, S1, M1, T1⟩
      have hB2 := Lib.hid (hst.out d1 M1 T1)
      replace S1 := Lib.hid S1
      clear M1 T1 hst hc
      go_wp2_with fail
      go_roundw
      case rel => exact ⟨k + 1, d1, by have := ha.out; have := hb.out; omega, by have := ha.out; have := hb.out; omega, by congr 1; have := ha.out; have := hb.out; omega, by congr 1; have := ha.out; have := hb.out; omega, S1, hB2⟩
      case measure => have := ha.out; have := hb.out; first | (simp [intOf]; done) | (simp [intOf]; omega)
    · have hlt' : ¬ (b : Int) ≤ (n : Int) := by omega
      have hc := Lib.hid (hIn.out a n d wr hS.out (by omega) (Nat.le_refl _) hNd.out (ha ▸ hB.out.rest))
      have hst := Lib.hid (fun (e : List Nat) (m : Mv a n d e) (s : Srt ke e a n) => hB.out.last hk hkn (by omega) hn (by rw [ha]; exact m) (by rw [ha]; exact s))
      replace ha := Lib.hid ha
      replace hb := Lib.hid hb
      go_wp2_with fail
      refine hc.out.mono ?_
      rintro e w1 ⟨rfl, d1, S1, M1, T1⟩
      have hF := Lib.hid (hst.out d1 M1 T1)
      replace S1 := Lib.hid S1
      clear M1 T1 hst hc hB hS hNd hlt hlt' hIn
      go_wp2_with fail
      have hN1 := Lib.hid (fun x (hx : x ∈ d1) => hN.out x (hF.out.mv.perm.mem_iff.1 hx))
      go_loopw [6] (fun u wr => ∃ d, (u = .int .i64 20 ∧ d = d1 ∧ Hid (SD w0 base g n cap d wr)) ∨ (u = .int .i64 40 ∧ Hid (SD w0 base g n cap d wr ∧ Mv 0 n d0 d ∧ Srt ke d 0 n))) (fun u _ => 41 - (intOf u).toNat)
      case atStart => exact ⟨d1, .inl ⟨rfl, rfl, S1⟩⟩
      case round =>
        obtain ⟨d, hrel⟩ := hrel
        rcases hrel with ⟨rfl, rfl, hS⟩ | ⟨rfl, hS⟩
        · by_cases hl : 20 < n
          · have hl' : (20 : Int) < (n : Int) := by omega
            have hm := Lib.hid (fun (w : World) (S : SD w0 base g n cap d w) => hSy.out 0 20 n d w (by omega) S (by omega) hl (Nat.le_refl _) hN1.out (hF.out.lo hl) (hF.out.hi hl) hF.out.ls)
            by_cases h40 : n = 40
            · have hl2 : (40 : Int) ≤ (n : Int) := by omega
              have hl3 : ¬ (80 : Int) ≤ (n : Int) := by omega
              have hl4 : ¬ (60 : Int) < (n : Int) := by omega
              have hm4 := Lib.hid (fun (w : World) (S : SD w0 base g n cap d w) => show Calls Tryd.prog 104 #[.slice (some ⟨g, 0, none⟩) n cap, .int .i64 0, .int .i64 20, .int .i64 40, .func (.func 65) #[] cb] w (fun e w' => e = .returned (.tuple #[]) ∧ ∃ d1, SD w0 base g n cap d1 w' ∧ Mv 0 n d d1 ∧ Srt ke d1 0 n) from by
                have c := hm.out w S
                have e : (n : Int) = 40 := by omega
                rw [e] at c
                exact c)
              replace h40 := Lib.hid h40
              go_wp2_with fail
              go_loopw [7, 8] (fun u v wr => (u = .int .i64 0 ∧ v = .int .i64 40 ∧ Hid (SD w0 base g n cap d wr)) ∨ (u = .int .i64 40 ∧ v = .int .i64 80 ∧ Hid (∃ e, SD w0 base g n cap e wr ∧ Mv 0 n d0 e ∧ Srt ke e 0 n))) (fun u _ _ => 41 - (intOf u).toNat)
              case atStart => exact .inl ⟨rfl, rfl, hS⟩
              case round =>
                rcases hrel with ⟨rfl, rfl, hS2⟩ | ⟨rfl, rfl, hS2⟩
                · go_wp2_with fail
                  refine (hm4.out _ hS2.out).mono ?_
                  rintro e w2 ⟨rfl, e2, S2, M2, T2⟩
                  have hR := Lib.hid (show ∃ e, SD w0 base g n cap e w2 ∧ Mv 0 n d0 e ∧ Srt ke e 0 n from ⟨e2, S2, hF.out.mv.trans M2, T2⟩)
                  clear S2 M2 T2
                  go_wp2_with fail
                  go_roundw
                  case rel => exact .inr ⟨rfl, rfl, hR⟩
                  case measure => first | (simp [intOf]; done) | (simp [intOf]; omega)
                · go_wp2_with fail
                  go_roundw
                  case rel =>
                    obtain ⟨e2, S2, M2, T2⟩ := hS2.out
                    exact ⟨e2, .inr ⟨rfl, S2, M2, T2⟩⟩
                  case measure => first | (simp [intOf]; done) | (simp [intOf]; omega)
            · have hl2 : ¬ (40 : Int) ≤ (n : Int) := by omega
              go_wp2_with fail
              go_loopw [7, 8] (fun u v wr => u = .int .i64 0 ∧ v = .int .i64 40 ∧ Hid (SD w0 base g n cap d wr)) (fun _ _ _ => 0)
              case atStart => exact ⟨rfl, rfl, hS⟩
              case round =>
                obtain ⟨rfl, rfl, hS2⟩ := hrel
                go_wp2_with fail
                refine (hm.out _ hS2.out).mono ?_
                rintro e w2 ⟨rfl, e2, S2, M2, T2⟩
                have hR := Lib.hid (show SD w0 base g n cap e2 w2 ∧ Mv 0 n d0 e2 ∧ Srt ke e2 0 n from ⟨S2, hF.out.mv.trans M2, T2⟩)
                clear S2 M2 T2
                go_wp2_with fail
                go_roundw
                case rel => exact ⟨e2, .inr ⟨rfl, hR⟩⟩
                case measure => first | (simp [intOf]; done) | (simp [intOf]; omega)
          · have hl' : ¬ (20 : Int) < (n : Int) := by omega
            go_wp2_with fail
            (first | go_end0 | go_ret)
            exact ⟨rfl, d, hS.out, hF.out.mv, hF.out.few (by omega)⟩
        · have hl' : ¬ (40 : Int) < (n : Int) := by omega
          go_wp2_with fail
          (first | go_end0 | go_ret)
          exact ⟨rfl, d, hS.out⟩
/-- of none -/
theorem insertion_nil (A : Option Addr) (cap : Nat) (F : Value) (w : World) :
    Calls Tryd.prog 103 #[.slice A 0 cap, .int .i64 0, .int .i64 0, F] w fun e w' => e = .returned (.tuple #[]) ∧ w' = w := by
  go_enter Tryd.func103, Tryd.ntmps103
  go_wp2_with fail
  go_loopw [8] (fun u wr => u = .int .i64 1 ∧ wr = w) (fun _ _ => 0)
  case atStart => exact ⟨rfl, rfl⟩
  case round =>
    obtain ⟨rfl, rfl⟩ := hrel
    go_wp2_with fail
    (first | go_end0 | go_ret)
    exact ⟨rfl, rfl⟩
set_option maxRecDepth 100000 in
theorem stable_nil (A : Option Addr) (cap : Nat) (F : Value) (w : World) :
    Calls Tryd.prog 93 #[.slice A 0 cap, .int .i64 0, F] w fun e w' => e = .returned (.tuple #[]) ∧ w' = w := by
  go_enter Tryd.func93, Tryd.ntmps93
  go_wp2_with fail
  go_loopw [7, 8] (fun u v wr => u = .int .i64 0 ∧ v = .int .i64 20 ∧ wr = w) (fun _ _ _ => 0)
  case atStart => exact ⟨rfl, rfl, rfl⟩
  case round =>
    obtain ⟨rfl, rfl, rfl⟩ := hrel
    go_wp2_with fail
    refine (insertion_nil A cap F _).mono ?_
    rintro e w1 ⟨rfl, rfl⟩
    go_wp2_with fail
    go_loopw [6] (fun u wr => u = .int .i64 20 ∧ wr = w1) (fun _ _ => 0)
    case atStart => exact ⟨rfl, rfl⟩
    case round =>
      obtain ⟨rfl, rfl⟩ := hrel
      go_wp2_with fail
      (first | go_end0 | go_ret)
      exact ⟨rfl, rfl⟩
theorem sortStable_nil (A : Option Addr) (cap : Nat) (F : Value) (w : World) :
    Calls Tryd.prog 64 #[.slice A 0 cap, F] w fun e w' => e = .returned (.tuple #[]) ∧ w' = w := by
  go_enter Tryd.func64, Tryd.ntmps64
  go_wp2_with fail
  refine (stable_nil A cap F _).mono ?_
  rintro e w1 ⟨rfl, rfl⟩
  go_wp2_with fail
  (first | go_end0 | go_ret)
  exact ⟨rfl, rfl⟩
theorem sortStable_any (cb : Array Value) (f ke : Nat → Int) (N base g n cap : Nat) (w0 : World) (d0 : List Nat) (w : World) (HC : Hid (CmpOk cb f N base w0)) (K : Hid (Key N f ke)) (S0 : SD w0 base g n cap d0 w) (hn : n ≤ 40) (hN : Hid (∀ x ∈ d0, x < N)) (hA : Hid (Srt nI d0 0 n)) :
    Calls Tryd.prog 64 #[.slice (some ⟨g, 0, none⟩) n cap, .func (.func 65) #[] cb] w fun e w' => e = .returned (.tuple #[]) ∧ ∃ d1, SD w0 base g n cap d1 w' ∧ Mv 0 n d0 d1 ∧ Srt ke d1 0 n := by
  have hS := stable_any cb f ke N base g n cap w0 d0 w HC K S0 hn hN hA
  replace S0 := Lib.hid S0
  go_enter Tryd.func64, Tryd.ntmps64
  go_wp2_with fail
  refine hS.mono ?_
  rintro e w1 ⟨rfl, hP⟩
  replace hP := Lib.hid hP
  go_wp2_with fail
  (first | go_end0 | go_ret)
  exact ⟨rfl, hP.out⟩
end Go.Proofs.YtnjifmecaeagaaaDoor
