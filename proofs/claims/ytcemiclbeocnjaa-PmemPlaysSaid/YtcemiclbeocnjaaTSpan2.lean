/-
  What the calls of package span answer: Right, Total, both.
-/
import Derived.Test.YtcemiclbeocnjaaSpan1
import Derived.Laws.ResultCell
import Derived.Laws.Rows
set_option linter.unusedVariables false
namespace Go.Proofs.Ytcemiclbeocnjaa
open Go.RowKit

def okAt (l : List Sp) (j : Nat) : Prop := 1 ≤ (l.getD j (0, 0)).2 ∧ (0 < j → (l.getD (j - 1) (0, 0)).1 + (l.getD (j - 1) (0, 0)).2 < (l.getD j (0, 0)).1)
theorem right_of_ok : ∀ l : List Sp, (∀ j, j < l.length → okAt l j) → SRight l
  | [], _ => SRight.nil
  | x :: m, h => by
    have h0 := (h 0 (by simp)).1
    have ht : ∀ j, j < m.length → okAt m j := fun j hj => by
      have := h (j + 1) (by simp; omega)
      refine ⟨by simpa [okAt] using this.1, fun hp => ?_⟩
      have h2 := this.2 (by omega)
      obtain ⟨i, rfl⟩ : ∃ i, j = i + 1 := ⟨j - 1, by omega⟩
      simpa using h2
    refine SRight.cons.2 ⟨by simpa using h0, ?_, right_of_ok m ht⟩
    have key : ∀ i, i < m.length → x.1 + x.2 < (m.getD i (0, 0)).1 := by
      intro i
      induction i with
      | zero =>
        intro hi
        have := (h 1 (by simp; omega)).2 (by omega)
        simpa using this
      | succ i ih =>
        intro hi
        have h1 := ih (by omega)
        have h2 := (ht i (by omega)).1
        have h3 := (ht (i + 1) hi).2 (by omega)
        simp only [Nat.add_sub_cancel] at h3
        omega
    intro y hy
    obtain ⟨i, hi, rfl⟩ := List.mem_iff_getElem.1 hy
    have := key i hi
    rwa [List.getD_eq_getElem?_getD, List.getElem?_eq_getElem hi, Option.getD_some] at this
theorem ok_of_right {l : List Sp} (h : SRight l) (j : Nat) (hj : j < l.length) : okAt l j := by
  refine ⟨?_, fun hp => ?_⟩
  · rw [List.getD_eq_getElem?_getD, List.getElem?_eq_getElem hj]
    exact h.1 _ (List.getElem_mem hj)
  · rw [List.getD_eq_getElem?_getD, List.getD_eq_getElem?_getD, List.getElem?_eq_getElem hj, List.getElem?_eq_getElem (show j - 1 < l.length by omega)]
    exact List.pairwise_iff_getElem.1 h.2 (j - 1) j (by omega) hj (by omega)
theorem dN {B : Nat} {a w : World} (h : Below B a w) (n : Nat) : Below B a (w.drewN n) := ⟨h.os, h.tape, h.output, h.size, h.block⟩
theorem frozK {w w1 : World} {b o : Nat} {v : Value} (h : w.cell? ⟨b, o, none⟩ = some v) (k : w.frozen? ⟨b, o, none⟩ = false) (hb : Below w.heap.size w w1) : w1.frozen? ⟨b, o, none⟩ = false := by
  rw [(bcell hb).2 _ _ (World.block_lt_of_cell? w _ h)]; exact k
theorem cellK {w w1 : World} {b o : Nat} {v : Value} (h : w.cell? ⟨b, o, none⟩ = some v) (hb : Below w.heap.size w w1) : w1.cell? ⟨b, o, none⟩ = some v := by
  rw [(bcell hb).1 _ _ (World.block_lt_of_cell? w _ h)]; exact h
open Classical in
noncomputable def rightB (l : List Sp) : Bool := decide (SRight l)
open Classical in
theorem rightB_t {l : List Sp} (h : ∀ j, j < l.length → okAt l j) : rightB l = true := by unfold rightB; exact decide_eq_true (right_of_ok l h)
open Classical in
theorem rightB_f {l : List Sp} (j : Nat) (hj : j < l.length) (h : ¬ okAt l j) : rightB l = false := by unfold rightB; exact decide_eq_false (fun q => h (ok_of_right q j hj))
open Classical in
theorem rightB_iff (l : List Sp) : rightB l = true ↔ SRight l := by unfold rightB; exact decide_eq_true_iff

set_option maxRecDepth 10000 in
set_option maxHeartbeats 2000000 in
theorem right_any (v : Value) (l : List Sp) (w : World) (hl : SBs l) (hlen : l.length ≤ 1000) (hv : PL w v l) :
    Calls Try.prog 37 #[v] w fun e w' => e = .returned (.bool (rightB l)) ∧ Below w.heap.size w w' := by
  obtain ⟨n, hn⟩ : ∃ n, l.length = n := ⟨_, rfl⟩
  obtain ⟨A, cap, rfl, hC⟩ := hv.form hn
  have hT := Lib.hid (fun (h : ∀ j, j < n → okAt l j) => rightB_t (l := l) (by rw [hn]; exact h))
  have hF := Lib.hid (fun j (hj : j < n) (h : ¬ okAt l j) => rightB_f (l := l) j (by omega) h)
  have hI := Lib.hid (fun i (hi : i < n) => hl.at i (by omega))
  replace hC := Lib.hid hC
  have hlen' : n ≤ 1000 := by omega
  clear hl hlen
  replace hn := Lib.hid hn
  go_enter Try.func37, Try.ntmps37
  go_wp2_with fail
  go_loopw [3, 4, 7] (fun i b x wr => ∃ k : Nat, k ≤ n ∧ x = .int .i64 k ∧ Hid (∀ j, j < k → okAt l j) ∧ Below w.heap.size w wr) (fun _ _ i _ => n + 1 - (intOf i).toNat)
  case atStart => exact ⟨0, Nat.zero_le _, rfl, (fun j hj => by omega), Below.refl _ _⟩
  case round =>
    obtain ⟨k, hk, rfl, hK, hB⟩ := hrel
    by_cases hlt : k < n
    · obtain ⟨g, off, rfl, hcap, hg, c0, c1⟩ := hC.out wr k hB hlt
      have hlt' : (k : Int) < (n : Int) := by omega
      have hs := hI.out k hlt
      have hstep := Lib.hid (fun (h : okAt l k) j (hj : j < k + 1) => show okAt l j from by
        by_cases e : j = k
        · subst e; exact h
        · exact hK.out j (by omega))
      have hno := Lib.hid (fun (h : ¬ okAt l k) => hF.out k hlt h)
      by_cases h0 : k = 0
      · subst h0
        have hok := Lib.hid (fun (h : 1 ≤ (l.getD 0 (0, 0)).2) => hstep.out ⟨h, fun q => by omega⟩)
        have hnk := Lib.hid (fun (h : ¬ 1 ≤ (l.getD 0 (0, 0)).2) => hno.out (fun q => h q.1))
        generalize l.getD 0 (0, 0) = s at *
        obtain ⟨a, b⟩ := s
        obtain ⟨h1, h2, h3, h4⟩ := hs
        simp only [Nat.zero_mul, Nat.add_zero] at h1 h2 h3 h4 c0 c1
        by_cases hb1 : 1 ≤ b
        · have hR := Lib.hid (hok.out hb1)
          have e1 : decide (b < 1) = false := decide_eq_false (by omega)
          go_wp2_with fail
          go_quiet (fail)
          all_goals (try go_wp2_with fail)
          go_roundw
          case rel => exact ⟨1, by omega, by go_num, hR, dN (hB.alloc hB.size _) _⟩
          case measure => first | (simp [intOf]; done) | (simp [intOf]; omega)
        · have hR := Lib.hid (hnk.out hb1)
          have e1 : decide (b < 1) = true := decide_eq_true (by omega)
          clear hb1
          go_wp2_with fail
          go_quiet (fail)
          all_goals (try go_wp2_with fail)
          go_ret
          exact ⟨by rw [hR.out]; rfl, dN (hB.alloc hB.size _) _⟩
      · obtain ⟨i, rfl⟩ : ∃ i, k = i + 1 := ⟨k - 1, by omega⟩
        obtain ⟨g', off', hA, hcap', hg', d0, d1⟩ := hC.out wr i hB (by omega)
        simp only [Option.some.injEq, Addr.mk.injEq, and_true] at hA
        obtain ⟨rfl, rfl⟩ := hA
        have hq := hI.out i (by omega)
        have hok := Lib.hid (fun (h : 1 ≤ (l.getD (i + 1) (0, 0)).2) (h' : (l.getD i (0, 0)).1 + (l.getD i (0, 0)).2 < (l.getD (i + 1) (0, 0)).1) => hstep.out ⟨h, fun q => by simpa using h'⟩)
        have hnk := Lib.hid (fun (h : ¬ 1 ≤ (l.getD (i + 1) (0, 0)).2) => hno.out (fun q => h q.1))
        have hnk2 := Lib.hid (fun (h : ¬ (l.getD i (0, 0)).1 + (l.getD i (0, 0)).2 < (l.getD (i + 1) (0, 0)).1) => hno.out (fun q => h (by simpa using q.2 (by omega))))
        generalize l.getD (i + 1) (0, 0) = s at *
        generalize l.getD i (0, 0) = t at *
        obtain ⟨a, b⟩ := s
        obtain ⟨c, d⟩ := t
        have hE := Lib.hid (fun w => end_any c d w hq)
        obtain ⟨h1, h2, h3, h4⟩ := hs
        obtain ⟨q1, q2, q3, q4⟩ := hq
        simp only [] at h1 h2 h3 h4 c0 c1 q1 q2 q3 q4 d0 d1
        have hi0 : (0 : Int) < (i : Int) + 1 := by omega
        have hi1 : (i : Int) < (n : Int) := by omega
        have hi2 : (i : Int) + 1 < (n : Int) := by omega
        have kk := C2.new wr (.int .i64 a) (.int .i64 b) 63
        have hB1 : Below w.heap.size w (wr.alloc (.cells #[.int .i64 a, .int .i64 b] 63)) := hB.alloc hB.size _
        obtain ⟨k0, k1⟩ := id kk
        have hBd := hB1.drew
        have fw : IntKind.i64.wrap ((i : Int) + 1 - 1) = (i : Int) := by rw [IntKind.wrap_i64]; omega
        have fw2 : IntKind.i64.wrap (i : Int) = (i : Int) := by rw [IntKind.wrap_i64]; omega
        have fw3 : (0 : Int) ≤ (i : Int) := by omega
        have d0' := (World.cell?_alloc_lt wr (.cells #[.int .i64 a, .int .i64 b] 63) ⟨g, off + i * 2, none⟩ hg).trans d0
        have d1' := (World.cell?_alloc_lt wr (.cells #[.int .i64 a, .int .i64 b] 63) ⟨g, off + i * 2 + 1, none⟩ hg).trans d1
        by_cases hb1 : 1 ≤ b
        · have e1 : decide (b < 1) = false := decide_eq_false (by omega)
          by_cases hgt : c + d < a
          · have hR := Lib.hid (hok.out hb1 hgt)
            have hgt' : decide (a ≤ c + d) = false := decide_eq_false (by omega)
            go_wp2_with fail
            go_region_held3 (fun w' => w'.cell? ⟨wr.heap.size, 0, none⟩ = some (.int .i64 a) ∧ w'.cell? ⟨wr.heap.size, 1, none⟩ = some (.int .i64 b) ∧ w'.cell? ⟨g, off + i * 2, none⟩ = some (.int .i64 c) ∧ w'.cell? ⟨g, off + i * 2 + 1, none⟩ = some (.int .i64 d) ∧ Below w.heap.size w w')
              (((try go_split_ands); refine ⟨?_, ?_, ?_, ?_, ?_⟩ <;> first | assumption | (exact cellK (by assumption) hb) | (exact Below.trans (by assumption) (hb.mono (Below.size (by assumption))))))
              (((try go_split_ands); first | (go_at_call 78; (with_reducible refine (hE.out _).mono ?_); rintro e w8 ⟨rfl, hb⟩)))
            go_split_ands
            have hBW := ‹Below w.heap.size w _›
            go_wp2_with fail
            go_roundw
            case rel => exact ⟨i + 1 + 1, by omega, by go_num, hR, hBW⟩
            case measure => first | (simp [intOf]; done) | (simp [intOf]; omega)
          · have hR := Lib.hid (hnk2.out hgt)
            have hgt' : decide (a ≤ c + d) = true := decide_eq_true (by omega)
            go_wp2_with fail
            go_region_held3 (fun w' => w'.cell? ⟨wr.heap.size, 0, none⟩ = some (.int .i64 a) ∧ w'.cell? ⟨wr.heap.size, 1, none⟩ = some (.int .i64 b) ∧ w'.cell? ⟨g, off + i * 2, none⟩ = some (.int .i64 c) ∧ w'.cell? ⟨g, off + i * 2 + 1, none⟩ = some (.int .i64 d) ∧ Below w.heap.size w w')
              (((try go_split_ands); refine ⟨?_, ?_, ?_, ?_, ?_⟩ <;> first | assumption | (exact cellK (by assumption) hb) | (exact Below.trans (by assumption) (hb.mono (Below.size (by assumption))))))
              (((try go_split_ands); first | (go_at_call 78; (with_reducible refine (hE.out _).mono ?_); rintro e w8 ⟨rfl, hb⟩)))
            go_split_ands
            have hBW := ‹Below w.heap.size w _›
            go_wp2_with fail
            go_ret
            exact ⟨by rw [hR.out]; rfl, hBW⟩
        · have hR := Lib.hid (hnk.out hb1)
          have e1 : decide (b < 1) = true := decide_eq_true (by omega)
          clear hb1
          go_wp2_with fail
          go_quiet (fail)
          all_goals (try go_wp2_with fail)
          go_ret
          exact ⟨by rw [hR.out]; rfl, dN (hB.alloc hB.size _) _⟩
    · obtain rfl : k = n := by omega
      have hR := Lib.hid (hT.out hK.out)
      go_wp2_with fail
      go_ret
      exact ⟨by rw [hR.out]; rfl, hB⟩

theorem totS_take (l : List Sp) (k : Nat) (h : k < l.length) : totS (l.take (k + 1)) = totS (l.take k) + (l.getD k (0, 0)).2 := by
  rw [List.take_succ_eq_append_getElem h, totS_app, List.getD_eq_getElem?_getD, List.getElem?_eq_getElem h, totS_cons, totS_nil, Option.getD_some]
  omega
theorem totS_bd (l : List Sp) (hl : SBs l) : ∀ k, k ≤ l.length → -8796093022208 * (k : Int) ≤ totS (l.take k) ∧ totS (l.take k) ≤ 8796093022208 * (k : Int)
  | 0, _ => by simp [totS_nil]
  | k + 1, h => by
    have := totS_bd l hl k (by omega)
    obtain ⟨h1, h2, h3, h4⟩ := hl.at k (by omega)
    rw [totS_take l k (by omega)]
    omega
set_option maxHeartbeats 1000000 in
theorem total_any (v : Value) (l : List Sp) (w : World) (hl : SBs l) (hlen : l.length ≤ 1000) (hv : PL w v l) :
    Calls Try.prog 36 #[v] w fun e w' => e = .returned (.int .i64 (totS l)) ∧ Below w.heap.size w w' := by
  obtain ⟨n, hn⟩ : ∃ n, l.length = n := ⟨_, rfl⟩
  obtain ⟨A, cap, rfl, hC⟩ := hv.form hn
  have hI := Lib.hid (fun i (hi : i < n) => hl.at i (by omega))
  have hD := Lib.hid (fun i (hi : i ≤ n) => totS_bd l hl i (by omega))
  have hS := Lib.hid (fun i (hi : i < n) => totS_take l i (by omega))
  have hE := Lib.hid (show totS (l.take n) = totS l from by rw [List.take_of_length_le (by omega)])
  replace hC := Lib.hid hC
  have hlen' : n ≤ 1000 := by omega
  clear hl hlen hn
  go_enter Try.func36, Try.ntmps36
  go_wp2_with fail
  go_loopw [3, 5, 8] (fun s b x wr => ∃ k : Nat, ∃ t : Int, k ≤ n ∧ x = .int .i64 k ∧ s = .int .i64 t ∧ Hid (t = totS (l.take k)) ∧ Below w.heap.size w wr) (fun _ _ i _ => n + 1 - (intOf i).toNat)
  case atStart => exact ⟨0, 0, Nat.zero_le _, rfl, rfl, rfl, Below.refl _ _⟩
  case round =>
    obtain ⟨k, t, hk, rfl, rfl, hT, hB⟩ := hrel
    by_cases hlt : k < n
    · obtain ⟨g, off, rfl, hcap, hg, c0, c1⟩ := hC.out wr k hB hlt
      have hlt' : (k : Int) < (n : Int) := by omega
      obtain ⟨h1, h2, h3, h4⟩ := hI.out k hlt
      have hd := hD.out k (by omega)
      rw [← hT.out] at hd
      have hT2 := Lib.hid (show t + (l.getD k (0, 0)).2 = totS (l.take (k + 1)) from by rw [hS.out k hlt, ← hT.out])
      generalize l.getD k (0, 0) = s at *
      obtain ⟨a, b⟩ := s
      simp only [] at h1 h2 h3 h4 c0 c1 hT2
      go_wp2_with fail
      go_roundw
      case rel => exact ⟨k + 1, t + b, by omega, by go_num, by go_num, hT2, hB.alloc hB.size _⟩
      case measure => simp [intOf]; omega
    · obtain rfl : k = n := by omega
      have hR := Lib.hid (show t = totS l from by rw [hT.out, hE.out])
      clear hT
      go_wp2_with fail
      go_ret
      exact ⟨by rw [hR.out]; rfl, hB⟩

end Go.Proofs.Ytcemiclbeocnjaa
