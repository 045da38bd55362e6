/-
  Lists of spans in memory; what the small calls of package span answer, and the document's.
-/
import Derived.Test.YtcemiclbeocnjaaSpanM
import Derived.Test.YtcemiclbeocnjaaRows
import Derived.Test.YtcemiclbeocnjaaCommon
import Derived.WalkSpells
import Derived.WalkLawsBesides
import Derived.Deep.RegionHeld3
import Derived.Deep.QuietTactic
import Derived.BigQuiet
set_option linter.unusedVariables false
namespace Go.Proofs.Ytcemiclbeocnjaa
open Go.RowKit

def C2 (w : World) (b : Nat) (x y : Value) : Prop := w.cell? ⟨b, 0, none⟩ = some x ∧ w.cell? ⟨b, 1, none⟩ = some y
theorem C2.lt {w : World} {b : Nat} {x y : Value} (h : C2 w b x y) : b < w.heap.size := World.block_lt_of_cell? w _ h.1
theorem C2.keep {W w1 : World} {b : Nat} {x y : Value} (h : C2 W b x y) (hb : Below W.heap.size W w1) : C2 w1 b x y :=
  ⟨by rw [(bcell hb).1 _ _ h.lt]; exact h.1, by rw [(bcell hb).1 _ _ h.lt]; exact h.2⟩
theorem C2.new (w : World) (x y : Value) (t : TypeId) : C2 (w.alloc (.cells #[x, y] t)) w.heap.size x y := by
  refine ⟨?_, ?_⟩ <;> simp [go_sem]
theorem C2.alloc {W : World} {b : Nat} {x y : Value} (h : C2 W b x y) (o : Obj) : C2 (W.alloc o) b x y :=
  h.keep ((Below.refl _ _).alloc (Nat.le_refl _) _)
theorem C2.drew {W : World} {b : Nat} {x y : Value} (h : C2 W b x y) : C2 W.drew b x y := h
def F2 (w : World) (b : Nat) : Prop := w.frozen? ⟨b, 0, none⟩ = false ∧ w.frozen? ⟨b, 1, none⟩ = false
theorem F2.keep {W w1 : World} {b : Nat} (h : F2 W b) (hl : b < W.heap.size) (hb : Below W.heap.size W w1) : F2 w1 b :=
  ⟨by rw [(bcell hb).2 _ _ hl]; exact h.1, by rw [(bcell hb).2 _ _ hl]; exact h.2⟩
theorem F2.drew {W : World} {b : Nat} (h : F2 W b) : F2 W.drew b := h
theorem F2.new (w : World) (x y : Value) (t : TypeId) : F2 (w.alloc (.cells #[x, y] t)) w.heap.size := by
  refine ⟨?_, ?_⟩ <;> simp [go_sem]
theorem F2.alloc {W : World} {b : Nat} (h : F2 W b) (hl : b < W.heap.size) (o : Obj) : F2 (W.alloc o) b :=
  h.keep hl ((Below.refl _ _).alloc (Nat.le_refl _) _)
theorem st2_ex {W : World} {g : Nat} {a b : Value} (h : C2 W g a b) (x y : Value) : ∃ w9, w9 = ((W.setCell ⟨g, 0, none⟩ x).setCell ⟨g, 1, none⟩ y) ∧ C2 w9 g x y ∧ Below g W w9 := by
  obtain ⟨h0, h1⟩ := h
  refine ⟨_, rfl, ?_, ((Below.refl _ _).setCell (by simp) _).setCell (by simp) _⟩
  refine ⟨?_, ?_⟩ <;> simp [go_sem, *]

/-- a span's numbers are of a size that is looked at -/
def SB (s : Sp) : Prop := -4398046511104 ≤ s.1 ∧ s.1 ≤ 4398046511104 ∧ -4398046511104 ≤ s.1 + s.2 ∧ s.1 + s.2 ≤ 4398046511104
def SBs (l : List Sp) : Prop := ∀ x ∈ l, SB x
theorem SBs.at {l : List Sp} (h : SBs l) (i : Nat) (hi : i < l.length) : SB (l.getD i (0, 0)) := by
  rw [List.getD_eq_getElem?_getD, List.getElem?_eq_getElem hi]
  exact h _ (List.getElem_mem hi)
theorem SB.both {s x : Sp} (h : SB s) (k : SB x) : SB (bothS s x) := by
  unfold SB bothS at *; simp only []; omega

/-- v is a list of spans in memory -/
def PL (w : World) (v : Value) (l : List Sp) : Prop :=
  ∃ A cap, v = .slice A l.length cap ∧ (0 < l.length → ∃ g off, A = some ⟨g, off, none⟩ ∧ g < w.heap.size ∧ l.length ≤ cap ∧
    ∀ i, i < l.length → w.cell? ⟨g, off + i * 2, none⟩ = some (.int .i64 (l.getD i (0, 0)).1) ∧ w.cell? ⟨g, off + i * 2 + 1, none⟩ = some (.int .i64 (l.getD i (0, 0)).2))
theorem PL.keep {w w1 : World} {v : Value} {l : List Sp} (h : PL w v l) (hb : Below w.heap.size w w1) : PL w1 v l := by
  obtain ⟨A, cap, hv, h⟩ := h
  refine ⟨A, cap, hv, fun hl => ?_⟩
  obtain ⟨g, off, hA, hg, hc, hi⟩ := h hl
  exact ⟨g, off, hA, Nat.lt_of_lt_of_le hg hb.size, hc, fun i h => by rw [(bcell hb).1 _ _ hg, (bcell hb).1 _ _ hg]; exact hi i h⟩
theorem PL.nil (w : World) (A : Option Addr) (cap : Nat) : PL w (.slice A 0 cap) [] := ⟨A, cap, rfl, fun h => by simp at h⟩
/-- where a list of spans lies, in a later world -/
theorem PL.form {w : World} {v : Value} {l : List Sp} {n : Nat} (h : PL w v l) (hn : l.length = n) : ∃ A cap, v = .slice A n cap ∧
    ∀ w1 i, Below w.heap.size w w1 → i < n → ∃ g off, A = some ⟨g, off, none⟩ ∧ n ≤ cap ∧ g < w1.heap.size ∧ w1.cell? ⟨g, off + i * 2, none⟩ = some (.int .i64 (l.getD i (0, 0)).1) ∧ w1.cell? ⟨g, off + i * 2 + 1, none⟩ = some (.int .i64 (l.getD i (0, 0)).2) := by
  obtain ⟨A, cap, hv, h⟩ := h
  refine ⟨A, cap, by rw [hv, hn], fun w1 i hb hi => ?_⟩
  obtain ⟨g, off, hA, hg, hc, hcell⟩ := h (by omega)
  refine ⟨g, off, hA, by omega, Nat.lt_of_lt_of_le hg hb.size, ?_, ?_⟩
  · rw [(bcell hb).1 _ _ hg]; exact (hcell i (by omega)).1
  · rw [(bcell hb).1 _ _ hg]; exact (hcell i (by omega)).2

set_option maxHeartbeats 400000 in
theorem end_any (a b : Int) (w : World) (h : SB (a, b)) :
    Calls Try.prog 78 #[.agg #[.int .i64 a, .int .i64 b]] w fun e w' => e = .returned (.int .i64 (a + b)) ∧ Below w.heap.size w w' := by
  obtain ⟨h1, h2, h3, h4⟩ := h
  simp only [] at h1 h2 h3 h4
  go_enter Try.func78, Try.ntmps78
  go_wp2_with fail
  go_ret
  exact ⟨rfl, (Below.refl _ _).alloc (Nat.le_refl _) _⟩

def inB (s : Sp) (w : Int) : Bool := decide (s.1 ≤ w) && decide (w < s.1 + s.2)
theorem inB_iff (s : Sp) (w : Int) : inB s w = true ↔ SIn s w := by unfold inB SIn; simp
set_option maxHeartbeats 400000 in
theorem in_any (a b x : Int) (w : World) (h : SB (a, b)) (hx : -4398046511104 ≤ x) (hx2 : x ≤ 4398046511104) :
    Calls Try.prog 101 #[.agg #[.int .i64 a, .int .i64 b], .int .i64 x] w fun e w' => e = .returned (.bool (inB (a, b) x)) ∧ Below w.heap.size w w' := by
  obtain ⟨h1, h2, h3, h4⟩ := h
  simp only [] at h1 h2 h3 h4
  by_cases k1 : a ≤ x
  · by_cases k2 : x - a < b
    · have e : inB (a, b) x = true := (inB_iff _ _).2 ⟨k1, by simp only []; omega⟩
      rw [e]
      go_enter Try.func101, Try.ntmps101
      go_wp2_with fail
      go_ret
      exact ⟨rfl, (Below.refl _ _).alloc (Nat.le_refl _) _⟩
    · have e : inB (a, b) x = false := by
        rw [Bool.eq_false_iff]; intro q; have := (inB_iff _ _).1 q; unfold SIn at this; simp only [] at this; omega
      rw [e]
      have k3 : b ≤ x - a := by omega
      go_enter Try.func101, Try.ntmps101
      go_wp2_with fail
      go_ret
      exact ⟨rfl, (Below.refl _ _).alloc (Nat.le_refl _) _⟩
  · have e : inB (a, b) x = false := by
      rw [Bool.eq_false_iff]; intro q; have := (inB_iff _ _).1 q; unfold SIn at this; simp only [] at this; omega
    rw [e]
    have k3 : x < a := by omega
    go_enter Try.func101, Try.ntmps101
    go_wp2_with fail
    go_ret
    exact ⟨rfl, (Below.refl _ _).alloc (Nat.le_refl _) _⟩

theorem hasB_take (l : List Sp) (k : Nat) (x : Int) (h : k < l.length) : hasB (l.take (k + 1)) x = (hasB (l.take k) x || inB (l.getD k (0, 0)) x) := by
  unfold hasB inB
  rw [List.take_succ_eq_append_getElem h, List.any_append, List.getD_eq_getElem?_getD, List.getElem?_eq_getElem h]
  simp
theorem hasB_at (l : List Sp) (k : Nat) (x : Int) (h : k < l.length) (hi : inB (l.getD k (0, 0)) x = true) : hasB l x = true := by
  rw [hasB_iff]
  refine ⟨l.getD k (0, 0), ?_, (inB_iff _ _).1 hi⟩
  rw [List.getD_eq_getElem?_getD, List.getElem?_eq_getElem h]
  exact List.getElem_mem h
set_option maxHeartbeats 1000000 in
theorem has_any (v : Value) (l : List Sp) (x : Int) (w : World) (hl : SBs l) (hlen : l.length ≤ 1000) (hv : PL w v l) (hx : -4398046511104 ≤ x) (hx2 : x ≤ 4398046511104) :
    Calls Try.prog 90 #[v, .int .i64 x] w fun e w' => e = .returned (.bool (hasB l x)) ∧ Below w.heap.size w w' := by
  obtain ⟨n, hn⟩ : ∃ n, l.length = n := ⟨_, rfl⟩
  obtain ⟨A, cap, rfl, hC⟩ := hv.form hn
  have hT := Lib.hid (fun (h : ∀ k, k < n → inB (l.getD k (0, 0)) x = false) => show hasB l x = false from by
    rw [Bool.eq_false_iff]; intro q
    obtain ⟨s, hs, k⟩ := (hasB_iff _ _).1 q
    obtain ⟨i, hi, rfl⟩ := List.mem_iff_getElem.1 hs
    have := h i (by omega)
    rw [List.getD_eq_getElem?_getD, List.getElem?_eq_getElem hi, Option.getD_some] at this
    rw [(inB_iff _ _).2 k] at this
    simp at this)
  have hI := Lib.hid (fun i (hi : i < n) => hl.at i (by omega))
  have hH := Lib.hid (fun k (h : k < n) => hasB_at l k x (by omega))
  replace hC := Lib.hid hC
  have hlen' : n ≤ 1000 := by omega
  clear hl hlen
  replace hn := Lib.hid hn
  go_enter Try.func90, Try.ntmps90
  go_wp2_with fail
  go_loopw [5, 6] (fun i s wr => ∃ k : Nat, k ≤ n ∧ i = .int .i64 k ∧ Hid (∀ j, j < k → inB (l.getD j (0, 0)) x = false) ∧ Below w.heap.size w wr) (fun i _ _ => n + 1 - (intOf i).toNat)
  case atStart => exact ⟨0, Nat.zero_le _, rfl, (fun j hj => by omega), Below.refl _ _⟩
  case round =>
    obtain ⟨k, hk, rfl, hF, hB⟩ := hrel
    by_cases hlt : k < n
    · obtain ⟨g, off, rfl, hcap, hg, c0, c1⟩ := hC.out wr k hB hlt
      have hlt' : (k : Int) < (n : Int) := by omega
      have hs := hI.out k hlt
      have hH2 := Lib.hid (hH.out k hlt)
      have hF2 := Lib.hid (fun (h : inB (l.getD k (0, 0)) x = false) j (hj : j < k + 1) => show inB (l.getD j (0, 0)) x = false from by
        by_cases e : j = k
        · subst e; exact h
        · exact hF.out j (by omega))
      generalize l.getD k (0, 0) = s at *
      obtain ⟨a, b⟩ := s
      simp only [] at c0 c1
      have hO := Lib.hid (fun w => in_any a b x w hs hx hx2)
      cases hin : inB (a, b) x with
      | true =>
        have hR := Lib.hid (hH2.out hin)
        rw [hin] at hO
        clear hin
        go_wp2_with fail
        refine (hO.out _).mono ?_
        rintro e w2 ⟨rfl, hb2⟩
        go_wp2_with fail
        go_ret
        exact ⟨by rw [hR.out]; rfl, hB.trans (hb2.mono hB.size)⟩
      | false =>
        have hR : Hid _ := Lib.hid (hF2.out hin)
        rw [hin] at hO
        clear hin
        go_wp2_with fail
        refine (hO.out _).mono ?_
        rintro e w2 ⟨rfl, hb2⟩
        go_wp2_with fail
        go_roundw
        case rel => exact ⟨k + 1, by omega, by go_num, hR, hB.trans (hb2.mono hB.size)⟩
        case measure => simp [intOf]; omega
    · obtain rfl : k = n := by omega
      have hR := Lib.hid (hT.out hF.out)
      go_wp2_with fail
      go_ret
      exact ⟨by rw [hR.out]; rfl, hB⟩

set_option maxHeartbeats 1000000 in
theorem same_any (v u : Value) (l m : List Sp) (w : World) (hlen : l.length ≤ 1000000) (hv : PL w v l) (hu : PL w u m) :
    Calls Try.prog 62 #[v, u] w fun e w' => e = .returned (.bool (decide (l = m))) ∧ Below w.heap.size w w' := by
  obtain ⟨n, hn⟩ : ∃ n, l.length = n := ⟨_, rfl⟩
  obtain ⟨n2, hn2⟩ : ∃ n, m.length = n := ⟨_, rfl⟩
  obtain ⟨A, cap, rfl, hC⟩ := hv.form hn
  obtain ⟨A2, cap2, rfl, hC2⟩ := hu.form hn2
  have hne := Lib.hid (fun (h : ¬ l = m) => show decide (l = m) = false from decide_eq_false h)
  by_cases hnn : n = n2
  · subst hnn
    have hyes := Lib.hid (fun (h : ∀ j, j < n → l.getD j (0, 0) = m.getD j (0, 0)) => show decide (l = m) = true from by
      refine decide_eq_true ?_
      apply List.ext_getElem (by omega)
      intro i h1 h2
      have := h i (by omega)
      rwa [List.getD_eq_getElem?_getD, List.getD_eq_getElem?_getD, List.getElem?_eq_getElem h1, List.getElem?_eq_getElem h2] at this)
    replace hC := Lib.hid hC
    replace hC2 := Lib.hid hC2
    have hlen' : n ≤ 1000000 := by omega
    clear hlen
    replace hn := Lib.hid hn
    replace hn2 := Lib.hid hn2
    go_enter Try.func62, Try.ntmps62
    go_wp2_with fail
    go_loopw [5] (fun i wr => ∃ k : Nat, k ≤ n ∧ i = .int .i64 k ∧ Hid (∀ j, j < k → l.getD j (0, 0) = m.getD j (0, 0)) ∧ Below w.heap.size w wr) (fun i _ => n + 1 - (intOf i).toNat)
    case atStart => exact ⟨0, Nat.zero_le _, rfl, (fun j hj => by omega), Below.refl _ _⟩
    case round =>
      obtain ⟨k, hk, rfl, hF, hB⟩ := hrel
      by_cases hlt : k < n
      · obtain ⟨g, off, rfl, hcap, hg, c0, c1⟩ := hC.out wr k hB hlt
        obtain ⟨g2, off2, rfl, hcap2, hg2, d0, d1⟩ := hC2.out wr k hB hlt
        have hlt' : (k : Int) < (n : Int) := by omega
        have hF2 := Lib.hid (fun (h : l.getD k (0, 0) = m.getD k (0, 0)) j (hj : j < k + 1) => show l.getD j (0, 0) = m.getD j (0, 0) from by
          by_cases e : j = k
          · subst e; exact h
          · exact hF.out j (by omega))
        have hF3 := Lib.hid (fun (h : ¬ l.getD k (0, 0) = m.getD k (0, 0)) => show decide (l = m) = false from decide_eq_false (fun q => h (by rw [q])))
        generalize l.getD k (0, 0) = s at *
        generalize m.getD k (0, 0) = t at *
        obtain ⟨a, b⟩ := s
        obtain ⟨c, d⟩ := t
        simp only [] at c0 c1 d0 d1
        by_cases hac : a = c
        · subst hac
          by_cases hbd : b = d
          · subst hbd
            have hR := Lib.hid (hF2.out rfl)
            go_wp2_with fail
            go_region
            all_goals (try go_wp2_with fail)
            go_roundw
            case rel => exact ⟨k + 1, by omega, by go_num, hR, hB.drew⟩
            case measure => simp [intOf]; omega
          · have hR := Lib.hid (hF3.out (by simp [hbd]))
            have f1 : (b == d) = false := by rw [beq_eq_false_iff_ne]; exact hbd
            clear hbd
            go_wp2_with fail
            go_region
            all_goals (try go_wp2_with fail)
            all_goals
              go_ret
              exact ⟨by rw [hR.out]; rfl, hB.drew⟩
        · have hR := Lib.hid (hF3.out (by simp [hac]))
          have f1 : (a == c) = false := by rw [beq_eq_false_iff_ne]; exact hac
          clear hac
          go_wp2_with fail
          go_region
          all_goals (try go_wp2_with fail)
          all_goals
            go_ret
            exact ⟨by rw [hR.out]; rfl, hB.drew⟩
      · obtain rfl : k = n := by omega
        have hR := Lib.hid (hyes.out hF.out)
        go_wp2_with fail
        go_ret
        exact ⟨by rw [hR.out]; rfl, hB⟩
  · have hR := Lib.hid (hne.out (fun h => hnn (by rw [← hn, ← hn2, h])))
    have f1 : ((n : Int) != (n2 : Int)) = true := by rw [bne_iff_ne]; omega
    clear hn hn2 hv hu hC hC2 hnn
    go_enter Try.func62, Try.ntmps62
    go_wp2_with fail
    go_ret
    exact ⟨by rw [hR.out]; rfl, Below.refl _ _⟩
end Go.Proofs.Ytcemiclbeocnjaa
