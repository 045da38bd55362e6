/-
  The laws of package lock: LockGone.
-/
import Derived.Test.YtibhahbimoiaaaaLk14
set_option linter.unusedVariables false
set_option linter.unusedSimpArgs false
namespace Go.Proofs.Ytibhahbimoiaaaa
open Go.RowKit Go.ChangeShapes Go.WideShapes Go.Deep Go.Maps

theorem held_none {g : Gx} {l : Int} {L : List Int} (h : HeldIs g l L) (hn : ∀ x, g x ≠ some l) : L = [] := by
  cases L with
  | nil => rfl
  | cons x L => exact absurd ((h.mem x).1 (by simp)) (hn x)
theorem let_none {g : Gx} {l : Int} : ∀ x, letG g l x ≠ some l := fun x h => by
  unfold letG at h
  split at h
  · cases h
  · rename_i q; exact q h
theorem let_same {g : Gx} {l : Int} (h : ∀ x, g x ≠ some l) : letG g l = g := by
  funext x
  unfold letG
  rw [if_neg (h x)]
def putAll (g : Gx) (l : Int) (L : List Int) : Gx := fun x => if x ∈ L then some l else g x
theorem putAll_nil {g : Gx} {l : Int} : putAll g l [] = g := by funext x; simp [putAll]
theorem putAll_snoc {g : Gx} {l x : Int} {L : List Int} : putG (putAll g l L) x l = putAll g l (L ++ [x]) := by
  funext y
  unfold putG putAll
  by_cases e : y = x
  · subst e; simp
  · simp [e]
theorem putAll_new {g : Gx} {l : Int} {L : List Int} {k : Nat} (hi : L.Pairwise (· < ·)) (hk : k < L.length) (hn : g (L.getD k default) = none) : putAll g l (L.take k) (L.getD k default) = none := by
  unfold putAll
  rw [if_neg ?_, hn]
  intro hm
  obtain ⟨j, hj, e⟩ := List.mem_iff_getElem.1 hm
  rw [List.length_take] at hj
  rw [List.getElem_take, List.getD_eq_getElem?_getD, List.getElem?_eq_getElem hk] at e
  have := List.pairwise_iff_getElem.1 hi j k (by omega) hk (by omega)
  simp only [Option.getD_some] at e
  omega
/-- a list of the call's own, read anywhere later -/
theorem own_at {w w1 : World} {base : Nat} {A : Option Addr} {m cap k : Nat} {L : List Int} (h : OwnE 3 1 iE w base (.slice A m cap) L) (hm : L.length = m) (hg : OwnE 3 1 iE w1 base (.slice A m cap) L) (hk : k < m) :
    ∃ g off, A = some ⟨g, off, none⟩ ∧ m ≤ cap ∧ w1.cell? ⟨g, off + k, none⟩ = some (.int .i64 (L.getD k default)) := by
  obtain ⟨A2, cap2, hv, hC⟩ := (hg.el iE_len).form hm
  obtain ⟨g, off, hA, hcap, _, _, hcl⟩ := hC w1 k (Below.refl _ _) hk
  cases hv
  have d0 := hcl 0 (by omega)
  rw [Nat.add_zero, Nat.mul_one] at d0
  exact ⟨g, off, hA, hcap, d0⟩
theorem own_turned {w w1 : World} {base M : Nat} {v : Value} {L : List Int} (h : OwnE 3 1 iE w base v L) (hg : w.grownBy w1 (some M)) (hM : M < base) : OwnE 3 1 iE w1 base v L :=
  h.kept hg (by
    cases hv : v.ownBlock with
    | none => exact .inl rfl
    | some q => exact .inr (by have := (h.lt q hv).1; simp; omega))
theorem lockK {w0 w : World} {B M n base : Nat} {g : Gx} {key lane : Int} {v : Value} {L : List Int} (h : TabO w0 w B M n g) (ho : OwnE 3 1 iE w base v L) (hb : M < base) (hk : I64 key) (hl : I64 lane) (hn : n ≤ 10000000000000) (hf : g key = none ∨ g key = some lane) :
    Calls Try.prog 31 #[.pointer (some ⟨B, 0, none⟩), .int .i64 key, .int .i64 lane] w fun e w' => e = .returned (.bool true) ∧ TabO w0 w' B M (n + 1) (putG g key lane) ∧ OwnE 3 1 iE w' base v L := by
  refine (Lock_any B M n g key lane w h.tab hk hl (by unfold maxLen; omega)).mono ?_
  rw [(lock_free hf).1, (lock_free hf).2]
  rintro e w' ⟨rfl, ht, hg⟩
  exact ⟨rfl, h.turned ht hg, own_turned ho hg hb⟩
theorem releaseK {w0 w : World} {B M n base : Nat} {g : Gx} {lane : Int} {v : Value} {L : List Int} (h : TabO w0 w B M n g) (ho : OwnE 3 1 iE w base v L) (hb : M < base) (hn : n ≤ 10000000000000) :
    Calls Try.prog 33 #[.pointer (some ⟨B, 0, none⟩), .int .i64 lane] w fun e w' => ∃ J, e = .returned (.int .i64 ((J.length : Nat) : Int)) ∧ HeldIs g lane J ∧ J.length ≤ n ∧ TabO w0 w' B M n (letG g lane) ∧ OwnE 3 1 iE w' base v L := by
  refine (Release_any B M n g lane w h.tab hn).mono ?_
  rintro e w' ⟨J, rfl, hJ, hJn, ht, hg⟩
  exact ⟨J, rfl, hJ, hJn, h.turned ht hg, own_turned ho hg hb⟩

set_option maxRecDepth 10000 in
set_option maxHeartbeats 2000000 in
theorem lockGone (v : Value) (l : List Lx) (a b : Int) (w : World) (hl : LL l) (hv : LPL w v l) (hz : l.length ≤ 9000000000000) (ha : I64 a) (hb : I64 b) :
    Calls Try.prog 12 #[v, .int .i64 a, .int .i64 b] w fun e w' => e = .returned (.bool true) ∧ Below w.heap.size w w' := by
  have hD := Lib.hid (fun w1 (hb : Below w.heap.size w w1) => doneO v l w w1 hl (by omega) hv hb)
  obtain ⟨n, hn⟩ : ∃ n, l.length = n := ⟨_, rfl⟩
  obtain ⟨A, cap, rfl, _⟩ := EL.form hv hn
  rw [hn] at hD hz
  generalize doneG l = g at *
  clear hl hv hn
  replace ha := Lib.hid ha
  replace hb := Lib.hid hb
  go_enter Try.func12, Try.ntmps12
  go_wp2_with fail
  refine (awake18 _).mono ?_
  rintro e w1 ⟨rfl, hb1⟩
  go_wp2_with fail
  refine (hD.out _ hb1).mono ?_
  rintro e w2 ⟨B, M, rfl, t2⟩
  have hB2 := t2.bel
  clear hD
  by_cases hlong : 60 < n
  · have h1 : (60 : Int) < (n : Int) := by omega
    go_wp2_with fail
    go_ret
    exact ⟨rfl, hB2⟩
  have h1 : ¬ (60 : Int) < (n : Int) := by omega
  clear hB2
  have hM2 := t2.tab.ltM
  have hH := Lib.hid (heldO (lane := a) t2 (by omega))
  clear t2
  go_wp2_with fail
  refine hH.out.mono ?_
  clear hH
  rintro e w3 ⟨v3, L, rfl, ho3, hL, hLn, t3, _⟩
  obtain ⟨m, hm⟩ : ∃ m, L.length = m := ⟨_, rfl⟩
  obtain ⟨AL, capL, rfl, _⟩ := (ho3.el iE_len).form hm
  rw [hm] at hLn
  have hR := Lib.hid (releaseK (lane := a) t3 ho3 hM2 (by omega))
  have hin := Lib.hid (fun k (h : k < m) => show g (L.getD k default) = some a from (hL.mem _).1 (by rw [List.getD_eq_getElem?_getD, List.getElem?_eq_getElem (by omega)]; exact List.getElem_mem _))
  have h64 := Lib.hid (fun k (h : k < m) => (t3.tab.got (hin.out k h)).1)
  have hUq := Lib.hid (fun J (h : HeldIs g a J) => show J.length = m from by rw [h.uniq hL, hm])
  have hinc := Lib.hid hL.inc
  have hmm := Lib.hid hm
  clear t3 ho3 hL hm
  go_wp2_with fail
  refine hR.out.mono ?_
  clear hR
  rintro e w4 ⟨J, rfl, hJ, _, t4, ho4⟩
  have hJm := hUq.out J hJ
  rw [hJm]
  clear hJ hJm hUq
  have hH := Lib.hid (heldO (lane := a) t4 (by omega))
  have hM4 := t4.tab.ltM
  replace ho4 := Lib.hid ho4
  clear t4
  go_wp2_with fail
  refine hH.out.mono ?_
  clear hH
  rintro e w5 ⟨v5, J, rfl, ho5, hJ, _, t5, hb5⟩
  have hJ0 := held_none hJ let_none
  subst hJ0
  obtain ⟨A5, cap5, rfl, _⟩ := (ho5.el iE_len).form (n := 0) rfl
  have ho5' := ho4.out.keep hb5
  clear ho4 ho5 hJ hb5
  have hR := Lib.hid (releaseK (lane := a) t5 ho5' hM2 (by omega))
  clear t5 ho5'
  go_wp2_with fail
  refine hR.out.mono ?_
  clear hR
  rintro e w6 ⟨J, rfl, hJ, _, t6, ho6⟩
  have hJ0 := held_none hJ let_none
  subst hJ0
  rw [let_same let_none] at t6
  clear hJ
  have hnone := Lib.hid (fun k (h : k < m) => show letG g a (L.getD k default) = none from let_gone (hin.out k h))
  have hsn := Lib.hid (fun k (h : k < m) => take_snoc L k (by rw [hmm.out]; exact h))
  have hnew := Lib.hid (fun k (h : k < m) => putAll_new (l := b) hinc.out (by rw [hmm.out]; exact h) (hnone.out k h))
  have hM6 := hM2
  generalize letG g a = g6 at *
  clear hin hnone
  go_wp2_with fail
  go_loopw [11] (fun i wr => ∃ k : Nat, k ≤ m ∧ i = .int .i64 k ∧ TabO w wr B M (n + k) (putAll g6 b (L.take k)) ∧ OwnE 3 1 iE wr w2.heap.size (.slice AL m capL) L) (fun i _ => m + 1 - (intOf i).toNat)
  case atStart => exact ⟨0, Nat.zero_le _, rfl, by rw [List.take_zero, putAll_nil]; exact t6, ho6⟩
  case round =>
    replace ho6 := Lib.hid ho6
    clear t6
    obtain ⟨k, hk, rfl, tr, hor⟩ := hrel
    by_cases hlt : k < m
    · obtain ⟨g2, off, rfl, hcap, d0⟩ := own_at ho6.out hmm.out hor hlt
      have hlt' : (k : Int) < (m : Int) := by omega
      have hx := h64.out k hlt
      have hs := Lib.hid (hsn.out k hlt)
      have hnw := hnew.out k hlt
      generalize L.getD k default = x at *
      have hO := Lib.hid (ownerO tr hx)
      rw [ownG_none hnw] at hO
      have hLk := Lib.hid (lockK tr hor hM6 hx hb.out (by omega) (.inl hnw))
      rw [putAll_snoc, ← hs.out] at hLk
      clear tr hor hnw hx
      go_wp2_with fail
      refine hO.out.mono ?_
      clear hO
      rintro e w7 ⟨rfl, rfl⟩
      go_wp2_with fail
      refine hLk.out.mono ?_
      clear hLk
      rintro e w8 ⟨rfl, t8, ho8⟩
      go_wp2_with fail
      go_roundw
      case rel => exact ⟨k + 1, by omega, by go_num, t8, ho8⟩
      case measure => simp [intOf]; omega
    · obtain rfl : k = m := by omega
      have hBr := tr.bel
      clear tr
      go_wp2_with fail
      go_ret
      exact ⟨rfl, hBr⟩
end Go.Proofs.Ytibhahbimoiaaaa
