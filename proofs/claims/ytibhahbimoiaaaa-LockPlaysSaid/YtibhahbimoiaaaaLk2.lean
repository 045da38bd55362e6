/-
  Layer 18 (lock): the document's Owner.
-/
import Derived.Test.YtibhahbimoiaaaaLk1
set_option linter.unusedVariables false
set_option linter.unusedSimpArgs false
namespace Go.Proofs.Ytibhahbimoiaaaa
open Go.RowKit Go.ChangeShapes Go.WideShapes Go.Deep

/-- the owner of a key, or -1 -/
def ownL : List Px → Int → Int
  | [], _ => -1
  | p :: T, key => if p.1 = key then p.2 else ownL T key
theorem ownL_hit : ∀ {T : List Px} {key : Int} {k : Nat}, k < T.length → (T.getD k default).1 = key → (∀ j, j < k → (T.getD j default).1 ≠ key) → ownL T key = (T.getD k default).2
  | [], _, k, h, _, _ => by simp at h
  | p :: T, key, 0, _, h, _ => if_pos h
  | p :: T, key, k + 1, hk, h, hn => by
    have h0 : p.1 ≠ key := hn 0 (by omega)
    show (if p.1 = key then p.2 else ownL T key) = _
    rw [if_neg h0]
    exact ownL_hit (T := T) (by simpa using hk) h (fun j hj => hn (j + 1) (by omega))
theorem ownL_miss : ∀ {T : List Px} {key : Int}, (∀ j, j < T.length → (T.getD j default).1 ≠ key) → ownL T key = -1
  | [], _, _ => rfl
  | p :: T, key, hn => by
    have h0 : p.1 ≠ key := hn 0 (by simp)
    show (if p.1 = key then p.2 else ownL T key) = _
    rw [if_neg h0]
    exact ownL_miss (fun j hj => hn (j + 1) (by simpa using hj))
set_option maxHeartbeats 1000000 in
theorem refOwner_any (B : Nat) (v : Value) (T : List Px) (key : Int) (w : World) (hlen : T.length ≤ 9223372036854775807) (hc : w.cell? ⟨B, 0, none⟩ = some v) (hv : EL 2 pE w v T) :
    Calls Try.prog 36 #[.pointer (some ⟨B, 0, none⟩), .int .i64 key] w fun e w' => e = .returned (.int .i64 (ownL T key)) ∧ Below w.heap.size w w' := by
  obtain ⟨n, hn⟩ : ∃ n, T.length = n := ⟨_, rfl⟩
  obtain ⟨A, cap, rfl, hC⟩ := hv.form hn
  have hM := Lib.hid (fun (h : ∀ j, j < n → (T.getD j default).1 ≠ key) => ownL_miss (T := T) (key := key) (fun j hj => h j (by omega)))
  have hH := Lib.hid (fun k (h : k < n) e hne => ownL_hit (T := T) (key := key) (k := k) (by omega) e hne)
  replace hC := Lib.hid hC
  have hlen' : n ≤ 9223372036854775807 := by omega
  clear hlen hv
  replace hn := Lib.hid hn
  go_enter Try.func36, Try.ntmps36
  go_wp2_with fail
  go_loopw [5] (fun i wr => ∃ k : Nat, k ≤ n ∧ i = .int .i64 k ∧ Hid (∀ j, j < k → (T.getD j default).1 ≠ key) ∧ Below w.heap.size w wr) (fun i _ => n + 1 - (intOf i).toNat)
  case atStart => exact ⟨0, Nat.zero_le _, rfl, (fun j hj => by omega), Below.refl _ _⟩
  case round =>
    obtain ⟨k, hk, rfl, hF, hB⟩ := hrel
    have hcr := cellK hc hB
    by_cases hlt : k < n
    · obtain ⟨g, off, rfl, hcap, _, hg, hcl⟩ := hC.out wr k hB hlt
      have c0 := hcl 0 (by omega)
      have c1 := hcl 1 (by omega)
      clear hcl
      rw [Nat.add_zero] at c0
      have hlt' : (k : Int) < (n : Int) := by omega
      have hH2 := Lib.hid (hH.out k hlt)
      have hF2 := Lib.hid (fun (h : (T.getD k default).1 ≠ key) j (hj : j < k + 1) => show (T.getD j default).1 ≠ key from by
        by_cases e : j = k
        · subst e; exact h
        · exact hF.out j (by omega))
      generalize T.getD k default = o at *
      obtain ⟨x, a⟩ := o
      replace c0 : wr.cell? ⟨g, off + k * 2, none⟩ = some (.int .i64 x) := c0
      replace c1 : wr.cell? ⟨g, off + k * 2 + 1, none⟩ = some (.int .i64 a) := c1
      by_cases q : x = key
      · subst q
        have hR := Lib.hid (hH2.out rfl hF.out)
        have t1 : (x == x) = true := by simp
        clear hH2 hF2
        go_wp2_with fail
        go_ret
        exact ⟨by rw [hR.out]; rfl, hB⟩
      · have hF3 := Lib.hid (hF2.out q)
        have t1 : (x == key) = false := by rw [beq_eq_false_iff_ne]; exact q
        clear hH2 hF2
        go_wp2_with fail
        go_roundw
        case rel => exact ⟨k + 1, by omega, by go_num, hF3.out, hB⟩
        case measure => simp [intOf]; omega
    · have hR := Lib.hid (hM.out (fun j hj => hF.out j (by omega)))
      obtain rfl : k = n := by omega
      go_wp2_with fail
      go_ret
      exact ⟨by rw [hR.out]; rfl, hB⟩
end Go.Proofs.Ytibhahbimoiaaaa
