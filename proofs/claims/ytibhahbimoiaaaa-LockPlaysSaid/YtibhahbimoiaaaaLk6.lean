/-
  Layer 18 (lock): the code's New, Lock, Owner.
-/
import Derived.Test.YtibhahbimoiaaaaLk5
set_option linter.unusedVariables false
set_option linter.unusedSimpArgs false
namespace Go.Proofs.Ytibhahbimoiaaaa
open Go.RowKit Go.ChangeShapes Go.WideShapes Go.Deep Go.Maps

def lockG (g : Gx) (k l : Int) : Gx := if g k = none ∨ g k = some l then putG g k l else g
def freeB (g : Gx) (k l : Int) : Bool := decide (g k = none ∨ g k = some l)
def ownG (g : Gx) (k : Int) : Int := match g k with
  | some l => l
  | none => -1
theorem lock_free {g : Gx} {k l : Int} (h : g k = none ∨ g k = some l) : freeB g k l = true ∧ lockG g k l = putG g k l := ⟨decide_eq_true h, if_pos h⟩
theorem lock_not {g : Gx} {k l : Int} (h : ¬ (g k = none ∨ g k = some l)) : freeB g k l = false ∧ lockG g k l = g := ⟨decide_eq_false h, if_neg h⟩

set_option maxHeartbeats 1000000 in
theorem New_any (w : World) : Calls Try.prog 30 #[] w fun e w' => e = .returned (.pointer (some ⟨w.heap.size + 1, 0, none⟩)) ∧ Tab w' (w.heap.size + 1) w.heap.size 0 (fun _ => none) ∧ Below w.heap.size w w' := by
  have hmm := @run_makeMap Try.prog
  go_enter Try.func30, Try.ntmps30
  go_wp2_with fail
  go_ret
  have ho := World.ownsMap_made (H := Unit) w Try.prog 3 (plainElem (H := Unit) Try.prog 3)
  have hcell := cell_one_new (w.alloc (.map #[] 0)) (.map (some w.heap.size)) 81 0 _ rfl
  rw [add_plain, World.size_alloc] at hcell
  have hB : Below w.heap.size w ((w.alloc (.map #[] 0)).alloc (.cells #[.map (some w.heap.size)] (81 : Nat))) := ((Below.refl _ _).alloc (Nat.le_refl _) _).alloc (by rw [World.size_alloc]; omega) _
  exact ⟨rfl, ⟨hcell, _, ho.alloc _, Pic.nil⟩, hB⟩

set_option maxHeartbeats 1000000 in
theorem Lock_any (B M n : Nat) (g : Gx) (key lane : Int) (w : World) (ht : Tab w B M n g) (hk : I64 key) (hl : I64 lane) (hn : n < maxLen) :
    Calls Try.prog 31 #[.pointer (some ⟨B, 0, none⟩), .int .i64 key, .int .i64 lane] w fun e w' => e = .returned (.bool (freeB g key lane)) ∧ Tab w' B M (n + 1) (lockG g key lane) ∧ w.grownBy w' (some M) := by
  obtain ⟨c, hlook, hc⟩ := ht.look hk
  have c0 := ht.cell
  obtain ⟨w', hput, ht', hg'⟩ := ht.put hk hl hn
  replace ht := Lib.hid ht
  replace ht' := Lib.hid ht'
  replace hg' := Lib.hid hg'
  clear hk hl hn
  cases hgk : g key with
  | none =>
    rw [hgk] at hlook
    replace hlook : (Instr.lookup 79 (.map (some M)) (.int .i64 key) true).run Try.prog w = .ok (.tuple #[.int .i64 c, .bool false]) w := hlook
    have hR := Lib.hid (lock_free (g := g) (k := key) (l := lane) (.inl hgk))
    clear hc hgk
    go_enter Try.func31, Try.ntmps31
    go_wp2_with fail
    go_ret
    exact ⟨by rw [hR.out.1]; rfl, by rw [hR.out.2]; exact ht'.out, hg'.out⟩
  | some c' =>
    rw [hgk] at hlook
    obtain rfl := hc c' hgk
    replace hlook : (Instr.lookup 79 (.map (some M)) (.int .i64 key) true).run Try.prog w = .ok (.tuple #[.int .i64 c, .bool true]) w := hlook
    clear hc
    by_cases q : c = lane
    · subst q
      have hR := Lib.hid (lock_free (g := g) (k := key) (l := c) (.inr hgk))
      have t1 : (c != c) = false := by simp
      clear hgk
      go_enter Try.func31, Try.ntmps31
      go_wp2_with fail
      go_ret
      exact ⟨by rw [hR.out.1]; rfl, by rw [hR.out.2]; exact ht'.out, hg'.out⟩
    · have hR := Lib.hid (lock_not (g := g) (k := key) (l := lane) (by rw [hgk]; simpa using q))
      have t1 : (c != lane) = true := by rw [bne_iff_ne]; exact q
      clear hgk hput
      go_enter Try.func31, Try.ntmps31
      go_wp2_with fail
      go_ret
      exact ⟨by rw [hR.out.1]; rfl, by rw [hR.out.2]; exact ht.out.mono (Nat.le_succ _), ⟨rfl, rfl, rfl, Nat.le_refl _, fun _ _ _ => rfl⟩⟩

set_option maxHeartbeats 1000000 in
theorem Owner_any (B M n : Nat) (g : Gx) (key : Int) (w : World) (ht : Tab w B M n g) (hk : I64 key) :
    Calls Try.prog 35 #[.pointer (some ⟨B, 0, none⟩), .int .i64 key] w fun e w' => e = .returned (.int .i64 (ownG g key)) ∧ w' = w := by
  obtain ⟨c, hlook, hc⟩ := ht.look hk
  have c0 := ht.cell
  clear ht hk
  cases hgk : g key with
  | none =>
    rw [hgk] at hlook
    replace hlook : (Instr.lookup 79 (.map (some M)) (.int .i64 key) true).run Try.prog w = .ok (.tuple #[.int .i64 c, .bool false]) w := hlook
    have hR := Lib.hid (show ownG g key = -1 from by unfold ownG; rw [hgk])
    clear hc hgk
    go_enter Try.func35, Try.ntmps35
    go_wp2_with fail
    go_ret
    exact ⟨by rw [hR.out]; rfl, rfl⟩
  | some c' =>
    rw [hgk] at hlook
    obtain rfl := hc c' hgk
    replace hlook : (Instr.lookup 79 (.map (some M)) (.int .i64 key) true).run Try.prog w = .ok (.tuple #[.int .i64 c, .bool true]) w := hlook
    have hR := Lib.hid (show ownG g key = c from by unfold ownG; rw [hgk])
    clear hc hgk
    go_enter Try.func35, Try.ntmps35
    go_wp2_with fail
    go_ret
    exact ⟨by rw [hR.out]; rfl, rfl⟩
end Go.Proofs.Ytibhahbimoiaaaa
