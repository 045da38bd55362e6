/-
  The laws of package seal: SealParts.
-/
import Derived.Test.YthklgmpphfdfoaaSeal6
import Derived.Test.YthklgmpphfdfoaaRegX
set_option linter.unusedVariables false
namespace Go.Proofs.Ythklgmpphfdfoaa
open Go.RowKit

theorem more_parts (l : List Nat) (k : Nat) : moreN (moreN 0 (l.take k)) (l.drop k) = moreN 0 l := by
  unfold moreN
  have h := foldT_lt (l.take k) (4294967295 - 0) (by omega)
  have e : 4294967295 - (4294967295 - foldT (4294967295 - 0) (l.take k)) = foldT (4294967295 - 0) (l.take k) := by omega
  rw [e]
  congr 1
  unfold foldT
  rw [← List.foldl_append, List.take_append_drop]
theorem sl_sub {l : List Nat} {n g off cap : Nat} {w w1 : World} (hn : l.length = n) (hcap : n ≤ cap) (hg : g < w.heap.size) (hc : ∀ i, i < n → w.cell? ⟨g, off + i, none⟩ = some (.int .u64 (l.getD i 0 : Nat))) (hb : Below w.heap.size w w1) (k : Nat) (hk : k ≤ n) :
    SL w1 (.slice (some ⟨g, off, none⟩) k cap) (l.take k) ∧ SL w1 (.slice (if cap = k then some ⟨g, off, none⟩ else some ⟨g, off + k, none⟩) (n - k) (cap - k)) (l.drop k) := by
  constructor
  · have hlk : (l.take k).length = k := by simp; omega
    refine .inr ⟨g, off, cap, by rw [hlk], Nat.lt_of_lt_of_le hg hb.size, by omega, fun i hi => ?_⟩
    rw [(bcell hb).1 _ _ hg, hc i (by omega)]
    congr 3
    rw [List.getD_eq_getElem?_getD, List.getD_eq_getElem?_getD, List.getElem?_take, if_pos (by omega)]
  · by_cases hck : cap = k
    · have : l.drop k = [] := List.drop_of_length_le (by omega)
      rw [this, show n - k = 0 by omega]
      exact .inl ⟨rfl, _, _, rfl⟩
    rw [if_neg hck]
    have hlk : (l.drop k).length = n - k := by simp; omega
    refine .inr ⟨g, off + k, cap - k, by rw [hlk], Nat.lt_of_lt_of_le hg hb.size, by omega, fun i hi => ?_⟩
    rw [(bcell hb).1 _ _ hg, Nat.add_assoc, hc (k + i) (by omega)]
    congr 3
    rw [List.getD_eq_getElem?_getD, List.getD_eq_getElem?_getD, List.getElem?_drop]

set_option maxRecDepth 10000 in
set_option maxHeartbeats 2000000 in
theorem sealParts_in (x : Nat) (l : List Nat) (n g off cap : Nat) (w : World) (hx : x < 256) (hl : WL l) (hn : l.length = n) (hin : n ≤ 40) (hcap : n ≤ cap) (hg : g < w.heap.size) (hc : Hid (∀ i, i < n → w.cell? ⟨g, off + i, none⟩ = some (.int .u64 (l.getD i 0 : Nat)))) :
    Calls Try.prog 5 #[.slice (some ⟨g, off, none⟩) n cap, .int .u8 x] w fun e w' => e = .returned (.bool true) ∧ Below w.heap.size w w' := by
  obtain ⟨k, hk⟩ : ∃ k, k = x % (n + 1) := ⟨_, rfl⟩
  have hkn : k ≤ n := by rw [hk]; have := Nat.mod_lt x (show n + 1 > 0 by omega); omega
  have hS := Lib.hid (fun w1 (hb : Below w.heap.size w w1) => sl_sub hn hcap hg hc.out hb k hkn)
  have hM1 := Lib.hid (fun w1 (hb : Below w.heap.size w w1) => of_any _ (l.take k) w1 (fun y hy => hl y (List.mem_of_mem_take hy)) (by simp; omega) (hS.out w1 hb).1)
  have hM2 := Lib.hid (fun w1 (hb : Below w.heap.size w w1) => more_any (moreN 0 (l.take k)) _ (l.drop k) w1 (moreN_lt _ _) (fun y hy => hl y (List.mem_of_mem_drop hy)) (by simp; omega) (hS.out w1 hb).2)
  have hM3 := Lib.hid (fun w1 (hb : Below w.heap.size w w1) => of_any (.slice (some ⟨g, off, none⟩) n cap) l w1 hl (by omega) (by
    have := (sl_sub hn hcap hg hc.out hb n (Nat.le_refl _)).1
    rwa [List.take_of_length_le (by omega)] at this))
  rw [more_parts l k] at hM2
  generalize moreN 0 (l.take k) = y at *
  generalize moreN 0 l = z at *
  have e1 : ((z : Int) == (z : Int)) = true := by simp
  have hb : ¬ (40 : Int) < (n : Int) := by omega
  have hmod := Lib.hid (show ((x : Int) % ((n : Int) + 1)) = (k : Int) from by rw [hk]; simp)
  clear hk
  go_enter Try.func5, Try.ntmps5
  go_wp2_with fail
  refine (awake02 _).mono ?_
  rintro e w1 ⟨rfl, hb1⟩
  go_wp2_with fail
  simp only [hmod.out]
  have q1 : (k : Int) ≤ (n : Int) := by omega
  have q2 : (n : Int) ≤ (cap : Int) := by omega
  have q3 : (0 : Int) ≤ (k : Int) := by omega
  have q4 : (k : Int) ≤ (cap : Int) := by omega
  have hd1 : Below w.heap.size w w1.drew := hb1.drew
  refine wp_region_held_drew (S := (fun w' => Below w.heap.size w w')) (by kernel_rfl) ?_ (fun hHeld => ?_)
  · (try dsimp only)
    first | exact hd1 | exact Below.trans hHeld (hb.mono (Below.size hHeld))
  refine takeL 0 (v := ?_) rfl (by kernel_rfl) (by kernel_rfl) (by kernel_rfl) (fun _ _ _ h => h) (by rfl) (by assumption) ?_ ?_
  rotate_left
  · (intro w hSw; (try dsimp only at hSw); go_simp <;> with_reducible rfl)
  try simp only [Act.put, List.setIfInBounds_toArray, List.set_cons_zero, List.set_cons_succ]
  refine takeL 1 (v := ?_) rfl (by kernel_rfl) (by kernel_rfl) (by kernel_rfl) (fun _ _ _ h => h) (by rfl) (by assumption) ?_ ?_
  rotate_left
  · (intro w hSw; (try dsimp only at hSw); go_simp <;> with_reducible rfl)
  try simp only [Act.put, List.setIfInBounds_toArray, List.set_cons_zero, List.set_cons_succ]
  refine takeL 2 (v := ?_) rfl (by kernel_rfl) (by kernel_rfl) (by kernel_rfl) (fun _ _ _ h => h) (by rfl) (by assumption) ?_ ?_
  rotate_left
  · (intro w hSw; (try dsimp only at hSw); go_simp <;> with_reducible rfl)
  try simp only [Act.put, List.setIfInBounds_toArray, List.set_cons_zero, List.set_cons_succ]
  refine takeL 3 (v := ?_) rfl (by kernel_rfl) (by kernel_rfl) (by kernel_rfl) (fun _ _ _ h => h) (by rfl) (by assumption) ?_ ?_
  rotate_left
  · (intro w hSw; (try dsimp only at hSw); go_simp <;> with_reducible rfl)
  try simp only [Act.put, List.setIfInBounds_toArray, List.set_cons_zero, List.set_cons_succ]
  refine takeL 4 (v := ?_) rfl (by kernel_rfl) (by kernel_rfl) (by kernel_rfl) (fun _ _ _ h => h) (by rfl) (by assumption) ?_ ?_
  rotate_left
  · (intro w hSw; (try dsimp only at hSw); go_simp <;> with_reducible rfl)
  try simp only [Act.put, List.setIfInBounds_toArray, List.set_cons_zero, List.set_cons_succ]
  refine takeL 6 (v := ?_) rfl (by kernel_rfl) (by kernel_rfl) (by kernel_rfl) (fun _ _ _ h => h) (by rfl) (by assumption) ?_ ?_
  rotate_left
  · (intro w hSw; (try dsimp only at hSw); go_simp <;> with_reducible rfl)
  try simp only [Act.put, List.setIfInBounds_toArray, List.set_cons_zero, List.set_cons_succ]
  refine takeL 7 (v := ?_) rfl (by kernel_rfl) (by kernel_rfl) (by kernel_rfl) (fun _ _ _ h => h) (by rfl) (by assumption) ?_ ?_
  rotate_left
  · (intro w hSw; (try dsimp only at hSw); go_simp <;> with_reducible rfl)
  try simp only [Act.put, List.setIfInBounds_toArray, List.set_cons_zero, List.set_cons_succ]
  refine takeL 8 (v := ?_) rfl (by kernel_rfl) (by kernel_rfl) (by kernel_rfl) (fun _ _ _ h => h) (by rfl) (by assumption) ?_ ?_
  rotate_left
  · (intro w hSw; (try dsimp only at hSw); go_simp <;> with_reducible rfl)
  try simp only [Act.put, List.setIfInBounds_toArray, List.set_cons_zero, List.set_cons_succ]
  refine takeL 10 (v := ?_) rfl (by kernel_rfl) (by kernel_rfl) (by kernel_rfl) (fun _ _ _ h => h) (by rfl) (by assumption) ?_ ?_
  rotate_left
  · (intro w hSw; (try dsimp only at hSw); go_simp <;> with_reducible rfl)
  try simp only [Act.put, List.setIfInBounds_toArray, List.set_cons_zero, List.set_cons_succ]
  refine oneL 5 rfl (by kernel_rfl) (fun K hK => ?_)
  go_simp
  (go_at_call 16; (with_reducible refine (hM1.out _ hHeld).mono ?_); rintro e w8 ⟨rfl, hb⟩)
  refine hK.out _ _ ?_ (fun hHeld2 => ?_)
  · (try dsimp only)
    first | exact hd1 | exact Below.trans hHeld (hb.mono (Below.size hHeld))
  clear hK K hHeld
  have hHeld := hHeld2
  clear hHeld2
  try simp only [Act.put, List.setIfInBounds_toArray, List.set_cons_zero, List.set_cons_succ]
  refine oneL 9 rfl (by kernel_rfl) (fun K hK => ?_)
  go_simp
  (go_at_call 18; (with_reducible refine (hM2.out _ hHeld).mono ?_); rintro e w8 ⟨rfl, hb⟩)
  refine hK.out _ _ ?_ (fun hHeld2 => ?_)
  · (try dsimp only)
    first | exact hd1 | exact Below.trans hHeld (hb.mono (Below.size hHeld))
  clear hK K hHeld
  have hHeld := hHeld2
  clear hHeld2
  try simp only [Act.put, List.setIfInBounds_toArray, List.set_cons_zero, List.set_cons_succ]
  refine oneL 11 rfl (by kernel_rfl) (fun K hK => ?_)
  go_simp
  (go_at_call 16; (with_reducible refine (hM3.out _ hHeld).mono ?_); rintro e w8 ⟨rfl, hb⟩)
  refine hK.out _ _ ?_ (fun hHeld2 => ?_)
  · (try dsimp only)
    first | exact hd1 | exact Below.trans hHeld (hb.mono (Below.size hHeld))
  clear hK K hHeld
  have hHeld := hHeld2
  clear hHeld2
  try simp only [Act.put, List.setIfInBounds_toArray, List.set_cons_zero, List.set_cons_succ]
  refine takeL 12 (v := ?_) rfl (by kernel_rfl) (by kernel_rfl) (by kernel_rfl) (fun _ _ _ h => h) (by rfl) (by assumption) ?_ ?_
  rotate_left
  · (intro w hSw; (try dsimp only at hSw); go_simp <;> with_reducible rfl)
  try simp only [Act.put, List.setIfInBounds_toArray, List.set_cons_zero, List.set_cons_succ]
  refine takeL 13 (v := ?_) rfl (by kernel_rfl) (by kernel_rfl) (by kernel_rfl) (fun _ _ _ h => h) (by rfl) (by assumption) ?_ ?_
  rotate_left
  · (intro w hSw; (try dsimp only at hSw); go_simp <;> with_reducible rfl)
  try simp only [Act.put, List.setIfInBounds_toArray, List.set_cons_zero, List.set_cons_succ]
  refine takeL 14 (v := ?_) rfl (by kernel_rfl) (by kernel_rfl) (by kernel_rfl) (fun _ _ _ h => h) (by rfl) (by assumption) ?_ ?_
  rotate_left
  · (intro w hSw; (try dsimp only at hSw); go_simp <;> with_reducible rfl)
  try simp only [Act.put, List.setIfInBounds_toArray, List.set_cons_zero, List.set_cons_succ]
  refine wpAnyH_done (by kernel_rfl) ?_ _
  all_goals (try go_wp2_with fail)
  all_goals
    go_ret
    exact ⟨rfl, by assumption⟩

set_option maxRecDepth 10000 in
set_option maxHeartbeats 2000000 in
theorem sealParts_nil (x : Nat) (sp : Option Addr) (cap : Nat) (w : World) (hx : x < 256) :
    Calls Try.prog 5 #[.slice sp 0 cap, .int .u8 x] w fun e w' => e = .returned (.bool true) ∧ Below w.heap.size w w' := by
  have hO := Lib.hid (fun sp cap w1 => show Calls Try.prog 16 #[.slice sp 0 cap] w1 fun e w' => e = .returned (.int .u32 0) ∧ Below w1.heap.size w1 w' from by
    have := of_any (.slice sp 0 cap) [] w1 WL0 (by simp) (.inl ⟨rfl, _, _, rfl⟩)
    rw [show moreN 0 [] = 0 by decide +kernel] at this
    exact this)
  have hM := Lib.hid (fun sp cap w1 => show Calls Try.prog 18 #[.int .u32 0, .slice sp 0 cap] w1 fun e w' => e = .returned (.int .u32 0) ∧ Below w1.heap.size w1 w' from by
    have := more_any 0 (.slice sp 0 cap) [] w1 (by omega) WL0 (by simp) (.inl ⟨rfl, _, _, rfl⟩)
    rw [show moreN 0 [] = 0 by decide +kernel] at this
    exact this)
  have q2 : (0 : Int) ≤ (cap : Int) := by omega
  go_enter Try.func5, Try.ntmps5
  go_wp2_with fail
  refine (awake02 _).mono ?_
  rintro e w1 ⟨rfl, hb1⟩
  have hd1 : Below w.heap.size w w1.drew := hb1.drew
  cases sp
  all_goals go_wp2_with fail
  all_goals
    refine wp_region_held_drew (S := (fun w' => Below w.heap.size w w')) (by kernel_rfl) ?_ (fun hHeld => ?_)
    · (try dsimp only)
      first | exact hd1 | exact Below.trans hHeld (hb.mono (Below.size hHeld))
    refine takeL 0 (v := ?_) rfl (by kernel_rfl) (by kernel_rfl) (by kernel_rfl) (fun _ _ _ h => h) (by rfl) (by assumption) ?_ ?_
    rotate_left
    · (intro w hSw; (try dsimp only at hSw); go_simp <;> with_reducible rfl)
    try simp only [Act.put, List.setIfInBounds_toArray, List.set_cons_zero, List.set_cons_succ]
    refine takeL 1 (v := ?_) rfl (by kernel_rfl) (by kernel_rfl) (by kernel_rfl) (fun _ _ _ h => h) (by rfl) (by assumption) ?_ ?_
    rotate_left
    · (intro w hSw; (try dsimp only at hSw); go_simp <;> with_reducible rfl)
    try simp only [Act.put, List.setIfInBounds_toArray, List.set_cons_zero, List.set_cons_succ]
    refine takeL 2 (v := ?_) rfl (by kernel_rfl) (by kernel_rfl) (by kernel_rfl) (fun _ _ _ h => h) (by rfl) (by assumption) ?_ ?_
    rotate_left
    · (intro w hSw; (try dsimp only at hSw); go_simp <;> with_reducible rfl)
    try simp only [Act.put, List.setIfInBounds_toArray, List.set_cons_zero, List.set_cons_succ]
    refine takeL 3 (v := ?_) rfl (by kernel_rfl) (by kernel_rfl) (by kernel_rfl) (fun _ _ _ h => h) (by rfl) (by assumption) ?_ ?_
    rotate_left
    · (intro w hSw; (try dsimp only at hSw); go_simp <;> with_reducible rfl)
    try simp only [Act.put, List.setIfInBounds_toArray, List.set_cons_zero, List.set_cons_succ]
    refine takeL 4 (v := ?_) rfl (by kernel_rfl) (by kernel_rfl) (by kernel_rfl) (fun _ _ _ h => h) (by rfl) (by assumption) ?_ ?_
    rotate_left
    · (intro w hSw; (try dsimp only at hSw); go_simp <;> with_reducible rfl)
    try simp only [Act.put, List.setIfInBounds_toArray, List.set_cons_zero, List.set_cons_succ]
    refine takeL 6 (v := ?_) rfl (by kernel_rfl) (by kernel_rfl) (by kernel_rfl) (fun _ _ _ h => h) (by rfl) (by assumption) ?_ ?_
    rotate_left
    · (intro w hSw; (try dsimp only at hSw); go_simp <;> with_reducible rfl)
    try simp only [Act.put, List.setIfInBounds_toArray, List.set_cons_zero, List.set_cons_succ]
    refine takeL 7 (v := ?_) rfl (by kernel_rfl) (by kernel_rfl) (by kernel_rfl) (fun _ _ _ h => h) (by rfl) (by assumption) ?_ ?_
    rotate_left
    · (intro w hSw; (try dsimp only at hSw); go_simp <;> with_reducible rfl)
    try simp only [Act.put, List.setIfInBounds_toArray, List.set_cons_zero, List.set_cons_succ]
    refine takeL 8 (v := ?_) rfl (by kernel_rfl) (by kernel_rfl) (by kernel_rfl) (fun _ _ _ h => h) (by rfl) (by assumption) ?_ ?_
    rotate_left
    · (intro w hSw; (try dsimp only at hSw); go_simp <;> with_reducible rfl)
    try simp only [Act.put, List.setIfInBounds_toArray, List.set_cons_zero, List.set_cons_succ]
    refine takeL 10 (v := ?_) rfl (by kernel_rfl) (by kernel_rfl) (by kernel_rfl) (fun _ _ _ h => h) (by rfl) (by assumption) ?_ ?_
    rotate_left
    · (intro w hSw; (try dsimp only at hSw); go_simp <;> with_reducible rfl)
    try simp only [Act.put, List.setIfInBounds_toArray, List.set_cons_zero, List.set_cons_succ]
    refine oneL 5 rfl (by kernel_rfl) (fun K hK => ?_)
    go_simp
    (go_at_call 16; (with_reducible refine (hO.out _ _ _).mono ?_); rintro e w8 ⟨rfl, hb⟩)
    refine hK.out _ _ ?_ (fun hHeld2 => ?_)
    · (try dsimp only)
      first | exact hd1 | exact Below.trans hHeld (hb.mono (Below.size hHeld))
    clear hK K hHeld
    have hHeld := hHeld2
    clear hHeld2
    try simp only [Act.put, List.setIfInBounds_toArray, List.set_cons_zero, List.set_cons_succ]
    refine oneL 9 rfl (by kernel_rfl) (fun K hK => ?_)
    go_simp
    (go_at_call 18; (with_reducible refine (hM.out _ _ _).mono ?_); rintro e w8 ⟨rfl, hb⟩)
    refine hK.out _ _ ?_ (fun hHeld2 => ?_)
    · (try dsimp only)
      first | exact hd1 | exact Below.trans hHeld (hb.mono (Below.size hHeld))
    clear hK K hHeld
    have hHeld := hHeld2
    clear hHeld2
    try simp only [Act.put, List.setIfInBounds_toArray, List.set_cons_zero, List.set_cons_succ]
    refine oneL 11 rfl (by kernel_rfl) (fun K hK => ?_)
    go_simp
    (go_at_call 16; (with_reducible refine (hO.out _ _ _).mono ?_); rintro e w8 ⟨rfl, hb⟩)
    refine hK.out _ _ ?_ (fun hHeld2 => ?_)
    · (try dsimp only)
      first | exact hd1 | exact Below.trans hHeld (hb.mono (Below.size hHeld))
    clear hK K hHeld
    have hHeld := hHeld2
    clear hHeld2
    try simp only [Act.put, List.setIfInBounds_toArray, List.set_cons_zero, List.set_cons_succ]
    refine takeL 12 (v := ?_) rfl (by kernel_rfl) (by kernel_rfl) (by kernel_rfl) (fun _ _ _ h => h) (by rfl) (by assumption) ?_ ?_
    rotate_left
    · (intro w hSw; (try dsimp only at hSw); go_simp <;> with_reducible rfl)
    try simp only [Act.put, List.setIfInBounds_toArray, List.set_cons_zero, List.set_cons_succ]
    refine takeL 13 (v := ?_) rfl (by kernel_rfl) (by kernel_rfl) (by kernel_rfl) (fun _ _ _ h => h) (by rfl) (by assumption) ?_ ?_
    rotate_left
    · (intro w hSw; (try dsimp only at hSw); go_simp <;> with_reducible rfl)
    try simp only [Act.put, List.setIfInBounds_toArray, List.set_cons_zero, List.set_cons_succ]
    refine takeL 14 (v := ?_) rfl (by kernel_rfl) (by kernel_rfl) (by kernel_rfl) (fun _ _ _ h => h) (by rfl) (by assumption) ?_ ?_
    rotate_left
    · (intro w hSw; (try dsimp only at hSw); go_simp <;> with_reducible rfl)
    try simp only [Act.put, List.setIfInBounds_toArray, List.set_cons_zero, List.set_cons_succ]
    refine wpAnyH_done (by kernel_rfl) ?_ _
  all_goals (try go_wp2_with fail)
  all_goals
    go_ret
    exact ⟨rfl, by assumption⟩
set_option maxHeartbeats 1000000 in
theorem sealParts_big (x : Nat) (n : Nat) (sp : Option Addr) (cap : Nat) (w : World) (hbig : 40 < n) :
    Calls Try.prog 5 #[.slice sp n cap, .int .u8 x] w fun e w' => e = .returned (.bool true) ∧ Below w.heap.size w w' := by
  have hb : (40 : Int) < (n : Int) := by omega
  go_enter Try.func5, Try.ntmps5
  go_wp2_with fail
  refine (awake02 _).mono ?_
  rintro e w1 ⟨rfl, hb1⟩
  go_wp2_with fail
  go_ret
  exact ⟨rfl, hb1⟩
theorem sealParts (x : Nat) (l : List Nat) (v : Value) (w : World) (hx : x < 256) (hl : WL l) (hv : SL w v l) :
    Calls Try.prog 5 #[v, .int .u8 x] w fun e w' => e = .returned (.bool true) ∧ Below w.heap.size w w' := by
  rcases hv with ⟨rfl, sp, cap, rfl⟩ | ⟨g, off, cap, rfl, hg, hcap, hc⟩
  · exact sealParts_nil x sp cap w hx
  · by_cases h : 40 < l.length
    · exact sealParts_big x l.length _ cap w h
    · exact sealParts_in x l l.length g off cap w hx hl rfl (by omega) hcap hg (Lib.hid hc)
end Go.Proofs.Ythklgmpphfdfoaa
