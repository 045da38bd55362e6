/-
  Part of the proof of JournalSteps.
-/
import Derived.Test.YtkkbngcgphlikaaGreatDoorJt10
import Derived.Test.YtkkbngcgphlikaaGreatDoorJt9
import Derived.Test.YtkkbngcgphlikaaGreatDoorRows
import Derived.LoopIn
import Derived.LoopNIn
import Derived.Shelf.RegionOpen
import Derived.Test.YtkkbngcgphlikaaGreatDoorJt0
set_option maxRecDepth 10000
set_option maxHeartbeats 1000000
set_option linter.unusedVariables false
set_option linter.unusedSimpArgs false
section
namespace Go.Proofs.YtkkbngcgphlikaaGreatDoor
open Go.RowKit Go.ChangeShapes Go.WideShapes Go.Deep Go.Shelf
attribute [local go_sem] Oper.semAt_some
abbrev Pe := Int × List Nat
abbrev Ev := Ex × Bool
def pl (x : Ev) : Option Pe := if x.2 then some (x.1.1, x.1.2.2) else none
def peN (ws : List Nat) : Pe := ((atN ws : Nat), (ws.drop 1).take (manyN ws))
def evsF (gn : Nat) : Nat → List Nat → List (Option Pe)
 | _, [] => []
 | 0, _ :: _ => []
 | f + 1, w :: ws => if tkB gn (w :: ws) then some (peN (w :: ws)) :: evsF gn f ((w :: ws).drop (manyN (w :: ws) + 2)) else [none]
theorem evsF_more (gn : Nat) : ∀ (f f' : Nat) (ws : List Nat), ws.length ≤ f → ws.length ≤ f' → evsF gn f ws = evsF gn f' ws
 | _, _, [], _, _ => by unfold evsF; rfl
 | 0, _, _ :: _, h, _ => by simp at h
 | _, 0, _ :: _, _, h => by simp at h
 | f + 1, f' + 1, w :: ws, h, h' => by
   unfold evsF
   simp only [List.length_cons] at h h'
   rw [evsF_more gn f f' _ (by rw [List.length_drop, List.length_cons]; omega) (by rw [List.length_drop, List.length_cons]; omega)]
def evs (gn : Nat) (ws : List Nat) : List (Option Pe) := evsF gn ws.length ws
theorem evs_t {gn : Nat} {ws : List Nat} (h0 : 0 < ws.length) (h : tkB gn ws = true) : evs gn ws = some (peN ws) :: evs gn (ws.drop (manyN ws + 2)) := by
 cases ws with
 | nil => simp at h0
 | cons w ws =>
   unfold evs
   rw [List.length_cons]
   conv => lhs; unfold evsF
   rw [if_pos h]
   rw [evsF_more gn ws.length _ ((w :: ws).drop (manyN (w :: ws) + 2)) (by rw [List.length_drop, List.length_cons]; omega) (Nat.le_refl _)]
def OwnAt (w : World) (Bo b : Nat) : Prop := ∃ v, w.cell? ⟨Bo, 0, none⟩ = some v ∧ v.ownBlock = some b
def OwnLt (w : World) (Bo : Nat) : Prop := ∀ b, OwnAt w Bo b → b < w.heap.size
theorem ownAt_keep {w w1 : World} {Bo b : Nat} (hb : Below w.heap.size w w1) (hl : Bo < w.heap.size) : OwnAt w1 Bo b ↔ OwnAt w Bo b := by
 unfold OwnAt
 rw [(bcell hb).1 Bo 0 hl]
def Kp (n₀ Bo : Nat) (X Y : World) : Prop := Below n₀ X Y ∧ (∀ b cs t f, X.heap[b]? = some (.cells cs t f) → b ≠ Bo → ¬ OwnAt X Bo b → Y.heap[b]? = X.heap[b]?) ∧ (∀ b, b < X.heap.size → OwnAt Y Bo b → OwnAt X Bo b) ∧ (OwnLt X Bo → OwnLt Y Bo)
end Go.Proofs.YtkkbngcgphlikaaGreatDoor
end
section
namespace Go.Proofs.YtkkbngcgphlikaaGreatDoor
open Go.RowKit
def gOk (W L : Int) : Bool := decide (1 ≤ L ∧ L ≤ 64 ∧ W ≤ 65536 ∧ 43 + 73 * L ≤ W)
def gN (W L : Int) : Int := (W - (10 + 73 * L)) / 33
theorem gOk_t {W L : Int} (h : gOk W L = true) : 1 ≤ L ∧ L ≤ 64 ∧ W ≤ 65536 ∧ 43 + 73 * L ≤ W := of_decide_eq_true h
theorem gOk_f {W L : Int} (h : gOk W L = false) : ¬ (1 ≤ L ∧ L ≤ 64 ∧ W ≤ 65536 ∧ 43 + 73 * L ≤ W) := of_decide_eq_false h
theorem gN_bd {W L : Int} (h : gOk W L = true) : 1 ≤ gN W L ∧ gN W L ≤ 2000 ∧ 33 * gN W L ≤ W - (10 + 73 * L) ∧ W - (10 + 73 * L) ≤ 33 * gN W L + 32 := by
 have := gOk_t h
 unfold gN; omega
theorem tdiv33_bd (x : Int) (h0 : -100000 ≤ x) (h1 : x ≤ 100000) : -100000 ≤ x.tdiv 33 ∧ x.tdiv 33 ≤ 100000 ∧ (33 ≤ x → 1 ≤ x.tdiv 33) ∧ (x < 33 → x.tdiv 33 < 1) := by
 rcases Int.le_total 0 x with h | h
 ·rw [Int.tdiv_eq_ediv_of_nonneg h]; omega
 obtain ⟨y, rfl⟩ : ∃ y, x = -y := ⟨-x, by omega⟩
 rw [Int.neg_tdiv, Int.tdiv_eq_ediv_of_nonneg (by omega)]; omega
theorem lane_any (W L i : Int) (w : World) (h1 : 1 ≤ L) (h2 : L ≤ 64) (h3 : 0 ≤ i) (h4 : i ≤ 64) :
 Calls Tryz.prog 160 #[.agg #[.int .i64 W, .int .i64 L], .int .i64 i] w fun e w' => e = .returned (.int .i64 (10 + L + i * 72)) ∧ Below w.heap.size w w' := by
 go_enter Tryz.func160, Tryz.ntmps160
 go_wp2
 go_ret
 exact ⟨rfl, by go_grown⟩
theorem table_any (W L : Int) (w : World) (h1 : 1 ≤ L) (h2 : L ≤ 64) :
 Calls Tryz.prog 132 #[.agg #[.int .i64 W, .int .i64 L]] w fun e w' => e = .returned (.int .i64 (10 + 73 * L)) ∧ Below w.heap.size w w' := by
 go_enter Tryz.func132, Tryz.ntmps132
 go_wp2_with fail
 refine (lane_any W L L _ h1 h2 (by omega) (by omega)).mono ?_
 rintro e w1 ⟨rfl, hb⟩
 go_wp2_with fail
 go_ret
 exact ⟨ret_i (by omega), (bZ _ _).trans (hb.mono (by simp))⟩
theorem room_any (W L : Int) (w : World) (h1 : 1 ≤ L) (h2 : L ≤ 64) (h3 : 1 ≤ W) (h4 : W ≤ 65536) :
 Calls Tryz.prog 133 #[.agg #[.int .i64 W, .int .i64 L]] w fun e w' => e = .returned (.int .i64 ((W - (10 + 73 * L)).tdiv 33)) ∧ Below w.heap.size w w' := by
 go_enter Tryz.func133, Tryz.ntmps133
 go_wp2
 go_region_held3 (fun w' => w'.cell? ⟨w.heap.size, 0, none⟩ = some (.int .i64 W) ∧ w'.cell? ⟨w.heap.size, 1, none⟩ = some (.int .i64 L) ∧ w.heap.size < w'.heap.size ∧ Below w.heap.size w w')
  (((try go_split_ands); refine ⟨?_, ?_, ?_, ?_⟩ <;> first
    | (rw [hb.cell (by assumption)]; assumption) | assumption | (have := hb.size; omega) | (exact Below.trans (by assumption) (hb.mono (Nat.le_of_lt (by assumption))))
    | (go_keep; done) | (go_grown; done)))
  ((go_at_call 132; refine (table_any W L _ h1 h2).mono ?_; rintro e w6 ⟨rfl, hb⟩))
 go_wp2
 go_ret
 go_split_ands
 refine ⟨ret_i ?_, by assumption⟩
 have hb := tdiv33_bd (W - (10 + 73 * L)) (by omega) (by omega)
 rw [IntWalk.i64_in (W - (10 + 73 * L)) ⟨by omega, by omega⟩, IntWalk.i64_in _ ⟨by omega, by omega⟩]
theorem right_t (W L : Int) (w : World) (h : gOk W L = true) :
 Calls Tryz.prog 131 #[.agg #[.int .i64 W, .int .i64 L]] w fun e w' => e = .returned (.bool true) ∧ Below w.heap.size w w' := by
 obtain ⟨h1, h2, h3, h4⟩ := gOk_t h
 clear h
 have hd : 1 ≤ (W - (10 + 73 * L)).tdiv 33 := (tdiv33_bd (W - (10 + 73 * L)) (by omega) (by omega)).2.2.1 (by omega)
 go_enter Tryz.func131, Tryz.ntmps131
 go_wp2_with fail
 refine (room_any W L _ h1 h2 (by omega) h3).mono ?_
 rintro e w1 ⟨rfl, hb⟩
 go_wp2_with fail
 go_ret
 exact ⟨rfl, (bZ _ _).trans (hb.mono (by simp))⟩
theorem right_f (W L : Int) (w : World) (h : gOk W L = false) :
 Calls Tryz.prog 131 #[.agg #[.int .i64 W, .int .i64 L]] w fun e w' => e = .returned (.bool false) ∧ Below w.heap.size w w' := by
 have h1 := gOk_f h
 clear h
 by_cases a1 : L < 1
 ·clear h1
  go_enter Tryz.func131, Tryz.ntmps131
  go_wp2
  go_ret
  exact ⟨rfl, by go_grown⟩
 by_cases a2 : 64 < L
 ·clear h1
  go_enter Tryz.func131, Tryz.ntmps131
  go_wp2
  go_ret
  exact ⟨rfl, by go_grown⟩
 by_cases a3 : W < 1
 ·clear h1
  go_enter Tryz.func131, Tryz.ntmps131
  go_wp2
  go_ret
  exact ⟨rfl, by go_grown⟩
 by_cases a4 : 65536 < W
 ·clear h1
  go_enter Tryz.func131, Tryz.ntmps131
  go_wp2
  go_ret
  exact ⟨rfl, by go_grown⟩
 have hd : (W - (10 + 73 * L)).tdiv 33 < 1 := (tdiv33_bd (W - (10 + 73 * L)) (by omega) (by omega)).2.2.2 (by omega)
 clear h1
 go_enter Tryz.func131, Tryz.ntmps131
 go_wp2_with fail
 refine (room_any W L _ (by omega) (by omega) (by omega) (by omega)).mono ?_
 rintro e w1 ⟨rfl, hb⟩
 go_wp2_with fail
 go_ret
 exact ⟨ret_b (by simp; omega), (bZ _ _).trans (hb.mono (by simp))⟩
end Go.Proofs.YtkkbngcgphlikaaGreatDoor
end
section
set_option maxRecDepth 100000
namespace Go.Proofs.YtkkbngcgphlikaaGreatDoor
open Go.RowKit
theorem hd_t {t s n : Int} : hdB t s n = true ↔ (1 ≤ t ∧ t ≤ 65535 ∧ 0 ≤ s ∧ s ≤ 4096 ∧ ¬ n = 0) := by unfold hdB; rw [decide_eq_true_eq]
theorem hd_f {t s n : Int} (h : ¬ (1 ≤ t ∧ t ≤ 65535 ∧ 0 ≤ s ∧ s ≤ 4096 ∧ ¬ n = 0)) : hdB t s n = false := decide_eq_false h
theorem refRight_any_oc (t s n : Int) (w : World) (hn : 0 ≤ n) : Calls Tryz.prog 109 #[nV t s n] w fun e w' => e = .returned (.bool (hdB t s n)) ∧ Below w.heap.size w w' := by
 unfold nV
 by_cases k1 : 1 ≤ t
 rotate_left
 ·rw [hd_f (by omega)]
  have j1 : ¬ (t > 0) := by omega
  go_enter Tryz.func109, Tryz.ntmps109
  go_wp2_with fail
  go_ret
  exact ⟨rfl, by go_grown⟩
 by_cases k2 : t ≤ 65535
 rotate_left
 ·rw [hd_f (by omega)]
  have j1 : t > 0 := by omega
  have j2 : ¬ (t < 65536) := by omega
  go_enter Tryz.func109, Tryz.ntmps109
  go_wp2_with fail
  go_ret
  exact ⟨rfl, by go_grown⟩
 by_cases k3 : 0 ≤ s
 rotate_left
 ·rw [hd_f (by omega)]
  have j1 : t > 0 := by omega
  have j2 : t < 65536 := by omega
  have k3' : s < 0 := by omega
  go_enter Tryz.func109, Tryz.ntmps109
  go_wp2_with fail
  go_ret
  exact ⟨rfl, by go_grown⟩
 by_cases k4 : s ≤ 4096
 rotate_left
 ·rw [hd_f (by omega)]
  have j1 : t > 0 := by omega
  have j2 : t < 65536 := by omega
  have k4' : 4096 < s := by omega
  go_enter Tryz.func109, Tryz.ntmps109
  go_wp2_with fail
  go_ret
  exact ⟨rfl, by go_grown⟩
 by_cases k5 : n = 0
 ·rw [hd_f (by omega)]
  subst k5
  clear hn
  have j1 : t > 0 := by omega
  have j2 : t < 65536 := by omega
  go_enter Tryz.func109, Tryz.ntmps109
  go_wp2_with fail
  go_ret
  exact ⟨rfl, by go_grown⟩
 rw [hd_t.2 ⟨k1, k2, k3, k4, k5⟩]
 have j1 : t > 0 := by omega
 have j2 : t < 65536 := by omega
 have j5 : 0 < n := by omega
 go_enter Tryz.func109, Tryz.ntmps109
 go_wp2_with fail
 go_ret
 exact ⟨by first | rfl | (refine ret_b ?_; first | (simp; omega) | (simp [k5]; done)), by go_grown⟩
end Go.Proofs.YtkkbngcgphlikaaGreatDoor
end
