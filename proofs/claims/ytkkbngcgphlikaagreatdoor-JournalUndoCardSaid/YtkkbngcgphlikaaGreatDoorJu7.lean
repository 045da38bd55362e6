/-
  Part of the proof of JournalUndo.
-/
import Derived.Test.YtkkbngcgphlikaaGreatDoorJu1
import Derived.Test.YtkkbngcgphlikaaGreatDoorJu4
import Derived.Test.YtkkbngcgphlikaaGreatDoorRows
import Derived.StillTail
import Derived.Test.YtkkbngcgphlikaaGreatDoorJu0
set_option maxRecDepth 10000
set_option maxHeartbeats 400000
set_option linter.unusedVariables false
set_option linter.unusedSimpArgs false
section
namespace Go.Proofs.YtkkbngcgphlikaaGreatDoor
open Go.RowKit
def lowI (x m : Int) : Int := x % 2 ^ m.toNat
def getI (w a m : Int) : Int := ((getN w.toNat a.toNat m.toNat : Nat) : Int)
def putI (w a m v : Int) : Int := ((putN w.toNat a.toNat m.toNat v.toNat : Nat) : Int)
theorem fits_yes (a m : Int) (w : World) (h0 : 0 ≤ a) (h1 : 1 ≤ m) (h2 : m ≤ 64) (h3 : a ≤ 64 - m) :
 Calls Tryz.prog 184 #[.int .i64 a, .int .i64 m] w fun e w' => e = .returned (.bool true) ∧ w = w' := by
 go_enter Tryz.func184, Tryz.ntmps184
 go_wp2
 go_ret
 exact ⟨rfl, rfl⟩
theorem lowest_any (x m : Int) (w : World) (h0 : 0 ≤ x) (h1 : x < 18446744073709551616) (h2 : 0 ≤ m) (h : m ≤ 64) :
 Calls Tryz.prog 185 #[.int .u64 x, .int .i64 m] w fun e w' => e = .returned (.int .u64 (lowI x m)) ∧ w = w' := by
 by_cases h64 : m = 64
 ·subst h64
  go_enter Tryz.func185, Tryz.ntmps185
  go_wp2
  go_ret
  refine ⟨?_, rfl⟩
  show Ending.returned (.int .u64 x) = _
  unfold lowI
  rw [show ((64 : Int).toNat) = 64 from rfl, show ((2 : Int) ^ 64) = 18446744073709551616 from by decide, Int.emod_eq_of_lt h0 h1]
 have hlt : m < 64 := by omega
 go_enter Tryz.func185, Tryz.ntmps185
 go_wp2
 go_ret
 refine ⟨?_, rfl⟩
 rw [low_walk x m.toNat h0 h1 (by omega)]
 rfl
theorem get_yes (x a m : Int) (w : World) (h0 : 0 ≤ x) (h1 : x < 18446744073709551616) (ha : 0 ≤ a) (hm : 1 ≤ m) (h2 : m ≤ 64) (h3 : a ≤ 64 - m) :
 Calls Tryz.prog 165 #[.int .u64 x, .int .i64 a, .int .i64 m] w fun e w' => e = .returned (.int .u64 (getI x a m)) ∧ w = w' := by
 have h63 : a < 64 := by omega
 go_enter Tryz.func165, Tryz.ntmps165
 have hs := shr_bd x a.toNat h0 h1
 go_wp2_with (first | (go_at_call 184; refine (fits_yes _ _ _ ha hm h2 h3).mono ?_; rintro e w' ⟨rfl, rfl⟩) | (go_at_call 185; refine (lowest_any _ m _ hs.1 hs.2 (by omega) h2).mono ?_; rintro e w' ⟨rfl, rfl⟩))
 go_ret
 refine ⟨?_, rfl⟩
 show Ending.returned (.int .u64 (lowI (x / 2 ^ a.toNat) m)) = _
 unfold lowI getI getN
 obtain ⟨X, rfl⟩ := Int.eq_ofNat_of_zero_le h0
 rw [Int.natCast_emod, Int.natCast_ediv, Int.natCast_pow, Int.natCast_pow]
 rfl
theorem put_yes (x a m v : Int) (w : World) (h0 : 0 ≤ x) (h1 : x < 18446744073709551616) (ha : 0 ≤ a) (hm : 1 ≤ m) (h2 : m ≤ 64) (h3 : a ≤ 64 - m) (hv0 : 0 ≤ v) (hv1 : v < 18446744073709551616) :
 Calls Tryz.prog 156 #[.int .u64 x, .int .i64 a, .int .i64 m, .int .u64 v] w fun e w' => e = .returned (.int .u64 (putI x a m v)) ∧ w = w' := by
 have h63 : a < 64 := by omega
 go_enter Tryz.func156, Tryz.ntmps156
 go_wp2_with (first | (go_at_call 184; refine (fits_yes _ _ _ ha hm h2 h3).mono ?_; rintro e w' ⟨rfl, rfl⟩) | (go_at_call 185; refine (lowest_any _ m _ (by omega) (by omega) (by omega) h2).mono ?_; rintro e w' ⟨rfl, rfl⟩))
 go_ret
 refine ⟨?_, rfl⟩
 show Ending.returned (.int .u64 (bits BinOp.or IntKind.u64 (bits BinOp.andNot IntKind.u64 x (IntKind.u64.wrap (lowI 18446744073709551615 m * 2 ^ a.toNat))) (IntKind.u64.wrap (lowI v m * 2 ^ a.toNat)))) = _
 unfold lowI putI
 rw [put_walk x v a.toNat m.toNat h0 h1 hv0 (by omega)]
theorem getI_bd (x a m : Int) (h0 : 0 ≤ x) (h1 : x < 18446744073709551616) : 0 ≤ getI x a m ∧ getI x a m < 18446744073709551616 := by
 unfold getI getN
 have h2 : x.toNat / 2 ^ a.toNat % 2 ^ m.toNat ≤ x.toNat := Nat.le_trans (Nat.mod_le _ _) (Nat.div_le_self _ _)
 omega
end Go.Proofs.YtkkbngcgphlikaaGreatDoor
end
section
namespace Go.Proofs.YtkkbngcgphlikaaGreatDoor
section
variable {P : Program} {ops : Array Oper} {Q : Exit → Act → World → Prop} {md : Region.Mode} {S : World → Prop}
def wpAnyS (P : Program) (md : Region.Mode) (ops : Array Oper) (Q : Exit → Act → World → Prop) (S : World → Prop) (n : Nat) : Nat → Array Bool → Act → World → Prop
 | 0, listed, a, w => Region.ready md ops listed = [] ∧ Q .normal a w
 | fuel + 1, listed, a, w =>
   (Region.ready md ops listed = [] → Q .normal a w) ∧
   ∀ i ∈ Region.ready md ops listed, wpOp P ops Q i (fun a' w' => (i < n → S w') ∧ wpAnyS P md ops Q S n fuel (listed.setIfInBounds i true) a' w') a w
theorem wpAny_of_S {n : Nat} : ∀ (fuel : Nat) (listed : Array Bool) (a : Act) (w : World), wpAnyS P md ops Q S n fuel listed a w → wpAny P md ops Q fuel listed a w
 | 0, _, _, _, h => h
 | fuel + 1, _, _, _, h => ⟨h.1, fun i hi => wpOp_mono (fun a' w' h' => wpAny_of_S fuel _ a' w' h'.2) (h.2 i hi)⟩
structure TailAt (md : Region.Mode) (ops : Array Oper) (n : Nat) : Prop where
 sink : Region.sinkB md ops n = true
 chain : Region.chainB md ops n = true
 lt : n < ops.size
theorem tailAt {n : Nat} (h : (Region.sinkB md ops n && Region.chainB md ops n && decide (n < ops.size)) = true) : TailAt md ops n := by
 simp only [Bool.and_eq_true, decide_eq_true_eq] at h
 exact ⟨h.1.1, h.1.2, h.2⟩
theorem wpAnyS_first {n i : Nat} {oi : Oper} {v : Value} (T : TailAt md ops n) (hin : i < n) (hi : ops[i]? = some oi) (hsel : ∀ (j : Nat) (o : Oper) cs b, ops[j]? = some o → o.op ≠ .select cs b)
 (hQ : ∀ c a w, Q (.panic c) (a.put oi.dst v) w → Q (.panic c) a w) :
 ∀ (fuel : Nat) (listed : Array Bool) (a : Act) (w : World), HeadInv md ops n listed →
   (∀ j oj, ops[j]? = some oj → j ≠ i → listed.getD j true = false → (∀ e ∈ oj.after, Region.binds md e = true → e.on ≠ i) → oi.apart ops oj = true) →
   i ∈ Region.ready md ops listed → YieldsIf P ops S oi v a → S w →
   wpAnyS P md ops Q S n fuel (listed.setIfInBounds i true) (a.put oi.dst v) w → wpAnyS P md ops Q S n (fuel + 1) listed a w := by
 intro fuel
 induction fuel with
 | zero =>
   intro listed a w inv _ hr hy hS H
   refine ⟨fun h => (by rw [h] at hr; cases hr), fun j hj => ?_⟩
   by_cases hji : j = i
   ·subst hji; exact hy.wpOp hi hS ⟨fun _ => hS, H⟩
   have := ready_mono hj hji
   rw [H.1] at this
   cases this
 | succ fuel ih =>
   intro listed a w inv hfree hr hy hS H
   refine ⟨fun h => (by rw [h] at hr; cases hr), fun j hj => ?_⟩
   by_cases hji : j = i
   ·subst hji; exact hy.wpOp hi hS ⟨fun _ => hS, H⟩
   have hjn : j < n := by
    rcases Nat.lt_or_ge j n with h | h
    ·exact h
    exact absurd hj (tail_waits T.sink T.chain T.lt inv (n - i) i rfl hin (mem_ready.1 hr).1 j h)
   have h1 := H.2 j (ready_mono hj hji)
   obtain ⟨hjun, oj, hoj, hall⟩ := mem_ready.1 hj
   have hnot : ∀ e ∈ oj.after, Region.binds md e = true → e.on ≠ i := fun e he hb heq => by
    have h1 := hall e he hb
    have h0 := (mem_ready.1 hr).1
    rw [heq] at h1
    rcases Nat.lt_or_ge i listed.size with h' | h'
    ·simp [h'] at h0 h1; rw [h0] at h1; cases h1
    simp [Array.getElem?_eq_none h'] at h1
   have h2 := wpOp_putIf hoj (hfree j oj hoj hji hjun hnot) (fun cs b => hsel i oi cs b hi) (fun cs b => hsel j oj cs b hoj) hQ hy h1
   have hfree' : ∀ k ok, ops[k]? = some ok → k ≠ i → (listed.setIfInBounds j true).getD k true = false →
    (∀ e ∈ ok.after, Region.binds md e = true → e.on ≠ i) → oi.apart ops ok = true := fun k ok hk hki hun hno => by
    refine hfree k ok hk hki ?_ hno
    by_cases hjk : j = k
    ·subst hjk; exact hjun
    ·rw [getD_set_ne true hjk] at hun; exact hun
   refine wpOp_mono (fun a' w' h3 => ⟨fun _ => h3.2.1 hjn, ih (listed.setIfInBounds j true) a' w' (inv.set hj hjn) hfree' (ready_mono hr (Ne.symm hji)) h3.1 (h3.2.1 hjn) ?_⟩) h2
   rw [Array.setIfInBounds_comm _ _ hji]
   exact h3.2.2
theorem wpAnyS_done {n : Nat} {listed : Array Bool} {a : Act} {w : World} (hr : Region.ready md ops listed = []) (h : Q .normal a w) :
 ∀ fuel, wpAnyS P md ops Q S n fuel listed a w
 | 0 => ⟨hr, h⟩
 | _ + 1 => ⟨fun _ => h, by rw [hr]; simp⟩
theorem wp_region_tail {n id : Nat} {a : Act} {w : World} (hm : P.follows .mixedOrders = true) (hS : S w.drew)
 (h : S w.drew → HeadInv .any ops n (Array.replicate ops.size false) → wpAnyS P .any ops Q S n ops.size (Array.replicate ops.size false) a w.drew) (hn : n < ops.size) : (Code.region id ops true).wp P Q a w :=
 wp_region_any hm (wpAny_of_S _ _ _ _ (h hS ⟨by simp, fun j oj _ hl => (by rw [getD_replicate_false] at hl; cases hl), fun t _ ht => getD_in (by simpa using ht) (getD_replicate_false _ _)⟩))
theorem wpIn_region_tail_wr {l r n id : Nat} {a : Act} {w : World} (hm : P.follows .mixedOrders = true) (hd : ops.all (fun o => match o.op with | .defer _ => false | _ => true) = true) (hq : ¬ LetsOut Q) (hS : S w.drew)
 (h : S w.drew → HeadInv .any ops n (Array.replicate ops.size false) → wpAnyS P .any ops Q S n ops.size (Array.replicate ops.size false) a w.drew) (hn : n < ops.size) : (Code.region id ops true).wpIn (Fence.wide.inRound l) r P Q a w :=
 wpIn_region_draw fun t => by
  simp only [Region.schedule, hm, Bool.true_or, if_true]
  exact wpOps_wr (noDefer_spec hd) hq _ _ _ (wpAny_sound ops.size t _ a _ (wpAny_of_S _ _ _ _ (h hS ⟨by simp, fun j oj _ hl => (by rw [getD_replicate_false] at hl; cases hl), fun t _ ht => getD_in (by simpa using ht) (getD_replicate_false _ _)⟩)))
end
section
variable {P : Program} {L : List Oper} {Q : Exit → Act → World → Prop} {md : Region.Mode} {S : World → Prop} {n : Nat}
theorem takeS (i : Nat) {o : Oper} {v : Value} {fuel : Nat} {listed : Array Bool} {a : Act} {w : World} (T : TailAt md L.toArray n) (inv : HeadInv md L.toArray n listed) (hin : i < n) (hi : L[i]? = some o)
 (hs : Region.noSelect L.toArray = true) (hf : Region.free md L.toArray listed i = true) (hr : (Region.ready md L.toArray listed).contains i = true)
 (hQ : ∀ c a w, Q (.panic c) (a.put o.dst v) w → Q (.panic c) a w) (hw : Region.wanted o (yielded L.toArray a.tmps) = true) (hS : S w)
 (hy : ∀ w, S w → (execOp a.eval o).run P w = .ok (.value v) w)
 (h : HeadInv md L.toArray n (listed.setIfInBounds i true) → wpAnyS P md L.toArray Q S n fuel (listed.setIfInBounds i true) (a.put o.dst v) w) : wpAnyS P md L.toArray Q S n (fuel + 1) listed a w :=
 have hr' : i ∈ Region.ready md L.toArray listed := by simpa using hr
 wpAnyS_first T hin (by simpa using hi) (Region.noSelect_spec hs) hQ fuel listed a w inv (Region.free_spec (by simpa using hi) hf) hr' (.inl ⟨hw, hy⟩) hS (h (inv.set hr' hin))
theorem oneS (i : Nat) {o : Oper} {fuel : Nat} {listed : Array Bool} {a : Act} {w : World} (inv : HeadInv md L.toArray n listed) (hin : i < n) (hi : L[i]? = some o) (hr : Region.ready md L.toArray listed = [i])
 (h : ∀ K' : Act → World → Prop, Shut (∀ a w, S w → (S w → HeadInv md L.toArray n (listed.setIfInBounds i true) → wpAnyS P md L.toArray Q S n fuel (listed.setIfInBounds i true) a w) → K' a w) → if Region.wanted o (yielded L.toArray a.tmps) = true then Oper.wp P o a w K' Q else K' (a.put o.dst undef) w) :
 wpAnyS P md L.toArray Q S n (fuel + 1) listed a w := by
 refine ⟨fun h0 => (by rw [hr] at h0; cases h0), fun j hj => ?_⟩
 rw [hr, List.mem_singleton] at hj
 subst hj
 exact wpOp_step (by simpa using hi) (fun K' hK => h K' (fun a w hS hW => hK a w ⟨fun _ => hS, hW hS (inv.set (by rw [hr]; simp) hin)⟩))
theorem twoS (i j : Nat) {o o' : Oper} {fuel : Nat} {listed : Array Bool} {a : Act} {w : World} (inv : HeadInv md L.toArray n listed) (hin : i < n) (hjn : j < n) (hi : L[i]? = some o) (hj : L[j]? = some o') (hr : Region.ready md L.toArray listed = [i, j])
 (h : ∀ K' : Act → World → Prop, Shut (∀ a w, S w → (S w → HeadInv md L.toArray n (listed.setIfInBounds i true) → wpAnyS P md L.toArray Q S n fuel (listed.setIfInBounds i true) a w) → K' a w) → if Region.wanted o (yielded L.toArray a.tmps) = true then Oper.wp P o a w K' Q else K' (a.put o.dst undef) w)
 (h' : ∀ K' : Act → World → Prop, Shut (∀ a w, S w → (S w → HeadInv md L.toArray n (listed.setIfInBounds j true) → wpAnyS P md L.toArray Q S n fuel (listed.setIfInBounds j true) a w) → K' a w) → if Region.wanted o' (yielded L.toArray a.tmps) = true then Oper.wp P o' a w K' Q else K' (a.put o'.dst undef) w) :
 wpAnyS P md L.toArray Q S n (fuel + 1) listed a w := by
 refine ⟨fun h0 => (by rw [hr] at h0; cases h0), fun k hk => ?_⟩
 rw [hr] at hk
 simp only [List.mem_cons, List.not_mem_nil, or_false] at hk
 rcases hk with rfl | rfl
 ·exact wpOp_step (by simpa using hi) (fun K' hK => h K' (fun a w hS hW => hK a w ⟨fun _ => hS, hW hS (inv.set (by rw [hr]; simp) hin)⟩))
 exact wpOp_step (by simpa using hj) (fun K' hK => h' K' (fun a w hS hW => hK a w ⟨fun _ => hS, hW hS (inv.set (by rw [hr]; simp) hjn)⟩))
theorem lastS (i : Nat) {o : Oper} {fuel : Nat} {listed : Array Bool} {a : Act} {w : World} (hi : L[i]? = some o) (hin : n ≤ i) (hr : Region.ready md L.toArray listed = [i])
 (h : ∀ K' : Act → World → Prop, Shut (∀ a w, wpAnyS P md L.toArray Q S n fuel (listed.setIfInBounds i true) a w → K' a w) → if Region.wanted o (yielded L.toArray a.tmps) = true then Oper.wp P o a w K' Q else K' (a.put o.dst undef) w) :
 wpAnyS P md L.toArray Q S n (fuel + 1) listed a w := by
 refine ⟨fun h0 => (by rw [hr] at h0; cases h0), fun j hj => ?_⟩
 rw [hr, List.mem_singleton] at hj
 subst hj
 exact wpOp_step (by simpa using hi) (fun K' hK => h K' (fun a w hW => hK a w ⟨fun h => absurd h (by omega), hW⟩))
end
end Go.Proofs.YtkkbngcgphlikaaGreatDoor
end
section
namespace Go.Proofs.YtkkbngcgphlikaaGreatDoor
def isLog (t : List Nat) (lane : Int) (n i : Nat) : Bool := decide (kN (t.getD i 0) = 4) && decide ((lnN (t.getD i 0) : Int) = lane) && decide (mN (t.getD i 0) = n)
def logsN (t : List Nat) (lane : Int) (n m : Nat) : List Nat := (List.range m).filter (isLog t lane n)
def logsR (t : List Nat) (lane : Int) (m : Nat) : List Nat := (List.range m).flatMap fun n => logsN t lane n t.length
def logsT (t : List Nat) (lane : Int) : List Nat := if t.all okN then logsR t lane 8 else []
theorem logsR_succ (t : List Nat) (lane : Int) (m : Nat) : logsR t lane (m + 1) = logsR t lane m ++ logsN t lane m t.length := by
 unfold logsR; rw [List.range_succ, List.flatMap_append]; simp
theorem logsN_len (t : List Nat) (lane : Int) (n m : Nat) : (logsN t lane n m).length ≤ m := by
 unfold logsN
 have := List.length_filter_le (isLog t lane n) (List.range m)
 rw [List.length_range] at this; exact this
theorem logsR_len (t : List Nat) (lane : Int) : ∀ m, (logsR t lane m).length ≤ m * t.length
 | 0 => by simp [logsR]
 | m + 1 => by
   rw [logsR_succ, List.length_append, Nat.succ_mul]
   have := logsR_len t lane m
   have := logsN_len t lane m t.length
   omega
def keyL (t : List Nat) (x : Nat) : Int := (mN (t.getD x 0) : Nat)
def keyT (t : List Nat) (N : Nat) (x : Nat) : Int := keyL t x * N + x
theorem logsR_srt (t : List Nat) (lane : Int) (N : Nat) (hN : t.length ≤ N) (m : Nat) : (logsR t lane m).Pairwise (fun x y => keyT t N x < keyT t N y) := by
 unfold logsR
 rw [List.pairwise_flatMap]
 constructor
 ·intro n _
  unfold logsN
  rw [List.pairwise_filter]
  refine (List.pairwise_lt_range).imp (fun {x y} h hx hy => ?_)
  unfold isLog at hx hy
  simp only [Bool.and_eq_true, decide_eq_true_eq] at hx hy
  unfold keyT keyL
  rw [hx.2, hy.2]; omega
 refine (List.pairwise_lt_range).imp (fun {a b} hab x hx y hy => ?_)
 unfold logsN at hx hy
 rw [List.mem_filter, List.mem_range] at hx hy
 unfold isLog at hx hy
 simp only [Bool.and_eq_true, decide_eq_true_eq] at hx hy
 unfold keyT keyL
 rw [hx.2.2, hy.2.2]
 have h1 : ((a : Int) + 1) * (N : Int) ≤ b * N := Int.mul_le_mul_of_nonneg_right (by omega) (by omega)
 rw [Int.add_mul] at h1
 omega
end Go.Proofs.YtkkbngcgphlikaaGreatDoor
end
section
namespace Go.Proofs.YtkkbngcgphlikaaGreatDoor
abbrev St := Nat × Nat × Nat
abbrev gS (S : List St) (i : Nat) : St := S.getD i default
end Go.Proofs.YtkkbngcgphlikaaGreatDoor
end
section
namespace Go.Proofs.YtkkbngcgphlikaaGreatDoor
def hdW (t s : Nat) : Nat := t + 65536 * s + 18038886832455811072
def hdB (t s n : Int) : Bool := decide (1 ≤ t ∧ t ≤ 65535 ∧ 0 ≤ s ∧ s ≤ 4096 ∧ ¬ n = 0)
end Go.Proofs.YtkkbngcgphlikaaGreatDoor
end
