/-
  The laws of package piece: PieceBack.
-/
import Derived.Test.YtddfhgdejlkdgaaPc19
set_option linter.unusedVariables false
namespace Go.Proofs.Ytddfhgdejlkdgaa
open Go.RowKit

theorem wpList_append_run2 {P : Program} {w w' : World} {ops : Array Oper} {rest : List Oper} {o : Oper} {a : Act} {Q : Exit → Act → World → Prop} (hg : o.guard = none) (s x : Operand) (t tn : TypeId)
    (hop : o.op = Op.call { callee := Callee.builtin Builtin.append, args := #[s, x], argTypes := #[t, tn] }) (vs vx v : Value) (hs : a.eval s = vs) (hx : a.eval x = vx)
    (hrun : (Builtin.append_ #[t, tn] o.type #[vs, vx]).run P w = .ok v w') (h : wpList P ops Q rest (a.put o.dst v) w') : wpList P ops Q (o :: rest) a w := by
  refine wpList_plain hg fun K hK => ?_
  unfold Oper.wp
  simp [execOp, hop, resolve, invoke, builtin, hs, hx, hrun, Result.andThen]
  exact hK _ _ h
theorem KL.take {K : IntKind} {w : World} {A : Option Addr} {n cap : Nat} {l : List Nat} (h : KL K w (.slice A n cap) l) (t : Nat) (ht : t ≤ l.length) : KL K w (.slice A t cap) (l.take t) := by
  obtain ⟨A', cap', hv, h⟩ := h
  cases hv
  refine ⟨A, cap, by rw [List.length_take, Nat.min_eq_left ht], fun hl => ?_⟩
  rw [List.length_take, Nat.min_eq_left ht] at hl
  obtain ⟨g, off, hA, hg, hc, hi⟩ := h (by omega)
  refine ⟨g, off, hA, hg, by rw [List.length_take]; omega, fun i h => ?_⟩
  rw [List.length_take] at h
  rw [hi i (by omega), List.getD_eq_getElem?_getD, List.getD_eq_getElem?_getD, List.getElem?_take_of_lt (by omega)]
theorem run_slice_to {P : Program} {ty e : TypeId} {i0 : TypeInfo} (hu : P.underlying ty = some (.slice e)) (hi : P.info? e = some i0) (A : Option Addr) (n cap t : Nat) (h : t ≤ cap) (w : World) :
    (Instr.slice ty (.slice A n cap) none (some (.int .i64 (t : Int))) none).run P w = .ok (.slice A t cap) w := by
  have h1 : (t : Int) ≤ (cap : Int) := by omega
  have h2 : (0 : Int) ≤ (t : Int) := by omega
  simp [Instr.slice, run_underlying hu, Instr.sliceBounds, Instr.sliceBound, asIntOf, sizeOf, typeInfo, hi, h2, go_sem]
  exact fun h' => by omega
structure Two (B : World) (g o : Nat) (x : Value) (g' o' : Nat) (y : Value) (w : World) : Prop where
  one : w.cell? ⟨g, o, none⟩ = some x
  two : w.cell? ⟨g', o', none⟩ = some y
  bel : Below B.heap.size B w
theorem Two.keep {B : World} {g o : Nat} {x : Value} {g' o' : Nat} {y : Value} {w w1 : World} (h : Two B g o x g' o' y w) (hb : Below w.heap.size w w1) : Two B g o x g' o' y w1 :=
  ⟨by rw [(bcell hb).1 _ _ (World.block_lt_of_cell? w _ h.one)]; exact h.one, by rw [(bcell hb).1 _ _ (World.block_lt_of_cell? w _ h.two)]; exact h.two, h.bel.trans (hb.mono h.bel.size)⟩
theorem Two.drew {B : World} {g o : Nat} {x : Value} {g' o' : Nat} {y : Value} {w : World} (h : Two B g o x g' o' y w) : Two B g o x g' o' y w.drew := ⟨h.one, h.two, h.bel.drew⟩

set_option maxHeartbeats 1000000 in
theorem pieceBack_n1 (v0 v1 v2 : Value) (I l ws : List Nat) (w : World) (h0 : KL .u64 w v0 I) (hL : BL l) (h1 : KL .u8 w v1 l) (h2 : KL .u64 w v2 ws) (hbig : 100 < I.length) :
    Calls Try.prog 6 #[v0, v1, v2] w fun e w' => e = .returned (.bool true) ∧ Below w.heap.size w w' := by
  obtain ⟨A, cap, rfl, _⟩ := h0.form rfl
  obtain ⟨A1, cap1, rfl, _⟩ := h1.form rfl
  obtain ⟨A2, cap2, rfl, _⟩ := h2.form rfl
  have hbb : (100 : Int) < (I.length : Int) := by omega
  clear h0 h1 h2 hL
  go_enter Try.func6, Try.ntmps6
  go_wp2_with fail
  refine (awake14 _).mono ?_
  rintro e w1 ⟨rfl, hb1⟩
  go_wp2_with fail
  go_ret
  exact ⟨rfl, hb1⟩
set_option maxHeartbeats 1000000 in
theorem pieceBack_n2 (v0 v1 v2 : Value) (I l ws : List Nat) (w : World) (h0 : KL .u64 w v0 I) (hL : BL l) (h1 : KL .u8 w v1 l) (h2 : KL .u64 w v2 ws) (hI : I.length ≤ 100) (hbig : 18 < l.length) :
    Calls Try.prog 6 #[v0, v1, v2] w fun e w' => e = .returned (.bool true) ∧ Below w.heap.size w w' := by
  obtain ⟨A, cap, rfl, _⟩ := h0.form rfl
  obtain ⟨A1, cap1, rfl, _⟩ := h1.form rfl
  obtain ⟨A2, cap2, rfl, _⟩ := h2.form rfl
  have hbb : (18 : Int) < (l.length : Int) := by omega
  have hba : (I.length : Int) ≤ (100 : Int) := by omega
  clear h0 h1 h2 hL
  go_enter Try.func6, Try.ntmps6
  go_wp2_with fail
  refine (awake14 _).mono ?_
  rintro e w1 ⟨rfl, hb1⟩
  go_wp2_with fail
  go_ret
  exact ⟨rfl, hb1⟩
set_option maxHeartbeats 1000000 in
theorem pieceBack_n3 (v0 v1 v2 : Value) (I l ws : List Nat) (w : World) (h0 : KL .u64 w v0 I) (hL : BL l) (h1 : KL .u8 w v1 l) (h2 : KL .u64 w v2 ws) (hI : I.length ≤ 100) (hl : l.length ≤ 18) (hbig : 100 < ws.length) :
    Calls Try.prog 6 #[v0, v1, v2] w fun e w' => e = .returned (.bool true) ∧ Below w.heap.size w w' := by
  obtain ⟨A, cap, rfl, _⟩ := h0.form rfl
  obtain ⟨A1, cap1, rfl, _⟩ := h1.form rfl
  obtain ⟨A2, cap2, rfl, _⟩ := h2.form rfl
  have hbb : (100 : Int) < (ws.length : Int) := by omega
  have hba : (I.length : Int) ≤ (100 : Int) := by omega
  have hbc : (l.length : Int) ≤ (18 : Int) := by omega
  clear h0 h1 h2 hL
  go_enter Try.func6, Try.ntmps6
  go_wp2_with fail
  refine (awake14 _).mono ?_
  rintro e w1 ⟨rfl, hb1⟩
  go_wp2_with fail
  go_ret
  exact ⟨rfl, hb1⟩
set_option maxHeartbeats 2000000 in
theorem pieceBack_n4 (v0 v1 v2 : Value) (I l ws : List Nat) (w : World) (h0 : KL .u64 w v0 I) (hL : BL l) (h1 : KL .u8 w v1 l) (h2 : KL .u64 w v2 ws) (hI : I.length ≤ 100) (hl : l.length ≤ 18) (hws : ws.length ≤ 100) (t : Nat) (ht : totS (madeL 0 l) = t) (hbig : ws.length < t) :
    Calls Try.prog 6 #[v0, v1, v2] w fun e w' => e = .returned (.bool true) ∧ Below w.heap.size w w' := by
  have hlen : (madeL 0 l).length ≤ 1000 := by rw [madeL_len]; omega
  have hsb : SBs (madeL 0 l) := madeL_sb 0 l (by omega) (by omega) (by omega)
  have hpb : PBs (madeL 0 l) := fun x hx => by
    have h := madeL_mem 0 l x hx
    have h2 := (madeL_right 0 l).1 x hx
    unfold PB; omega
  have hMk := Lib.hid (fun w1 (hb : Below w.heap.size w w1) => made_any 0 v1 l w1 (by omega) (by omega) hL (by omega) (h1.keep hb))
  have hN := Lib.hid (fun w1 (hb : Below w.heap.size w w1) => newW (h0.keep hb) (by omega))
  have hTt := fun vp w1 hp => total_any vp (madeL 0 l) w1 hsb hlen hp
  rw [ht] at hTt
  replace hTt := Lib.hid hTt
  obtain ⟨A, cap, rfl, _⟩ := h0.form rfl
  obtain ⟨A1, cap1, rfl, _⟩ := h1.form rfl
  have k2 := h2
  obtain ⟨NW, hNW⟩ : ∃ n, ws.length = n := ⟨_, rfl⟩
  obtain ⟨AW, capW, rfl, hW0⟩ := h2.form hNW
  have hba : (I.length : Int) ≤ (100 : Int) := by omega
  have hbc : (l.length : Int) ≤ (18 : Int) := by omega
  have hbd : (NW : Int) ≤ (100 : Int) := by omega
  have hbe : (NW : Int) < (t : Int) := by omega
  clear h0 h1 h2 hL hW0 k2
  go_enter Try.func6, Try.ntmps6
  have hB0 := Below.refl w.heap.size w
  go_wp2_with fail
  refine (awake14 _).mono ?_
  rintro e w1 ⟨rfl, hb1⟩
  have hB1 := hB0.trans (hb1.mono hB0.size)
  clear hb1 hB0
  obtain ⟨c1, x1, hr1, ho1, hbx⟩ := hN.out _ hB1
  obtain ⟨c2, x2, hr2, ho2, hby⟩ := appZ (k := 200) ho1 (by omega) (by omega) hbx.size
  rw [show ((200 : Nat) : Int) = 200 from rfl] at hr2
  have hBx := (hB1.trans (hbx.mono hB1.size)).trans (hby.mono hB1.size)
  have kx := ho2.kl
  clear ho1 ho2 hbx hby hN hB1
  obtain ⟨NX, hNX⟩ : ∃ n, (I ++ List.replicate 200 0).length = n := ⟨_, rfl⟩
  have hX9 : NX ≤ 1000 := by rw [← hNX, List.length_append, List.length_replicate]; omega
  obtain ⟨Ax, cx, rfl, _⟩ := kx.form hNX
  generalize I ++ List.replicate 200 0 = X at *
  go_wp2_with (at_builtin; first | (refine wpList_append_run rfl _ _ 34 rfl _ _ _ rfl rfl hr1 ?_) | (refine wpList_append_run2 rfl _ _ 34 3 rfl _ _ _ rfl rfl hr2 ?_))
  clear hr1 hr2
  refine (hMk.out _ hBx).mono ?_
  rintro e w3 ⟨vp, rfl, hop, hb3⟩
  have hB3 := hBx.trans (hb3.mono hBx.size)
  replace kx := kx.keep hb3
  have kp := hop.pl
  clear hb3 hBx
  clear hop
  go_wp2_with fail
  refine (hTt.out _ _ kp).mono ?_
  rintro e w4 ⟨rfl, hb4⟩
  have hB4 := hB3.trans (hb4.mono hB3.size)
  replace kx := kx.keep hb4
  replace kp := kp.keep hb4
  clear hb4 hB3
  go_wp2_with fail
  go_ret
  exact ⟨rfl, hB4⟩
set_option maxRecDepth 10000 in
set_option maxHeartbeats 4000000 in
theorem pieceBack_yes (v0 v1 v2 : Value) (I l ws : List Nat) (w : World) (h0 : KL .u64 w v0 I) (hL : BL l) (h1 : KL .u8 w v1 l) (h2 : KL .u64 w v2 ws) (hI : I.length ≤ 100) (hl : l.length ≤ 18) (hws : ws.length ≤ 100) (t : Nat) (ht : totS (madeL 0 l) = t) (htw : t ≤ ws.length) :
    Calls Try.prog 6 #[v0, v1, v2] w fun e w' => e = .returned (.bool true) ∧ Below w.heap.size w w' := by
  have hlen : (madeL 0 l).length ≤ 1000 := by rw [madeL_len]; omega
  have hsb : SBs (madeL 0 l) := madeL_sb 0 l (by omega) (by omega) (by omega)
  have hpb : PBs (madeL 0 l) := fun x hx => by
    have h := madeL_mem 0 l x hx
    have h2 := (madeL_right 0 l).1 x hx
    unfold PB; omega
  have hMk := Lib.hid (fun w1 (hb : Below w.heap.size w w1) => made_any 0 v1 l w1 (by omega) (by omega) hL (by omega) (h1.keep hb))
  have hN := Lib.hid (fun w1 (hb : Below w.heap.size w w1) => newW (h0.keep hb) (by omega))
  have hTt := fun vp w1 hp => total_any vp (madeL 0 l) w1 hsb hlen hp
  rw [ht] at hTt
  replace hTt := Lib.hid hTt
  have hri := madeL_right 0 l
  have hbd0 : ∀ x ∈ madeL 0 l, x.1 + x.2 ≤ ((I ++ List.replicate 200 0).length : Int) := fun x hx => by
    have h := madeL_mem 0 l x hx
    simp
    omega
  have hpl : (placesL (madeL 0 l)).length = t := by rw [(placesL_len _ hpb).1, ht]; rfl
  have hGS := gath_scat (ws := ws) hpb hri hbd0 (by omega)
  have hSM := fun i h => scat_miss (ws := ws) hpb hri hbd0 i h
  have hSB := scat_back (ws := ws) hpb hri hbd0
  have hgl : (gathL (I ++ List.replicate 200 0) (madeL 0 l)).length = t := by unfold gathL; rw [List.length_map, hpl]
  have hsl : (scatN (I ++ List.replicate 200 0) (placesL (madeL 0 l)) ws (placesL (madeL 0 l)).length).length = (I ++ List.replicate 200 0).length := scatN_len _ _ _ _
  have hSc := fun vx vp w1 (hb : Below w.heap.size w w1) hx hp => scatter_any vx vp v2 (I ++ List.replicate 200 0) ws (madeL 0 l) w1 hpb hlen (by simp; omega) (by omega) hx hp (h2.keep hb)
  rw [show min (placesL (madeL 0 l)).length ws.length = (placesL (madeL 0 l)).length by omega] at hSc
  have hGa := fun vy vp w1 hy hp => gather_any vy vp (scatN (I ++ List.replicate 200 0) (placesL (madeL 0 l)) ws (placesL (madeL 0 l)).length) (madeL 0 l) w1 hpb hlen hy hp
  rw [hGS] at hGa
  have hGx := fun vx vp w1 hx hp => gather_any vx vp (I ++ List.replicate 200 0) (madeL 0 l) w1 hpb hlen hx hp
  have hSc2 := fun vy vp vg w1 hy hp hg => scatter_any vy vp vg (scatN (I ++ List.replicate 200 0) (placesL (madeL 0 l)) ws (placesL (madeL 0 l)).length) (gathL (I ++ List.replicate 200 0) (madeL 0 l)) (madeL 0 l) w1 hpb hlen (by rw [hsl]; simp; omega) (by omega) hy hp hg
  rw [show min (placesL (madeL 0 l)).length (gathL (I ++ List.replicate 200 0) (madeL 0 l)).length = (placesL (madeL 0 l)).length by omega, hSB] at hSc2
  have hHs := Lib.hid (fun vp (i : Nat) w1 (hi : i ≤ 1000) hp => has_any vp (madeL 0 l) (i : Int) w1 hsb hlen hp (by omega) (by omega))
  rw [hpl] at hSc hGa hSM hSc2 hsl
  clear hSB hGS hgl hri hbd0
  generalize scatN (I ++ List.replicate 200 0) (placesL (madeL 0 l)) ws t = Y at *
  generalize gathL (I ++ List.replicate 200 0) (madeL 0 l) = GX at *
  have hWo := fun v u w hv hu => words_any v u (ws.take t) (ws.take t) w (by simp; omega) hv hu
  rw [show decide (ws.take t = ws.take t) = true from by simp] at hWo
  replace hWo := Lib.hid hWo
  have hWp := fun v u w hv hu => words_any v u (I ++ List.replicate 200 0) (I ++ List.replicate 200 0) w (by simp; omega) hv hu
  rw [show decide ((I ++ List.replicate 200 0) = (I ++ List.replicate 200 0)) = true from by simp] at hWp
  replace hWp := Lib.hid hWp
  replace hSc := Lib.hid hSc
  replace hGa := Lib.hid hGa
  replace hGx := Lib.hid hGx
  replace hSc2 := Lib.hid hSc2
  replace hSM := Lib.hid hSM
  obtain ⟨A, cap, rfl, _⟩ := h0.form rfl
  obtain ⟨A1, cap1, rfl, _⟩ := h1.form rfl
  have k2 := h2
  obtain ⟨NW, hNW⟩ : ∃ n, ws.length = n := ⟨_, rfl⟩
  obtain ⟨AW, capW, rfl, hW0⟩ := h2.form hNW
  have hba : (I.length : Int) ≤ (100 : Int) := by omega
  have hbc : (l.length : Int) ≤ (18 : Int) := by omega
  have hbd : (NW : Int) ≤ (100 : Int) := by omega
  have hbe : (t : Int) ≤ (NW : Int) := by omega
  have htc : t ≤ capW := by
    by_cases h : 0 < NW
    · obtain ⟨_, _, _, h, _⟩ := hW0 w 0 (Below.refl _ _) h
      omega
    · omega
  have hsl2 := Lib.hid (fun w => run_slice_to (P := Try.prog) (ty := 34) Try.underlying34 (info_parts infoU64).choose_spec.1 AW NW capW t htc w)
  clear h0 h1 h2 hL hW0 hpl hsb hpb ht
  go_enter Try.func6, Try.ntmps6
  have hB0 := Below.refl w.heap.size w
  go_wp2_with fail
  refine (awake14 _).mono ?_
  rintro e w1 ⟨rfl, hb1⟩
  have hB1 := hB0.trans (hb1.mono hB0.size)
  clear hb1 hB0
  obtain ⟨c1, x1, hr1, ho1, hbx⟩ := hN.out _ hB1
  obtain ⟨c2, x2, hr2, ho2, hby⟩ := appZ (k := 200) ho1 (by omega) (by omega) hbx.size
  rw [show ((200 : Nat) : Int) = 200 from rfl] at hr2
  have hBx := (hB1.trans (hbx.mono hB1.size)).trans (hby.mono hB1.size)
  have kx := ho2.kl
  clear ho1 ho2 hbx hby hN hB1
  obtain ⟨NX, hNX⟩ : ∃ n, (I ++ List.replicate 200 0).length = n := ⟨_, rfl⟩
  have hX9 : NX ≤ 1000 := by rw [← hNX, List.length_append, List.length_replicate]; omega
  obtain ⟨Ax, cx, rfl, _⟩ := kx.form hNX
  generalize I ++ List.replicate 200 0 = X at *
  go_wp2_with (at_builtin; first | (refine wpList_append_run rfl _ _ 34 rfl _ _ _ rfl rfl hr1 ?_) | (refine wpList_append_run2 rfl _ _ 34 3 rfl _ _ _ rfl rfl hr2 ?_))
  clear hr1 hr2
  refine (hMk.out _ hBx).mono ?_
  rintro e w3 ⟨vp, rfl, hop, hb3⟩
  have hB3 := hBx.trans (hb3.mono hBx.size)
  replace kx := kx.keep hb3
  have kp := hop.pl
  clear hb3 hBx
  clear hop
  go_wp2_with fail
  refine (hTt.out _ _ kp).mono ?_
  rintro e w4 ⟨rfl, hb4⟩
  have hB4 := hB3.trans (hb4.mono hB3.size)
  replace kx := kx.keep hb4
  replace kp := kp.keep hb4
  clear hb4 hB3
  go_wp2_with fail
  refine (hSc.out _ _ _ hB4 kx kp).mono ?_
  rintro e w5 ⟨vy, rfl, hoy, hb5⟩
  have hB5 := hB4.trans (hb5.mono hB4.size)
  replace kx := kx.keep hb5
  replace kp := kp.keep hb5
  have ky := hoy.kl
  clear hb5 hB4
  clear hoy
  obtain ⟨Ay, cy, rfl, _⟩ := ky.form (hsl.trans hNX)
  go_wp2_with fail
  refine (hGa.out _ _ _ ky kp).mono ?_
  rintro e w6 ⟨vg, rfl, hog, hb6⟩
  have hB6 := hB5.trans (hb6.mono hB5.size)
  replace kx := kx.keep hb6
  replace kp := kp.keep hb6
  replace ky := ky.keep hb6
  have kg := hog.kl
  clear hb6 hB5
  clear hog
  go_wp2_with fail
  refine (hTt.out _ _ kp).mono ?_
  rintro e w7 ⟨rfl, hb7⟩
  have hB7 := hB6.trans (hb7.mono hB6.size)
  replace kx := kx.keep hb7
  replace kp := kp.keep hb7
  replace ky := ky.keep hb7
  replace kg := kg.keep hb7
  clear hb7 hB6
  have hsl3 := hsl2.out
  have kt := (k2.keep hB7).take t (by omega)
  go_wp2_with fail
  refine (hWo.out _ _ _ kg kt).mono ?_
  rintro e w8 ⟨rfl, hb8⟩
  have hB8 := hB7.trans (hb8.mono hB7.size)
  replace kx := kx.keep hb8
  replace kp := kp.keep hb8
  replace ky := ky.keep hb8
  replace kg := kg.keep hb8
  clear hb8 hB7
  clear hsl3 kt kg
  go_wp2_with fail
  obtain ⟨wL, hwL⟩ : ∃ x, w8 = x := ⟨_, rfl⟩
  rw [hwL] at hB8 kx ky kp ⊢
  clear hwL
  obtain ⟨_, _, he, hCX⟩ := kx.form hNX
  cases he
  obtain ⟨_, _, he, hCY⟩ := ky.form (hsl.trans hNX)
  cases he
  replace hCX := Lib.hid hCX
  replace hCY := Lib.hid hCY
  replace hNX := Lib.hid hNX
  replace hsl := Lib.hid hsl
  go_loopw [11] (fun i wr => ∃ k : Nat, k ≤ NX ∧ i = .int .i64 k ∧ Below wL.heap.size wL wr) (fun i _ => NX + 1 - (intOf i).toNat)
  case atStart => exact ⟨0, Nat.zero_le _, rfl, Below.refl _ _⟩
  case round =>
    obtain ⟨k, hk, rfl, hB⟩ := hrel
    by_cases hlt : k < NX
    · have hlt' : (k : Int) < (NX : Int) := by omega
      have hH := fun w1 (hb : Below wL.heap.size wL w1) => hHs.out _ k w1 (by omega) (kp.keep hb)
      obtain ⟨g, o, rfl, _, _, d0⟩ := hCX.out wr k hB hlt
      obtain ⟨g2, o2, rfl, _, _, e0⟩ := hCY.out wr k hB hlt
      have hM := hSM.out k
      cases hh : hasB (madeL 0 l) (k : Int) with
      | false =>
        rw [hh] at hH
        replace hM := hM hh
        rw [hM] at e0
        replace hH := Lib.hid hH
        clear hM hh
        generalize X.getD k 0 = z at *
        have hT2 : Two wL g (o + k) (.int .u64 (z : Nat)) g2 (o2 + k) (.int .u64 (z : Nat)) wr.drew := (Two.mk d0 e0 hB).drew
        clear d0 e0
        go_wp2_with fail
        refine wp_region_held_drew (S := (fun w' => Two wL g (o + k) (.int .u64 (z : Nat)) g2 (o2 + k) (.int .u64 (z : Nat)) w')) (by kernel_rfl) ?_ (fun hHeld => ?_)
        · (try dsimp only)
          (first | assumption | (exact Two.keep (by assumption) (by assumption)))
        refine takeL 0 (v := ?_) rfl (by kernel_rfl) (by kernel_rfl) (by kernel_rfl) (fun _ _ _ h => h) (by rfl) (by assumption) ?_ ?_
        rotate_left
        · (intro w hSw; (try dsimp only at hSw); have hS1 := hSw.one; have hS2 := hSw.two; clear hSw; go_simp <;> with_reducible rfl)
        try simp only [Act.put, List.setIfInBounds_toArray, List.set_cons_zero, List.set_cons_succ]
        refine takeL 1 (v := ?_) rfl (by kernel_rfl) (by kernel_rfl) (by kernel_rfl) (fun _ _ _ h => h) (by rfl) (by assumption) ?_ ?_
        rotate_left
        · (intro w hSw; (try dsimp only at hSw); have hS1 := hSw.one; have hS2 := hSw.two; clear hSw; go_simp <;> with_reducible rfl)
        try simp only [Act.put, List.setIfInBounds_toArray, List.set_cons_zero, List.set_cons_succ]
        refine oneL 2 rfl (by kernel_rfl) (fun K hK => ?_)
        go_simp
        (obtain hq := id hHeld; refine (hH.out _ hq.bel).mono ?_; rintro e w2 ⟨rfl, hb⟩)
        refine hK.out _ _ ?_ (fun hHeld2 => ?_)
        · (try dsimp only)
          (first | assumption | (exact Two.keep (by assumption) (by assumption)))
        clear hK K hHeld
        have hHeld := hHeld2
        clear hHeld2
        try simp only [Act.put, List.setIfInBounds_toArray, List.set_cons_zero, List.set_cons_succ]
        refine takeL 3 (v := ?_) rfl (by kernel_rfl) (by kernel_rfl) (by kernel_rfl) (fun _ _ _ h => h) (by rfl) (by assumption) ?_ ?_
        rotate_left
        · (intro w hSw; (try dsimp only at hSw); have hS1 := hSw.one; have hS2 := hSw.two; clear hSw; go_simp <;> with_reducible rfl)
        try simp only [Act.put, List.setIfInBounds_toArray, List.set_cons_zero, List.set_cons_succ]
        refine takeL 4 (v := ?_) rfl (by kernel_rfl) (by kernel_rfl) (by kernel_rfl) (fun _ _ _ h => h) (by rfl) (by assumption) ?_ ?_
        rotate_left
        · (intro w hSw; (try dsimp only at hSw); have hS1 := hSw.one; have hS2 := hSw.two; clear hSw; go_simp <;> with_reducible rfl)
        try simp only [Act.put, List.setIfInBounds_toArray, List.set_cons_zero, List.set_cons_succ]
        refine takeL 5 (v := ?_) rfl (by kernel_rfl) (by kernel_rfl) (by kernel_rfl) (fun _ _ _ h => h) (by rfl) (by assumption) ?_ ?_
        rotate_left
        · (intro w hSw; (try dsimp only at hSw); have hS1 := hSw.one; have hS2 := hSw.two; clear hSw; go_simp <;> with_reducible rfl)
        try simp only [Act.put, List.setIfInBounds_toArray, List.set_cons_zero, List.set_cons_succ]
        refine takeL 6 (v := ?_) rfl (by kernel_rfl) (by kernel_rfl) (by kernel_rfl) (fun _ _ _ h => h) (by rfl) (by assumption) ?_ ?_
        rotate_left
        · (intro w hSw; (try dsimp only at hSw); have hS1 := hSw.one; have hS2 := hSw.two; clear hSw; go_simp <;> with_reducible rfl)
        try simp only [Act.put, List.setIfInBounds_toArray, List.set_cons_zero, List.set_cons_succ]
        refine takeL 7 (v := ?_) rfl (by kernel_rfl) (by kernel_rfl) (by kernel_rfl) (fun _ _ _ h => h) (by rfl) (by assumption) ?_ ?_
        rotate_left
        · (intro w hSw; (try dsimp only at hSw); have hS1 := hSw.one; have hS2 := hSw.two; clear hSw; go_simp <;> with_reducible rfl)
        try simp only [Act.put, List.setIfInBounds_toArray, List.set_cons_zero, List.set_cons_succ]
        refine takeL 8 (v := ?_) rfl (by kernel_rfl) (by kernel_rfl) (by kernel_rfl) (fun _ _ _ h => h) (by rfl) (by assumption) ?_ ?_
        rotate_left
        · (intro w hSw; (try dsimp only at hSw); have hS1 := hSw.one; have hS2 := hSw.two; clear hSw; go_simp <;> with_reducible rfl)
        try simp only [Act.put, List.setIfInBounds_toArray, List.set_cons_zero, List.set_cons_succ]
        refine takeL 9 (v := ?_) rfl (by kernel_rfl) (by kernel_rfl) (by kernel_rfl) (fun _ _ _ h => h) (by rfl) (by assumption) ?_ ?_
        rotate_left
        · (intro w hSw; (try dsimp only at hSw); have hS1 := hSw.one; have hS2 := hSw.two; clear hSw; go_simp <;> with_reducible rfl)
        try simp only [Act.put, List.setIfInBounds_toArray, List.set_cons_zero, List.set_cons_succ]
        refine takeL 10 (v := ?_) rfl (by kernel_rfl) (by kernel_rfl) (by kernel_rfl) (fun _ _ _ h => h) (by rfl) (by assumption) ?_ ?_
        rotate_left
        · (intro w hSw; (try dsimp only at hSw); have hS1 := hSw.one; have hS2 := hSw.two; clear hSw; go_simp <;> with_reducible rfl)
        try simp only [Act.put, List.setIfInBounds_toArray, List.set_cons_zero, List.set_cons_succ]
        refine takeL 11 (v := ?_) rfl (by kernel_rfl) (by kernel_rfl) (by kernel_rfl) (fun _ _ _ h => h) (by rfl) (by assumption) ?_ ?_
        rotate_left
        · (intro w hSw; (try dsimp only at hSw); have hS1 := hSw.one; have hS2 := hSw.two; clear hSw; go_simp <;> with_reducible rfl)
        try simp only [Act.put, List.setIfInBounds_toArray, List.set_cons_zero, List.set_cons_succ]
        refine takeL 12 (v := ?_) rfl (by kernel_rfl) (by kernel_rfl) (by kernel_rfl) (fun _ _ _ h => h) (by rfl) (by assumption) ?_ ?_
        rotate_left
        · (intro w hSw; (try dsimp only at hSw); have hS1 := hSw.one; have hS2 := hSw.two; clear hSw; go_simp <;> with_reducible rfl)
        try simp only [Act.put, List.setIfInBounds_toArray, List.set_cons_zero, List.set_cons_succ]
        refine takeL 13 (v := ?_) rfl (by kernel_rfl) (by kernel_rfl) (by kernel_rfl) (fun _ _ _ h => h) (by rfl) (by assumption) ?_ ?_
        rotate_left
        · (intro w hSw; (try dsimp only at hSw); have hS1 := hSw.one; have hS2 := hSw.two; clear hSw; go_simp <;> with_reducible rfl)
        try simp only [Act.put, List.setIfInBounds_toArray, List.set_cons_zero, List.set_cons_succ]
        refine takeL 14 (v := ?_) rfl (by kernel_rfl) (by kernel_rfl) (by kernel_rfl) (fun _ _ _ h => h) (by rfl) (by assumption) ?_ ?_
        rotate_left
        · (intro w hSw; (try dsimp only at hSw); have hS1 := hSw.one; have hS2 := hSw.two; clear hSw; go_simp <;> with_reducible rfl)
        try simp only [Act.put, List.setIfInBounds_toArray, List.set_cons_zero, List.set_cons_succ]
        refine wpAnyH_done (by kernel_rfl) ?_ _
        have hB2 := hHeld.bel
        clear hHeld hT2
        go_wp2_with fail
        go_roundw
        case rel => exact ⟨k + 1, by omega, by go_num, hB2⟩
        case measure => simp [intOf]; omega
      | true =>
        rw [hh] at hH
        replace hH := Lib.hid hH
        clear hM hh
        generalize X.getD k 0 = z at *
        generalize Y.getD k 0 = z2 at *
        have hT2 : Two wL g (o + k) (.int .u64 (z : Nat)) g2 (o2 + k) (.int .u64 (z2 : Nat)) wr.drew := (Two.mk d0 e0 hB).drew
        clear d0 e0
        go_wp2_with fail
        refine wp_region_held_drew (S := (fun w' => Two wL g (o + k) (.int .u64 (z : Nat)) g2 (o2 + k) (.int .u64 (z2 : Nat)) w')) (by kernel_rfl) ?_ (fun hHeld => ?_)
        · (try dsimp only)
          (first | assumption | (exact Two.keep (by assumption) (by assumption)))
        refine takeL 0 (v := ?_) rfl (by kernel_rfl) (by kernel_rfl) (by kernel_rfl) (fun _ _ _ h => h) (by rfl) (by assumption) ?_ ?_
        rotate_left
        · (intro w hSw; (try dsimp only at hSw); have hS1 := hSw.one; have hS2 := hSw.two; clear hSw; go_simp <;> with_reducible rfl)
        try simp only [Act.put, List.setIfInBounds_toArray, List.set_cons_zero, List.set_cons_succ]
        refine takeL 1 (v := ?_) rfl (by kernel_rfl) (by kernel_rfl) (by kernel_rfl) (fun _ _ _ h => h) (by rfl) (by assumption) ?_ ?_
        rotate_left
        · (intro w hSw; (try dsimp only at hSw); have hS1 := hSw.one; have hS2 := hSw.two; clear hSw; go_simp <;> with_reducible rfl)
        try simp only [Act.put, List.setIfInBounds_toArray, List.set_cons_zero, List.set_cons_succ]
        refine oneL 2 rfl (by kernel_rfl) (fun K hK => ?_)
        go_simp
        (obtain hq := id hHeld; refine (hH.out _ hq.bel).mono ?_; rintro e w2 ⟨rfl, hb⟩)
        refine hK.out _ _ ?_ (fun hHeld2 => ?_)
        · (try dsimp only)
          (first | assumption | (exact Two.keep (by assumption) (by assumption)))
        clear hK K hHeld
        have hHeld := hHeld2
        clear hHeld2
        try simp only [Act.put, List.setIfInBounds_toArray, List.set_cons_zero, List.set_cons_succ]
        refine takeL 3 (v := ?_) rfl (by kernel_rfl) (by kernel_rfl) (by kernel_rfl) (fun _ _ _ h => h) (by rfl) (by assumption) ?_ ?_
        rotate_left
        · (intro w hSw; (try dsimp only at hSw); have hS1 := hSw.one; have hS2 := hSw.two; clear hSw; go_simp <;> with_reducible rfl)
        try simp only [Act.put, List.setIfInBounds_toArray, List.set_cons_zero, List.set_cons_succ]
        refine takeL 4 (v := ?_) rfl (by kernel_rfl) (by kernel_rfl) (by kernel_rfl) (fun _ _ _ h => h) (by rfl) (by assumption) ?_ ?_
        rotate_left
        · (intro w hSw; (try dsimp only at hSw); have hS1 := hSw.one; have hS2 := hSw.two; clear hSw; go_simp <;> with_reducible rfl)
        try simp only [Act.put, List.setIfInBounds_toArray, List.set_cons_zero, List.set_cons_succ]
        refine idleL 5 rfl (by kernel_rfl) (by kernel_rfl) (by kernel_rfl) (fun _ _ _ h => h) (by rfl) (by assumption) ?_
        try simp only [Act.put, List.setIfInBounds_toArray, List.set_cons_zero, List.set_cons_succ]
        refine idleL 6 rfl (by kernel_rfl) (by kernel_rfl) (by kernel_rfl) (fun _ _ _ h => h) (by rfl) (by assumption) ?_
        try simp only [Act.put, List.setIfInBounds_toArray, List.set_cons_zero, List.set_cons_succ]
        refine idleL 7 rfl (by kernel_rfl) (by kernel_rfl) (by kernel_rfl) (fun _ _ _ h => h) (by rfl) (by assumption) ?_
        try simp only [Act.put, List.setIfInBounds_toArray, List.set_cons_zero, List.set_cons_succ]
        refine idleL 8 rfl (by kernel_rfl) (by kernel_rfl) (by kernel_rfl) (fun _ _ _ h => h) (by rfl) (by assumption) ?_
        try simp only [Act.put, List.setIfInBounds_toArray, List.set_cons_zero, List.set_cons_succ]
        refine idleL 9 rfl (by kernel_rfl) (by kernel_rfl) (by kernel_rfl) (fun _ _ _ h => h) (by rfl) (by assumption) ?_
        try simp only [Act.put, List.setIfInBounds_toArray, List.set_cons_zero, List.set_cons_succ]
        refine idleL 10 rfl (by kernel_rfl) (by kernel_rfl) (by kernel_rfl) (fun _ _ _ h => h) (by rfl) (by assumption) ?_
        try simp only [Act.put, List.setIfInBounds_toArray, List.set_cons_zero, List.set_cons_succ]
        refine idleL 11 rfl (by kernel_rfl) (by kernel_rfl) (by kernel_rfl) (fun _ _ _ h => h) (by rfl) (by assumption) ?_
        try simp only [Act.put, List.setIfInBounds_toArray, List.set_cons_zero, List.set_cons_succ]
        refine idleL 12 rfl (by kernel_rfl) (by kernel_rfl) (by kernel_rfl) (fun _ _ _ h => h) (by rfl) (by assumption) ?_
        try simp only [Act.put, List.setIfInBounds_toArray, List.set_cons_zero, List.set_cons_succ]
        refine idleL 13 rfl (by kernel_rfl) (by kernel_rfl) (by kernel_rfl) (fun _ _ _ h => h) (by rfl) (by assumption) ?_
        try simp only [Act.put, List.setIfInBounds_toArray, List.set_cons_zero, List.set_cons_succ]
        refine takeL 14 (v := ?_) rfl (by kernel_rfl) (by kernel_rfl) (by kernel_rfl) (fun _ _ _ h => h) (by rfl) (by assumption) ?_ ?_
        rotate_left
        · (intro w hSw; (try dsimp only at hSw); have hS1 := hSw.one; have hS2 := hSw.two; clear hSw; go_simp <;> with_reducible rfl)
        try simp only [Act.put, List.setIfInBounds_toArray, List.set_cons_zero, List.set_cons_succ]
        refine wpAnyH_done (by kernel_rfl) ?_ _
        have hB2 := hHeld.bel
        clear hHeld hT2
        go_wp2_with fail
        go_roundw
        case rel => exact ⟨k + 1, by omega, by go_num, hB2⟩
        case measure => simp [intOf]; omega
    · obtain rfl : k = NX := by omega
      have hBk := hB8.trans (hB.mono hB8.size)
      replace kx := kx.keep hB
      replace ky := ky.keep hB
      replace kp := kp.keep hB
      go_wp2_with fail
      refine (hGx.out _ _ _ kx kp).mono ?_
      rintro e w20 ⟨vz, rfl, hoz, hb20⟩
      have hB20 := hBk.trans (hb20.mono hBk.size)
      replace kx := kx.keep hb20
      replace ky := ky.keep hb20
      replace kp := kp.keep hb20
      have kz := hoz.kl
      clear hb20 hBk
      clear hoz
      go_wp2_with fail
      refine (hSc2.out _ _ _ _ ky kp kz).mono ?_
      rintro e w21 ⟨vu, rfl, hou, hb21⟩
      have hB21 := hB20.trans (hb21.mono hB20.size)
      replace kx := kx.keep hb21
      replace ky := ky.keep hb21
      replace kp := kp.keep hb21
      replace kz := kz.keep hb21
      have ku := hou.kl
      clear hb21 hB20
      clear hou
      go_wp2_with fail
      refine (hWp.out _ _ _ ku kx).mono ?_
      rintro e w22 ⟨rfl, hb22⟩
      have hB22 := hB21.trans (hb22.mono hB21.size)
      replace kx := kx.keep hb22
      replace ky := ky.keep hb22
      replace kp := kp.keep hb22
      replace kz := kz.keep hb22
      replace ku := ku.keep hb22
      clear hb22 hB21
      go_wp2_with fail
      go_ret
      exact ⟨rfl, hB22⟩
theorem pieceBack (v0 v1 v2 : Value) (I l ws : List Nat) (w : World) (h0 : KL .u64 w v0 I) (hL : BL l) (h1 : KL .u8 w v1 l) (h2 : KL .u64 w v2 ws) :
    Calls Try.prog 6 #[v0, v1, v2] w fun e w' => e = .returned (.bool true) ∧ Below w.heap.size w w' := by
  by_cases hI : 100 < I.length
  · exact pieceBack_n1 v0 v1 v2 I l ws w h0 hL h1 h2 hI
  by_cases hl : 18 < l.length
  · exact pieceBack_n2 v0 v1 v2 I l ws w h0 hL h1 h2 (by omega) hl
  by_cases hw : 100 < ws.length
  · exact pieceBack_n3 v0 v1 v2 I l ws w h0 hL h1 h2 (by omega) (by omega) hw
  have h0T : 0 ≤ totS (madeL 0 l) := (placesL_len _ (fun x hx => by
    have h := madeL_mem 0 l x hx
    have h2 := (madeL_right 0 l).1 x hx
    unfold PB; omega)).2
  obtain ⟨t, ht⟩ := Int.eq_ofNat_of_zero_le h0T
  by_cases hb : ws.length < t
  · exact pieceBack_n4 v0 v1 v2 I l ws w h0 hL h1 h2 (by omega) (by omega) (by omega) t ht hb
  · exact pieceBack_yes v0 v1 v2 I l ws w h0 hL h1 h2 (by omega) (by omega) (by omega) t ht (by omega)
end Go.Proofs.Ytddfhgdejlkdgaa
