/-
  Part of the proof of SoundApart,SoundTwins,SoundWords.
-/
import Derived.Test.YtdmmbnnejbmdpaaGreatDoorVt91
import Derived.Test.YtdmmbnnejbmdpaaGreatDoorVt92
import Derived.Test.YtdmmbnnejbmdpaaGreatDoorVt920
import Derived.Test.YtdmmbnnejbmdpaaGreatDoorVt924
import Derived.Test.YtdmmbnnejbmdpaaGreatDoorVt93
import Derived.Test.YtdmmbnnejbmdpaaGreatDoorVt94
import Derived.Test.YtdmmbnnejbmdpaaGreatDoorVt95
import Derived.Test.YtdmmbnnejbmdpaaGreatDoorVt96
import Derived.Test.YtdmmbnnejbmdpaaGreatDoorVt97
import Derived.Test.YtdmmbnnejbmdpaaGreatDoorVt99
import Derived.Deep.RegionHeld3
import Derived.Laws.CopyOwn
import Derived.Lib.AppendZerosOnto
import Derived.Lib.SliceRun
import Derived.OwnWalkIn
import Derived.RangeFuncBound
import Derived.RangeFuncBox
import Derived.RangeFuncCalls
import Derived.RangeFuncFrom
import Derived.RangeFuncLeaves
import Derived.RangeFuncNested
import Derived.RangeFuncWrites
import Derived.Scope
import Derived.Test.YtdmmbnnejbmdpaaGreatDoorVt90
set_option maxRecDepth 100000
set_option maxHeartbeats 2000000
set_option linter.unusedVariables false
set_option linter.unusedSimpArgs false
section
namespace Go.Proofs.YtdmmbnnejbmdpaaGreatDoor
open Go.RowKit Go.ChangeShapes Go.WideShapes Go.Deep
def eC (x : Nat) : List Value := [.int .i64 (kN x : Nat), .int .i64 (cN x : Nat), .int .i64 (lnN x : Nat), .int .i64 (mN x : Nat), .int .u64 (bN x : Nat)]
theorem eC_len (x : Nat) : (eC x).length = 5 := rfl
theorem infoC : (Tryz.prog.info? 121).map (fun i => (i.zero, i.size, i.bytes)) = some (some (.agg #[.int .i64 0, .int .i64 0, .int .i64 0, .int .i64 0, .int .u64 0]), 5, 40) := by kernel_rfl
theorem cT : ElT Tryz.prog 117 121 5 40 eC :=
 ⟨Tryz.underlying117, by obtain ⟨i0, h1, h2, h3, h4⟩ := info_parts infoC; exact ⟨i0, _, h1, h2, h3, h4, rfl⟩, eC_len, fun x u hu => by simp only [eC, List.mem_cons, List.not_mem_nil, or_false] at hu; rcases hu with rfl | rfl | rfl | rfl | rfl <;> rfl, by decide, by decide⟩
def eB (b : Bl) : List Value := [.int .i64 (b.1 : Nat), .int .i64 (b.2.1 : Nat), .int .i64 (b.2.2 : Nat)]
theorem eB_len (x : Bl) : (eB x).length = 3 := rfl
theorem infoB : (Tryz.prog.info? 61).map (fun i => (i.zero, i.size, i.bytes)) = some (some (.agg #[.int .i64 0, .int .i64 0, .int .i64 0]), 3, 24) := by kernel_rfl
theorem bT : ElT Tryz.prog 53 61 3 24 eB :=
 ⟨Tryz.underlying53, by obtain ⟨i0, h1, h2, h3, h4⟩ := info_parts infoB; exact ⟨i0, _, h1, h2, h3, h4, rfl⟩, eB_len, fun x u hu => by simp only [eB, List.mem_cons, List.not_mem_nil, or_false] at hu; rcases hu with rfl | rfl | rfl <;> rfl, by decide, by decide⟩
abbrev CKL (w : World) (v : Value) (l : List Nat) : Prop := EL 5 eC w v l
abbrev CKO (w : World) (base : Nat) (v : Value) (l : List Nat) : Prop := OwnE 121 5 eC w base v l
abbrev BKL (w : World) (v : Value) (l : List Bl) : Prop := EL 3 eB w v l
abbrev BKO (w : World) (base : Nat) (v : Value) (l : List Bl) : Prop := OwnE 61 3 eB w base v l
theorem gN_ti (x : Nat) : getI (x : Int) 0 3 = (kN x : Nat) ∧ getI (x : Int) 3 2 = (cN x : Nat) ∧ getI (x : Int) 5 6 = (lnN x : Nat) ∧ getI (x : Int) 11 13 = (mN x : Nat) ∧ getI (x : Int) 24 8 = (bN x : Nat) := by
 obtain ⟨h0, h1, h2, h3, h4⟩ := gets (x : Int) (by omega)
 rw [h0, h1, h2, h3, h4]
 clear h0 h1 h2 h3 h4
 unfold kN cN lnN mN bN
 refine ⟨?_, ?_, ?_, ?_, ?_⟩ <;> simp only [Int.natCast_emod, Int.natCast_ediv] <;> rfl
theorem rightN_B (x : Nat) : RightN x ↔ (x < 4294967296 ∧ RightP (kN x : Nat) (cN x : Nat) (lnN x : Nat) (mN x : Nat) (bN x : Nat)) := by
 unfold RightN RightP
 generalize kN x = k
 generalize cN x = c
 generalize lnN x = l
 generalize mN x = m
 generalize bN x = b
 constructor
 ·rintro ⟨h0, h | h | h | h⟩
  ·exact ⟨h0, .inl (by omega)⟩
  ·exact ⟨h0, .inr (.inl (by omega))⟩
  ·exact ⟨h0, .inr (.inr (.inl (by omega)))⟩
  ·exact ⟨h0, .inr (.inr (.inr (by omega)))⟩
 ·rintro ⟨h0, h | h | h | h⟩
  ·exact ⟨h0, .inl (by omega)⟩
  ·exact ⟨h0, .inr (.inl (by omega))⟩
  ·exact ⟨h0, .inr (.inr (.inl (by omega)))⟩
  ·exact ⟨h0, .inr (.inr (.inr (by omega)))⟩
theorem okN_dec (x : Nat) : decB_ti (x : Int) = okN x := by
 obtain ⟨h0, h1, h2, h3, h4⟩ := gN_ti x
 unfold decB_ti rightB_ti okN
 rw [h0, h1, h2, h3, h4, Bool.eq_iff_iff, Bool.and_eq_true, decide_eq_true_iff, decide_eq_true_iff, decide_eq_true_iff, rightN_B]
 constructor
 ·rintro ⟨a, b⟩; exact ⟨by omega, a⟩
 ·rintro ⟨a, b⟩; exact ⟨b, by omega⟩
theorem dcY (x : Nat) (w : World) (hw : Lw w) (h1 : x < 18446744073709551616) (h : okN x = true) :
 Calls Tryz.prog 104 #[.int .u64 (x : Nat)] w fun e w' => e = .returned (.tuple #[.agg #[.int .i64 (kN x : Nat), .int .i64 (cN x : Nat), .int .i64 (lnN x : Nat), .int .i64 (mN x : Nat), .int .u64 (bN x : Nat)], .bool true]) ∧ Below w.heap.size w w' := by
 have := dec_yes_ti (x : Int) w hw (by omega) (by omega) ((okN_dec x).trans h)
 obtain ⟨h0, h1, h2, h3, h4⟩ := gN_ti x
 rwa [h0, h1, h2, h3, h4] at this
theorem dcN (x : Nat) (w : World) (hw : Lw w) (h1 : x < 18446744073709551616) (h : okN x = false) :
 Calls Tryz.prog 104 #[.int .u64 (x : Nat)] w fun e w' => e = .returned (.tuple #[.agg #[.int .i64 0, .int .i64 0, .int .i64 0, .int .i64 0, .int .u64 0], .bool false]) ∧ Below w.heap.size w w' :=
 dec_no_ti (x : Int) w hw (by omega) (by omega) ((okN_dec x).trans h)
theorem rdcY (x : Nat) (w : World) (hw : Lw w) (h1 : x < 18446744073709551616) (h : okN x = true) :
 Calls Tryz.prog 95 #[.int .u64 (x : Nat)] w fun e w' => e = .returned (.tuple #[.agg #[.int .i64 (kN x : Nat), .int .i64 (cN x : Nat), .int .i64 (lnN x : Nat), .int .i64 (mN x : Nat), .int .u64 (bN x : Nat)], .bool true]) ∧ Below w.heap.size w w' := by
 have := refDecode_any_ti (x : Int) w hw (by omega) (by omega)
 obtain ⟨h0, h1, h2, h3, h4⟩ := gN_ti x
 unfold decV at this
 rw [okN_dec, h, if_pos rfl] at this
 rwa [h0, h1, h2, h3, h4] at this
theorem rdcN (x : Nat) (w : World) (hw : Lw w) (h1 : x < 18446744073709551616) (h : okN x = false) :
 Calls Tryz.prog 95 #[.int .u64 (x : Nat)] w fun e w' => e = .returned (.tuple #[.agg #[.int .i64 0, .int .i64 0, .int .i64 0, .int .i64 0, .int .u64 0], .bool false]) ∧ Below w.heap.size w w' := by
 have := refDecode_any_ti (x : Int) w hw (by omega) (by omega)
 unfold decV at this
 rw [okN_dec, h, if_neg (by simp)] at this
 exact this
theorem CKL.form {w : World} {v : Value} {l : List Nat} {n : Nat} (h : CKL w v l) (hn : l.length = n) : ∃ A cap, v = .slice A n cap ∧
 ∀ w1 i, Below w.heap.size w w1 → i < n → ∃ g off, A = some ⟨g, off, none⟩ ∧ n ≤ cap ∧ g < w.heap.size ∧ g < w1.heap.size ∧ w1.cell? ⟨g, off + i * 5, none⟩ = some (.int .i64 (kN (l.getD i 0) : Nat)) ∧ w1.cell? ⟨g, off + i * 5 + 1, none⟩ = some (.int .i64 (cN (l.getD i 0) : Nat)) ∧ w1.cell? ⟨g, off + i * 5 + 2, none⟩ = some (.int .i64 (lnN (l.getD i 0) : Nat)) ∧ w1.cell? ⟨g, off + i * 5 + 3, none⟩ = some (.int .i64 (mN (l.getD i 0) : Nat)) ∧ w1.cell? ⟨g, off + i * 5 + 4, none⟩ = some (.int .u64 (bN (l.getD i 0) : Nat)) := by
 obtain ⟨A, cap, hv, h⟩ := EL.form h hn
 refine ⟨A, cap, hv, fun w1 i hb hi => ?_⟩
 obtain ⟨g, off, hA, h1, h2, h3, hc⟩ := h w1 i hb hi
 exact ⟨g, off, hA, h1, h2, h3, hc 0 (by omega), hc 1 (by omega), hc 2 (by omega), hc 3 (by omega), hc 4 (by omega)⟩
theorem BKL.form {w : World} {v : Value} {l : List Bl} {n : Nat} (h : BKL w v l) (hn : l.length = n) : ∃ A cap, v = .slice A n cap ∧
 ∀ w1 i, Below w.heap.size w w1 → i < n → ∃ g off, A = some ⟨g, off, none⟩ ∧ n ≤ cap ∧ g < w.heap.size ∧ g < w1.heap.size ∧ w1.cell? ⟨g, off + i * 3, none⟩ = some (.int .i64 ((l.getD i default).1 : Nat)) ∧ w1.cell? ⟨g, off + i * 3 + 1, none⟩ = some (.int .i64 ((l.getD i default).2.1 : Nat)) ∧ w1.cell? ⟨g, off + i * 3 + 2, none⟩ = some (.int .i64 ((l.getD i default).2.2 : Nat)) := by
 obtain ⟨A, cap, hv, h⟩ := EL.form h hn
 refine ⟨A, cap, hv, fun w1 i hb hi => ?_⟩
 obtain ⟨g, off, hA, h1, h2, h3, hc⟩ := h w1 i hb hi
 exact ⟨g, off, hA, h1, h2, h3, hc 0 (by omega), hc 1 (by omega), hc 2 (by omega)⟩
def HL (l : List Nat) : Prop := ∀ x ∈ l, x < 65536
theorem halves_open {H : Type} {enc : TypeId × Value → H} {P : Program} {W : World} {t e : TypeId} (ht : P.underlying t = some (.slice e)) (he : P.underlying e = some (.int .u16)) (hc : P.cellsOf e = 1) {ad : Option Addr} {len cap : Nat} {d : DataW H} {p : List MemPlace}
 (h : DataW.Trod enc P W 0 (fun _ => true) true t (.slice ad len cap) d p) : ∃ l : List Nat, HL l ∧ KL .u16 W (.slice ad len cap) l := by
 obtain ⟨fuel, hf⟩ := h
 rcases open_ints ht he hc hf with ⟨hcs, _⟩ | ⟨a, len', cap', zs, hcs, _, hl, hm, hz, _, hcell, hwz⟩
 ·simp [Value.cells] at hcs
  obtain ⟨rfl, rfl, rfl⟩ := hcs
  exact ⟨[], fun x hx => by simp at hx, none, 0, rfl, fun h => by simp at h⟩
 ·simp [Value.cells] at hcs
  obtain ⟨rfl, rfl, rfl⟩ := hcs
  simp only [if_true] at hz
  have hb : ∀ z ∈ zs, 0 ≤ z ∧ z ≤ 65535 := fun z hz => bounds_u16 (hwz z hz)
  have hlen : ((zs.take len).map Int.toNat).length = len := by simp; omega
  refine ⟨(zs.take len).map Int.toNat, fun x hx => ?_, some a, cap, by rw [hlen], fun h0 => ?_⟩
  ·obtain ⟨z, hz1, rfl⟩ := List.mem_map.1 hx
   have := hb z (List.mem_of_mem_take hz1)
   omega
  ·rw [hlen] at h0 ⊢
   have hc0 := hcell 0 (by omega)
   have hsp : a.spot = none := by
    have := spot_none hc0
    unfold Addr.add at this
    simpa using this
   obtain ⟨g, off, sp⟩ := a
   simp only at hsp
   subst hsp
   refine ⟨g, off, rfl, ?_, by omega, fun i hil => ?_⟩
   ·have := World.block_lt_of_cell? _ _ hc0
    simpa [add_plain] using this
   ·have := hcell i (by omega)
    rw [add_plain] at this
    rw [this]
    have hzi : i < zs.length := by omega
    have e1 : ((zs.take len).map Int.toNat).getD i 0 = (zs[i]).toNat := by
     rw [List.getD_eq_getElem?_getD, List.getElem?_map, List.getElem?_take, if_pos hil, List.getElem?_eq_getElem hzi]
     rfl
    have e2 : zs.getD i 0 = zs[i] := by rw [List.getD_eq_getElem?_getD, List.getElem?_eq_getElem hzi]; rfl
    rw [e1, e2, Int.toNat_of_nonneg (hb _ (List.getElem_mem hzi)).1]
end Go.Proofs.YtdmmbnnejbmdpaaGreatDoor
end
section
namespace Go.Proofs.YtdmmbnnejbmdpaaGreatDoor
open Go.RowKit Go.ChangeShapes Go.WideShapes Go.Deep
theorem cellK5 {w w1 : World} {b o : Nat} {v : Value} (h : w.cell? ⟨b, o, none⟩ = some v) (hb : Below w.heap.size w w1) : w1.cell? ⟨b, o, none⟩ = some v := by
 rw [(bcell hb).1 _ _ (World.block_lt_of_cell? _ _ h)]; exact h
theorem eC_new (w : World) (x : Nat) (t : TypeId) : CKL (w.alloc (.cells #[.int .i64 (kN x : Nat), .int .i64 (cN x : Nat), .int .i64 (lnN x : Nat), .int .i64 (mN x : Nat), .int .u64 (bN x : Nat)] t)) (.slice (some ⟨w.heap.size, 0, none⟩) 1 1) [x] := by
 refine ⟨_, _, rfl, fun _ => ⟨w.heap.size, 0, rfl, by simp, by simp, fun i hi j hj => ?_⟩⟩
 have hi0 : i = 0 := by simp at hi; omega
 subst hi0
 have h5 : j = 0 ∨ j = 1 ∨ j = 2 ∨ j = 3 ∨ j = 4 := by omega
 rcases h5 with rfl | rfl | rfl | rfl | rfl <;> simp [go_sem, eC]
theorem take_all {l : List Nat} {n : Nat} (h : l.length = n) : l.take n = l := List.take_of_length_le (by omega)
theorem take_snoc {l : List Nat} {k : Nat} (h : k < l.length) : l.take (k + 1) = l.take k ++ [l.getD k 0] := by
 rw [List.take_succ_eq_append_getElem h, List.getD_eq_getElem?_getD, List.getElem?_eq_getElem h]; rfl
theorem snoc_all {l : List Nat} {k n : Nat} (hn : l.length = n) (hk : k < n) (h1 : (l.take k).all okN = true) (h2 : okN (l.getD k 0) = true) : (l.take (k + 1)).all okN = true := by
 rw [take_snoc (by omega), List.all_append, h1]; simp only [List.all_cons, List.all_nil, h2, Bool.and_self]
theorem not_all {l : List Nat} {k n : Nat} (hn : l.length = n) (hk : k < n) (h2 : okN (l.getD k 0) = false) : l.all okN = false := by
 cases h : l.all okN with
 | false => rfl
 | true => rw [all_at h (by omega)] at h2; cases h2
def ChunksP (w : World) (t : List Nat) (e : Ending) (w' : World) : Prop :=
 (t.all okN = true ∧ ∃ v', e = .returned (.tuple #[v', .bool true]) ∧ CKO w' w.heap.size v' t) ∨ (t.all okN = false ∧ e = .returned (.tuple #[.slice none 0 0, .bool false]))
theorem chunks_any (v : Value) (t : List Nat) (w : World) (hw : Lw w) (hv : KL .u64 w v t) (hW : WL t) (hl : t.length ≤ 100000) :
 Calls Tryz.prog 74 #[v] w fun e w' => ChunksP w t e w' ∧ Below w.heap.size w w' := by
 obtain ⟨n, hn⟩ : ∃ n, t.length = n := ⟨_, rfl⟩
 obtain ⟨A, cap, rfl, hC⟩ := hv.form hn
 replace hC := lh hC
 have hWx := lh (fun k (hk : k < n) => show t.getD k 0 < 18446744073709551616 from hW.at k (by omega))
 have hSn := lh (fun k (hk : k < n) => snoc_all hn hk)
 have hNo := lh (fun k (hk : k < n) => not_all hn hk)
 have hTs := lh (fun k (hk : k < n) => take_snoc (l := t) (k := k) (by omega))
 have hTa := lh (take_all hn)
 have hTl := lh (fun k (hk : k ≤ n) => show (t.take k).length = k from by rw [List.length_take]; omega)
 have hn9 : n ≤ 100000 := by omega
 replace hn := lh hn
 have hwh := lh hw
 clear hv hW hl hw
 obtain ⟨i0, hi, hz0, hz1, hz2⟩ := info_parts infoC
 go_enter Tryz.func74, Tryz.ntmps74
 go_wp2_with (at_make; refine wpList_make_own _ rfl _ _ 117 rfl w.heap.size 121 i0 (.agg #[.int .i64 0, .int .i64 0, .int .i64 0, .int .i64 0, .int .u64 0]) 5 Tryz.underlying117 hi hz0 hz1 .i64 .i64 _ n rfl rfl rfl (by rw [hz2]; omega) (by unfold maxLen; omega) (Nat.le_refl _) ?_; intro w1 hown0 hgr; have hB0 : Below w.heap.size w w1 := (Below.refl _ _).grown hgr (Nat.le_refl _) (by simp); have hO0 : CKO w1 w.heap.size (.slice (some ⟨w.heap.size, 0, none⟩) 0 n) [] := hown0; clear hown0 hgr)
 go_loopw [14, 4] (fun i l wr => ∃ (j : Nat) (J : List Nat), j ≤ n ∧ i = .int .i64 j ∧ Hid (J = t.take j ∧ J.all okN = true) ∧ CKO wr w.heap.size l J ∧ Below w.heap.size w wr) (fun i _ _ => n + 1 - (intOf i).toNat)
 case atStart => exact ⟨0, [], Nat.zero_le _, rfl, ⟨by simp, by simp⟩, hO0, hB0⟩
 case round =>
  obtain ⟨j, J, hj, rfl, hJ, hown, hB⟩ := hrel
  by_cases hlt : j < n
  ·obtain ⟨g, off, rfl, hcap, hg, c0⟩ := hC.out wr j hB hlt
   have hlt' : (j : Int) < (n : Int) := by omega
   have hx := hWx.out j hlt
   have hJl : J.length = j := by rw [hJ.out.1]; exact hTl.out j hj
   have hsn := hSn.out j hlt
   have hno := hNo.out j hlt
   have hts := hTs.out j hlt
   rw [← hJ.out.1] at hts hsn
   generalize t.getD j 0 = x at *
   replace hts := lh hts
   have hlw := hwh.out.keep hB
   cases hok : okN x with
   | true =>
     have hsn2 := lh (hsn hJ.out.2 hok)
     have hD := dcY x wr hlw hx hok
     clear hsn hno hok hlw
     go_wp2_with fail
     refine hD.mono ?_
     rintro e w1 ⟨rfl, hb⟩
     have hB1 := hB.trans (hb.mono hB.size)
     have ho1 := hown.keep hb
     -- the chunk's own block, and the literal's
     have hA1 := bZ w1 (.cells #[.int .i64 (kN x : Nat), .int .i64 (cN x : Nat), .int .i64 (lnN x : Nat), .int .i64 (mN x : Nat), .int .u64 (bN x : Nat)] 121)
     generalize hw2 : w1.alloc (.cells #[.int .i64 (kN x : Nat), .int .i64 (cN x : Nat), .int .i64 (lnN x : Nat), .int .i64 (mN x : Nat), .int .u64 (bN x : Nat)] 121) = w2 at *
     obtain ⟨v', w4, hrun, ho4, hg4, _, _⟩ := appE cT ((ho1.keep hA1).alloc (.cells #[.int .i64 (kN x : Nat), .int .i64 (cN x : Nat), .int .i64 (lnN x : Nat), .int .i64 (mN x : Nat), .int .u64 (bN x : Nat)] (121 : Nat))) (eC_new w2 x (121 : Nat)) (by have := hB1.size; have := hA1.size; simp; omega) (by omega) (by simp)
     have hs2 : w2.heap.size = w1.heap.size + 1 := by rw [← hw2]; simp
     have hc5 := C5.new w1 (kN x : Nat) (cN x : Nat) (lnN x : Nat) (mN x : Nat) (bN x : Nat) 121
     rw [hw2] at hc5
     have hB4 : Below w.heap.size w w4 := ((hB1.trans (hA1.mono hB1.size)).alloc (by have := hB1.size; omega) _).trans (grown_below hg4 (by have := hB1.size; simp; omega) (fun k hk => (ho1.lt k hk).1))
     clear hA1 hg4 hD hb
     subst hw2
     simp only [World.size_alloc] at hrun
     go_wp2_with (at_builtin; refine wpList_append_run rfl _ _ 117 rfl _ _ _ rfl rfl hrun ?_)
     go_roundw
     case rel => exact ⟨j + 1, J ++ [x], by omega, by go_num, ⟨hts.out.symm, by rw [← hts.out]; exact hsn2.out⟩, ho4, hB4⟩
     case measure => first | (simp [intOf]; done) | (simp [intOf]; omega)
   | false =>
     have hno2 := lh (hno hok)
     have hD := dcN x wr hlw hx hok
     clear hsn hno hok hlw
     go_wp2_with fail
     refine hD.mono ?_
     rintro e w1 ⟨rfl, hb⟩
     have hB1 := hB.trans (hb.mono hB.size)
     go_wp2_with fail
     go_ret2
     exact ⟨.inr ⟨hno2.out, rfl⟩, hB1.alloc hB1.size _⟩
  ·obtain rfl : j = n := by omega
   have hJt := hTa.out
   rw [← hJ.out.1] at hJt
   subst hJt
   go_wp2_with fail
   go_ret2
   exact ⟨.inl ⟨hJ.out.2, _, rfl, hown⟩, hB⟩
theorem refChunks_any (v : Value) (t : List Nat) (w : World) (hw : Lw w) (hv : KL .u64 w v t) (hW : WL t) (hl : t.length ≤ 100000) :
 Calls Tryz.prog 60 #[v] w fun e w' => ChunksP w t e w' ∧ Below w.heap.size w w' := by
 obtain ⟨n, hn⟩ : ∃ n, t.length = n := ⟨_, rfl⟩
 obtain ⟨A, cap, rfl, hC⟩ := hv.form hn
 replace hC := lh hC
 have hWx := lh (fun k (hk : k < n) => show t.getD k 0 < 18446744073709551616 from hW.at k (by omega))
 have hSn := lh (fun k (hk : k < n) => snoc_all hn hk)
 have hNo := lh (fun k (hk : k < n) => not_all hn hk)
 have hTs := lh (fun k (hk : k < n) => take_snoc (l := t) (k := k) (by omega))
 have hTa := lh (take_all hn)
 have hTl := lh (fun k (hk : k ≤ n) => show (t.take k).length = k from by rw [List.length_take]; omega)
 have hn9 : n ≤ 100000 := by omega
 replace hn := lh hn
 have hwh := lh hw
 clear hv hW hl hw
 go_enter Tryz.func60, Tryz.ntmps60
 go_wp2_with fail
 go_loopw [5, 4] (fun i l wr => ∃ (j : Nat) (J : List Nat), j ≤ n ∧ i = .int .i64 j ∧ Hid (J = t.take j ∧ J.all okN = true) ∧ CKO wr w.heap.size l J ∧ Below w.heap.size w wr) (fun i _ _ => n + 1 - (intOf i).toNat)
 case atStart => exact ⟨0, [], Nat.zero_le _, rfl, ⟨by simp, by simp⟩, OwnE.nil _ _ _ _ _, Below.refl _ _⟩
 case round =>
  obtain ⟨j, J, hj, rfl, hJ, hown, hB⟩ := hrel
  by_cases hlt : j < n
  ·obtain ⟨g, off, rfl, hcap, hg, c0⟩ := hC.out wr j hB hlt
   have hlt' : (j : Int) < (n : Int) := by omega
   have hx := hWx.out j hlt
   have hJl : J.length = j := by rw [hJ.out.1]; exact hTl.out j hj
   have hsn := hSn.out j hlt
   have hno := hNo.out j hlt
   have hts := hTs.out j hlt
   rw [← hJ.out.1] at hts hsn
   generalize t.getD j 0 = x at *
   replace hts := lh hts
   have hlw := hwh.out.keep hB
   cases hok : okN x with
   | true =>
     have hsn2 := lh (hsn hJ.out.2 hok)
     have hD := rdcY x wr hlw hx hok
     clear hsn hno hok hlw
     go_wp2_with fail
     refine hD.mono ?_
     rintro e w1 ⟨rfl, hb⟩
     have hB1 := hB.trans (hb.mono hB.size)
     have ho1 := hown.keep hb
     -- the chunk's own block, and the literal's
     have hA1 := bZ w1 (.cells #[.int .i64 (kN x : Nat), .int .i64 (cN x : Nat), .int .i64 (lnN x : Nat), .int .i64 (mN x : Nat), .int .u64 (bN x : Nat)] 121)
     generalize hw2 : w1.alloc (.cells #[.int .i64 (kN x : Nat), .int .i64 (cN x : Nat), .int .i64 (lnN x : Nat), .int .i64 (mN x : Nat), .int .u64 (bN x : Nat)] 121) = w2 at *
     obtain ⟨v', w4, hrun, ho4, hg4, _, _⟩ := appE cT ((ho1.keep hA1).alloc (.cells #[.int .i64 (kN x : Nat), .int .i64 (cN x : Nat), .int .i64 (lnN x : Nat), .int .i64 (mN x : Nat), .int .u64 (bN x : Nat)] (121 : Nat))) (eC_new w2 x (121 : Nat)) (by have := hB1.size; have := hA1.size; simp; omega) (by omega) (by simp)
     have hs2 : w2.heap.size = w1.heap.size + 1 := by rw [← hw2]; simp
     have hc5 := C5.new w1 (kN x : Nat) (cN x : Nat) (lnN x : Nat) (mN x : Nat) (bN x : Nat) 121
     rw [hw2] at hc5
     have hB4 : Below w.heap.size w w4 := ((hB1.trans (hA1.mono hB1.size)).alloc (by have := hB1.size; omega) _).trans (grown_below hg4 (by have := hB1.size; simp; omega) (fun k hk => (ho1.lt k hk).1))
     clear hA1 hg4 hD hb
     subst hw2
     simp only [World.size_alloc] at hrun
     go_wp2_with (at_builtin; refine wpList_append_run rfl _ _ 117 rfl _ _ _ rfl rfl hrun ?_)
     go_roundw
     case rel => exact ⟨j + 1, J ++ [x], by omega, by go_num, ⟨hts.out.symm, by rw [← hts.out]; exact hsn2.out⟩, ho4, hB4⟩
     case measure => first | (simp [intOf]; done) | (simp [intOf]; omega)
   | false =>
     have hno2 := lh (hno hok)
     have hD := rdcN x wr hlw hx hok
     clear hsn hno hok hlw
     go_wp2_with fail
     refine hD.mono ?_
     rintro e w1 ⟨rfl, hb⟩
     have hB1 := hB.trans (hb.mono hB.size)
     go_wp2_with fail
     go_ret2
     exact ⟨.inr ⟨hno2.out, rfl⟩, hB1.alloc hB1.size _⟩
  ·obtain rfl : j = n := by omega
   have hJt := hTa.out
   rw [← hJ.out.1] at hJt
   subst hJt
   go_wp2_with fail
   go_ret2
   exact ⟨.inl ⟨hJ.out.2, _, rfl, hown⟩, hB⟩
end Go.Proofs.YtdmmbnnejbmdpaaGreatDoor
end
section
namespace Go.Proofs.YtdmmbnnejbmdpaaGreatDoor
open Go.RowKit Go.ChangeShapes Go.WideShapes Go.Deep
theorem runT_all {t : List Nat} {n k : Nat} (hn : t.length = n) (hk : k ≤ n) (h : runT t k = none) : rightT t = false := by
 unfold rightT
 rw [runT_none h _ (by omega)]
 simp
theorem right_any2 (v : Value) (t : List Nat) (w : World) (hw : Lw w) (hv : KL .u64 w v t) (hW : WL t) (hl : t.length ≤ 100000) :
 Calls Tryz.prog 72 #[v] w fun e w' => e = .returned (.bool (rightT t)) ∧ Below w.heap.size w w' := by
 have hCh := chunks_any v t w hw hv hW hl
 obtain ⟨n, hn⟩ : ∃ n, t.length = n := ⟨_, rfl⟩
 have hn9 : n ≤ 100000 := by omega
 have hTa := lh (fun (h : t.all okN = true) => show rightT t = (runT t n == some 0) from by unfold rightT; rw [h, hn, Bool.true_and])
 have hTn := lh (fun k (hk : k ≤ n) => runT_all (t := t) hn hk)
 have hTs := lh (fun k => show runT t (k + 1) = (runT t k).bind (stepT (t.getD k 0)) from rfl)
 have hT0 := lh (show runT t 0 = some 0 from rfl)
 have hTf := lh (fun (h : t.all okN = false) => show rightT t = false from by unfold rightT; rw [h]; rfl)
 have hOk := lh (fun (h : t.all okN = true) k (hk : k < n) => okN_t (all_at h (k := k) (by omega)))
 generalize hR : rightT t = R at *
 replace hR := lh hR
 replace hn := lh hn
 obtain ⟨A, cap, rfl, _⟩ := hv.form hn.out
 clear hv hW hl hw
 go_enter Tryz.func72, Tryz.ntmps72
 go_wp2_with fail
 refine hCh.mono ?_
 rintro e w1 ⟨hP, hb1⟩
 rcases hP with ⟨hok, v1, rfl, ho1⟩ | ⟨hok, rfl⟩
 ·obtain ⟨A1, c1, rfl, hC⟩ := CKL.form (ho1.el eC_len) hn.out
  replace hC := lh hC
  have hTa1 := lh (hTa.out hok)
  have hok1 := lh (hOk.out hok)
  clear hTa hTf hok hOk ho1 hCh
  go_wp2_with fail
  go_loopw [15, 5] (fun i tl wr => ∃ j T : Nat, j ≤ n ∧ i = .int .i64 j ∧ tl = .int .i64 T ∧ Hid (runT t j = some T) ∧ Hid (T ≤ 10000) ∧ Below w1.heap.size w1 wr) (fun i _ _ => n + 1 - (intOf i).toNat)
  case atStart => exact ⟨0, 0, Nat.zero_le _, rfl, rfl, hT0, lh (by omega), Below.refl _ _⟩
  case round =>
   obtain ⟨j, T, hj, rfl, rfl, hJ, hT9, hB⟩ := hrel
   have hB1 := hb1.trans (hB.mono hb1.size)
   by_cases hlt : j < n
   ·obtain ⟨g, off, rfl, hcap, hg, hg2, c0, c1, c2, c3, c4⟩ := hC.out wr j hB hlt
    have hlt' : (j : Int) < (n : Int) := by omega
    have hs := hTs.out j
    have hx := hok1.out j hlt
    rw [hJ.out, Option.bind_some] at hs
    have hbd := parts_bd (t.getD j 0)
    generalize t.getD j 0 = x at *
    have hT9' := hT9.out
    have hA1 := C5.new wr (kN x : Nat) (cN x : Nat) (lnN x : Nat) (mN x : Nat) (bN x : Nat) 121
    obtain ⟨d0, d1, d2, d3, d4⟩ := hA1
    have hBa := hB.alloc hB.size (.cells #[.int .i64 (kN x : Nat), .int .i64 (cN x : Nat), .int .i64 (lnN x : Nat), .int .i64 (mN x : Nat), .int .u64 (bN x : Nat)] 121)
    have hBr := hb1.trans (hBa.mono hb1.size)
    have hm1 : kN x = 2 → 1 ≤ mN x := fun h => by unfold RightN at hx; omega
    replace hm1 := lh hm1
    clear hx hJ hT9
    unfold stepT at hs
    obtain ⟨K, hK⟩ : ∃ K : Int, ((kN x : Nat) : Int) = K := ⟨_, rfl⟩
    by_cases k3 : kN x = 3
    ·obtain rfl : K = 3 := by omega
     rw [hK] at c0 d0
     rw [k3] at hs
     by_cases hT : 0 < T
     ·rw [decide_eq_true hT] at hs
      simp only [decide_true, if_true] at hs
      replace hs := lh hs
      have g1 : decide (0 < T) = true := decide_eq_true hT
      have g2 : IntKind.i64.wrap ((T : Int) - 1) = ((T - 1 : Nat) : Int) := by rw [IntKind.wrap_i64]; omega
      have g3 : 0 < (T : Int) := by omega
      have hT2 : Hid (T - 1 ≤ 10000) := lh (by omega)
      rw [hK] at hBa
      clear hK k3 hm1 hbd
      go_wp2_with fail
      go_roundw
      case rel => exact ⟨j + 1, T - 1, by omega, by go_num, by first | rfl | go_num | (congr 1; omega), hs, hT2, hBa⟩
      case measure => first | (simp [intOf]; done) | (simp [intOf]; omega)
     ·rw [decide_eq_false hT] at hs
      simp only [decide_true, Bool.true_eq_false, if_false, reduceCtorEq] at hs
      have hr := lh (hTn.out (j + 1) (by omega) hs)
      have g1 : decide (0 < T) = false := decide_eq_false hT
      have g3 : ¬ 0 < (T : Int) := by omega
      clear hs k3 hm1 hbd hT
      rw [hK] at hBr
      clear hK
      go_wp2_with fail
      go_ret
      exact ⟨ret_b hr.out.symm, hBr⟩
    ·have f3 : (K == 3) = false := by rw [beq_eq_false_iff_ne]; omega
     have f3' : ¬ K = 3 := by omega
     rw [hK] at c0 d0
     rw [decide_eq_false k3] at hs
     by_cases hT : 0 < T
     ·rw [decide_eq_true hT] at hs
      simp only [Bool.false_eq_true, if_false, reduceCtorEq] at hs
      have hr := lh (hTn.out (j + 1) (by omega) hs)
      have g1 : decide (0 < T) = true := decide_eq_true hT
      have g3 : 0 < (T : Int) := by omega
      clear hs k3 hm1 hbd hT
      rw [hK] at hBr
      clear hK
      go_wp2_with fail
      go_ret
      exact ⟨ret_b hr.out.symm, hBr⟩
     ·rw [decide_eq_false hT] at hs
      simp only [if_true, if_neg k3] at hs
      have g1 : decide (0 < T) = false := decide_eq_false hT
      have g3 : ¬ 0 < (T : Int) := by omega
      by_cases k2 : kN x = 2
      ·obtain rfl : K = 2 := by omega
       have hm2 := hm1.out k2
       rw [if_pos k2] at hs
       generalize mN x = M at *
       have g2 : IntKind.i64.wrap ((M : Int) - 1) = ((M - 1 : Nat) : Int) := by rw [IntKind.wrap_i64]; omega
       have hT2 : Hid (M - 1 ≤ 10000) := lh (by omega)
       replace hs := lh hs
       rw [hK] at hBa
       clear hK k3 k2 hm1 hm2 hbd f3 f3'
       go_wp2_with fail
       go_roundw
       case rel => exact ⟨j + 1, M - 1, by omega, by go_num, by first | rfl | go_num | (congr 1; omega), hs, hT2, hBa⟩
       case measure => first | (simp [intOf]; done) | (simp [intOf]; omega)
      ·have f2 : (K == 2) = false := by rw [beq_eq_false_iff_ne]; omega
       have f2' : ¬ K = 2 := by omega
       rw [if_neg k2] at hs
       replace hs := lh hs
       rw [hK] at hBa
       clear hK k3 k2 hm1 hbd
       go_wp2_with fail
       go_roundw
       case rel => exact ⟨j + 1, T, by omega, by go_num, rfl, hs, lh hT9', hBa⟩
       case measure => first | (simp [intOf]; done) | (simp [intOf]; omega)
   ·obtain rfl : j = n := by omega
    have hr : R = decide ((T : Int) = 0) := by
     rw [hTa1.out, hJ.out, Bool.eq_iff_iff, beq_iff_eq, decide_eq_true_iff, Option.some.injEq]; omega
    replace hr := lh hr
    by_cases h0 : T = 0
    ·have g1 : ((T : Int) == 0) = true := by rw [beq_iff_eq]; omega
     have hr2 : Hid (R = true) := lh (by rw [hr.out]; exact decide_eq_true (by omega))
     clear h0
     go_wp2_with fail
     go_ret
     exact ⟨ret_b (by rw [hr2.out]), hB1⟩
    ·have g1 : ((T : Int) == 0) = false := by rw [beq_eq_false_iff_ne]; omega
     have g2 : ¬ (T : Int) = 0 := by omega
     have hr2 : Hid (R = false) := lh (by rw [hr.out]; exact decide_eq_false (by omega))
     clear h0
     go_wp2_with fail
     go_ret
     exact ⟨ret_b (by rw [hr2.out]), hB1⟩
 ·have hr := lh (hTf.out hok)
  clear hTa hTf hok hOk hCh
  go_wp2_with fail
  go_loopw [15, 5] (fun i tl wr => i = .int .i64 0 ∧ tl = .int .i64 0 ∧ Below w.heap.size w wr) (fun i _ _ => 0)
  case atStart => exact ⟨rfl, rfl, hb1⟩
  case round =>
   obtain ⟨rfl, rfl, hB⟩ := hrel
   go_wp2_with fail
   go_ret
   exact ⟨ret_b (by rw [hr.out]), hB⟩
end Go.Proofs.YtdmmbnnejbmdpaaGreatDoor
end
section
namespace Go.Proofs.YtdmmbnnejbmdpaaGreatDoor
open Go.RowKit Go.ChangeShapes Go.WideShapes Go.Deep Go.Shelf
attribute [local go_sem] Oper.semAt_some
theorem placesL_in (n : Nat) (hn : 3 ≤ n) (x : Nat) (m : Int) (w : World) (h1 : x < 18446744073709551616) (hd : Deb w) (h0 : 6 < w.heap.size) :
 CallsIn Fence.wide n Tryz.prog 127 #[.int .u64 x, .int .i64 m] w fun e W' => ∃ v, e = .returned v ∧ W'.ownsRow w.heap.size 3 1 v (onesL (lowN x m) 64).length ((onesL (lowN x m) 64).map fun y : Nat => Value.int .i64 y) ∧ Below w.heap.size w W' := by
 have hn1 : 1 ≤ n := by omega
 refine callsIn_of_wp_marks Tryz.func127 rfl trivial ?_ rfl
 simp only [Tryz.ntmps127, List.size_toArray, List.length_cons, List.length_nil, Nat.reduceAdd, Nat.reduceSub, Array.replicate_succ, Array.replicate_zero, List.push_toArray, List.append_toArray, List.nil_append, List.cons_append]
 gi_wp2
 refine ⟨trivial, (callsIn_wide.2 (lowest_all x m _ h1)).mono ?_⟩
 rintro e w' ⟨rfl, rfl⟩
 gi_wp2
 refine ⟨trivial, (places_in_ti (n - 1) (lowN x m) _).mono ?_⟩
 rintro e w' ⟨rfl, rfl⟩
 gi_wp2
 obtain ⟨i0, hi, hz0, hz1, hz2⟩ := info_parts infoInt
 have bO := Boxed.new w 86 (.slice none 0 0)
 have bN := Boxed.new (w.alloc (.cells #[.slice none 0 0] 86)) 33 (.int .u64 (lowN x m))
 rw [World.size_alloc] at bN
 have hB0 : Below w.heap.size w ((w.alloc (.cells #[.slice none 0 0] 86)).alloc (.cells #[.int .u64 (lowN x m)] 33)) := (bZ w _).alloc (by simp) _
 have hN := ones_len (lowN x m) 64
 refine wpIn_rangeFunc_ownG rfl hn1 (gf := 138) (lb := #[.pointer (some ⟨w.heap.size + 1, 0, none⟩)]) rfl trivial (enters_of Tryz.func138 (by kernel_rfl) rfl)
  (places_stops (n - 1) (by omega) (w.heap.size + 1) w.heap.size (lowN x m) (lowN_lt x m h1) _ (by simp) (by simp; omega) h0 bN.cell (hd.keep hB0 h0)) belowK_t (belowK_b (by simp; omega)) (Below.refl _ _) (fun _ => rfl)
  (fun pre W => (∃ v, Boxed W w.heap.size 86 v ∧ W.ownsRow w.heap.size 3 1 v (pre : List Nat).length (pre.map fun y : Nat => Value.int .i64 y) ∧ True) ∧ Below w.heap.size w W)
  (fun _ _ _ => False)
  (OwnFrom.and (Own.from (holdsRow_own w.heap.size w.heap.size 86 3 1 (fun pre : List Nat => pre.length) (fun pre => pre.map fun y : Nat => Value.int .i64 y) (fun pre v => True)) _) (ownFrom_below (Nat.le_refl _) (by simp; omega)))
  (fun _ _ _ _ _ hs _ _ => hs)
  ⟨⟨_, bO.alloc _, World.ownsRow_nil _ _ _ _, trivial⟩, hB0⟩
  (fun y => { tmps := #[.int .u64 x, .int .i64 m, undef, undef, .slice none 0 0, .pointer (some ⟨w.heap.size, 0, none⟩), .int .i64 y, .int .u64 x, .int .i64 m, .int .u64 (lowN x m), .func (.func 138) #[] #[.pointer (some ⟨w.heap.size + 1, 0, none⟩)], .int .i64 y, undef, undef, undef, undef, undef], defers := [] }) ?assign ?body ?done ?stop
 case assign =>
  intro l y W K hK
  gi_wp2
  simpa using hK
 case body =>
  rintro l pre y W ⟨⟨v, hv, hrow, _⟩, hB⟩ hlt
  have hc := hv.cell
  have hpl : pre.length < 64 := by omega
  gi_wp2_with (gi_at_builtin; refine wpListIn_append_own _ rfl _ _ 86 rfl w.heap.size 3 i0 (.int .i64 0) 1 8 Tryz.underlying86 hi hz0 hz1 hz2 rfl (by decide) _ _ _ rfl (hrow.alloc _) ⟨W.heap.size, 0, none⟩ 1 1 [.int .i64 y] rfl rfl (cell_one_new _ _ _) (by simp [Value.oneCell']) (by unfold maxLen; omega) (by omega) (by have := hB.size; simp; omega) ?_; intro v' w1 hown' hgrow _; obtain ⟨g', cap', rfl⟩ := ownsRow_succ hown'; obtain ⟨hv1, hv2, hr2, hk2, hb2⟩ := hv.appended (by decide) hrow hB.size (Nat.le_refl _) hown' hgrow; have hc1 := hv1.cell; have hf1 := hv1.frozen)
  exact ⟨hk2.from _, hb2, ⟨_, hv2, by simpa using hr2, trivial⟩, hB.trans hb2⟩
 case done =>
  rintro D ys W hD rfl ⟨⟨v, hv, hrow, _⟩, hB⟩ hK
  have hc := hv.cell
  gi_wp2
  refine ⟨by simp, .inl ⟨_, _, rfl, run_takeDeferred hK, ?_⟩⟩
  exact ⟨_, results_tmp rfl _ _ _, v, rfl, ownsRow_putObj hrow _ hK rfl, hB.trans (belowK_b (w := w) (Nat.le_refl _) W D _ _ (by simp at hD; omega) hK rfl rfl)⟩
 case stop =>
  rintro D c pre W _ _ h _
  exact h.elim
theorem placesL_any (x : Nat) (m : Int) (w : World) (h1 : x < 18446744073709551616) (hd : Deb w) (h0 : 6 < w.heap.size) :
 Calls Tryz.prog 127 #[.int .u64 x, .int .i64 m] w fun e W' => ∃ v, e = .returned v ∧ W'.ownsRow w.heap.size 3 1 v (onesL (lowN x m) 64).length ((onesL (lowN x m) 64).map fun y : Nat => Value.int .i64 y) ∧ Below w.heap.size w W' :=
 callsIn_wide.1 (placesL_in 3 (by omega) x m w h1 hd h0)
theorem abides_below_ti {J : List Bl → World → Prop} {B : Nat} (h : AbidesFrom B J) : ∀ pre W1 W2, J pre W1 → Below W1.heap.size W1 W2 → J pre W2 := fun pre W1 W2 hj hb =>
 h pre W1 W2 none hj ⟨hb.os, hb.tape, hb.output, hb.size, fun k hk _ => hb.block k hk⟩ (fun r e => by cases e)
theorem ones_live0 : ∀ c : Nat, c < 3 → ∀ b : Nat, b < 256 → onesL (lowN b (mnyI (c : Nat))) 64 = liveL b (mnN c) := by decide +kernel
theorem mny_N (c : Nat) : mnyI (c : Nat) = (mnN c : Nat) := by
 unfold mnyI mnN
 by_cases h0 : c = 0
 ·subst h0; rfl
 by_cases h1 : c = 1
 ·subst h1; rfl
 by_cases h2 : c = 2
 ·subst h2; rfl
 rw [if_neg (by omega), if_neg (by omega), if_neg (by omega), if_neg h0, if_neg h1, if_neg h2]; rfl
theorem blk_N (c : Nat) : blkI (c : Nat) = (blN c : Nat) := by
 unfold blkI blN
 by_cases h0 : c = 0
 ·subst h0; rfl
 by_cases h1 : c = 1
 ·subst h1; rfl
 by_cases h2 : c = 2
 ·subst h2; rfl
 rw [if_neg (by omega), if_neg (by omega), if_neg (by omega), if_neg h0, if_neg h1, if_neg h2]; rfl
theorem drop_cons {t : List Nat} {j : Nat} (h : j < t.length) : t.drop j = t.getD j 0 :: t.drop (j + 1) := by
 rw [List.drop_eq_getElem_cons h, List.getD_eq_getElem?_getD, List.getElem?_eq_getElem h]; rfl
theorem blksFrom_drop {t : List Nat} {j : Nat} (h : j < t.length) : blksFrom j (t.drop j) = blksAt j (t.getD j 0) ++ blksFrom (j + 1) (t.drop (j + 1)) := by
 rw [drop_cons h]; rfl
structure Mb_ti (n₀ Bo : Nat) (W : World) (J : List Bl → World → Prop) (pre : List Bl) (w : World) : Prop where
 B : Below n₀ W w
 j : J pre w
 J : ∀ pre' W1 W2, J pre' W1 → Below W1.heap.size W1 W2 → J pre' W2
 n : n₀ ≤ W.heap.size
 o : Bo < w.heap.size
 lt : OwnLt w Bo
theorem Mb_ti.keep {n₀ Bo : Nat} {W w w1 : World} {J : List Bl → World → Prop} {pre : List Bl} (h : Mb_ti n₀ Bo W J pre w) (hb : Below w.heap.size w w1) : Mb_ti n₀ Bo W J pre w1 :=
 ⟨h.B.trans (hb.mono (Nat.le_trans h.n h.B.size)), h.J _ _ _ h.j hb, h.J, h.n, Nat.lt_of_lt_of_le h.o hb.size, fun b q => Nat.lt_of_lt_of_le (h.lt b ((ownAt_keep hb h.o).1 q)) hb.size⟩
theorem Mb_ti.kp {n₀ Bo : Nat} {W w w1 : World} {J : List Bl → World → Prop} {pre pre' : List Bl} (h : Mb_ti n₀ Bo W J pre w) (hk : Kp n₀ Bo w w1) (hj : J pre' w1) : Mb_ti n₀ Bo W J pre' w1 :=
 ⟨h.B.trans hk.1, hj, h.J, h.n, Nat.lt_of_lt_of_le h.o hk.1.size, hk.2.2.2 h.lt⟩
def Hc (Bo : Nat) (w : World) (g : Nat) (cs : Array Value) (t : TypeId) : Prop := w.heap[g]? = some (.cells cs t (0, 0)) ∧ g ≠ Bo ∧ ¬ OwnAt w Bo g
theorem Hc.keep {Bo : Nat} {w w1 : World} {g : Nat} {cs : Array Value} {t : TypeId} (h : Hc Bo w g cs t) (ho : Bo < w.heap.size) (hb : Below w.heap.size w w1) : Hc Bo w1 g cs t :=
 ⟨(hb.block g (Array.getElem?_eq_some_iff.1 h.1).1).trans h.1, h.2.1, fun q => h.2.2 ((ownAt_keep hb ho).1 q)⟩
theorem Hc.kp {n₀ Bo : Nat} {w w1 : World} {g : Nat} {cs : Array Value} {t : TypeId} (h : Hc Bo w g cs t) (hk : Kp n₀ Bo w w1) : Hc Bo w1 g cs t :=
 ⟨(hk.2.1 g _ _ _ h.1 h.2.1 h.2.2).trans h.1, h.2.1, fun q => h.2.2 (hk.2.2.1 g (Array.getElem?_eq_some_iff.1 h.1).1 q)⟩
theorem Hc.cell {Bo : Nat} {w : World} {g : Nat} {cs : Array Value} {t : TypeId} (h : Hc Bo w g cs t) (i : Nat) : w.cell? ⟨g, i, none⟩ = cs[i]? := (row_cell h.1 i).1
theorem Mb_ti.hc {n₀ Bo : Nat} {W w w1 : World} {J : List Bl → World → Prop} {pre : List Bl} (h : Mb_ti n₀ Bo W J pre w) (hb : Below w.heap.size w w1) {g : Nat} {cs : Array Value} {t : TypeId} (hg : w1.heap[g]? = some (.cells cs t (0, 0))) (hw : w.heap.size ≤ g) : Hc Bo w1 g cs t :=
 ⟨hg, fun e => by have := h.o; omega, fun q => by have := h.lt g ((ownAt_keep hb h.o).1 q); omega⟩
def Ps (Bo : Nat) (w : World) (v : Value) (l : List Nat) : Prop := (v = .slice none 0 0 ∧ l = []) ∨ ∃ g cap cur, v = .slice (some ⟨g, 0, none⟩) l.length cap ∧ l.length ≤ cap ∧ Hc Bo w g cur 3 ∧ ∀ i, i < l.length → cur[i]? = some (.int .i64 (l.getD i 0 : Nat))
theorem Ps.keep {Bo : Nat} {w w1 : World} {v : Value} {l : List Nat} (h : Ps Bo w v l) (ho : Bo < w.heap.size) (hb : Below w.heap.size w w1) : Ps Bo w1 v l := by
 rcases h with h | ⟨g, cap, cur, h1, h2, h3, h4⟩
 ·exact .inl h
 ·exact .inr ⟨g, cap, cur, h1, h2, h3.keep ho hb, h4⟩
theorem Ps.kp {n₀ Bo : Nat} {w w1 : World} {v : Value} {l : List Nat} (h : Ps Bo w v l) (hk : Kp n₀ Bo w w1) : Ps Bo w1 v l := by
 rcases h with h | ⟨g, cap, cur, h1, h2, h3, h4⟩
 ·exact .inl h
 ·exact .inr ⟨g, cap, cur, h1, h2, h3.kp hk, h4⟩
theorem Ps.of {n₀ Bo : Nat} {W w w1 : World} {J : List Bl → World → Prop} {pre : List Bl} (h : Mb_ti n₀ Bo W J pre w) (hb : Below w.heap.size w w1) {v : Value} {l : List Nat} (hr : w1.ownsRow w.heap.size 3 1 v l.length (l.map fun y : Nat => Value.int .i64 y)) : Ps Bo w1 v l := by
 rcases hr.2 with ⟨hv, hn⟩ | ⟨g, cap, cur, hv, hbg, hg, h1, h2, h3, h4⟩
 ·exact .inl ⟨hv, List.eq_nil_of_length_eq_zero hn⟩
 ·refine .inr ⟨g, cap, cur, hv, h1, h.hc hb hg hbg, fun i hi => ?_⟩
  have q : (cur.toList.take (l.length * 1))[i]? = (l.map fun y : Nat => Value.int .i64 y)[i]? := by rw [h4]
  rw [Nat.mul_one, List.getElem?_take_of_lt hi, List.getElem?_map, List.getElem?_eq_getElem hi, Array.getElem?_toList] at q
  rw [q, List.getD_eq_getElem?_getD, List.getElem?_eq_getElem hi]; rfl
theorem Ps.form {Bo : Nat} {w : World} {v : Value} {l : List Nat} {m : Nat} (h : Ps Bo w v l) (hm : l.length = m) : ∃ A cap, v = .slice A m cap := by
 rcases h with ⟨rfl, rfl⟩ | ⟨g, cap, cur, rfl, _⟩
 ·exact ⟨none, 0, by rw [← hm]; rfl⟩
 ·exact ⟨_, cap, by rw [hm]⟩
theorem Ps.at {Bo : Nat} {w : World} {A : Option Addr} {m cap : Nat} {l : List Nat} (h : Ps Bo w (.slice A m cap) l) (hm : l.length = m) (i : Nat) (hi : i < m) : ∃ g, A = some ⟨g, 0, none⟩ ∧ m ≤ cap ∧ w.cell? ⟨g, i, none⟩ = some (.int .i64 (l.getD i 0 : Nat)) := by
 rcases h with ⟨hv, rfl⟩ | ⟨g, cap', cur, hv, h2, h3, h4⟩
 ·simp at hm; omega
 ·simp only [Value.slice.injEq] at hv
  obtain ⟨rfl, _, rfl⟩ := hv
  exact ⟨g, rfl, by omega, by rw [h3.cell]; exact h4 i (by omega)⟩
theorem blocks1_in (n : Nat) (hn : 1 ≤ n) (l Bo Bv n₀ : Nat) (v : Value) (t : List Nat) (hok : t.all okN = true) (hlen : t.length ≤ 100000) (J Jx : List Bl → World → Prop)
 (hJ : ∀ pre W1 W2, J pre W1 → Below W1.heap.size W1 W2 → J pre W2)
 (hY : ∀ pre (y : Bl) W, J pre W → pre.length < (blksFrom 0 t).length → YieldAt Fence.wide (n - 1) Tryz.prog l #[.agg #[.int .i64 (y.1 : Nat), .int .i64 (y.2.1 : Nat), .int .i64 (y.2.2 : Nat)]] W fun e W' =>
   (e = .returned (.bool true) ∧ J (pre ++ [y]) W' ∧ Kp n₀ Bo W W') ∨ (e = .returned (.bool false) ∧ Jx (pre ++ [y]) W'))
 (W : World) (hBo : Bo < W.heap.size) (hOl : OwnLt W Bo) (hBv : W.cell? ⟨Bv, 0, none⟩ = some v) (hn₀ : n₀ ≤ W.heap.size)
 (hC : ∀ w1, Below n₀ W w1 → CKL w1 v t) (hLw : ∀ w1, Below n₀ W w1 → Lw w1) (h0 : J [] W) :
 CallsIn Fence.wide n Tryz.prog 126 #[.func (.yield l) #[] #[], .pointer (some ⟨Bv, 0, none⟩)] W fun e W' => (∃ v, e = .returned v) ∧
  ((∃ ys, ys = blksFrom 0 t ∧ J ys W') ∨ (∃ pre, pre <+: blksFrom 0 t ∧ Jx pre W')) := by
 obtain ⟨N, hN⟩ : ∃ N, t.length = N := ⟨_, rfl⟩
 obtain ⟨A, cap, rfl, _⟩ := CKL.form (hC W (Below.refl _ _)) hN
 have hF := lh (fun w1 (hb : Below n₀ W w1) (i : Nat) (hi : i < N) => show ∃ g off, A = some ⟨g, off, none⟩ ∧ N ≤ cap ∧ w1.cell? ⟨g, off + i * 5, none⟩ = some (.int .i64 (kN (t.getD i 0) : Nat)) ∧ w1.cell? ⟨g, off + i * 5 + 1, none⟩ = some (.int .i64 (cN (t.getD i 0) : Nat)) ∧ w1.cell? ⟨g, off + i * 5 + 2, none⟩ = some (.int .i64 (lnN (t.getD i 0) : Nat)) ∧ w1.cell? ⟨g, off + i * 5 + 3, none⟩ = some (.int .i64 (mN (t.getD i 0) : Nat)) ∧ w1.cell? ⟨g, off + i * 5 + 4, none⟩ = some (.int .u64 (bN (t.getD i 0) : Nat)) from by
  obtain ⟨A2, cap2, he, h⟩ := CKL.form (hC w1 hb) hN
  simp only [Value.slice.injEq, true_and] at he
  obtain ⟨rfl, rfl⟩ := he
  obtain ⟨g, off, a1, a2, _, _, a3⟩ := h w1 i (Below.refl _ _) hi
  exact ⟨g, off, a1, a2, a3⟩)
 have hOk := lh (fun k (hk : k < N) => okN_t (all_at hok (k := k) (by omega)))
 have hDr := lh (fun j (hj : j < N) => blksFrom_drop (t := t) (j := j) (by omega))
 have hEnd := lh (show blksFrom N (t.drop N) = [] from by rw [List.drop_of_length_le (by omega)]; rfl)
 obtain ⟨M, hMM⟩ : ∃ M, blksFrom 0 t = M := ⟨_, rfl⟩
 have hM0 := lh (show M = ([] : List Bl) ++ blksFrom 0 (t.drop 0) from by rw [List.drop_zero, hMM]; rfl)
 rw [hMM] at hY ⊢
 replace hY := lh hY
 replace hLw := lh hLw
 have hN9 : N ≤ 100000 := by omega
 have hmb : Mb_ti n₀ Bo W J [] W := ⟨Below.refl _ _, h0, hJ, hn₀, hBo, hOl⟩
 clear h0 hMM hC hJ hBo hOl hok hlen
 replace hN := lh hN
 refine callsIn_of_wp Tryz.func126 rfl trivial ?_ rfl
 simp only [Tryz.ntmps126, List.size_toArray, List.length_cons, List.length_nil, Nat.reduceAdd, Nat.reduceSub, Array.replicate_succ, Array.replicate_zero, List.push_toArray, List.append_toArray, List.nil_append, List.cons_append]
 refine wpIn_wide.2 (wp_scope_straight ((wpIn_wide (n := n)).1 ?_))
 refine wpIn_seq (wpIn_label ?_)
 gi_wp2
 gi_loopw [9] (fun i wr => ∃ (j : Nat) (pre : List Bl), j ≤ N ∧ i = .int .i64 j ∧ Hid (M = pre ++ blksFrom j (t.drop j)) ∧ Mb_ti n₀ Bo W J pre wr) (fun i _ => N + 1 - (intOf i).toNat)
 case atStart => exact ⟨0, [], Nat.zero_le _, rfl, hM0, hmb⟩
 case round =>
  obtain ⟨j, pre, hj, rfl, hM, hmr⟩ := hrel
  clear hmb hM0 hBv
  by_cases hlt : j < N
  ·have hlt' : (j : Int) < (N : Int) := by omega
   obtain ⟨g, off, rfl, hcap, c0, c1, c2, c3, c4⟩ := hF.out wr hmr.B j hlt
   have hx := hOk.out j hlt
   have hd := hDr.out j hlt
   have hbd := parts_bd (t.getD j 0)
   generalize t.getD j 0 = x at *
   have hM2 : M = pre ++ (blksAt j x ++ blksFrom (j + 1) (t.drop (j + 1))) := by rw [hM.out, hd]
   clear hd hM
   generalize hRR : blksFrom (j + 1) (t.drop (j + 1)) = RR at *
   replace hRR := lh hRR
   have hA4 : Below wr.heap.size wr (wr.alloc (.cells #[.int .i64 (kN x : Nat), .int .i64 (cN x : Nat), .int .i64 (lnN x : Nat), .int .i64 (mN x : Nat), .int .u64 (bN x : Nat)] 121)) := bZ _ _
   have hM4 := hmr.keep hA4
   have hX4 := hmr.hc hA4 (World.alloc_heap_new wr _) (Nat.le_refl _)
   obtain ⟨B4, hB4⟩ : ∃ B4, wr.heap.size = B4 := ⟨_, rfl⟩
   obtain ⟨x0, x1, x2, x3, x4⟩ := C5.new wr (kN x : Nat) (cN x : Nat) (lnN x : Nat) (mN x : Nat) (bN x : Nat) 121
   by_cases k1 : kN x = 1
   ·have hcl : cN x < 3 := by unfold RightN at hx; omega
    have hba : blksAt j x = (liveL (bN x) (mnN (cN x))).map (fun k => (j, k, blN (cN x))) := by unfold blksAt; rw [if_pos k1]
    have hOL := lh (ones_live0 (cN x) hcl (bN x) (by omega))
    have hBN := blk_N (cN x)
    rw [hba] at hM2
    clear hba hx
    generalize cN x = c at *
    generalize bN x = b at *
    generalize mN x = mm at *
    generalize lnN x = ll at *
    have k1' : ((kN x : Nat) : Int) = 1 := by omega
    rw [k1'] at c0 hA4 hM4 hX4 x0 x1 x2 x3 x4
    clear k1 k1' hmr
    replace hM2 := lh hM2
    replace hBN := lh hBN
    gi_wp2
    rw [hB4] at hX4 x0 x1 x2 x3 x4
    generalize wr.alloc (.cells #[.int .i64 1, .int .i64 (c : Nat), .int .i64 (ll : Nat), .int .i64 (mm : Nat), .int .u64 (b : Nat)] 121) = W4 at *
    have hMB := hM4.B
    have hMn : n₀ ≤ W4.heap.size := Nat.le_trans hn₀ hMB.size
    refine wpIn_wide.2 ?_
    refine wp_region_held_drew (S := (fun w' => (w'.cell? ⟨B4, 1, none⟩ = some (.int .i64 (c : Nat)) ∧ w'.cell? ⟨B4, 4, none⟩ = some (.int .u64 (b : Nat))) ∧ Below W4.heap.size W4 w')) (by kernel_rfl) ?_ (fun hHeld => ?_)
    ·(try dsimp only)
     (first | assumption | (exact ⟨⟨x1, x4⟩, (Below.refl _ _).drew⟩) | ((try go_split_ands); exact ⟨⟨cellK5 (by assumption) hb, cellK5 (by assumption) hb⟩, Below.trans (by assumption) (hb.mono (Below.size (by assumption)))⟩))
    refine takeQ 0 ?_
    refine takeQ 1 ?_
    refine takeQ 2 ?_
    refine takeQ 3 ?_
    refine takeQ 7 ?_
    refine oneL 4 rfl (by kernel_rfl) (fun K hK => ?_)
    go_simp
    (refine (Calls.mono (mny_any _ _ (hLw.out _ (hMB.trans ((id hHeld).2.mono hMn))).2.2.1) ?_); rintro e w9 ⟨rfl, rfl⟩; have hb := Below.refl W4.drew.heap.size W4.drew)
    refine hK.out _ _ ?_ (fun hHeld2 => ?_)
    ·(try dsimp only)
     (first | assumption | (exact ⟨⟨x1, x4⟩, (Below.refl _ _).drew⟩) | ((try go_split_ands); exact ⟨⟨cellK5 (by assumption) hb, cellK5 (by assumption) hb⟩, Below.trans (by assumption) (hb.mono (Below.size (by assumption)))⟩))
    clear hK K hHeld
    have hHeld := hHeld2
    clear hHeld2
    try simp only [Act.put,sA,sB,sC]
    refine oneL 5 rfl (by kernel_rfl) (fun K hK => ?_)
    go_simp
    (refine (Calls.mono (placesL_any b (mnyI (c : Nat)) _ (by omega) (hLw.out _ (hMB.trans ((id hHeld).2.mono hMn))).1 (hLw.out _ (hMB.trans ((id hHeld).2.mono hMn))).2.1) ?_)
     rintro e w9 ⟨vp, rfl, hrow, hb⟩
     rw [hOL.out] at hrow
     obtain ⟨m, hm⟩ : ∃ m, (liveL b (mnN c)).length = m := ⟨_, rfl⟩
     have hPs := Ps.of (hM4.keep (Below.refl _ _).drew) hb hrow
     obtain ⟨Ap, cp, rfl⟩ := hPs.form hm)
    refine hK.out _ _ ?_ (fun hHeld2 => ?_)
    ·(try dsimp only)
     (first | assumption | (exact ⟨⟨x1, x4⟩, (Below.refl _ _).drew⟩) | ((try go_split_ands); exact ⟨⟨cellK5 (by assumption) hb, cellK5 (by assumption) hb⟩, Below.trans (by assumption) (hb.mono (Below.size (by assumption)))⟩))
    clear hK K hHeld
    have hHeld := hHeld2
    clear hHeld2
    try simp only [Act.put,sA,sB,sC]
    refine takeQ 6 ?_
    refine wpAnyH_done (by kernel_rfl) ?_ _
    have hMp := (hM4.keep (Below.refl _ _).drew).keep hb
    have hXp := (hX4.keep hM4.o (Below.refl _ _).drew).keep (Nat.lt_of_lt_of_le hM4.o (Nat.le_refl _)) hb
    clear hM4 hX4 x0 x1 x2 x3 x4 hMB hMn hb hrow hHeld hA4
    have hm9 : m ≤ 8 := by rw [← hm]; exact Nat.le_trans (liveL_len _ _) (mnN_le _)
    have hMp0 : Hid (M = pre ++ (((liveL b (mnN c)).drop 0).map (fun k => (j, k, blN c)) ++ RR)) := lh (by rw [List.drop_zero]; exact hM2.out)
    have hMdr := lh (fun k (hk : k < m) => drop_cons (t := liveL b (mnN c)) (j := k) (by omega))
    have hMend := lh (show (liveL b (mnN c)).drop m = [] from List.drop_of_length_le (by omega))
    replace hm := lh hm
    clear hM2
    gi_wp2
    gi_loopw [25] (fun q wq => ∃ (k : Nat) (p2 : List Bl), k ≤ m ∧ q = .int .i64 k ∧ Hid (M = p2 ++ (((liveL b (mnN c)).drop k).map (fun k => (j, k, blN c)) ++ RR)) ∧ Mb_ti n₀ Bo W J p2 wq ∧ Hc Bo wq B4 #[.int .i64 1, .int .i64 (c : Nat), .int .i64 (ll : Nat), .int .i64 (mm : Nat), .int .u64 (b : Nat)] 121 ∧ Ps Bo wq (.slice Ap m cp) (liveL b (mnN c))) (fun q _ => m + 1 - (intOf q).toNat)
    case atStart => exact ⟨0, pre, Nat.zero_le _, rfl, hMp0, hMp, hXp, hPs⟩
    case round =>
     clear hMp0 hMp hXp hPs
     obtain ⟨k, p2, hk, rfl, hM3, hm3, hX3, hP3⟩ := hrel
     by_cases hkl : k < m
     ·have hkl' : (k : Int) < (m : Int) := by omega
      obtain ⟨gp, rfl, hcp, d0⟩ := hP3.at hm.out k hkl
      have hdr := hMdr.out k hkl
      generalize (liveL b (mnN c)).getD k 0 = y at *
      have hM4 : M = (p2 ++ [(j, y, blN c)]) ++ (((liveL b (mnN c)).drop (k + 1)).map (fun k => (j, k, blN c)) ++ RR) := by rw [hM3.out, hdr]; simp
      obtain ⟨fn, tmps, assign, body, hy, hR⟩ := hY.out p2 (j, y, blN c) _ hm3.j (by rw [hM3.out, hdr]; simp)
      have x1 := hX3.cell 1
      have hBk := blk_any (c : Nat) _ (hLw.out _ hm3.B).2.2.1
      rw [hBN.out] at hBk
      dsimp only at hy
      replace hM4 := lh hM4
      clear hM3 hdr
      simp only [List.getElem?_toArray, List.getElem?_cons_succ, List.getElem?_cons_zero] at x1
      gi_wp2
      refine ⟨trivial, (callsIn_wide.2 hBk).mono ?_⟩
      rintro e w9 ⟨rfl, rfl⟩
      gi_wp2
      refine hR.mono ?_
      rintro e W3 (⟨rfl, hJ3, hk3⟩ | ⟨rfl, hJx3⟩)
      ·have hm4 := hm3.kp hk3 hJ3
       have hX4 := hX3.kp hk3
       have hP4 := hP3.kp hk3
       clear hm3 hX3 hP3 hk3 hJ3 hy hR hBk d0 x1
       gi_wp2
       go_roundw
       case rel => exact ⟨k + 1, _, by omega, by go_num, hM4, hm4, hX4, hP4⟩
       case measure => first | (simp [intOf]; done) | (simp [intOf]; omega)
      ·gi_wp2
       rw [Exit.noGoto_normal]
       go_end0
       exact ⟨⟨_, rfl⟩, .inr ⟨_, ⟨_, hM4.out.symm⟩, hJx3⟩⟩
     ·obtain rfl : k = m := by omega
      have hM4 : Hid (M = p2 ++ blksFrom (j + 1) (t.drop (j + 1))) := lh (by rw [hM3.out, hMend.out, hRR.out]; rfl)
      clear hM3 hX3 hP3
      gi_wp2
      go_roundw
      case rel => exact ⟨j + 1, _, by omega, by go_num, hM4, hm3⟩
      case measure => first | (simp [intOf]; done) | (simp [intOf]; omega)
   ·have k1' : ¬ ((kN x : Nat) : Int) = 1 := by omega
    have f1 : (((kN x : Nat) : Int) == 1) = false := by rw [beq_eq_false_iff_ne]; omega
    by_cases k2 : kN x = 2
    ·have hba : blksAt j x = [(j, 0, mN x * 32)] := by unfold blksAt; rw [if_neg k1, if_pos k2]
     rw [hba] at hM2
     have hM5 : M = (pre ++ [(j, 0, mN x * 32)]) ++ RR := by rw [hM2]; simp
     have hlp : pre.length < M.length := by rw [hM2]; simp
     rw [← hRR.out] at hM5
     have k2' : ((kN x : Nat) : Int) = 2 := by omega
     rw [k2'] at c0 hA4 hM4 hX4 x0 x1 x2 x3 x4
     obtain ⟨fn, tmps, assign, body, hy, hR⟩ := hY.out pre (j, 0, mN x * 32) _ hM4.j hlp
     dsimp only at hy
     have g2 : IntKind.i64.wrap (((mN x : Nat) : Int) * 32) = ((mN x * 32 : Nat) : Int) := by rw [IntKind.wrap_i64]; omega
     generalize hH : mN x * 32 = H at *
     replace hH := lh hH
     replace hM5 := lh hM5
     have g3 : 32 * ((mN x : Nat) : Int) = (H : Int) := by have := hH.out; omega
     have g4 : ((mN x : Nat) : Int) * 32 = (H : Int) := by have := hH.out; omega
     have g5 : H ≤ 1000000 := by have := hH.out; omega
     have hz : (((0 : Nat) : Int)) = 0 := rfl
     rw [hz] at hy
     clear hM2 hba hx k1 k1' f1 k2 k2' hbd hmr hz g3 g2 hlp
     gi_wp2
     refine hR.mono ?_
     rintro e W3 (⟨rfl, hJ3, hk3⟩ | ⟨rfl, hJx3⟩)
     ·have hm4 := hM4.kp hk3 hJ3
      clear hM4 hX4 hk3 hJ3 hy hR x0 x1 x2 x3 x4
      gi_wp2
      go_roundw
      case rel => exact ⟨j + 1, _, by omega, by go_num, hM5, hm4⟩
      case measure => first | (simp [intOf]; done) | (simp [intOf]; omega)
     ·gi_wp2
      rw [Exit.noGoto_normal]
      go_end0
      exact ⟨⟨_, rfl⟩, .inr ⟨_, ⟨_, hM5.out.symm⟩, hJx3⟩⟩
    ·have k2' : ¬ ((kN x : Nat) : Int) = 2 := by omega
     have f2 : (((kN x : Nat) : Int) == 2) = false := by rw [beq_eq_false_iff_ne]; omega
     have hba : blksAt j x = [] := blksAt_none k1 k2
     rw [hba, List.nil_append, ← hRR.out] at hM2
     replace hM2 := lh hM2
     clear hba hx hbd hmr k1 k2
     gi_wp2
     go_roundw
     case rel => exact ⟨j + 1, pre, by omega, by go_num, hM2, hM4⟩
     case measure => first | (simp [intOf]; done) | (simp [intOf]; omega)
  ·obtain rfl : j = N := by omega
   have hMe : Hid (pre = M) := lh (by rw [hM.out, hEnd.out, List.append_nil])
   gi_wp2
   rw [Exit.noGoto_normal]
   go_end0
   exact ⟨⟨_, rfl⟩, .inl ⟨pre, hMe.out, hmr.j⟩⟩
end Go.Proofs.YtdmmbnnejbmdpaaGreatDoor
end
