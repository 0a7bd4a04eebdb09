/- What the document's Write comes to. For right leases. -/
import Derived.Test.YtlefpodonkdbeaaGreatEwA
import Derived.Deep.RegionHeld3
import Derived.Laws.StructEq
section
set_option maxRecDepth 8000
namespace Go.Proofs.YtlefpodonkdbeaaGreat.Ew
open Go.RowKit Co By Ky Rc
open Dw (ba ba_size ba_data ba_list)

theorem size_l (s : ByteArray) : s.data.toList.length = s.size := by rw [Array.length_toList]; rfl
theorem take_snocS (t : ByteArray) (k : Nat) (h : k < t.size) : t.data.toList.take (k + 1) = t.data.toList.take k ++ [t[k]] := by
  rw [List.take_succ_eq_append_getElem (by rw [size_l]; exact h)]
  rfl
/-- The loop's word: the head is there, and so many bytes of the key. -/
def StW (U g : Nat) (w : World) (hd : List UInt8) (cs : Array Value) (S : ByteArray) (v i : Value) (wr : World) : Prop :=
  ∃ (j : Nat) (A : Option Addr) (c : Nat), j ≤ S.size ∧ i = .int .i64 j ∧ v = .slice A (12 + j) c ∧ Own 5 U wr A (12 + j) c (hd ++ S.data.toList.take j) ∧ Cel wr g 56 cs ∧ Below U w wr
end Go.Proofs.YtlefpodonkdbeaaGreat.Ew
end
/- What the document's Read comes to. For all bytes. -/
section
set_option maxRecDepth 8000
namespace Go.Proofs.YtlefpodonkdbeaaGreat.Ew
open Go.RowKit Co By Ky Rc
open Dw (ba ba_size ba_data ba_list)

set_option maxHeartbeats 4000000 in
theorem refRead_any (A : Option Addr) (n c : Nat) (l : List UInt8) (w : World) (hbs : Bs w A n c l) : Calls Tryz.prog 53 #[.slice A n c] w (RdL w (readR l)) := by
  have HL := Lib.hid hbs.len
  have hmx := hbs.max
  have hcp := hbs.cap
  by_cases h12 : n < 12
  · have H : Hid (readR l = (zeroL, 4)) := by show _ = _; unfold readR; rw [if_pos (by rw [HL.out]; exact h12)]
    go_enter Tryz.func53, Tryz.ntmps53
    go_wp2
    refine bodyPost_ret (ret_lease2 rfl _ _ w.heap.size zeroL rfl (Cel.born _ _ _)) rfl ?_
    exact ⟨by rw [H.out]; rfl, (Below.refl _ _).alloc (Nat.le_refl _) _⟩
  · have HH : Hid (readR l = if RightR (heldR l) then (heldR l, 0) else (zeroL, 2)) := by show _ = _; unfold readR; rw [if_neg (by rw [HL.out]; exact h12)]
    have h4 : 4 < l.length := by have := HL.out; omega
    have HE : Hid (heldR l = ⟨(valL (l.take 4) : Nat), ((l[4]'h4).toNat : Nat), (valL ((l.drop 5).take 7) : Nat), l.drop 12⟩) := by
      show _ = _
      unfold heldR
      rw [List.getD_eq_getElem?_getD, List.getElem?_eq_getElem h4]
      rfl
    have hfk : (l.drop 12).length ≤ 9223372036854775807 := by have := HL.out; rw [List.length_drop]; omega
    obtain ⟨w0, hw0⟩ : ∃ w0, w0 = w.alloc (.cells #[.int .i64 0, .int .i64 0, .int .i64 0, .string ⟨#[]⟩] 56) := ⟨_, rfl⟩
    have HC0 := Lib.hid (show Cel w0 w.heap.size 56 (lcs zeroL) by rw [hw0]; exact Cel.born _ _ _)
    have HB0 := Lib.hid (show Below w.heap.size w w0 by rw [hw0]; exact (Below.refl _ _).alloc (Nat.le_refl _) _)
    have HS0 := Lib.hid (show w0.heap.size = w.heap.size + 1 by rw [hw0]; simp)
    have hg0 : w.heap.size < w0.heap.size := by have := HS0.out; omega
    have hx0 := hbs.below HB0.out
    obtain ⟨b, o, rfl, hcells⟩ := hbs.at_ (k := 4) (by omega)
    have hy0 : w0.cell? ⟨b, o + 4, none⟩ = some (.int .u8 ((l[4]'h4).toNat : Int)) := by
      have := hcells 4 h4
      exact (HB0.out.cell (p := ⟨b, o + 4, none⟩) (World.block_lt_of_cell? w _ this)).trans this
    obtain ⟨A1, hA1, hrun1⟩ := byP.cut_h hx0 4 4 rfl (by omega)
    obtain ⟨A2, hA2, hrun2⟩ := byP.cut_lh hx0 5 12 5 12 rfl rfl (by omega) (by omega)
    obtain ⟨A3, hA3, hrun3⟩ := byP.cut_l hx0 12 12 rfl (by omega)
    have HV1 := Lib.hid (fun W (hW : Below w0.heap.size w0 W) => Cw.value_any A1 4 c (l.take 4) W (hA1.below hW) (by omega))
    have HV2 := Lib.hid (fun W (hW : Below w0.heap.size w0 W) => Cw.value_any A2 (12 - 5) (c - 5) ((l.drop 5).take (12 - 5)) W (hA2.below hW) (by omega))
    have hyl := (l[4]'h4).toNat_lt
    have K : Hid (∀ W, Below w0.heap.size w0 W → W.cell? ⟨b, o + 4, none⟩ = some (.int .u8 ((l[4]'h4).toNat : Int)) ∧ (convert 61 9 (.slice A3 (n - 12) (c - 12))).run Tryz.prog W = .ok (.string (ba (l.drop 12))) W) := fun W hW =>
      ⟨(hW.cell (p := ⟨b, o + 4, none⟩) (World.block_lt_of_cell? w0 _ hy0)).trans hy0, byP.str (hA3.below hW)⟩
    generalize l[4]'h4 = y at HE K hyl hy0
    generalize valL (l.take 4) = V0 at HE HV1
    simp only [show 12 - 5 = 7 from rfl] at HV2 hrun2
    generalize valL ((l.drop 5).take 7) = V2 at HE HV2
    generalize l.drop 12 = M at HE K hfk
    have hRI := right_any
    obtain ⟨w5, hw5⟩ : ∃ w5, w5 = (w0.alloc (.cells #[.int .i64 (V0 : Int), .int .i64 (y.toNat : Int), .int .i64 (V2 : Int), .string (ba M)] 56)).drew := ⟨_, rfl⟩
    have HC5 := Lib.hid (show Cel w5 w0.heap.size 56 (lcs ⟨V0, y.toNat, V2, M⟩) by rw [hw5]; exact Cel.born w0 _ _)
    have HB5 := Lib.hid (show Below w0.heap.size w0 w5 by rw [hw5]; exact ((Below.refl _ _).alloc (Nat.le_refl _) _).drew)
    have HRI := Lib.hid (refRight_any ⟨V0, y.toNat, V2, M⟩ w5 hfk)
    have HR5 := Lib.hid (HC0.out.below HB5.out hg0)
    have HW5 := Lib.hid hw5
    clear hw5
    have hn4 : (4 : Int) < (n : Int) := by omega
    have hn4' : 4 < n := by omega
    have hwy : IntKind.i64.wrap (y.toNat : Int) = (y.toNat : Int) := IntWalk.i64_in _ (by omega)
    clear hA1 hA2 hA3 hcells hx0 hy0 hbs h4 hRI
    go_enter Tryz.func53, Tryz.ntmps53
    go_wp2_with fail
    rw [← hw0]
    clear hw0
    go_region_held3 (fun W => W.cell? ⟨b, o + 4, none⟩ = some (.int .u8 (y.toNat : Int)) ∧ (convert 61 9 (.slice A3 (n - 12) (c - 12))).run Tryz.prog W = .ok (.string (ba M)) W)
      (first
        | exact K.out _ (Below.refl _ _)
        | exact K.out _ (Below.refl _ _).drew
        | exact K.out _ ((Below.refl _ _).drew.alloc (Nat.le_refl _) _)
        | exact K.out _ (((Below.refl _ _).alloc (Nat.le_refl _) _).drew)
        | exact K.out _ ((Below.refl _ _).alloc (Nat.le_refl _) _))
      (first
        | (go_simp; go_at_call 71; (with_reducible refine (HV1.out _ (by first | exact (Below.refl _ _).drew | exact (Below.refl _ _).drew.alloc (Nat.le_refl _) _ | exact ((Below.refl _ _).alloc (Nat.le_refl _) _).drew)).mono ?_); rintro ee wu ⟨rfl, rfl⟩)
        | (go_simp; go_at_call 71; (with_reducible refine (HV2.out _ (by first | exact (Below.refl _ _).drew | exact (Below.refl _ _).drew.alloc (Nat.le_refl _) _ | exact ((Below.refl _ _).alloc (Nat.le_refl _) _).drew)).mono ?_); rintro ee wu ⟨rfl, rfl⟩))
    all_goals (
      clear hwy hrun1 hrun2 hrun3 HV1 HV2 K
      rw [← HW5.out]
      clear HW5
      obtain ⟨u0, u1, u2, u3⟩ := cel4 HC5.out
      go_wp2_with fail
      clear u0 u1 u2 u3
      refine HRI.out.mono ?_
      rintro e w6 ⟨rfl, hb6⟩
      have hc6 := HC5.out.below hb6 HC5.out.lt
      have hr6 := HR5.out.below hb6 HR5.out.lt
      have HB6 := Lib.hid (HB0.out.trans ((HB5.out.trans (hb6.mono HB5.out.size)).mono HB0.out.size))
      obtain ⟨p0, p1, p2, p3⟩ := cel4 hc6
      obtain ⟨f0, f1, f2, f3⟩ := celFr4 hr6
      obtain ⟨z0, z1, z2, z3⟩ := cel4 hr6
      have HR6 := Lib.hid hr6
      clear hr6 hc6 hb6
      cases hr : rightR ⟨V0, y.toNat, V2, M⟩ with
      | true =>
        have H : Hid (readR l = (⟨V0, y.toNat, V2, M⟩, 0)) := by show _ = _; rw [HH.out, HE.out, if_pos (of_decide_eq_true hr)]
        clear hr
        obtain ⟨w7, hw7⟩ : ∃ w7, w7 = (((w6.setCell ⟨w.heap.size, 0, none⟩ (.int .i64 (V0 : Int))).setCell ⟨w.heap.size, 1, none⟩ (.int .i64 (y.toNat : Int))).setCell ⟨w.heap.size, 2, none⟩ (.int .i64 (V2 : Int))).setCell ⟨w.heap.size, 3, none⟩ (.string (ba M)) := ⟨_, rfl⟩
        have HC7 := Lib.hid (show Cel w7 w.heap.size 56 (lcs ⟨V0, y.toNat, V2, M⟩) by rw [hw7]; exact celPut4 (l := ⟨V0, y.toNat, V2, M⟩) HR6.out)
        have HB7 := Lib.hid (show Below w.heap.size w w7 by rw [hw7]; exact belowPut4 HB6.out (Nat.le_refl _) ⟨V0, y.toNat, V2, M⟩)
        go_wp2
        rw [← hw7]
        clear hw7
        (try simp only [Exit.inBlock, Exit.then])
        refine bodyPost_ret (ret_lease2 rfl _ _ w.heap.size ⟨V0, y.toNat, V2, M⟩ rfl HC7.out) rfl ?_
        exact ⟨by rw [H.out]; rfl, HB7.out⟩
      | false =>
        have H : Hid (readR l = (zeroL, 2)) := by show _ = _; rw [HH.out, if_neg (by rw [HE.out]; exact of_decide_eq_false hr)]
        clear hr
        obtain ⟨w7, hw7⟩ : ∃ w7, w7 = (((w6.setCell ⟨w.heap.size, 0, none⟩ (.int .i64 0)).setCell ⟨w.heap.size, 1, none⟩ (.int .i64 0)).setCell ⟨w.heap.size, 2, none⟩ (.int .i64 0)).setCell ⟨w.heap.size, 3, none⟩ (.string ⟨#[]⟩) := ⟨_, rfl⟩
        have HC7 := Lib.hid (show Cel w7 w.heap.size 56 (lcs zeroL) by rw [hw7]; exact celPut4 (l := zeroL) HR6.out)
        have HB7 := Lib.hid (show Below w.heap.size w w7 by rw [hw7]; exact belowPut4 HB6.out (Nat.le_refl _) zeroL)
        go_wp2
        rw [← hw7]
        clear hw7
        (try simp only [Exit.inBlock, Exit.then])
        refine bodyPost_ret (ret_lease2 rfl _ _ w.heap.size zeroL rfl HC7.out) rfl ?_
        exact ⟨by rw [H.out]; rfl, HB7.out⟩)
end Go.Proofs.YtlefpodonkdbeaaGreat.Ew
end
/- A lease by value is equal to itself. -/
section
set_option maxRecDepth 8000
namespace Go.Proofs.YtlefpodonkdbeaaGreat.Ew
open Go.RowKit Co By Ky Rc
open Dw (ba ba_size ba_data ba_list)

theorem leq_self (l : L) (W : World) : (binOp .eql 56 (lv l) (lv l)).run Tryz.prog W = .ok (.bool true) W := by
  have hS : Tryz.prog.underlying 56 = some (.struct (Tryz.prog.fieldsOf 56)) := by kernel_rfl
  have hp : Tryz.prog.stoodInHeld 56 = false := by kernel_rfl
  have u3 := Tryz.underlying3
  have a3 := Tryz.isAgg3
  have z3 := Tryz.sizeOf3
  have u9 := Tryz.underlying9
  have a9 := Tryz.isAgg9
  have z9 := Tryz.sizeOf9
  rw [run_eql_struct, show (10000 : Nat) = 9999 + 1 from rfl, run_equalIn_agg W 9999 56 _ _ hS hp]
  simp only [Program.fieldsOf, Tryz.underlying56]
  go_simp
end Go.Proofs.YtlefpodonkdbeaaGreat.Ew
end
