/- What the program's add comes to. Conditions: the list is right and the call's own, the code from 1 to 254, 1000 bytes at most. -/
import Derived.Test.YtoldppbakapohaaGreatDoorTlA
import Derived.Test.YtoldppbakapohaaGreatDoorKitA
import Derived.Deep.RegionLaw
import Derived.StillTailTactics
section
namespace Go.Proofs.YtoldppbakapohaaGreatDoor.Tw
open Go.RowKit Tl By

section
variable (B : Nat) (A : Option Addr) (n c : Nat) (ps : List Po) (code : Int) (D : Option Addr) (m dc : Nat) (d : List UInt8) (w : World)
end
end Go.Proofs.YtoldppbakapohaaGreatDoor.Tw
end
/- What the program's writePart, writeOption and Write come to. Conditions: those that each theorem names. -/
section
namespace Go.Proofs.YtoldppbakapohaaGreatDoor.Tw
open Go.RowKit Tl By

theorem wrap_code {code : Int} (h1 : 1 ≤ code) (h2 : code ≤ 254) : IntKind.u8.wrap code = ((codeB code).toNat : Int) := by
  rw [(codeB_nat h1 h2).1, IntKind.wrap_u8]
  omega
theorem wrap_len {m : Nat} (_ : m ≤ 255) : IntKind.u8.wrap (m : Int) = ((UInt8.ofNat m).toNat : Int) := by
  rw [IntKind.wrap_u8, UInt8.toNat_ofNat']
  omega

/-- Bytes appended to a row of the call's own. -/
def RA (e B : Nat) (w : World) (v : Value) (n : Nat) (l : List UInt8) (en : Ending) (w' : World) : Prop :=
  ∃ A c, en = .returned (.slice A n c) ∧ Own e B w' A n c l ∧ Below B w w' ∧ w.grownBy w' v.ownBlock ∧ ((Value.slice A n c).ownBlock = v.ownBlock ∨ ∃ x, (Value.slice A n c).ownBlock = some x ∧ w.heap.size ≤ x)

set_option maxHeartbeats 800000 in
theorem writePart_any (B : Nat) (A : Option Addr) (n c : Nat) (l : List UInt8) (code : Int) (D : Option Addr) (m dc : Nat) (d : List UInt8) (w : World) (hB : B ≤ w.heap.size) (hown : Own 5 B w A n c l) (hd : BsU B w D m dc d)
    (h1 : 1 ≤ code) (h2 : code ≤ 254) (hm : m ≤ 255) (hn : n ≤ 1000000) :
    Calls Tryz.prog 258 #[.slice A n c, .int .i64 code, .slice D m dc] w (RA 5 B w (.slice A n c) (n + 2 + m) (l ++ (codeB code :: UInt8.ofNat m :: d))) := by
  have hw1 := wrap_code h1 h2
  have hw2 := wrap_len hm
  have hb0 : Below w.heap.size w (w.alloc (Obj.cells #[Value.int IntKind.u8 ((codeB code).toNat : Int), Value.int IntKind.u8 ((UInt8.ofNat m).toNat : Int)] 5)) := (Below.refl _ _).alloc (Nat.le_refl _) _
  have hlit := (Own.lit2 5 w (codeB code) (UInt8.ofNat m)).bs
  go_enter Tryz.func258, Tryz.ntmps258
  go_wp2_with (first
    | (at_builtin; refine wpList_app byP rfl (.tmp 7) (.tmp 13) rfl rfl (hown.below hb0) rfl hlit (by omega) (by simp; omega) ?_; intro A1 c1 w1 hown1 hb1 hg1 hat1; clear hw1 hw2)
    | (at_builtin; refine wpList_app byP rfl (.tmp 15) (.tmp 16) rfl rfl hown1 rfl (((hd.below (hb0.mono hB)).below hb1).bs) (by omega) (by have := hb1.size; simp at this; omega) ?_; intro A2 c2 w2 hown2 hb2 hg2 hat2))
  go_ret
  have hg01 := grownBy_trans (grownBy_of_below hb0 (Value.slice A n c).ownBlock) hg1 (.inl rfl)
  have hat01 : (Value.slice A1 (n + 2) c1).ownBlock = (Value.slice A n c).ownBlock ∨ ∃ x, (Value.slice A1 (n + 2) c1).ownBlock = some x ∧ w.heap.size ≤ x := by
    rcases hat1 with k | k
    · exact .inl k
    · exact .inr ⟨_, k, by simp⟩
  refine ⟨A2, c2, rfl, by simpa using hown2, ((hb0.mono hB).trans hb1).trans hb2, grownBy_trans hg01 hg2 hat01, ?_⟩
  rcases hat2 with k | k
  · rw [k]; exact hat01
  · exact .inr ⟨_, k, hg01.size⟩

/-- Bytes appended, some number of them. -/
def RO (e B : Nat) (w : World) (N : Nat) (l : List UInt8) (en : Ending) (w' : World) : Prop := ∃ A n c, en = .returned (.slice A n c) ∧ n ≤ N ∧ Own e B w' A n c l ∧ Below B w w'
/-- What writeOption's loop holds. -/
def StW (B g : Nat) (box : Array Value) (w : World) (N : Nat) (T : List UInt8) (code : Int) (v0 v5 : Value) (wr : World) : Prop :=
  ∃ A n c l D m dc d, v0 = .slice A n c ∧ v5 = .slice D m dc ∧ Own 5 B wr A n c l ∧ BsU B wr D m dc d ∧ l ++ oneL code d = T ∧ n + 2 * m ≤ N ∧ Cel wr g 74 box ∧ Below B w wr

set_option maxHeartbeats 1600000 in
theorem writeOption_any (B : Nat) (A : Option Addr) (n c : Nat) (l : List UInt8) (code : Int) (D : Option Addr) (m dc : Nat) (d : List UInt8) (w : World) (hB : B ≤ w.heap.size) (hown : Own 5 B w A n c l) (hd : BsU B w D m dc d)
    (h1 : 1 ≤ code) (h2 : code ≤ 254) (hm : m ≤ 1000) (hn : n ≤ 900000) :
    Calls Tryz.prog 247 #[.slice A n c, .agg #[.int .i64 code, .slice D m dc]] w (RO 5 B w (n + 2 * m + 2) (l ++ oneL code d)) := by
  have hb0 : Below w.heap.size w (w.alloc (Obj.cells #[Value.int IntKind.i64 code, Value.slice D m dc] 74)) := (Below.refl _ _).alloc (Nat.le_refl _) _
  have hcel := Cel.born w 74 #[Value.int IntKind.i64 code, Value.slice D m dc]
  have ho0 := hown.below hb0
  have hd0 := hd.below (hb0.mono hB)
  have hbB : Below B w (w.alloc (Obj.cells #[Value.int IntKind.i64 code, Value.slice D m dc] 74)) := hb0.mono hB
  clear hb0 hown hd
  go_enter Tryz.func247, Tryz.ntmps247
  go_wp2
  go_loopw [0, 5] (fun v0 v5 wr => StW B w.heap.size #[Value.int IntKind.i64 code, Value.slice D m dc] w (n + 2 * m) (l ++ oneL code d) code v0 v5 wr) (fun _ v5 _ => lenV v5)
  case atStart => exact ⟨A, n, c, l, D, m, dc, d, rfl, rfl, ho0, hd0, rfl, Nat.le_refl _, hcel, hbB⟩
  case round =>
    clear ho0 hd0 hbB hcel
    obtain ⟨A1, n1, c1, l1, D1, m1, dc1, d1, rfl, rfl, hown, hd, hT, hN, hcel, hb⟩ := hrel
    have HT := Lib.hid hT
    clear hT
    have hsz := hb.size
    have hbox : wr.cell? ⟨w.heap.size, 0, none⟩ = some (.int .i64 code) := hcel.cell 0
    have hcap := hd.1.cap
    have hmax := hd.1.max
    by_cases hbig : 255 < m1
    · obtain ⟨D2, hD2, hrun2⟩ := byP.cutU_h hd 255 255 rfl (by omega)
      obtain ⟨D3, hD3, hrun3⟩ := byP.cutU_l hd 255 255 rfl (by omega)
      have HL := Lib.hid hd.len
      have hBr : B ≤ wr.heap.size := by omega
      go_wp2_with fail
      go_region_with ((go_at_call 258; refine (writePart_any B A1 n1 c1 l1 code D2 255 dc1 (d1.take 255) wr.drew hBr hown hD2 h1 h2 (by omega) (by omega)).mono ?_; rintro e w1 ⟨A4, c4, rfl, hown4, hb4, hg4, hat4⟩))
      all_goals
        have hb5 : Below B wr w1 := ⟨hb4.os, hb4.tape, hb4.output, hb4.size, hb4.block⟩
        have hg5 : wr.grownBy w1 (Value.slice A1 n1 c1).ownBlock := ⟨hg4.os, hg4.tape, hg4.output, hg4.size, hg4.block⟩
        clear hb4 hg4 hat4
        go_wp2
        go_roundw
        case rel =>
          refine ⟨A4, n1 + 2 + 255, c4, _, D3, m1 - 255, dc1 - 255, d1.drop 255, rfl, rfl, hown4, hD3.below hb5, ?_, by omega, hcel.grown hg5 (hcel.not_row hown (by decide)), hb.trans hb5⟩
          rw [← HT.out, one_big (c := code) (d := d1) (by rw [HL.out]; exact hbig)]
          simp
        case measure => simp [lenV]; omega
    · have H : Hid (l1 ++ (codeB code :: UInt8.ofNat m1 :: d1) = l ++ oneL code d) := by
        rw [← HT.out, one_small (by rw [hd.len]; omega), hd.len]
        rfl
      go_wp2_with fail
      refine (writePart_any B A1 n1 c1 l1 code D1 m1 dc1 d1 _ (by omega) hown hd h1 h2 (by omega) (by omega)).mono ?_
      rintro e w1 ⟨A4, c4, rfl, hown4, hb4, _, _⟩
      go_wp2
      go_ret
      exact ⟨A4, n1 + 2 + m1, c4, rfl, by omega, by rw [← H.out]; exact hown4, hb.trans hb4⟩

/-- What Write answers. -/
def RW (e : Nat) (w : World) (l : List UInt8) (en : Ending) (w' : World) : Prop := ∃ A n c, en = .returned (.tuple #[.slice A n c, .int .i64 0]) ∧ Own e w.heap.size w' A n c l ∧ Below w.heap.size w w'
set_option maxHeartbeats 1600000 in
theorem write_yes (A : Option Addr) (n c : Nat) (ps : List Po) (w : World) (h : RdO w A n c ps) (hr : rightL (osP ps) = true) :
    Calls Tryz.prog 239 #[.slice A n c] w (RW 5 w (writeL (osP ps))) := by
  have hl := Lib.hid h.len
  have hm := h.max
  have hcap := h.cap
  have HR := Lib.hid hr
  clear hr
  go_enter Tryz.func239, Tryz.ntmps239
  go_wp2_with fail
  refine (right_any A n c ps _ h).mono ?_
  rw [HR.out]
  rintro e w1 ⟨rfl, hb1⟩
  go_wp2
  go_loopw [4, 12] (fun v i wr => ∃ (k N : Nat) (A2 : Option Addr) (c2 : Nat), k ≤ n ∧ i = .int .i64 k ∧ v = .slice A2 N c2 ∧ N ≤ 72120 ∧ Own 5 w.heap.size wr A2 N c2 (bodyL ((osP ps).take k)) ∧ Below w.heap.size w wr) (fun _ i _ => n - (intOf i).toNat)
  case atStart => exact ⟨0, 0, none, 0, by omega, rfl, rfl, by omega, Own.nil _ _ _, hb1⟩
  case round =>
    obtain ⟨k, N, A2, c2, hk, rfl, rfl, hN, hown, hbw⟩ := hrel
    have hsz := hbw.size
    clear hb1
    by_cases hlt : k < n
    · obtain ⟨b, o, co, A', m, c', l, rfl, hcell, hcell2, hbs, _, HO, HM, hmc, hc63, hblt⟩ := h.atU hbw hlt
      have hfit : 1 ≤ co ∧ co ≤ 254 ∧ m ≤ 600 := by
        obtain ⟨g1, g2⟩ := HO.out
        have := right_fit HR.out (List.getElem_mem g1)
        rw [g2] at this
        have e := HM.out
        subst e
        exact this
      obtain ⟨hf1, hf2, hf3⟩ := hfit
      have H : Hid (bodyL ((osP ps).take (k + 1)) = bodyL ((osP ps).take k) ++ oneL co l) := by
        obtain ⟨g1, g2⟩ := HO.out
        have := body_next g1
        rw [g2] at this
        exact this
      have HN : Hid ((bodyL ((osP ps).take (k + 1))).length ≤ 72120) := body_len_right HR.out _
      have hba : Below w.heap.size wr (wr.alloc (Obj.cells #[Value.int IntKind.i64 co, Value.slice A' m c'] 74)) := (Below.refl _ _).alloc hsz _
      have hba2 : Below wr.heap.size wr (wr.alloc (Obj.cells #[Value.int IntKind.i64 co, Value.slice A' m c'] 74)) := (Below.refl _ _).alloc (Nat.le_refl _) _
      generalize bodyL ((osP ps).take k) = y at H hown
      go_wp2_with fail
      refine (writeOption_any w.heap.size A2 N c2 y co A' m c' l _ (by simp; omega) (hown.below hba2) (hbs.below hba) hf1 hf2 (by omega) (by omega)).mono ?_
      rintro e w2 ⟨A3, N3, c3, rfl, _, hown3, hb3⟩
      go_wp2
      go_roundw
      case rel =>
        have e3 := hown3.bs.len
        refine ⟨k + 1, N3, A3, c3, by omega, by go_num, rfl, ?_, by rw [H.out]; exact hown3, (hbw.trans hba).trans hb3⟩
        rw [← e3, ← H.out]
        exact HN.out
      case measure => simp [intOf]; omega
    · obtain rfl : k = n := by omega
      have H : Hid ((osP ps).take k = osP ps) := List.take_of_length_le (by rw [os_len, hl.out]; exact Nat.le_refl _)
      rw [H.out] at hown
      have hba2 : Below wr.heap.size wr (wr.alloc (Obj.cells #[Value.int IntKind.u8 255] 5)) := (Below.refl _ _).alloc (Nat.le_refl _) _
      go_wp2_with (at_builtin; refine wpList_app byP rfl (.tmp 20) (.tmp 21) rfl rfl (hown.below hba2) rfl (Own.lit1 5 wr 255).bs (by omega) (by simp; omega) ?_; intro A3 c3 w3 hown3 hb3 _ _)
      go_ret2
      exact ⟨A3, N + 1, c3, rfl, hown3, (hbw.trans (hba2.mono hsz)).trans hb3⟩
end Go.Proofs.YtoldppbakapohaaGreatDoor.Tw
end
/- What the program's readPart and Read come to. For all inputs. -/
section
namespace Go.Proofs.YtoldppbakapohaaGreatDoor.Tw
open Go.RowKit Tl By

end Go.Proofs.YtoldppbakapohaaGreatDoor.Tw
end
/- What slices.Grow of nil and slices.Concat at options, and the program's Join, come to. Conditions: for Concat, 1000 options together at most. -/
section
namespace Go.Proofs.YtoldppbakapohaaGreatDoor.Tw
open Go.RowKit Tl By

end Go.Proofs.YtoldppbakapohaaGreatDoor.Tw
end
/- What the document's own writing comes to: one, Write. Conditions: codes from 1 to 254, 1000 bytes of an option at most. -/
section
namespace Go.Proofs.YtoldppbakapohaaGreatDoor.By
open Go.RowKit
section
variable {P : Program} {T e S : TypeId} {w : World} {A : Option Addr} {n c : Nat} {l : List UInt8}
end
end Go.Proofs.YtoldppbakapohaaGreatDoor.By
namespace Go.Proofs.YtoldppbakapohaaGreatDoor.Tw
open Go.RowKit Tl By

end Go.Proofs.YtoldppbakapohaaGreatDoor.Tw
end
