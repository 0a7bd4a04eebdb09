/- msg.checkFixed, readNumbers, slices.DeleteFunc as msg calls it, takeOverload, joinField, readOptions, decode, Read. Condition: what msg's package-level variables hold (En.ok). -/
import Derived.Test.YtabjcgchcnnjjaaGreatDoorMwNum2
import Derived.Test.YtabjcgchcnnjjaaGreatDoorMwA
import Derived.Test.YtabjcgchcnnjjaaGreatDoorMwWrite
import Derived.Test.YtabjcgchcnnjjaaGreatDoorCoA
import Derived.Test.YtabjcgchcnnjjaaGreatDoorTlJoin
import Derived.BigQuiet
import Derived.Handy
set_option maxRecDepth 8000
namespace Go.Proofs.YtabjcgchcnnjjaaGreatDoor.Mw
open Go.RowKit Tl Ms Co By

def strHeader : ByteArray := ⟨#[104, 101, 97, 100, 101, 114]⟩
def strPacket : ByteArray := ⟨#[112, 97, 99, 107, 101, 116]⟩
def strCookie : ByteArray := ⟨#[99, 111, 111, 107, 105, 101]⟩
def strHard : ByteArray := ⟨#[104, 97, 114, 100, 119, 97, 114, 101, 32, 108, 101, 110, 103, 116, 104]⟩
/-- What is wrong ahead of the options. -/
def fixedE (E : En) (l : List UInt8) : Option Er :=
  if l.length < 240 then some (.flt strHeader (.sen E.S)) else if 1500 < l.length then some (.flt strPacket (.sen E.L)) else if sub l 236 4 ≠ cookieL then some (.flt strCookie (.sen E.F)) else if 16 < (l.getD 2 0).toNat then some (.flt strHard (.sen E.F)) else none
def errV : Option Er → Value
  | none => .nilIface
  | some e => e.v
theorem bytes_ne {a b : List UInt8} (h : a ≠ b) : (ByteArray.mk a.toArray) ≠ ByteArray.mk b.toArray := fun e => h (by
  have := congrArg (fun x : ByteArray => x.data.toList) e
  simpa using this)

set_option maxHeartbeats 1000000 in
theorem checkFixed_any (E : En) (A : Option Addr) (n c : Nat) (l : List UInt8) (w : World) (hE : E.ok w) (h : Bs w A n c l) :
    Calls Tryz.prog 53 #[.slice A n c] w fun e w' => e = .returned (errV (fixedE E l)) ∧ w = w' := by
  have HL := Lib.hid h.len
  have hm := h.max
  have hcap := h.cap
  have gS := hE.gS
  have gL := hE.gL
  have gF := hE.gF
  clear hE
  by_cases h1 : (n : Int) < 240
  · have H : Hid (fixedE E l = some (.flt strHeader (.sen E.S))) := by show fixedE E l = _; unfold fixedE; rw [if_pos (by rw [HL.out]; omega)]
    go_enter Tryz.func53, Tryz.ntmps53
    go_wp2
    go_ret
    exact ⟨by rw [H.out]; rfl, rfl⟩
  by_cases h2 : (1500 : Int) < (n : Int)
  · have H : Hid (fixedE E l = some (.flt strPacket (.sen E.L))) := by show fixedE E l = _; unfold fixedE; rw [if_neg (by rw [HL.out]; omega), if_pos (by rw [HL.out]; omega)]
    go_enter Tryz.func53, Tryz.ntmps53
    go_wp2
    go_ret
    exact ⟨by rw [H.out]; rfl, rfl⟩
  obtain ⟨A1, hb1, hcut⟩ := byP.cut_lh h 236 240 236 240 rfl rfl (by omega) (by omega)
  have hstr := byP.str hb1
  have e1 : (l.drop 236).take (240 - 236) = sub l 236 4 := rfl
  rw [e1] at hstr
  by_cases h3 : sub l 236 4 = cookieL
  rotate_left
  · have H : Hid (fixedE E l = some (.flt strCookie (.sen E.F))) := by show fixedE E l = _; unfold fixedE; rw [if_neg (by rw [HL.out]; omega), if_neg (by rw [HL.out]; omega), if_pos h3]
    have hne : (sub l 236 4 == [99, 130, 83, 99]) = false := by simpa using (show ¬ sub l 236 4 = [99, 130, 83, 99] from h3)
    clear h3
    go_enter Tryz.func53, Tryz.ntmps53
    go_wp2
    go_ret
    exact ⟨by rw [H.out]; rfl, rfl⟩
  rw [h3] at hstr
  have hstr2 : (convert 25 9 (.slice A1 (240 - 236) (c - 236))).run Tryz.prog w = .ok (.string ⟨#[99, 130, 83, 99]⟩) w := hstr
  clear hstr
  obtain ⟨b, o, rfl, hcell⟩ := h.at_ (k := 2) (by omega)
  have h2l : 2 < l.length := by rw [HL.out]; omega
  have hc2 := hcell 2 h2l
  have HG : Hid (l.getD 2 0 = l[2]) := by show l.getD 2 0 = l[2]; rw [List.getD_eq_getElem?_getD, List.getElem?_eq_getElem h2l]; rfl
  have H3 := Lib.hid h3
  have hlt := (l[2]).toNat_lt
  generalize l[2] = y at hc2 HG hlt
  clear hcell h3 h2l
  by_cases h4 : (16 : Int) < (y.toNat : Int)
  · have H : Hid (fixedE E l = some (.flt strHard (.sen E.F))) := by show fixedE E l = _; unfold fixedE; rw [if_neg (by rw [HL.out]; omega), if_neg (by rw [HL.out]; omega), if_neg (by simpa using H3.out), if_pos (by rw [HG.out]; omega)]
    go_enter Tryz.func53, Tryz.ntmps53
    go_wp2
    go_ret
    exact ⟨by rw [H.out]; rfl, rfl⟩
  · have H : Hid (fixedE E l = none) := by show fixedE E l = _; unfold fixedE; rw [if_neg (by rw [HL.out]; omega), if_neg (by rw [HL.out]; omega), if_neg (by simpa using H3.out), if_neg (by rw [HG.out]; omega)]
    go_enter Tryz.func53, Tryz.ntmps53
    go_wp2
    go_ret
    exact ⟨by rw [H.out]; rfl, rfl⟩

/-! ### readNumbers -/
def offL : List Nat := [0, 1, 2, 3, 4, 8, 10, 12, 16, 20, 24]
def numsAt (l : List UInt8) : List Int := [numAt l 0 1, numAt l 1 1, numAt l 2 1, numAt l 3 1, numAt l 4 4, numAt l 8 2, numAt l 10 2, numAt l 12 4, numAt l 16 4, numAt l 20 4, numAt l 24 4]
/-- The array when k numbers have been read. -/
def arrN (l : List UInt8) (k : Nat) : Array Value := (((numsAt l).take k).map (Value.int .i64 ·) ++ List.replicate (11 - k) (Value.int .i64 0)).toArray
theorem arr_set (l : List UInt8) {k : Nat} (hk : k < 11) : (arrN l k).setIfInBounds k (.int .i64 ((numsAt l)[k]'hk)) = arrN l (k + 1) := by
  have h : k = 0 ∨ k = 1 ∨ k = 2 ∨ k = 3 ∨ k = 4 ∨ k = 5 ∨ k = 6 ∨ k = 7 ∨ k = 8 ∨ k = 9 ∨ k = 10 := by omega
  rcases h with rfl | rfl | rfl | rfl | rfl | rfl | rfl | rfl | rfl | rfl | rfl <;> rfl
theorem arr_size (l : List UInt8) {k : Nat} (hk : k ≤ 11) : (arrN l k).size = 11 := by
  have h : k = 0 ∨ k = 1 ∨ k = 2 ∨ k = 3 ∨ k = 4 ∨ k = 5 ∨ k = 6 ∨ k = 7 ∨ k = 8 ∨ k = 9 ∨ k = 10 ∨ k = 11 := by omega
  rcases h with rfl | rfl | rfl | rfl | rfl | rfl | rfl | rfl | rfl | rfl | rfl | rfl <;> rfl
theorem num_get (l : List UInt8) {k : Nat} (hk : k < 11) : (numsAt l)[k]'hk = numAt l (offL[k]'hk) (widL[k]'hk) := by
  have h : k = 0 ∨ k = 1 ∨ k = 2 ∨ k = 3 ∨ k = 4 ∨ k = 5 ∨ k = 6 ∨ k = 7 ∨ k = 8 ∨ k = 9 ∨ k = 10 := by omega
  rcases h with rfl | rfl | rfl | rfl | rfl | rfl | rfl | rfl | rfl | rfl | rfl <;> rfl
theorem off_fit {k : Nat} (hk : k < 11) : offL[k]'hk + widL[k]'hk ≤ 28 ∧ 1 ≤ widL[k]'hk ∧ widL[k]'hk ≤ 4 := by
  have h : k = 0 ∨ k = 1 ∨ k = 2 ∨ k = 3 ∨ k = 4 ∨ k = 5 ∨ k = 6 ∨ k = 7 ∨ k = 8 ∨ k = 9 ∨ k = 10 := by omega
  rcases h with rfl | rfl | rfl | rfl | rfl | rfl | rfl | rfl | rfl | rfl | rfl <;> simp [offL, widL]
theorem off_next {k : Nat} (hk : k + 1 < 11) : offL[k + 1]'hk = offL[k]'(by show k < 11; omega) + widL[k]'(by show k < 11; omega) := by
  have h : k = 0 ∨ k = 1 ∨ k = 2 ∨ k = 3 ∨ k = 4 ∨ k = 5 ∨ k = 6 ∨ k = 7 ∨ k = 8 ∨ k = 9 := by omega
  rcases h with rfl | rfl | rfl | rfl | rfl | rfl | rfl | rfl | rfl | rfl <;> rfl
def widV : Value := .agg #[.int .i64 1, .int .i64 1, .int .i64 1, .int .i64 1, .int .i64 4, .int .i64 2, .int .i64 2, .int .i64 4, .int .i64 4, .int .i64 4, .int .i64 4]
theorem wid_0 (W : World) : (Instr.index 125 widV (.int .i64 0)).run Tryz.prog W = .ok (.int .i64 1) W := by kernel_rfl
theorem wid_1 (W : World) : (Instr.index 125 widV (.int .i64 1)).run Tryz.prog W = .ok (.int .i64 1) W := by kernel_rfl
theorem wid_2 (W : World) : (Instr.index 125 widV (.int .i64 2)).run Tryz.prog W = .ok (.int .i64 1) W := by kernel_rfl
theorem wid_3 (W : World) : (Instr.index 125 widV (.int .i64 3)).run Tryz.prog W = .ok (.int .i64 1) W := by kernel_rfl
theorem wid_4 (W : World) : (Instr.index 125 widV (.int .i64 4)).run Tryz.prog W = .ok (.int .i64 4) W := by kernel_rfl
theorem wid_5 (W : World) : (Instr.index 125 widV (.int .i64 5)).run Tryz.prog W = .ok (.int .i64 2) W := by kernel_rfl
theorem wid_6 (W : World) : (Instr.index 125 widV (.int .i64 6)).run Tryz.prog W = .ok (.int .i64 2) W := by kernel_rfl
theorem wid_7 (W : World) : (Instr.index 125 widV (.int .i64 7)).run Tryz.prog W = .ok (.int .i64 4) W := by kernel_rfl
theorem wid_8 (W : World) : (Instr.index 125 widV (.int .i64 8)).run Tryz.prog W = .ok (.int .i64 4) W := by kernel_rfl
theorem wid_9 (W : World) : (Instr.index 125 widV (.int .i64 9)).run Tryz.prog W = .ok (.int .i64 4) W := by kernel_rfl
theorem wid_10 (W : World) : (Instr.index 125 widV (.int .i64 10)).run Tryz.prog W = .ok (.int .i64 4) W := by kernel_rfl
theorem wid_at {k : Nat} (hk : k < 11) (W : World) : (Instr.index 125 (.agg #[.int .i64 1, .int .i64 1, .int .i64 1, .int .i64 1, .int .i64 4, .int .i64 2, .int .i64 2, .int .i64 4, .int .i64 4, .int .i64 4, .int .i64 4]) (.int .i64 (k : Int))).run Tryz.prog W = .ok (.int .i64 (widL[k]'hk : Nat)) W := by
  have h : k = 0 ∨ k = 1 ∨ k = 2 ∨ k = 3 ∨ k = 4 ∨ k = 5 ∨ k = 6 ∨ k = 7 ∨ k = 8 ∨ k = 9 ∨ k = 10 := by omega
  rcases h with rfl | rfl | rfl | rfl | rfl | rfl | rfl | rfl | rfl | rfl | rfl
  · exact wid_0 W
  · exact wid_1 W
  · exact wid_2 W
  · exact wid_3 W
  · exact wid_4 W
  · exact wid_5 W
  · exact wid_6 W
  · exact wid_7 W
  · exact wid_8 W
  · exact wid_9 W
  · exact wid_10 W
/-- The message that readNumbers answers: the numbers of a header, no address, no options. -/
def numV (l : List UInt8) : Mv := ⟨numAt l 0 1, numAt l 1 1, numAt l 2 1, numAt l 3 1, numAt l 4 4, numAt l 8 2, numAt l 10 2, numAt l 12 4, numAt l 16 4, numAt l 20 4, numAt l 24 4, none, 0, 0, [], none, 0, 0, []⟩
def offK (k : Nat) : Nat := offL.getD k 28
theorem offK_at {k : Nat} (hk : k < 11) : offK k = offL[k]'hk := by
  unfold offK
  rw [List.getD_eq_getElem?_getD, List.getElem?_eq_getElem (show k < offL.length from hk)]
  rfl
theorem offK_next {k : Nat} (hk : k < 11) : offK (k + 1) = offK k + widL[k]'hk := by
  have h : k = 0 ∨ k = 1 ∨ k = 2 ∨ k = 3 ∨ k = 4 ∨ k = 5 ∨ k = 6 ∨ k = 7 ∨ k = 8 ∨ k = 9 ∨ k = 10 := by omega
  rcases h with rfl | rfl | rfl | rfl | rfl | rfl | rfl | rfl | rfl | rfl | rfl <;> rfl
theorem arr_at (l : List UInt8) {k : Nat} (hk : k < 11) : (arrN l k)[k]? = some (.int .i64 0) := by
  have h : k = 0 ∨ k = 1 ∨ k = 2 ∨ k = 3 ∨ k = 4 ∨ k = 5 ∨ k = 6 ∨ k = 7 ∨ k = 8 ∨ k = 9 ∨ k = 10 := by omega
  rcases h with rfl | rfl | rfl | rfl | rfl | rfl | rfl | rfl | rfl | rfl | rfl <;> rfl
theorem arr_all (l : List UInt8) : arrN l 11 = #[.int .i64 (numAt l 0 1), .int .i64 (numAt l 1 1), .int .i64 (numAt l 2 1), .int .i64 (numAt l 3 1), .int .i64 (numAt l 4 4), .int .i64 (numAt l 8 2), .int .i64 (numAt l 10 2), .int .i64 (numAt l 12 4), .int .i64 (numAt l 16 4), .int .i64 (numAt l 20 4), .int .i64 (numAt l 24 4)] := rfl
/-- What readNumbers' loop holds. -/
def StA (l : List UInt8) (w : World) (v i : Value) (wr : World) : Prop :=
  ∃ k : Nat, k ≤ 11 ∧ i = .int .i64 (k : Nat) ∧ v = .int .i64 (offK k : Nat) ∧ wr = (w.alloc (.cells #[.int .i64 0, .int .i64 0, .int .i64 0, .int .i64 0, .int .i64 0, .int .i64 0, .int .i64 0, .int .i64 0, .int .i64 0, .int .i64 0, .int .i64 0, .slice none 0 0, .slice none 0 0] 28)).alloc (.cells (arrN l k) 125)

set_option maxHeartbeats 2000000 in
theorem readNumbers_any (E : En) (A : Option Addr) (n c : Nat) (l : List UInt8) (w : World) (hE : E.ok w) (h : Bs w A n c l) (hn : 240 ≤ n) :
    Calls Tryz.prog 55 #[.slice A n c] w fun e w' => e = .returned (numV l).v ∧ Below w.heap.size w w' := by
  have HL := Lib.hid h.len
  have hm := h.max
  have hcap := h.cap
  have HB := Lib.hid h
  have hg := hE.gW
  have hglt : 3 < w.heap.size := World.block_lt_of_cell? w _ (hE.gW 0 (by decide))
  have g0 : ∀ o1 o2, ((w.alloc o1).alloc o2).cell? ⟨3, 0, none⟩ = some (.int .i64 1) := fun o1 o2 => by rw [World.cell?_alloc_lt _ _ _ (by simp; omega), World.cell?_alloc_lt _ _ _ hglt]; exact hg 0 (by decide)
  have g1 : ∀ o1 o2, ((w.alloc o1).alloc o2).cell? ⟨3, 1, none⟩ = some (.int .i64 1) := fun o1 o2 => by rw [World.cell?_alloc_lt _ _ _ (by simp; omega), World.cell?_alloc_lt _ _ _ hglt]; exact hg 1 (by decide)
  have g2 : ∀ o1 o2, ((w.alloc o1).alloc o2).cell? ⟨3, 2, none⟩ = some (.int .i64 1) := fun o1 o2 => by rw [World.cell?_alloc_lt _ _ _ (by simp; omega), World.cell?_alloc_lt _ _ _ hglt]; exact hg 2 (by decide)
  have g3 : ∀ o1 o2, ((w.alloc o1).alloc o2).cell? ⟨3, 3, none⟩ = some (.int .i64 1) := fun o1 o2 => by rw [World.cell?_alloc_lt _ _ _ (by simp; omega), World.cell?_alloc_lt _ _ _ hglt]; exact hg 3 (by decide)
  have g4 : ∀ o1 o2, ((w.alloc o1).alloc o2).cell? ⟨3, 4, none⟩ = some (.int .i64 4) := fun o1 o2 => by rw [World.cell?_alloc_lt _ _ _ (by simp; omega), World.cell?_alloc_lt _ _ _ hglt]; exact hg 4 (by decide)
  have g5 : ∀ o1 o2, ((w.alloc o1).alloc o2).cell? ⟨3, 5, none⟩ = some (.int .i64 2) := fun o1 o2 => by rw [World.cell?_alloc_lt _ _ _ (by simp; omega), World.cell?_alloc_lt _ _ _ hglt]; exact hg 5 (by decide)
  have g6 : ∀ o1 o2, ((w.alloc o1).alloc o2).cell? ⟨3, 6, none⟩ = some (.int .i64 2) := fun o1 o2 => by rw [World.cell?_alloc_lt _ _ _ (by simp; omega), World.cell?_alloc_lt _ _ _ hglt]; exact hg 6 (by decide)
  have g7 : ∀ o1 o2, ((w.alloc o1).alloc o2).cell? ⟨3, 7, none⟩ = some (.int .i64 4) := fun o1 o2 => by rw [World.cell?_alloc_lt _ _ _ (by simp; omega), World.cell?_alloc_lt _ _ _ hglt]; exact hg 7 (by decide)
  have g8 : ∀ o1 o2, ((w.alloc o1).alloc o2).cell? ⟨3, 8, none⟩ = some (.int .i64 4) := fun o1 o2 => by rw [World.cell?_alloc_lt _ _ _ (by simp; omega), World.cell?_alloc_lt _ _ _ hglt]; exact hg 8 (by decide)
  have g9 : ∀ o1 o2, ((w.alloc o1).alloc o2).cell? ⟨3, 9, none⟩ = some (.int .i64 4) := fun o1 o2 => by rw [World.cell?_alloc_lt _ _ _ (by simp; omega), World.cell?_alloc_lt _ _ _ hglt]; exact hg 9 (by decide)
  have g10 : ∀ o1 o2, ((w.alloc o1).alloc o2).cell? ⟨3, 10, none⟩ = some (.int .i64 4) := fun o1 o2 => by rw [World.cell?_alloc_lt _ _ _ (by simp; omega), World.cell?_alloc_lt _ _ _ hglt]; exact hg 10 (by decide)
  clear hE h hg
  go_enter Tryz.func55, Tryz.ntmps55
  go_wp2
  clear g0 g1 g2 g3 g4 g5 g6 g7 g8 g9 g10
  go_loopw [4, 8] (fun v i wr => StA l w v i wr) (fun _ i _ => 11 - (intOf i).toNat)
  case atStart => exact ⟨0, by omega, rfl, rfl, rfl⟩
  case round =>
    obtain ⟨k, hk, rfl, rfl, rfl⟩ := hrel
    by_cases hlt : k < 11
    · have hix := fun W => wid_at hlt W
      have hfit := off_fit hlt
      rw [← offK_at hlt] at hfit
      have HX := Lib.hid (offK_next hlt)
      have HA := arr_at l hlt
      have HS := Lib.hid (arr_set l hlt)
      have HG := Lib.hid (num_get l hlt)
      rw [← offK_at hlt] at HG
      generalize (numsAt l)[k] = v at HS HG
      generalize widL[k] = m at hix hfit HX HG
      generalize offK k = q at hfit HX HG
      obtain ⟨f1, f2, f3⟩ := hfit
      go_wp2_with fail
      refine (Cw.get_ok A n c l q m _ ((HB.out.alloc _).alloc _) f2 (by omega) (by omega)).mono ?_
      rintro e w' ⟨rfl, rfl⟩
      have hv : (valL ((l.drop q).take m) : Int) = v := HG.out.symm
      rw [hv]
      go_wp2
      go_roundw
      case rel => exact ⟨k + 1, by omega, by go_num, by rw [HX.out]; go_num, by rw [← HS.out]⟩
      case measure => simp [intOf]; omega
    · obtain rfl : k = 11 := by omega
      rw [arr_all]
      go_wp2
      go_returns
      exact ⟨rfl, ((Below.refl _ _).alloc (Nat.le_refl _) _).alloc (by simp) _⟩
end Go.Proofs.YtabjcgchcnnjjaaGreatDoor.Mw
