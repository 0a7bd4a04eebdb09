/- What addr.Parse comes to, at texts of up to 1000 bytes. -/
import Derived.Test.YtbnmcplcfbghoaaDoorAdRead
namespace Go.Proofs.YtbnmcplcfbghoaaDoor
open Go.RowKit Ad

theorem parsePart_no (s : ByteArray) (w : World) (hs : s.size ≤ 1000) (h : partL s.data.toList = none) :
    Calls Tryd.prog 30 #[.string s] w fun e w' => e = .returned (.tuple #[.int .i64 0, .bool false]) ∧ Below w.heap.size w w' :=
  (parsePart_any s w hs).mono fun _ _ ⟨he, hb⟩ => ⟨by rw [he, h]; rfl, hb⟩
theorem parsePart_yes (s : ByteArray) (w : World) (v : Nat) (hs : s.size ≤ 1000) (h : partL s.data.toList = some v) :
    Calls Tryd.prog 30 #[.string s] w fun e w' => e = .returned (.tuple #[.int .i64 v, .bool true]) ∧ Below w.heap.size w w' :=
  (parsePart_any s w hs).mono fun _ _ ⟨he, hb⟩ => ⟨by rw [he, h]; rfl, hb⟩

/-- What is told of an address that may be none. -/
def toldErr : Option Nat → Value
  | none => .tuple #[.int .i64 0, .int .i64 2]
  | some v => .tuple #[.int .i64 v, .int .i64 0]
theorem toldErr_none {x : Option Nat} (h : x = none) : Ending.returned (.tuple #[.int .i64 0, .int .i64 2]) = .returned (toldErr x) := by rw [h]; rfl
theorem toldErr_some {x : Option Nat} {v : Nat} (h : x = some v) : Ending.returned (.tuple #[.int .i64 v, .int .i64 0]) = .returned (toldErr x) := by rw [h]; rfl

/-- The pieces, as the library cuts them. -/
theorem pieces {s : ByteArray} (h : s.data.toList.count 46 = 3) : ∃ L : List ByteArray, L.length = 4 ∧ Lib.countB s ⟨#[46]⟩ = 3 ∧ Lib.splitB ⟨#[46]⟩ 0 3 s = L ∧ Lib.splitK [46] 0 3 s.data.toList = L.map (·.data.toList) ∧ ∀ p ∈ L, p.size ≤ s.size := by
  have hc : Lib.countB s ⟨#[46]⟩ = 3 := by rw [← h]; exact Lib.count_one 46 _
  have hd := Lib.splitB_data ⟨#[46]⟩ 0 3 s
  have hl := Lib.splitB_all ⟨#[46]⟩ (by decide) 0 3 s hc
  refine ⟨_, hl, hc, rfl, hd.symm, ?_⟩
  intro p hp
  have hm : p.data.toList ∈ Lib.splitK [46] 0 3 s.data.toList := by
    rw [show Lib.splitK [46] 0 3 s.data.toList = _ from hd.symm]; exact List.mem_map_of_mem hp
  obtain ⟨a, b, c, d, _, _, _, e, hk⟩ := four h
  rw [hk] at hm
  rw [← size_list, ← size_list, e]
  simp only [List.mem_cons, List.not_mem_nil, or_false] at hm
  rcases hm with hm | hm | hm | hm <;> (rw [hm]; simp only [List.length_append, List.length_cons]; omega)

/-- How far the number can have come. -/
def Within4 (k a : Nat) : Prop := (k = 0 ∧ a = 0) ∨ (k = 1 ∧ a ≤ 255) ∨ (k = 2 ∧ a ≤ 65535) ∨ (k = 3 ∧ a ≤ 16777215) ∨ (k = 4 ∧ a ≤ 4294967295)

theorem fold_no {p : List UInt8} {l : List (List UInt8)} {a : Nat} (h : partL p = none) : foldParts (p :: l) a = none := by rw [foldParts, h]
theorem fold_yes {p : List UInt8} {l : List (List UInt8)} {a v : Nat} (h : partL p = some v) : foldParts (p :: l) a = foldParts l (a * 256 + v) := by rw [foldParts, h]

set_option maxHeartbeats 1000000 in
theorem parse_three (s : ByteArray) (w : World) (hw : Env w) (hs : s.size ≤ 1000) (h3 : s.data.toList.count 46 = 3) :
    Calls Tryd.prog 14 #[.string s] w fun e w' => e = .returned (toldErr (parseL s.data.toList)) ∧ Below w.heap.size w w' := by
  obtain ⟨L, hL, hc, hS, hK, hp⟩ := pieces h3
  have HP : Hid (parseL s.data.toList = foldParts (L.map (·.data.toList)) 0) := Lib.hid (by rw [parseL, if_pos h3, hK])
  have HC := Lib.hid hc
  have HS := Lib.hid hS
  have H3 := Lib.hid h3
  have HL := Lib.hid hL
  have hp' := Lib.hid hp
  clear hc hS h3 hK hL hp
  go_enter Tryd.func14, Tryd.ntmps14
  go_wp2_with fail
  refine (countParts_any _ _ hs).mono ?_
  rintro e w1 ⟨rfl, hb1⟩
  rw [H3.out]
  have hw1 := hw.below hb1
  obtain ⟨m, hm⟩ := hw1.max
  have HM := Lib.hid hm
  clear hm
  go_wp2_with fail
  refine (Tryd.strings_Split _ _ m _ (by omega) HM.out (by decide)).mono ?_
  rintro e w2 ⟨rfl, hw2⟩
  rw [HC.out] at hw2 ⊢
  rw [HS.out] at hw2
  have hb2 : Below w1.heap.size w1 w2 := by rw [hw2]; exact (Below.refl _ _).alloc (Nat.le_refl _) _
  have hz : w1.heap.size < w2.heap.size := by rw [hw2]; simp
  have HX : Hid (∀ k (hk : k < L.length), w2.cell? ⟨w1.heap.size, k, none⟩ = some (.string L[k])) := Lib.hid (by
    intro k hk
    rw [hw2, World.cell?_alloc_mark]
    simp [hk])
  clear hw2
  go_wp2
  go_loopw [4, 15] (fun n i wr => ∃ k a : Nat, k ≤ 4 ∧ i = .int .i64 k ∧ n = .int .i64 a ∧ Hid (Within4 k a) ∧ Hid (foldParts ((L.drop k).map (·.data.toList)) a = parseL s.data.toList) ∧ Below w2.heap.size w2 wr) (fun _ i _ => 4 - (intOf i).toNat)
  case atStart => exact ⟨0, 0, by omega, rfl, rfl, Lib.hid (.inl ⟨rfl, rfl⟩), Lib.hid (by rw [HP.out]; rfl), Below.refl _ _⟩
  case round =>
    obtain ⟨k, a, hk, rfl, rfl, HW, HF, hbr⟩ := hrel
    have hbw : Below w.heap.size w wr := hb1.trans ((hb2.mono hb1.size).trans (hbr.mono (Nat.le_trans hb1.size hb2.size)))
    by_cases hlt : k < 4
    · have ha : a ≤ 16777215 := by have := HW.out; unfold Within4 at this; omega
      have hkL : k < L.length := by rw [HL.out]; exact hlt
      obtain ⟨p, Hp⟩ : ∃ p, Hid (L[k] = p) := ⟨_, Lib.hid rfl⟩
      have hcell : wr.cell? ⟨w1.heap.size, k, none⟩ = some (.string p) := by
        rw [hbr.cell (p := ⟨w1.heap.size, k, none⟩) hz, HX.out k hkL, Hp.out]
      have hps : p.size ≤ 1000 := by
        have := hp'.out _ (List.getElem_mem hkL)
        rw [Hp.out] at this
        omega
      have HD : Hid (foldParts ((L.drop k).map (·.data.toList)) a = foldParts (p.data.toList :: (L.drop (k + 1)).map (·.data.toList)) a) := Lib.hid (by
        rw [List.drop_eq_getElem_cons hkL, List.map_cons, Hp.out])
      cases hpart : partL p.data.toList with
      | none =>
        have HN : Hid (parseL s.data.toList = none) := Lib.hid (by rw [← HF.out, HD.out, fold_no hpart])
        have HPt := Lib.hid hpart
        clear hpart
        go_wp2_with (go_at_call 30; refine (parsePart_no _ _ hps HPt.out).mono ?_; rintro e w3 ⟨rfl, hb3⟩)
        go_ret2
        exact ⟨toldErr_none HN.out, hbw.trans (hb3.mono hbw.size)⟩
      | some v =>
        have hv := (part_some hpart).1
        have HN : Hid (foldParts ((L.drop (k + 1)).map (·.data.toList)) (a * 256 + v) = parseL s.data.toList) := Lib.hid (by rw [← HF.out, HD.out, fold_yes hpart])
        have HPt := Lib.hid hpart
        clear hpart
        go_wp2_with (go_at_call 30; refine (parsePart_yes _ _ v hps HPt.out).mono ?_; rintro e w3 ⟨rfl, hb3⟩)
        go_roundw
        case rel =>
          refine ⟨k + 1, a * 256 + v, by omega, by go_num, ?_, Lib.hid ?_, HN, hbr.trans (hb3.mono hbr.size)⟩
          · rw [i64_or8 _ _ (by omega) (by omega) (by omega) (by omega)]; go_num
          · have := HW.out; unfold Within4 at this ⊢; omega
        case measure => simp [intOf]; omega
    · have hk4 : k = 4 := by omega
      subst hk4
      have HN : Hid (parseL s.data.toList = some a) := Lib.hid (by rw [← HF.out, List.drop_of_length_le (by rw [HL.out]; omega)]; rfl)
      go_wp2
      go_ret2
      exact ⟨toldErr_some HN.out, hbw⟩

set_option maxHeartbeats 400000 in
theorem parse_any (s : ByteArray) (w : World) (hw : Env w) (hs : s.size ≤ 1000) :
    Calls Tryd.prog 14 #[.string s] w fun e w' => e = .returned (toldErr (parseL s.data.toList)) ∧ Below w.heap.size w w' := by
  by_cases h3 : s.data.toList.count 46 = 3
  · exact parse_three s w hw hs h3
  · have HN : Hid (parseL s.data.toList = none) := Lib.hid (by rw [parseL, if_neg h3])
    obtain ⟨c, Hc⟩ : ∃ c : Nat, Hid (s.data.toList.count 46 = c) := ⟨_, Lib.hid rfl⟩
    have hc : c ≤ 1000 := by
      have := List.count_le_length (a := (46 : UInt8)) (l := s.data.toList)
      rw [size_list, Hc.out] at this
      omega
    rw [Hc.out] at h3
    have b1 : ((1 + (c : Int)) != 4) = true := by rw [bne_iff_ne]; omega
    go_enter Tryd.func14, Tryd.ntmps14
    go_wp2_with fail
    refine (countParts_any _ _ hs).mono ?_
    rintro e w1 ⟨rfl, hb1⟩
    rw [Hc.out]
    go_wp2
    go_ret2
    exact ⟨toldErr_none HN.out, hb1⟩

theorem parse_yes (s : ByteArray) (w : World) (hw : Env w) (hs : s.size ≤ 1000) (v : Nat) (h : parseL s.data.toList = some v) :
    Calls Tryd.prog 14 #[.string s] w fun e w' => e = .returned (.tuple #[.int .i64 v, .int .i64 0]) ∧ Below w.heap.size w w' :=
  (parse_any s w hw hs).mono fun _ _ ⟨he, hb⟩ => ⟨by rw [he, h]; rfl, hb⟩
theorem parse_no (s : ByteArray) (w : World) (hw : Env w) (hs : s.size ≤ 1000) (h : parseL s.data.toList = none) :
    Calls Tryd.prog 14 #[.string s] w fun e w' => e = .returned (.tuple #[.int .i64 0, .int .i64 2]) ∧ Below w.heap.size w w' :=
  (parse_any s w hw hs).mono fun _ _ ⟨he, hb⟩ => ⟨by rw [he, h]; rfl, hb⟩
end Go.Proofs.YtbnmcplcfbghoaaDoor
