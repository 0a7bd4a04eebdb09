/- What key.Text and the document's own Text come to. Conditions: that the table of digits holds what the program's text lays. -/
import Derived.Test.YtgdomcjonlngaaaDoorKwLeaf
import Derived.Deep.RegionLaw
set_option maxRecDepth 8000
namespace Go.Proofs.YtgdomcjonlngaaaDoor.By
open Go.RowKit Tl
section
variable {P : Program} {T e S : TypeId} {w : World} {A : Option Addr} {n c : Nat} {l : List UInt8}
/-- 'append' of bytes as a step of a region that draws its order; what it does to other blocks. -/
theorem step_appK (hp : ByP P T e S) {ops : Array Oper} {o : Oper} {a : Act} {K : Act → World → Prop} {Q : Exit → Act → World → Prop} {E : Prop} (hgd : o.guard = none) (s x : Operand)
    (ho : o.op = .call { callee := .builtin .append, args := #[s, x], argTypes := #[T, T] }) {B : Nat} (hs : a.eval s = .slice A n c) (hown : Own e B w A n c l)
    {A2 : Option Addr} {m c2 : Nat} {l2 : List UInt8} (hx : a.eval x = .slice A2 m c2) (h2 : Bs w A2 m c2 l2) (hb : n + m ≤ 140737488355328) (hB : B ≤ w.heap.size)
    (h : ∀ A' c' w', Own e B w' A' (n + m) c' (l ++ l2) → Below B w w' → w.grownBy w' (Value.slice A n c).ownBlock →
      ((Value.slice A' (n + m) c').ownBlock = (Value.slice A n c).ownBlock ∨ (Value.slice A' (n + m) c').ownBlock = some w.heap.size) → K (a.put o.dst (.slice A' (n + m) c')) w') :
    if Region.wanted o (yielded ops a.tmps) = true then Oper.wp P o a w K Q else E := by
  have hw : Region.wanted o (yielded ops a.tmps) = true := by simp [Region.wanted, hgd]
  rw [if_pos hw]
  exact wp_app hp s x ho hs hown hx h2 hb hB h
end
end Go.Proofs.YtgdomcjonlngaaaDoor.By
namespace Go.Proofs.YtgdomcjonlngaaaDoor.Kw
open Go.RowKit Tl By Ky

/-- '[]byte(s)': a new row. -/
theorem conv_bytes (t : ByteArray) (w : World) : ∃ c w', (convert 9 22 (.string t)).run Tryd.prog w = .ok (.slice (some ⟨w.heap.size, 0, none⟩) t.size c) w' ∧ Below w.heap.size w w' ∧ w.heap.size < w'.heap.size ∧
    ∀ i (h : i < t.size), w'.cell? ⟨w.heap.size, i, none⟩ = some (.int .u8 (t[i].toNat : Int)) := by
  refine ⟨_, _, run_bytes_of_string w _ _ _ t Tryd.underlying9 Tryd.underlying22 Tryd.underlying5, ?_, ?_, ?_⟩
  · exact ((Below.refl _ _).drew).alloc (Nat.le_refl _) _
  · simp
  · intro i hi
    show (World.alloc w.drew _).cell? ⟨w.drew.heap.size, i, none⟩ = _
    rw [World.cell?_alloc_mark, bytesRow_at t _ i hi]
    rfl
theorem extract_list (s : ByteArray) (k : Nat) : (s.extract k s.size).data.toList = s.data.toList.drop k := by
  simp
  rw [List.take_of_length_le (by rw [List.length_drop, size_list]; omega)]
theorem cell_of_block {a b : World} {g : Nat} (h : b.heap[g]? = a.heap[g]?) (i : Nat) : b.cell? ⟨g, i, none⟩ = a.cell? ⟨g, i, none⟩ := by simp [World.cell?, h]
theorem quo16 (y : UInt8) : IntKind.u8.wrap ((y.toNat : Int) / 16) = ((y.toNat / 16 : Nat) : Int) := by
  have := y.toNat_lt
  rw [IntKind.wrap_u8]
  omega
theorem rem16 (y : UInt8) : (y.toNat : Int).tmod 16 = ((y.toNat % 16 : Nat) : Int) := by
  rw [Int.tmod_eq_emod_of_nonneg (by omega)]
  omega
theorem take_snocB (t : ByteArray) (k : Nat) (h : k < t.size) : t.data.toList.take (k + 1) = t.data.toList.take k ++ [t[k]] := by
  rw [List.take_succ_eq_append_getElem (by rw [size_list]; exact h)]
  rfl
/-- What the loop of Text holds: what is written so far, and the bytes that are still read. -/
def StT (w : World) (t : ByteArray) (x : UInt8) (N : Nat) (v i : Value) (wr : World) : Prop :=
  ∃ k A n c, k ≤ N ∧ i = .int .i64 (k : Nat) ∧ v = .slice A n c ∧ n ≤ 2 * k + 2 ∧ Own 5 w.heap.size wr A n c (x :: 45 :: hexL (t.data.toList.take k)) ∧ Below w.heap.size w wr ∧ (Value.slice A n c).ownBlock ≠ some (w.heap.size + 1) ∧
    ∀ i (h : i < t.size), wr.cell? ⟨w.heap.size + 1, i, none⟩ = some (.int .u8 (t[i].toNat : Int))

set_option maxHeartbeats 1000000 in
theorem text_yes (s : ByteArray) (w : World) (hw : Dig w) (hr : rightK s.data.toList = true) :
    Calls Tryd.prog 14 #[.string s] w fun e w' => e = .returned (.tuple #[.string ⟨(textK s.data.toList).toArray⟩, .int .i64 0]) ∧ Below w.heap.size w w' := by
  obtain ⟨h3, h256⟩ : 3 ≤ s.size ∧ s.size ≤ 256 := by
    have hl := text_len hr
    rw [size_list] at hl
    exact hl.2
  have h0 : 0 < s.size := by omega
  have HR := Lib.hid hr
  obtain ⟨t, ht⟩ : ∃ t, t = s.extract 1 s.size := ⟨_, rfl⟩
  have htz : t.size = s.size - 1 := by rw [ht]; simp
  have HT : Hid (textK s.data.toList = s[0] :: 45 :: hexL t.data.toList) := by
    show _ = _
    have e := drop_at s 0 h0
    rw [List.drop_zero] at e
    rw [ht, extract_list, show textK s.data.toList = textK (s[0] :: s.data.toList.drop (0 + 1)) by rw [← e]]
    rfl
  obtain ⟨x0, hx0⟩ : ∃ x0, s[0] = x0 := ⟨_, rfl⟩
  rw [hx0] at HT
  obtain ⟨wa, hwa⟩ : ∃ wa, wa = w.alloc (.cells #[.int .u8 (x0.toNat : Int), .int .u8 45] 5) := ⟨_, rfl⟩
  have hba : Below w.heap.size w wa := by rw [hwa]; exact (Below.refl _ _).alloc (Nat.le_refl _) _
  have hsa : wa.heap.size = w.heap.size + 1 := by rw [hwa]; simp
  have hoa : Own 5 w.heap.size wa (some ⟨w.heap.size, 0, none⟩) 2 2 [x0, 45] := by rw [hwa]; exact Own.lit2 5 w x0 45
  obtain ⟨cc, wb, hcv, hbb, hsb, hcb⟩ := conv_bytes t wa
  rw [hsa] at hcv hcb
  have hob := hoa.below hbb
  have hbw : Below w.heap.size w wb := hba.trans (hbb.mono hba.size)
  have H0 : Hid (StT w t x0 (s.size - 1) (.slice (some ⟨w.heap.size, 0, none⟩) 2 2) (.int .i64 0) wb) := ⟨0, _, 2, 2, by omega, rfl, rfl, Nat.le_refl _, hob, hbw, by simp [Value.ownBlock], hcb⟩
  rw [hwa, ht, show (s.extract 1 s.size).size = s.size - 1 by simp] at hcv
  clear hr hoa hba hcb hbb hob hsb
  clear hwa hsa ht
  go_enter Tryd.func14, Tryd.ntmps14
  go_wp2_with fail
  refine (right_any s _ (by omega)).mono ?_
  rw [HR.out]
  rintro e w1 ⟨rfl, rfl⟩
  go_wp2
  clear hcv hbw
  go_loopw [4, 17] (fun v i wr => StT w t x0 (s.size - 1) v i wr) (fun _ i _ => s.size - 1 - (intOf i).toNat)
  case atStart => exact H0.out
  case round =>
    obtain ⟨k, A, n, c, hk, rfl, rfl, hn, hown, hb, hne, hcb⟩ := hrel
    by_cases hlt : k < s.size - 1
    · have hkt : k < t.size := by omega
      have hcell := hcb k hkt
      have HN : Hid (x0 :: 45 :: hexL (t.data.toList.take (k + 1)) = (x0 :: 45 :: hexL (t.data.toList.take k)) ++ [hexD (t[k].toNat / 16), hexD (t[k].toNat % 16)]) := by
        show _ = _
        rw [take_snocB t k hkt, hexL_snoc]
        rfl
      have hdw := hw.below hb
      have hd1 := hdw (t[k].toNat / 16) (by have := t[k].toNat_lt; omega)
      have hd2 := hdw (t[k].toNat % 16) (by omega)
      have HCB := Lib.hid hcb
      have hglt : w.heap.size + 1 < wr.heap.size := World.block_lt_of_cell? wr _ (hcb 0 (by omega))
      generalize t[k]'hkt = y at hcell HN hd1 hd2
      have hq := quo16 y
      have hm := rem16 y
      have hql : y.toNat / 16 < 16 := by have := y.toNat_lt; omega
      have hml : y.toNat % 16 < 16 := by omega
      generalize y.toNat / 16 = q at HN hd1 hq hql
      generalize y.toNat % 16 = m at HN hd2 hm hml
      generalize hexD q = a at HN hd1
      generalize hexD m = d at HN hd2
      have hqi : (q : Int) < 16 := by omega
      have hmi : (m : Int) < 16 := by omega
      have hba : Below wr.heap.size wr (wr.alloc (Obj.cells #[.int .u8 (a.toNat : Int), .int .u8 (d.toNat : Int)] 5)).drew := ((Below.refl _ _).alloc (Nat.le_refl _) _).drew
      have hlit : Bs (wr.alloc (Obj.cells #[.int .u8 (a.toNat : Int), .int .u8 (d.toNat : Int)] 5)).drew (some ⟨wr.heap.size, 0, none⟩) 2 2 [a, d] := (Own.lit2 5 wr a d).bs
      have howna := hown.below hba
      have hsz := hb.size
      have hszb := Nat.le_trans hsz hba.size
      have hbn : n + 2 ≤ 140737488355328 := by omega
      clear hcb hown
      go_wp2_with fail
      go_region_law (refine step_appK byP (by rfl) (.tmp 21) (.tmp 30) (by rfl) (by rfl) howna (by rfl) hlit hbn hszb ?_; intro A3 c3 w3 hown3 hb3 hg3 hbl3)
      all_goals
        clear hq hm hd1 hd2 hcell hdw
        have hb13 : Below w.heap.size wr w3 := (hba.mono hsz).trans hb3
        have HC3 : Hid (∀ i (h : i < t.size), w3.cell? ⟨w.heap.size + 1, i, none⟩ = some (.int .u8 (t[i].toNat : Int))) := fun i hi => by
          rw [cell_of_block (hg3.block (w.heap.size + 1) (Nat.lt_of_lt_of_le hglt hba.size) (fun e => hne e.symm)), cell_of_block (hba.block _ hglt)]
          exact HCB.out i hi
        have HB3 : Hid ((Value.slice A3 (n + 2) c3).ownBlock ≠ some (w.heap.size + 1)) := fun e => by
          rcases hbl3 with h | h
          · exact hne (h.symm.trans e)
          · rw [h] at e
            injection e with e
            have : (wr.alloc (Obj.cells #[.int .u8 (a.toNat : Int), .int .u8 (d.toNat : Int)] 5)).drew.heap.size = wr.heap.size + 1 := by simp
            omega
        clear hbl3 hg3 hne
        go_wp2
        go_roundw
        case rel => exact ⟨k + 1, A3, n + 2, c3, by omega, by go_num, rfl, by omega, by rw [HN.out]; exact hown3, hb.trans hb13, HB3.out, HC3.out⟩
        case measure => simp [intOf]; omega
    · obtain rfl : k = s.size - 1 := by omega
      have hcv := byP.str hown.bs
      rw [List.take_of_length_le (by rw [size_list]; omega), ← HT.out] at hcv
      clear hown hcb hne
      go_wp2
      go_ret2
      exact ⟨rfl, hb⟩
theorem text_no (s : ByteArray) (w : World) (hs : s.size ≤ 9223372036854775807) (hr : rightK s.data.toList = false) :
    Calls Tryd.prog 14 #[.string s] w fun e w' => e = .returned (.tuple #[.string ⟨#[]⟩, .int .i64 1]) ∧ w = w' := by
  have HR := Lib.hid hr
  clear hr
  go_enter Tryd.func14, Tryd.ntmps14
  go_wp2_with fail
  refine (right_any s _ hs).mono ?_
  rw [HR.out]
  rintro e w1 ⟨rfl, rfl⟩
  go_wp2
  go_ret2
  exact ⟨rfl, rfl⟩

/-! ### The document's own -/
set_option maxHeartbeats 1000000 in
theorem refText_any (s : ByteArray) (w : World) (hr : rightK s.data.toList = true) :
    Calls Tryd.prog 16 #[.string s] w fun e w' => e = .returned (.string ⟨(textK s.data.toList).toArray⟩) ∧ Below w.heap.size w w' := by
  obtain ⟨h3, h256⟩ : 3 ≤ s.size ∧ s.size ≤ 256 := by
    have hl := text_len hr
    rw [size_list] at hl
    exact hl.2
  have h0 : 0 < s.size := by omega
  have HT : Hid (∀ k, 1 ≤ k → textK (s.data.toList.take k) = s[0] :: 45 :: hexL ((s.data.toList.take k).drop 1)) := fun k hk => by
    have e := drop_at s 0 h0
    rw [List.drop_zero] at e
    rw [e]
    obtain ⟨j, rfl⟩ : ∃ j, k = j + 1 := ⟨k - 1, by omega⟩
    rfl
  have HA : Hid (s.data.toList.take s.size = s.data.toList) := List.take_of_length_le (by rw [size_list]; exact Nat.le_refl _)
  generalize hx0 : s[0]'h0 = x0 at HT
  have hb0 : Below w.heap.size w (w.alloc (.cells #[.int .u8 (x0.toNat : Int), .int .u8 45] 5)) := (Below.refl _ _).alloc (Nat.le_refl _) _
  have ho0 : Own 5 w.heap.size (w.alloc (.cells #[.int .u8 (x0.toNat : Int), .int .u8 45] 5)) (some ⟨w.heap.size, 0, none⟩) 2 2 [x0, 45] := Own.lit2 5 w x0 45
  have HO := Lib.hid ho0
  clear hr ho0
  go_enter Tryd.func16, Tryd.ntmps16
  go_wp2
  go_loopw [3, 4] (fun v i wr => ∃ k A n c, 1 ≤ k ∧ k ≤ s.size ∧ i = .int .i64 (k : Nat) ∧ v = .slice A n c ∧ n ≤ 2 * k ∧ Own 5 w.heap.size wr A n c (textK (s.data.toList.take k)) ∧ Below w.heap.size w wr) (fun _ i _ => s.size - (intOf i).toNat)
  case atStart => exact ⟨1, _, 2, 2, by omega, by omega, rfl, rfl, by omega, (by rw [HT.out 1 (by omega), show (s.data.toList.take 1).drop 1 = [] by simp]; exact HO.out), hb0⟩
  case round =>
    clear hb0 HO
    obtain ⟨k, A, n, c, hk1, hk, rfl, rfl, hn, hown, hb⟩ := hrel
    by_cases hlt : k < s.size
    · have HN : Hid (textK (s.data.toList.take (k + 1)) = textK (s.data.toList.take k) ++ [hexD (s[k].toNat / 16), hexD (s[k].toNat % 16)]) := by
        show _ = _
        rw [HT.out _ hk1, HT.out (k + 1) (by omega), take_snocB s k hlt, List.drop_append_of_le_length (by rw [List.length_take, size_list]; omega), hexL_snoc]
        rfl
      generalize hyy : s[k]'hlt = y at HN
      have hq := quo16 y
      have hm := rem16 y
      have hql : y.toNat / 16 < 16 := by have := y.toNat_lt; omega
      have hml : y.toNat % 16 < 16 := by omega
      generalize y.toNat / 16 = q at HN hq hql
      generalize y.toNat % 16 = m at HN hm hml
      have HX1 := Lib.hid (fun W => hex_any q W hql)
      have HX2 := Lib.hid (fun W => hex_any m W hml)
      generalize hexD q = a at HN HX1
      generalize hexD m = d at HN HX2
      have hba : Below wr.heap.size wr (wr.alloc (Obj.cells #[.int .u8 (a.toNat : Int), .int .u8 (d.toNat : Int)] 5)).drew := ((Below.refl _ _).alloc (Nat.le_refl _) _).drew
      have hlit : Bs (wr.alloc (Obj.cells #[.int .u8 (a.toNat : Int), .int .u8 (d.toNat : Int)] 5)).drew (some ⟨wr.heap.size, 0, none⟩) 2 2 [a, d] := (Own.lit2 5 wr a d).bs
      have howna := hown.below hba
      have hsz := hb.size
      have hszb := Nat.le_trans hsz hba.size
      have hbn : n + 2 ≤ 140737488355328 := by omega
      clear hown
      go_wp2_with fail
      go_region_law (first
        | (refine step_appK byP (by rfl) (.tmp 14) (.tmp 25) (by rfl) (by rfl) howna (by rfl) hlit hbn hszb ?_; intro A3 c3 w3 hown3 hb3 hg3 hbl3)
        | (go_simp; go_at_call 25; with_reducible refine (HX1.out _).mono ?_; rintro e w' ⟨rfl, rfl⟩)
        | (go_simp; go_at_call 25; with_reducible refine (HX2.out _).mono ?_; rintro e w' ⟨rfl, rfl⟩))
      all_goals
        clear hq hm
        have hb13 : Below w.heap.size wr w3 := (hba.mono hsz).trans hb3
        clear hbl3 hg3
        go_wp2
        go_roundw
        case rel => exact ⟨k + 1, A3, n + 2, c3, by omega, by omega, by go_num, rfl, by omega, by rw [HN.out]; exact hown3, hb.trans hb13⟩
        case measure => simp [intOf]; omega
    · obtain rfl : k = s.size := by omega
      rw [HA.out] at hown
      have hcv := byP.str hown.bs
      clear hown
      go_wp2
      go_ret
      exact ⟨rfl, hb⟩
end Go.Proofs.YtgdomcjonlngaaaDoor.Kw
