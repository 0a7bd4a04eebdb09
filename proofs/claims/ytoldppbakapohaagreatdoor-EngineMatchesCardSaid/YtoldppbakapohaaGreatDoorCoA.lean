/- What the calls that make no memory come to: widths, powers, eight bits of the sum, the sum, the number of bytes. For all inputs. -/
import Derived.Test.YtoldppbakapohaaGreatDoorMathA
import Derived.Test.YtoldppbakapohaaGreatDoorKitA
import Derived.WalkSpells
import Derived.WalkLawsBesides
import Derived.IntWalk
import Derived.Laws.BitsAllLaws
import Derived.Lib.AppendZeros
import Derived.Lib.SliceRun
section
namespace Go.Proofs.YtoldppbakapohaaGreatDoor.Cw
open Go.RowKit Co By

def wideB (n : Int) : Bool := decide (1 ≤ n) && decide (n ≤ 7)
theorem rightWidth_any (n : Int) (w : World) :
    Calls Tryz.prog 102 #[.int .i64 n] w fun e w' => e = .returned (.bool (wideB n)) ∧ w = w' := by
  have H : Hid (wideB n = (decide (1 ≤ n) && decide (n ≤ 7))) := rfl
  by_cases h1 : 1 ≤ n
  · by_cases h2 : n ≤ 7
    · go_enter Tryz.func102, Tryz.ntmps102
      go_wp2
      go_ret
      exact ⟨ret_bool (by rw [H.out]; simp [h1, h2]), rfl⟩
    · go_enter Tryz.func102, Tryz.ntmps102
      go_wp2
      go_ret
      exact ⟨ret_bool (by rw [H.out]; simp [h1, h2]), rfl⟩
  · go_enter Tryz.func102, Tryz.ntmps102
    go_wp2
    go_ret
    exact ⟨ret_bool (by rw [H.out]; simp; omega), rfl⟩

def fairB (v n : Int) : Bool := decide (1 ≤ n ∧ n ≤ 7 ∧ 0 ≤ v ∧ v < ((p256 n.toNat : Nat) : Int))
theorem take_next {l : List UInt8} {k : Nat} (h : k < l.length) : l.take (k + 1) = l.take k ++ [l[k]] := List.take_succ_eq_append_getElem h

theorem val_next {l : List UInt8} {k : Nat} (h : k < l.length) : valL (l.take (k + 1)) = valL (l.take k) * 256 + (l[k]).toNat := by rw [take_next h, valL_snoc]
set_option maxHeartbeats 400000 in
theorem value_any (A : Option Addr) (n c : Nat) (l : List UInt8) (w : World) (h : Bs w A n c l) (hn : n ≤ 7) :
    Calls Tryz.prog 56 #[.slice A n c] w fun e w' => e = .returned (.int .i64 (valL l : Nat)) ∧ w = w' := by
  have hl := Lib.hid h.len
  have hm := h.max
  have hcap := h.cap
  go_enter Tryz.func56, Tryz.ntmps56
  go_wp2
  go_loop [3, 4] (fun v i => ∃ k : Nat, k ≤ n ∧ i = .int .i64 k ∧ v = .int .i64 (valL (l.take k) : Nat)) (fun _ i => n - (intOf i).toNat)
  case atStart => exact ⟨0, by omega, rfl, rfl⟩
  case round =>
    obtain ⟨k, hk, rfl, rfl⟩ := hrel
    by_cases hlt : k < n
    · obtain ⟨b, o, rfl, hc⟩ := h.at_ hlt
      have hkl : k < l.length := by have := hl.out; omega
      have hcell := hc k hkl
      have H := Lib.hid (val_next hkl)
      have hs : valL (l.take k) < 281474976710656 := Nat.lt_of_lt_of_le (valL_lt _) (p256_le (n := 6) (by rw [List.length_take]; omega))
      generalize valL (l.take k) = x at hs H
      clear hc
      generalize l[k] = y at hcell H
      clear hkl
      have hy := y.toNat_lt
      go_wp2
      go_round
      case rel => exact ⟨k + 1, by omega, by go_num, by rw [H.out]; go_num⟩
      case measure => simp [intOf]; omega
    · obtain rfl : k = n := by omega
      have H : Hid (valL l = valL (l.take k)) := by rw [List.take_of_length_le (by have := hl.out; omega)]; rfl
      generalize valL (l.take k) = x at H
      go_wp2
      go_ret
      exact ⟨ret_int (by rw [H.out]), rfl⟩

theorem get_more (A : Option Addr) (len c : Nat) (at_ n : Int) (w : World) (hl : len ≤ 9223372036854775807) (h1 : 1 ≤ n) (h2 : n ≤ 7) (h3 : 0 ≤ at_) (h4 : (len : Int) - n < at_) :
    Calls Tryz.prog 150 #[.slice A len c, .int .i64 at_, .int .i64 n] w fun e w' => e = .returned (.tuple #[.int .i64 0, .int .i64 4]) ∧ w = w' := by
  have hw : wideB n = true := by unfold wideB; simp; omega
  go_enter Tryz.func150, Tryz.ntmps150
  go_wp2_with fail
  refine (rightWidth_any n _).mono ?_
  rintro e w' ⟨rfl, rfl⟩
  go_wp2
  go_ret2
  exact ⟨rfl, rfl⟩
theorem or8 (a v : Nat) (h1 : a < 281474976710656) (h3 : v < 256) : bits .or .i64 ((a : Int) * 256) (v : Int) = ((a * 256 + v : Nat) : Int) := by
  have e1 : (BitVec.ofInt 64 ((a : Int) * 256)).toNat = 2 ^ 8 * a := by
    rw [BitVec.toNat_ofInt]; omega
  have e2 : (BitVec.ofInt 64 (v : Int)).toNat = v := by
    rw [BitVec.toNat_ofInt]; omega
  show IntKind.i64.wrap ((BitVec.ofInt 64 ((a : Int) * 256) ||| BitVec.ofInt 64 (v : Int)).toNat : Nat) = _
  rw [BitVec.toNat_or, e1, e2, ← Nat.two_pow_add_eq_or_of_lt (by omega : v < 2 ^ 8), IntKind.wrap_i64]
  omega
theorem val_next_at {l : List UInt8} {at_ k : Nat} (h : at_ + k < l.length) : valL ((l.drop at_).take (k + 1)) = valL ((l.drop at_).take k) * 256 + (l[at_ + k]).toNat := by
  rw [val_next (by rw [List.length_drop]; omega)]
  simp
set_option maxHeartbeats 800000 in
theorem get_ok (A : Option Addr) (len c : Nat) (l : List UInt8) (at_ n : Nat) (w : World) (h : Bs w A len c l) (h1 : 1 ≤ n) (h2 : n ≤ 7) (h4 : at_ + n ≤ len) :
    Calls Tryz.prog 150 #[.slice A len c, .int .i64 (at_ : Int), .int .i64 (n : Int)] w fun e w' => e = .returned (.tuple #[.int .i64 (valL ((l.drop at_).take n) : Nat), .int .i64 0]) ∧ w = w' := by
  have hw : wideB (n : Int) = true := by unfold wideB; simp; omega
  have hl := Lib.hid h.len
  have hm := h.max
  have hcap := h.cap
  obtain ⟨b, o, rfl, hc0⟩ := h.at_ (k := at_) (by omega)
  have hc := Lib.hid hc0
  clear hc0
  go_enter Tryz.func150, Tryz.ntmps150
  go_wp2_with fail
  refine (rightWidth_any n _).mono ?_
  rintro e w' ⟨rfl, rfl⟩
  go_wp2
  go_loop [8, 24] (fun v i => ∃ k : Nat, k ≤ n ∧ i = .int .i64 k ∧ v = .int .i64 (valL ((l.drop at_).take k) : Nat)) (fun _ i => n - (intOf i).toNat)
  case atStart => exact ⟨0, by omega, rfl, rfl⟩
  case round =>
    obtain ⟨k, hk, rfl, rfl⟩ := hrel
    by_cases hlt : k < n
    · have hkl : at_ + k < l.length := by have := hl.out; omega
      have hcell := hc.out (at_ + k) hkl
      have H := Lib.hid (val_next_at hkl)
      have hs : valL ((l.drop at_).take k) < 281474976710656 := Nat.lt_of_lt_of_le (valL_lt _) (p256_le (n := 6) (by rw [List.length_take]; omega))
      generalize valL ((l.drop at_).take k) = x at hs H
      generalize l[at_ + k] = y at hcell H
      clear hkl
      have hy := y.toNat_lt
      have ho := or8 x y.toNat hs hy
      go_wp2
      go_round
      case rel => exact ⟨k + 1, by omega, by go_num, by rw [H.out]; go_num⟩
      case measure => simp [intOf]; omega
    · obtain rfl : k = n := by omega
      go_wp2
      go_ret2
      exact ⟨rfl, rfl⟩
end Go.Proofs.YtoldppbakapohaaGreatDoor.Cw
end
/- What code.Put and the document's own Put come to. For all numbers. -/
section
namespace Go.Proofs.YtoldppbakapohaaGreatDoor.Cw
open Go.RowKit Co By

theorem two_pow (m : Nat) (h : m ≤ 7) : wrap64 (2 ^ (8 * m)) = ((p256 m : Nat) : Int) := by
  have h1 : p256 m ≤ 72057594037927936 := p256_le h
  have e : ((2 : Int) ^ (8 * m)) = ((p256 m : Nat) : Int) := by rw [p256_two]; simp
  rw [e]
  exact IntWalk.wrap64_in _ ⟨by omega, by omega⟩

set_option maxRecDepth 8000 in
set_option maxHeartbeats 1000000 in
theorem put_ok (v n : Nat) (w : World) (h1 : 1 ≤ n) (h2 : n ≤ 7) (h3 : v < p256 n) :
    Calls Tryz.prog 60 #[.int .i64 (v : Int), .int .i64 (n : Int)] w (RB 5 w n (putL v n) fun x => .tuple #[x, .int .i64 0]) := by
  have hw : wideB (n : Int) = true := by unfold wideB; simp; omega
  have hsh : decide (wrap64 (2 ^ (8 * n)) ≤ (v : Int)) = false := by
    rw [two_pow n h2]
    exact decide_eq_false (by omega)
  have hv : v < 72057594037927936 := Nat.lt_of_lt_of_le h3 (p256_le h2)
  have h3' := Lib.hid h3
  clear h3
  obtain ⟨i0, hi0, hz0, hz1, hz2⟩ := info_parts byP.hi
  have HI := Lib.hid hi0
  have HZ0 := Lib.hid hz0
  have HZ1 := Lib.hid hz1
  have HZ2 := Lib.hid hz2
  clear hi0 hz0 hz1 hz2
  go_enter Tryz.func60, Tryz.ntmps60
  go_wp2_with fail
  refine (rightWidth_any n _).mono ?_
  rintro e w' ⟨rfl, rfl⟩
  go_wp2_with (refine wpList_make_full _ rfl (.tmp 22) (.tmp 22) 26 rfl w.heap.size 5 i0 _ 1 Tryz.underlying26 HI.out HZ0.out HZ1.out .i64 .i64 n n n rfl rfl rfl rfl (by rw [HZ2.out]; omega) (by unfold maxLen; omega) (Nat.le_refl _) ?_; intro w1 hown hgr)
  have hown0 : Own 5 w.heap.size w1 (some ⟨w.heap.size, 0, none⟩) n n (partL v n 0) := by
    have e : (madeCells (Value.int IntKind.u8 0).cells (n * 1)).toList = cellsU (partL v n 0) := by
      rw [Nat.mul_one, show (Value.int IntKind.u8 0).cells = #[.int .u8 0] from rfl, toList_madeCells_one]
      simp [cellsU, partL, putL]
    rw [e] at hown
    exact hown
  have hb1 : Below w.heap.size w w1 := (Below.refl _ _).grown hgr (Nat.le_refl _) (fun _ h => by cases h)
  clear hown hgr
  go_loopw [25] (fun i wr => ∃ k : Nat, k ≤ n ∧ i = .int .i64 k ∧ Own 5 w.heap.size wr (some ⟨w.heap.size, 0, none⟩) n n (partL v n k) ∧ Below w.heap.size w wr) (fun i _ => n - (intOf i).toNat)
  case atStart => exact ⟨0, by omega, rfl, hown0, hb1⟩
  case round =>
    obtain ⟨k, hk, rfl, hown, hb⟩ := hrel
    by_cases hlt : k < n
    · have hfr := World.ownsRow.frozenAt hown (n - 1 - k)
      obtain ⟨y, hcell⟩ : ∃ y, wr.cell? ⟨w.heap.size, n - 1 - k, none⟩ = some (.int .u8 y) := by
        rw [World.ownsRow.cellAt hown _ (by omega), cellsU_get (by rw [partL_length hk]; omega)]
        exact ⟨_, rfl⟩
      go_wp2
      have hy : ((v : Int) / 2 ^ (8 * k) % 256) = ((byteV (v / p256 k)).toNat : Int) := by
        rw [byteV_toNat, p256_two]
        simp
      rw [hy]
      have hset := hown.set (n - 1 - k) (byteV (v / p256 k))
      rw [partL_next hlt] at hset
      go_roundw
      case rel => exact ⟨k + 1, by omega, by go_num, hset, hb.setCell (Nat.le_refl _) _⟩
      case measure => simp [intOf]; omega
    · obtain rfl : k = n := by omega
      go_wp2
      go_ret2
      exact ⟨_, _, rfl, by rw [← partL_all]; exact hown, hb⟩

end Go.Proofs.YtoldppbakapohaaGreatDoor.Cw
end
/- What bytes.Clone, slices.Grow of nil and slices.Concat at []byte come to. Conditions: all bytes together at most 2^47. -/
section
namespace Go.Proofs.YtoldppbakapohaaGreatDoor.Cw
open Go.RowKit Co By

theorem grow_nil (n : Nat) (w : World) (hn : n ≤ 140737488355328) :
    Calls Tryz.prog 248 #[.slice none 0 0, .int .i64 (n : Int)] w (RB 5 w 0 [] fun x => x) := by
  by_cases h0 : n = 0
  · subst h0
    go_enter Tryz.func248, Tryz.ntmps248
    go_wp2
    go_ret
    exact ⟨none, 0, rfl, Own.nil _ _ _, Below.refl _ _⟩
  · have hpos : 0 < n := by omega
    obtain ⟨i0, hi0, hz0, hz1, hz2⟩ := info_parts byP.hi
    have hrun := fun ty => Lib.run_append_nil_zeros (P := Tryz.prog) w 26 3 ty 5 i0 _ .i64 .i64 Tryz.underlying26 Tryz.underlying3 hi0 hz0 n hpos (by omega) (by omega) (by rw [hz2]; omega)
    have hge := grownCap_ge w n 0 5
    have hcm := grownCap_le_maxLen w n 0 5 (by unfold maxLen; omega)
    generalize grownCap w n 0 5 = G at hrun hge hcm
    generalize hcs : (Builtin.zeroCells (Value.int IntKind.u8 0).cells n ++ Builtin.zeroCells (Value.int IntKind.u8 0).cells (G - n)) = cs at hrun
    have hsz : cs.size = G := by
      rw [← hcs, Array.size_append, size_zeroCells, size_zeroCells]
      show n * 1 + (G - n) * 1 = G
      omega
    have HR := Lib.hid hrun
    have HS := Lib.hid hsz
    have HM := Lib.hid hcm
    have hcm2 : G ≤ 9223372036854775807 := by unfold maxLen at hcm; omega
    clear hrun hsz hcm hcs hi0 hz0 hz1 hz2 h0
    go_enter Tryz.func248, Tryz.ntmps248
    go_wp2_with (at_builtin; refine Lib.wpList_append_run _ rfl (.tmp 20) (.tmp 21) _ _ rfl _ _ rfl rfl _ _ (HR.out _) ?_)
    go_ret
    exact ⟨some ⟨w.heap.size, 0, none⟩, G, rfl, (World.ownsRow_made w cs G (Nat.le_refl _) HM.out (by rw [HS.out, Nat.mul_one])).drew, ((Below.refl _ _).alloc (Nat.le_refl _) _).drew⟩

/-- A part of a list of bytes. -/
structure Part where
  A : Option Addr
  c : Nat
  l : List UInt8
def PartsAt (w : World) (b o : Nat) (ps : List Part) : Prop :=
  ∀ i (h : i < ps.length), w.cell? ⟨b, o + i, none⟩ = some (.slice ps[i].A ps[i].l.length ps[i].c) ∧ Bs w ps[i].A ps[i].l.length ps[i].c ps[i].l
theorem PartsAt.below {w w' : World} {b o : Nat} {ps : List Part} (h : PartsAt w b o ps) (hb : Below w.heap.size w w') : PartsAt w' b o ps := fun i hi =>
  ⟨(hb.cell (World.block_lt_of_cell? w _ (h i hi).1)).trans (h i hi).1, (h i hi).2.below hb⟩
def totL (ps : List Part) : Nat := (ps.map fun p => p.l.length).sum
def catL (ps : List Part) : List UInt8 := ps.flatMap (·.l)
theorem tot_next {ps : List Part} {k : Nat} (h : k < ps.length) : totL (ps.take (k + 1)) = totL (ps.take k) + (ps[k]).l.length := by
  unfold totL
  rw [List.take_succ_eq_append_getElem h]
  simp only [List.map_append, List.sum_append, List.map_cons, List.map_nil, List.sum_cons, List.sum_nil, Nat.add_zero]
theorem cat_next {ps : List Part} {k : Nat} (h : k < ps.length) : catL (ps.take (k + 1)) = catL (ps.take k) ++ (ps[k]).l := by
  unfold catL
  rw [List.take_succ_eq_append_getElem h, List.flatMap_append]
  simp only [List.flatMap_cons, List.flatMap_nil, List.append_nil]
theorem tot_le (ps : List Part) (k : Nat) : totL (ps.take k) ≤ totL ps := by
  have h : totL (ps.take k) + totL (ps.drop k) = totL ps := by
    unfold totL
    rw [← List.sum_append, ← List.map_append, List.take_append_drop]
  omega
theorem cat_len (ps : List Part) : (catL ps).length = totL ps := by
  unfold catL totL
  rw [List.length_flatMap]

set_option maxHeartbeats 1000000 in
theorem concat_any (b o N c : Nat) (ps : List Part) (w : World) (h : PartsAt w b o ps) (hN : ps.length = N) (hc : c ≤ 9223372036854775807) (hNc : N ≤ c) (ht : totL ps ≤ 140737488355328) :
    Calls Tryz.prog 240 #[.slice (some ⟨b, o, none⟩) N c] w (RB 5 w (totL ps) (catL ps) fun x => x) := by
  have HN := Lib.hid hN
  clear hN
  go_enter Tryz.func240, Tryz.ntmps240
  go_wp2
  go_loop [3, 11] (fun v i => ∃ k : Nat, k ≤ N ∧ i = .int .i64 k ∧ v = .int .i64 (totL (ps.take k) : Nat)) (fun _ i => N - (intOf i).toNat)
  case atStart => exact ⟨0, by omega, rfl, rfl⟩
  case round =>
    obtain ⟨k, hk, rfl, rfl⟩ := hrel
    have hle := tot_le ps k
    by_cases hlt : k < N
    · have hkl : k < ps.length := by have := HN.out; omega
      have hcell := (h k hkl).1
      have H := Lib.hid (tot_next hkl)
      have hle2 := tot_le ps (k + 1)
      rw [tot_next hkl] at hle2
      generalize ps[k].l.length = m at hcell H hle2
      generalize ps[k].A = A' at hcell
      generalize ps[k].c = c' at hcell
      generalize totL (ps.take k) = x at H hle hle2
      clear hkl
      go_wp2
      go_round
      case rel => exact ⟨k + 1, by omega, by go_num, by rw [H.out]; go_num⟩
      case measure => simp [intOf]; omega
    · obtain rfl : k = N := by omega
      have H := Lib.hid (show ps.take k = ps from List.take_of_length_le (by have := HN.out; omega))
      rw [H.out]
      go_wp2_with fail
      refine (grow_nil _ _ ht).mono ?_
      rintro e w1 ⟨A1, c1, rfl, hown0, hb1⟩
      go_wp2
      go_loopw [6, 27] (fun v i wr => ∃ (j : Nat) (A2 : Option Addr) (c2 : Nat), j ≤ k ∧ i = .int .i64 j ∧ v = .slice A2 (totL (ps.take j)) c2 ∧ Own 5 w.heap.size wr A2 (totL (ps.take j)) c2 (catL (ps.take j)) ∧ Below w.heap.size w wr) (fun _ i _ => k - (intOf i).toNat)
      case atStart => exact ⟨0, A1, c1, by omega, rfl, rfl, hown0, hb1⟩
      case round =>
        obtain ⟨j, A2, c2, hj, rfl, rfl, hown, hb⟩ := hrel
        have hle3 := tot_le ps j
        by_cases hlt2 : j < k
        · have hkl : j < ps.length := by have := HN.out; omega
          have hP := h.below hb
          have hcell := (hP j hkl).1
          have hbs := (hP j hkl).2
          have H1 := Lib.hid (tot_next hkl)
          have H2 := Lib.hid (cat_next hkl)
          have hle2 := tot_le ps (j + 1)
          rw [tot_next hkl] at hle2
          generalize ps[j] = p at hcell H1 H2 hle2 hbs
          clear hP
          clear hkl
          generalize totL (ps.take j) = x at H1 hle3 hle2 hown
          generalize catL (ps.take j) = y at H2 hown
          go_wp2_with (at_builtin; refine wpList_app byP rfl (.tmp 31) (.tmp 32) rfl rfl hown rfl hbs (by omega) (by have := hb.size; omega) ?_; intro A3 c3 w3 hown3 hb3 _ _)
          go_roundw
          case rel => exact ⟨j + 1, A3, c3, by omega, by go_num, by rw [H1.out], by rw [H1.out, H2.out]; exact hown3, hb.trans hb3⟩
          case measure => simp [intOf]; omega
        · obtain rfl : j = k := by omega
          go_wp2
          go_ret
          rw [H.out] at hown
          exact ⟨A2, c2, by rw [H.out]; rfl, hown, hb⟩
end Go.Proofs.YtoldppbakapohaaGreatDoor.Cw
end
