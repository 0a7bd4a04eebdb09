/- slices.DeleteFunc as msg calls it: options without the one of the code 52, in their own array. For options of which one has that code and no other one. -/
import Derived.Test.YtoldppbakapohaaGreatDoorTlB
import Derived.Test.YtoldppbakapohaaGreatDoorMathA
import Derived.Test.YtoldppbakapohaaGreatDoorMwB
import Derived.Test.YtoldppbakapohaaGreatDoorMwA
import Derived.Test.YtoldppbakapohaaGreatDoorCoA
import Derived.BigQuiet
import Derived.Handy
import Derived.OwnWalk
section
set_option maxRecDepth 8000
namespace Go.Proofs.YtoldppbakapohaaGreatDoor.Mw
open Go.RowKit Tl Ms By

end Go.Proofs.YtoldppbakapohaaGreatDoor.Mw
end
/- msg.writeNumbers: the bytes of the header's numbers. For messages whose numbers are right, where the program's table of widths holds what it says. -/
section
set_option maxRecDepth 8000
namespace Go.Proofs.YtoldppbakapohaaGreatDoor.Mw
open Go.RowKit Tl Ms Co By

def pairsM (x : M) : List (Int × Nat) := [(x.op, 1), (x.htype, 1), (x.hlen, 1), (x.hops, 1), (x.xid, 4), (x.secs, 2), (x.flags, 2), (x.ci, 4), (x.yi, 4), (x.si, 4), (x.gi, 4)]
def catN (l : List (Int × Nat)) : List UInt8 := l.flatMap fun p => numB p.1 p.2
theorem pairs_fit {x : M} (h : HeadOk x) : ∀ p ∈ pairsM x, 0 ≤ p.1 ∧ p.1.toNat < p256 p.2 ∧ 1 ≤ p.2 ∧ p.2 ≤ 4 := by
  have p1 : p256 1 = 256 := by decide
  have p2 : p256 2 = 65536 := by decide
  have p4 : p256 4 = 4294967296 := by decide
  obtain ⟨h1, h2, h3, h4, h5, h6, h7, h8, h9, h10, h11⟩ := h
  intro p hp
  simp only [pairsM, List.mem_cons, List.not_mem_nil, or_false] at hp
  rcases hp with rfl | rfl | rfl | rfl | rfl | rfl | rfl | rfl | rfl | rfl | rfl <;> simp only [p1, p2, p4] <;> omega
theorem pairs_width (x : M) {k : Nat} (hk : k < 11) : ((pairsM x)[k]'hk).2 = widL[k]'hk := by
  match k, hk with
  | 0, _ | 1, _ | 2, _ | 3, _ | 4, _ | 5, _ | 6, _ | 7, _ | 8, _ | 9, _ | 10, _ => rfl
theorem numB_one {v : Int} (h0 : 0 ≤ v) (h1 : v ≤ 255) : numB v 1 = [byteI v] := by
  unfold numB byteI
  have e : v.toNat % 256 = v.toNat := by omega
  simp [putL, byteV, e]
theorem cat_pairs {x : M} (h : HeadOk x) : catN (pairsM x) ++ x.ch = headL x := by
  obtain ⟨h1, h2, h3, h4, _⟩ := h
  unfold catN pairsM headL
  simp only [List.flatMap_cons, List.flatMap_nil, numB_one h1.1 h1.2, numB_one h2.1 h2.2, numB_one h3.1 (by omega), numB_one h4.1 h4.2]
  simp
theorem catN_next {l : List (Int × Nat)} {k : Nat} (h : k < l.length) : catN (l.take (k + 1)) = catN (l.take k) ++ numB (l[k]).1 (l[k]).2 := by
  unfold catN
  rw [List.take_succ_eq_append_getElem h, List.flatMap_append]
  simp only [List.flatMap_cons, List.flatMap_nil, List.append_nil]
theorem catN_len (x : M) (k : Nat) : (catN ((pairsM x).take k)).length ≤ 28 := by
  have e : ∀ l : List (Int × Nat), (catN l).length = (l.map (·.2)).sum := fun l => by
    unfold catN
    induction l with
    | nil => rfl
    | cons p l ih => simp only [List.flatMap_cons, List.length_append, numB_len, List.map_cons, List.sum_cons, ih]
  rw [e, List.map_take]
  show ((([1, 1, 1, 1, 4, 2, 2, 4, 4, 4, 4] : List Nat).take k)).sum ≤ 28
  match k with
  | 0 | 1 | 2 | 3 | 4 | 5 | 6 | 7 | 8 | 9 | 10 => decide
  | k + 11 => rw [List.take_of_length_le (by simp)]; decide
theorem index_0 (x : Mv) (W : World) : (Instr.index 256 (.agg #[.int .i64 x.op, .int .i64 x.htype, .int .i64 x.hlen, .int .i64 x.hops, .int .i64 x.xid, .int .i64 x.secs, .int .i64 x.flags, .int .i64 x.ci, .int .i64 x.yi, .int .i64 x.si, .int .i64 x.gi]) (.int .i64 0)).run Tryz.prog W = .ok (.int .i64 x.op) W := by kernel_rfl
theorem index_1 (x : Mv) (W : World) : (Instr.index 256 (.agg #[.int .i64 x.op, .int .i64 x.htype, .int .i64 x.hlen, .int .i64 x.hops, .int .i64 x.xid, .int .i64 x.secs, .int .i64 x.flags, .int .i64 x.ci, .int .i64 x.yi, .int .i64 x.si, .int .i64 x.gi]) (.int .i64 1)).run Tryz.prog W = .ok (.int .i64 x.htype) W := by kernel_rfl
theorem index_2 (x : Mv) (W : World) : (Instr.index 256 (.agg #[.int .i64 x.op, .int .i64 x.htype, .int .i64 x.hlen, .int .i64 x.hops, .int .i64 x.xid, .int .i64 x.secs, .int .i64 x.flags, .int .i64 x.ci, .int .i64 x.yi, .int .i64 x.si, .int .i64 x.gi]) (.int .i64 2)).run Tryz.prog W = .ok (.int .i64 x.hlen) W := by kernel_rfl
theorem index_3 (x : Mv) (W : World) : (Instr.index 256 (.agg #[.int .i64 x.op, .int .i64 x.htype, .int .i64 x.hlen, .int .i64 x.hops, .int .i64 x.xid, .int .i64 x.secs, .int .i64 x.flags, .int .i64 x.ci, .int .i64 x.yi, .int .i64 x.si, .int .i64 x.gi]) (.int .i64 3)).run Tryz.prog W = .ok (.int .i64 x.hops) W := by kernel_rfl
theorem index_4 (x : Mv) (W : World) : (Instr.index 256 (.agg #[.int .i64 x.op, .int .i64 x.htype, .int .i64 x.hlen, .int .i64 x.hops, .int .i64 x.xid, .int .i64 x.secs, .int .i64 x.flags, .int .i64 x.ci, .int .i64 x.yi, .int .i64 x.si, .int .i64 x.gi]) (.int .i64 4)).run Tryz.prog W = .ok (.int .i64 x.xid) W := by kernel_rfl
theorem index_5 (x : Mv) (W : World) : (Instr.index 256 (.agg #[.int .i64 x.op, .int .i64 x.htype, .int .i64 x.hlen, .int .i64 x.hops, .int .i64 x.xid, .int .i64 x.secs, .int .i64 x.flags, .int .i64 x.ci, .int .i64 x.yi, .int .i64 x.si, .int .i64 x.gi]) (.int .i64 5)).run Tryz.prog W = .ok (.int .i64 x.secs) W := by kernel_rfl
theorem index_6 (x : Mv) (W : World) : (Instr.index 256 (.agg #[.int .i64 x.op, .int .i64 x.htype, .int .i64 x.hlen, .int .i64 x.hops, .int .i64 x.xid, .int .i64 x.secs, .int .i64 x.flags, .int .i64 x.ci, .int .i64 x.yi, .int .i64 x.si, .int .i64 x.gi]) (.int .i64 6)).run Tryz.prog W = .ok (.int .i64 x.flags) W := by kernel_rfl
theorem index_7 (x : Mv) (W : World) : (Instr.index 256 (.agg #[.int .i64 x.op, .int .i64 x.htype, .int .i64 x.hlen, .int .i64 x.hops, .int .i64 x.xid, .int .i64 x.secs, .int .i64 x.flags, .int .i64 x.ci, .int .i64 x.yi, .int .i64 x.si, .int .i64 x.gi]) (.int .i64 7)).run Tryz.prog W = .ok (.int .i64 x.ci) W := by kernel_rfl
theorem index_8 (x : Mv) (W : World) : (Instr.index 256 (.agg #[.int .i64 x.op, .int .i64 x.htype, .int .i64 x.hlen, .int .i64 x.hops, .int .i64 x.xid, .int .i64 x.secs, .int .i64 x.flags, .int .i64 x.ci, .int .i64 x.yi, .int .i64 x.si, .int .i64 x.gi]) (.int .i64 8)).run Tryz.prog W = .ok (.int .i64 x.yi) W := by kernel_rfl
theorem index_9 (x : Mv) (W : World) : (Instr.index 256 (.agg #[.int .i64 x.op, .int .i64 x.htype, .int .i64 x.hlen, .int .i64 x.hops, .int .i64 x.xid, .int .i64 x.secs, .int .i64 x.flags, .int .i64 x.ci, .int .i64 x.yi, .int .i64 x.si, .int .i64 x.gi]) (.int .i64 9)).run Tryz.prog W = .ok (.int .i64 x.si) W := by kernel_rfl
theorem index_10 (x : Mv) (W : World) : (Instr.index 256 (.agg #[.int .i64 x.op, .int .i64 x.htype, .int .i64 x.hlen, .int .i64 x.hops, .int .i64 x.xid, .int .i64 x.secs, .int .i64 x.flags, .int .i64 x.ci, .int .i64 x.yi, .int .i64 x.si, .int .i64 x.gi]) (.int .i64 10)).run Tryz.prog W = .ok (.int .i64 x.gi) W := by kernel_rfl
theorem index_at (x : Mv) {k : Nat} (hk : k < 11) (W : World) : (Instr.index 256 (.agg #[.int .i64 x.op, .int .i64 x.htype, .int .i64 x.hlen, .int .i64 x.hops, .int .i64 x.xid, .int .i64 x.secs, .int .i64 x.flags, .int .i64 x.ci, .int .i64 x.yi, .int .i64 x.si, .int .i64 x.gi]) (.int .i64 (k : Int))).run Tryz.prog W
    = .ok (.int .i64 ((pairsM x.mm)[k]'hk).1) W := by
  have h : k = 0 ∨ k = 1 ∨ k = 2 ∨ k = 3 ∨ k = 4 ∨ k = 5 ∨ k = 6 ∨ k = 7 ∨ k = 8 ∨ k = 9 ∨ k = 10 := by omega
  rcases h with rfl | rfl | rfl | rfl | rfl | rfl | rfl | rfl | rfl | rfl | rfl
  · exact index_0 x W
  · exact index_1 x W
  · exact index_2 x W
  · exact index_3 x W
  · exact index_4 x W
  · exact index_5 x W
  · exact index_6 x W
  · exact index_7 x W
  · exact index_8 x W
  · exact index_9 x W
  · exact index_10 x W
/-- What writeNumbers' loop holds. -/
def StN (x : M) (w : World) (v i : Value) (wr : World) : Prop :=
  ∃ (k : Nat) (A : Option Addr) (n c : Nat), k ≤ 11 ∧ i = .int .i64 (k : Nat) ∧ v = .slice A n c ∧ Own 5 w.heap.size wr A n c (catN ((pairsM x).take k)) ∧ Below w.heap.size w wr

set_option maxHeartbeats 2000000 in
theorem writeNumbers_any (E : En) (x : Mv) (w : World) (hE : E.ok w) (hh : HeadOk x.mm) : Calls Tryz.prog 241 #[x.v] w (RB 5 w 28 (catN (pairsM x.mm)) fun y => y) := by
  have hb0 : Below w.heap.size w (w.alloc (.cells x.cells 29)) := (Below.refl _ _).alloc (Nat.le_refl _) _
  have HE := Lib.hid hE
  have HF := Lib.hid (pairs_fit hh)
  clear hE hh
  go_enter Tryz.func241, Tryz.ntmps241
  go_wp2
  have hb1 := hb0.alloc hb0.size (.cells #[.int .i64 x.op, .int .i64 x.htype, .int .i64 x.hlen, .int .i64 x.hops, .int .i64 x.xid, .int .i64 x.secs, .int .i64 x.flags, .int .i64 x.ci, .int .i64 x.yi, .int .i64 x.si, .int .i64 x.gi] 256)
  generalize ((w.alloc (.cells x.cells 29)).alloc (.cells #[.int .i64 x.op, .int .i64 x.htype, .int .i64 x.hlen, .int .i64 x.hops, .int .i64 x.xid, .int .i64 x.secs, .int .i64 x.flags, .int .i64 x.ci, .int .i64 x.yi, .int .i64 x.si, .int .i64 x.gi] 256)) = w0 at *
  go_loopw [4, 33] (fun v i wr => StN x.mm w0 v i wr) (fun _ i _ => 11 - (intOf i).toNat)
  case atStart => exact ⟨0, none, 0, 0, by omega, rfl, rfl, Own.nil _ _ _, Below.refl _ _⟩
  case round =>
    obtain ⟨k, A, n, c, hk, rfl, rfl, hown, hb⟩ := hrel
    by_cases hlt : k < 11
    · have hE1 := (HE.out.below hb1).below hb
      have hcell := hE1.gW k hlt
      have hix := fun W => index_at x hlt W
      have hfit := HF.out _ (List.getElem_mem (show k < (pairsM x.mm).length from hlt))
      have hn : n ≤ 28 := by rw [← hown.bs.len]; exact catN_len _ _
      rw [← pairs_width x.mm hlt] at hcell
      have HX := Lib.hid (catN_next (l := pairsM x.mm) (k := k) hlt)
      generalize (pairsM x.mm)[k] = p at hcell hix hfit HX
      obtain ⟨v, m⟩ := p
      obtain ⟨f0, f1, f2, f3⟩ := hfit
      simp only at f0 f1 f2 f3 hcell hix
      obtain ⟨u, rfl⟩ : ∃ u : Nat, v = (u : Int) := ⟨v.toNat, by omega⟩
      have F1 := Lib.hid f1
      clear f1 hE1
      go_wp2_with fail
      refine (Cw.put_ok u m _ f2 (by omega) (by simpa using F1.out)).mono ?_
      rintro e w2 ⟨A2, c2, rfl, hown2, hb2⟩
      have hb12 := hb.trans (hb2.mono hb.size)
      go_wp2_with (at_builtin; refine wpList_app byP rfl (.tmp 45) (.tmp 46) rfl rfl (hown.below hb2) rfl hown2.bs (by omega) hb12.size ?_; intro A3 c3 w3 hown3 hb3 _ _)
      go_roundw
      case rel => exact ⟨k + 1, A3, n + m, c3, by omega, by go_num, rfl, by rw [HX.out]; exact hown3, hb12.trans hb3⟩
      case measure => simp [intOf]; omega
    · obtain rfl : k = 11 := by omega
      have hn : n = 28 := hown.bs.len.symm
      subst hn
      go_wp2
      go_ret
      exact ⟨A, c, rfl, hown.mono hb1.size, hb1.trans (hb.mono hb1.size)⟩
end Go.Proofs.YtoldppbakapohaaGreatDoor.Mw
end
/- msg.checkFixed, readNumbers, slices.DeleteFunc as msg calls it, takeOverload, joinField, readOptions, decode, Read. Condition: what msg's package-level variables hold (En.ok). -/
section
set_option maxRecDepth 8000
namespace Go.Proofs.YtoldppbakapohaaGreatDoor.Mw
open Go.RowKit Tl Ms Co By

/-! ### readNumbers -/

end Go.Proofs.YtoldppbakapohaaGreatDoor.Mw
end
/- msg.takeOverload, joinField, readOptions: the options of a message's bytes, or the error. Condition: what msg's package-level variables hold (En.ok). -/
section
set_option maxRecDepth 8000
namespace Go.Proofs.YtoldppbakapohaaGreatDoor.Mw
open Go.RowKit Tl Ms Co By

end Go.Proofs.YtoldppbakapohaaGreatDoor.Mw
end
/- msg.joinField, readOptions, decode and Read: what bytes are read as, or the error. Condition: what msg's package-level variables hold (En.ok). -/
section
set_option maxRecDepth 8000
namespace Go.Proofs.YtoldppbakapohaaGreatDoor.Mw
open Go.RowKit Tl Ms Co By

end Go.Proofs.YtoldppbakapohaaGreatDoor.Mw
end
