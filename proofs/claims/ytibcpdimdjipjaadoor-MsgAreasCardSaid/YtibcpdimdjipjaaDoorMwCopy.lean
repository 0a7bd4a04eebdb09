/- copy into a byte row of the call's own, and what stands in a message's rooms behind it. -/
import Derived.Test.YtibcpdimdjipjaaDoorByKit
import Derived.Test.YtibcpdimdjipjaaDoorMsMath
import Derived.Laws.CopyOwn
namespace Go.Proofs.YtibcpdimdjipjaaDoor.By
open Go.RowKit
section
variable {P : Program} {T e S : TypeId} {w : World} {n c : Nat} {l : List UInt8}
/-- 's[lo:]' of a row that lies at the head of a block. -/
theorem ByP.cut_own (hp : ByP P T e S) (g n c lo : Nat) (L : Int) (hL : L = (lo : Int)) (h1 : lo ≤ n) (h2 : lo < c) (W : World) :
    (Instr.slice T (.slice (some ⟨g, 0, none⟩) n c) (some (.int .i64 L)) none none).run P W = .ok (.slice (some ⟨g, lo, none⟩) (n - lo) (c - lo)) W := by
  subst hL
  rw [run_slice_l W T (some ⟨g, 0, none⟩) n c hp.under .i64 lo (by omega) (by omega), hp.elem, hp.size]
  simp only [Result.andThen, sliced, Int.toNat_natCast]
  rw [if_neg (by omega)]
  simp [add_none]
theorem wpList_cp (hp : ByP P T e S) {ops : Array Oper} {rest : List Oper} {o : Oper} {a : Act} {Q : Exit → Act → World → Prop} (hgd : o.guard = none) (d s : Operand)
    (ho : o.op = .call { callee := .builtin .copy, args := #[d, s], argTypes := #[T, T] }) {B g : Nat} (hown : Own e B w (some ⟨g, 0, none⟩) n c l) (lo : Nat)
    {A2 : Option Addr} {m c2 : Nat} {l2 : List UInt8} (h2 : Bs w A2 m c2 l2) (hd : a.eval d = .slice (some ⟨g, lo, none⟩) (n - lo) (c - lo)) (hs : a.eval s = .slice A2 m c2) (hm : 0 < m) (hfit : lo + m ≤ n)
    (h : ∀ w', Own e B w' (some ⟨g, 0, none⟩) n c (l.take lo ++ (l2 ++ l.drop (lo + m))) → Below B w w' → w.grownBy w' (some g) → wpList P ops Q rest (a.put o.dst (goInt m)) w') : wpList P ops Q (o :: rest) a w := by
  have hl2 := h2.len
  have hl : l.length = n := hown.bs.len
  obtain ⟨i, hi, _, hsz, _⟩ := info_parts hp.hi
  obtain ⟨b, o', rfl, hc⟩ := h2.2.2.2 hm
  rcases hown.2 with ⟨h', _⟩ | ⟨g', cap, cur, h', hBg, hg, hnc, hcm, hcs, htake⟩
  · cases h'
  simp only [Value.slice.injEq, Option.some.injEq, Addr.mk.injEq, true_and, and_true] at h'
  obtain ⟨rfl, rfl⟩ := h'
  rw [Nat.mul_one] at hcs htake
  have hcur : cur.toList = cellsU l ++ cur.toList.drop n := by rw [← htake, List.take_append_drop]
  have hcl : (cellsU l).length = n := by rw [cellsU_length, hl]
  have hnew : cur.toList.take lo ++ (cellsU l2 ++ cur.toList.drop (lo + (cellsU l2).length)) = cellsU (l.take lo ++ (l2 ++ l.drop (lo + m))) ++ cur.toList.drop n := by
    rw [cellsU_length, hl2, cellsU_append, cellsU_append]
    have e1 : cur.toList.take lo = cellsU (l.take lo) := by
      rw [hcur, List.take_append_of_le_length (by omega)]
      simp [cellsU, List.map_take]
    have e2 : cur.toList.drop (lo + m) = cellsU (l.drop (lo + m)) ++ cur.toList.drop n := by
      have : cur.toList.drop (lo + m) = (cellsU l ++ cur.toList.drop n).drop (lo + m) := by rw [← hcur]
      rw [this, List.drop_append_of_le_length (by omega)]
      simp [cellsU, List.map_drop]
    rw [e1, e2]
    simp [List.append_assoc]
  have hlen : (cellsU (l.take lo ++ (l2 ++ l.drop (lo + m)))).length = n := by
    rw [cellsU_length]
    simp only [List.length_append, List.length_take, List.length_drop]
    omega
  refine wpList_copy_own hgd d s T T ho e hp.hT (by rw [hi]; simp [hsz]) g lo (n - lo) (c - lo) ⟨b, o', none⟩ m c2 hd hs cur e hg (cellsU l2) (by rw [cellsU_length, hl2]; show m = min m (n - lo); omega)
    (fun j v hv => by
      have hj : j < l2.length := by
        have := (List.getElem?_eq_some_iff.1 hv).1
        rwa [cellsU_length] at this
      rw [cellsU_get hj] at hv
      rw [add_none, hc j hj, hv])
    (by rw [cellsU_length, hl2, hcs]; omega) (cellsU_one l2) ?_
  rw [hnew, cellsU_length, hl2]
  have hgr : w.grownBy (w.setRow g (cellsU (l.take lo ++ (l2 ++ l.drop (lo + m))) ++ cur.toList.drop n).toArray) (some g) := ⟨rfl, rfl, rfl, by simp, fun k _ hne => setRow_other w g k _ (fun e => hne (by rw [e]))⟩
  refine h _ ⟨by rw [hlen, Nat.mul_one], .inr ⟨g, c, _, rfl, hBg, setRow_heap w g cur _ e _ hg, hnc, hcm, ?_, ?_⟩⟩ (below_setRow (Below.refl _ _) hBg _) hgr
  · rw [List.size_toArray, List.length_append, hlen, List.length_drop, Array.length_toList, hcs]
    omega
  · rw [Nat.mul_one, List.take_append_of_le_length (by omega), List.take_of_length_le (by omega)]
end
end Go.Proofs.YtibcpdimdjipjaaDoor.By
namespace Go.Proofs.YtibcpdimdjipjaaDoor.Ms
open Tl Co
/-- Bytes laid over noughts. -/
theorem laid_over {a x r : List UInt8} {i N : Nat} (ha : a.length = i) (hx : x.length ≤ N) : (a ++ (List.replicate N 0 ++ r)).take i ++ (x ++ (a ++ (List.replicate N 0 ++ r)).drop (i + x.length)) = a ++ ((x ++ List.replicate (N - x.length) 0) ++ r) := by
  rw [List.take_left' ha, ← List.drop_drop, List.drop_left' ha, List.drop_append_of_le_length (by rw [List.length_replicate]; omega), List.drop_replicate]
  simp [List.append_assoc]
/-- A message's bytes with two lists laid over its rooms. -/
theorem laid_rooms (m : M) (hc : m.ch.length = 16) (file name : List O) (hf : (writeL file).length ≤ 128) (hn : (writeL name).length ≤ 64) :
    ∃ p, (bytesM m).length = 240 + ((writeL m.os).length + p) ∧ ((((bytesM m).take 108 ++ (writeL file ++ (bytesM m).drop (108 + (writeL file).length))).take 44) ++ (writeL name ++ ((bytesM m).take 108 ++ (writeL file ++ (bytesM m).drop (108 + (writeL file).length))).drop (44 + (writeL name).length)))
      = headL m ++ ((writeL name ++ List.replicate (64 - (writeL name).length) 0) ++ ((writeL file ++ List.replicate (128 - (writeL file).length) 0) ++ (cookieL ++ (writeL m.os ++ List.replicate p 0)))) := by
  obtain ⟨p, hp⟩ := bytes_lay m
  have hh := head_len hc
  refine ⟨p, ?_, ?_⟩
  · rw [hp]
    simp only [List.length_append, List.length_replicate, hh]
    have : cookieL.length = 4 := rfl
    omega
  · have e1 : bytesM m = (headL m ++ List.replicate 64 0) ++ (List.replicate 128 0 ++ (cookieL ++ (writeL m.os ++ List.replicate p 0))) := by rw [hp, List.append_assoc]
    rw [e1, laid_over (by rw [List.length_append, List.length_replicate, hh]) hf, List.append_assoc, laid_over hh hn]
end Go.Proofs.YtibcpdimdjipjaaDoor.Ms
