/- What code.Frame and the document's own Frame come to. For all bytes (the document's own: of 2000 at most). -/
import Derived.Test.YtikgigijngobeaaCoCat
import Derived.Test.YtikgigijngobeaaCoPut
namespace Go.Proofs.Ytikgigijngobeaa
open Go.RowKit Co By

theorem frame_no (A : Option Addr) (n c : Nat) (w : World) (hn : 2000 < n) (hm : n ≤ 9223372036854775807) :
    Calls Try.prog 19 #[.slice A n c] w fun e w' => e = .returned (.tuple #[.slice none 0 0, .int .i64 1]) ∧ w = w' := by
  go_enter Try.func19, Try.ntmps19
  go_wp2
  go_ret2
  exact ⟨rfl, rfl⟩

theorem parts3 {w : World} {A1 A2 A3 : Option Addr} {n1 n2 n3 c1 c2 c3 : Nat} {l1 l2 l3 : List UInt8} {t : Nat} (h1 : Bs w A1 n1 c1 l1) (h2 : Bs w A2 n2 c2 l2) (h3 : Bs w A3 n3 c3 l3) :
    PartsAt (w.alloc (.cells #[.slice A1 n1 c1, .slice A2 n2 c2, .slice A3 n3 c3] t)) w.heap.size 0 [⟨A1, c1, l1⟩, ⟨A2, c2, l2⟩, ⟨A3, c3, l3⟩] := by
  obtain rfl := h1.len
  obtain rfl := h2.len
  obtain rfl := h3.len
  intro i hi
  match i, hi with
  | 0, _ => exact ⟨World.cell?_alloc_mark w _ t (0, 0) 0, h1.alloc _⟩
  | 1, _ => exact ⟨World.cell?_alloc_mark w _ t (0, 0) 1, h2.alloc _⟩
  | 2, _ => exact ⟨World.cell?_alloc_mark w _ t (0, 0) 2, h3.alloc _⟩
set_option maxHeartbeats 1000000 in
theorem frame_ok (A : Option Addr) (n c : Nat) (l : List UInt8) (w : World) (h : Bs w A n c l) (hn : n ≤ 2000) :
    Calls Try.prog 19 #[.slice A n c] w (RB 5 w (n + 6) (frameL l) fun x => .tuple #[x, .int .i64 0]) := by
  have HL := Lib.hid h.len
  have hm := h.max
  have hcap := h.cap
  have hs := sumL_lt l
  go_enter Try.func19, Try.ntmps19
  go_wp2_with fail
  refine (put_ok n 2 _ (by omega) (by omega) (by show _ < 65536; omega)).mono ?_
  rintro e w1 ⟨A1, c1, rfl, hown1, hb1⟩
  go_wp2_with fail
  refine (sum_any _ _ _ _ _ (h.below hb1)).mono ?_
  rintro e w' ⟨rfl, rfl⟩
  go_wp2_with fail
  refine (put_ok (sumL l) 4 _ (by omega) (by omega) (by show _ < 4294967296; omega)).mono ?_
  rintro e w2 ⟨A2, c2, rfl, hown2, hb2⟩
  have hb12 : Below w.heap.size w w2 := hb1.trans (hb2.mono hb1.size)
  go_wp2_with fail
  have hP := parts3 (t := 22) ((hown1.below hb2).bs) hown2.bs (h.below hb12)
  have hlen : totL [⟨A1, c1, putL n 2⟩, ⟨A2, c2, putL (sumL l) 4⟩, ⟨A, c, l⟩] = n + 6 := by
    have := HL.out
    simp [totL, putL_length]
    omega
  have hcat : catL [⟨A1, c1, putL n 2⟩, ⟨A2, c2, putL (sumL l) 4⟩, ⟨A, c, l⟩] = frameL l := by
    have := HL.out
    simp [catL, frameL, this]
  refine (concat_any w2.heap.size 0 3 3 _ _ hP rfl (by omega) (by omega) (by rw [hlen]; omega)).mono ?_
  rw [hlen, hcat]
  rintro e w3 ⟨A3, c3, rfl, hown3, hb3⟩
  go_wp2
  go_ret2
  have hba : Below w.heap.size w (w2.alloc (Obj.cells #[Value.slice A1 2 c1, Value.slice A2 4 c2, Value.slice A n c] 22)) := hb12.alloc hb12.size _
  exact ⟨A3, c3, rfl, hown3.mono hba.size, hba.trans (hb3.mono hba.size)⟩

set_option maxHeartbeats 1000000 in
theorem refFrame_any (A : Option Addr) (n c : Nat) (l : List UInt8) (w : World) (h : Bs w A n c l) (hn : n ≤ 2000) :
    Calls Try.prog 20 #[.slice A n c] w (RB 5 w (n + 6) (frameL l) fun x => x) := by
  have HL := Lib.hid h.len
  have hm := h.max
  have hcap := h.cap
  have hs := sumL_lt l
  go_enter Try.func20, Try.ntmps20
  go_wp2_with fail
  have hba : Below w.heap.size w (w.alloc (Obj.cells #[] 5)) := (Below.refl _ _).alloc (Nat.le_refl _) _
  have hown0 := Own.lit0 5 w
  refine (refPut_any 2 n _ (by omega) (by omega)).mono ?_
  rintro e w1 ⟨A1, c1, rfl, hown1, hb1⟩
  have hb01 : Below w.heap.size w w1 := hba.trans (hb1.mono hba.size)
  have hown0' := hown0.below hb1
  go_wp2_with (first | fail | (at_builtin; refine wpList_app byP rfl (.tmp 4) (.tmp 7) rfl rfl hown0' rfl hown1.bs (by omega) hb01.size ?_; intro A2 c2 w2 hown2 hb2 _ _))
  simp only [Nat.zero_add, List.nil_append] at hown2
  have hb02 : Below w.heap.size w w2 := hb01.trans hb2
  refine (refSum_any _ _ _ _ _ (h.below hb02)).mono ?_
  rintro e w' ⟨rfl, rfl⟩
  go_wp2_with fail
  refine (refPut_any 4 (sumL l) _ (by omega) (by omega)).mono ?_
  rintro e w3 ⟨A3, c3, rfl, hown3, hb3⟩
  have hb03 : Below w.heap.size w w3 := hb02.trans (hb3.mono hb02.size)
  have hown2' := hown2.below hb3
  have hbs3 := hown3.bs
  have hN := hb03.size
  clear hown0 hown0' hown1 hown2 hown3 hb1 hb2 hb3 hb01 hb02 hba
  go_wp2_with (first
    | (at_builtin; refine wpList_app byP rfl (.tmp 9) (.tmp 13) rfl rfl hown2' rfl hbs3 (by omega) hN ?_; intro A4 c4 w4 hown4 hb4 _ _; simp only [Nat.reduceAdd] at hown4; have hb04 := hb03.trans hb4)
    | (at_builtin; refine wpList_app byP rfl (.tmp 15) (.tmp 16) rfl rfl hown4 rfl (h.below hb04) (by omega) hb04.size ?_; intro A5 c5 w5 hown5 hb5 _ _))
  go_ret
  refine ⟨A5, c5, by rw [Nat.add_comm]; rfl, ?_, hb04.trans hb5⟩
  have := HL.out
  rw [Nat.add_comm 6 n] at hown5
  simpa [frameL, this] using hown5
end Go.Proofs.Ytikgigijngobeaa
