/- Words for byte slices that lie below a mark (so that what a call makes beyond it leaves them alone), and for a block that is known whole. No conditions but those that each theorem names. -/
import Derived.Test.YtoobijefjljnjaaOpKit
namespace Go.Proofs.Ytoobijefjljnjaa.By
open Go.RowKit Tl

/-- The slice '.slice A n c' reads as the bytes l, and its block is below U. -/
def BsU (U : Nat) (w : World) (A : Option Addr) (n c : Nat) (l : List UInt8) : Prop := Bs w A n c l ∧ (0 < n → ∀ a, A = some a → a.block < U)
section
variable {U : Nat} {w w' : World} {A : Option Addr} {n c : Nat} {l : List UInt8}
theorem BsU.bs (h : BsU U w A n c l) : Bs w A n c l := h.1
theorem BsU.len (h : BsU U w A n c l) : l.length = n := h.1.len
theorem BsU.below (h : BsU U w A n c l) (hb : Below U w w') : BsU U w' A n c l :=
  ⟨⟨h.1.1, h.1.2.1, h.1.2.2.1, fun hn => by
    obtain ⟨b, o, e, hc⟩ := h.1.2.2.2 hn
    have hlt : b < U := h.2 hn _ e
    exact ⟨b, o, e, fun i hi => (hb.cell (p := ⟨b, o + i, none⟩) hlt).trans (hc i hi)⟩⟩, h.2⟩
theorem Bs.upto (h : Bs w A n c l) : BsU w.heap.size w A n c l :=
  ⟨h, fun hn a ha => by
    obtain ⟨b, o, e, hc⟩ := h.2.2.2 hn
    rw [e] at ha
    cases ha
    have h0 : 0 < l.length := by have := h.len; omega
    have := World.block_lt_of_cell? w _ (hc 0 h0)
    exact this⟩
theorem BsU.nil (U : Nat) (w : World) : BsU U w none 0 0 [] := ⟨Bs.nil w, fun h => absurd h (by omega)⟩
theorem BsU.cut (h : BsU U w A n c l) {lo hi : Nat} (h1 : lo ≤ hi) (h2 : hi ≤ n) : BsU U w (if c = lo then A else A.map (·.add (lo * 1))) (hi - lo) (c - lo) ((l.drop lo).take (hi - lo)) := by
  refine ⟨h.1.cut h1 h2, fun hn a ha => ?_⟩
  obtain ⟨b, o, e, _⟩ := h.1.2.2.2 (by omega)
  have hb := h.2 (by omega) _ e
  subst e
  by_cases hc : c = lo
  · rw [if_pos hc] at ha; cases ha; exact hb
  · rw [if_neg hc] at ha
    simp [add_none] at ha
    subst ha
    exact hb
end
section
variable {P : Program} {T e S : TypeId} {U : Nat} {w : World} {A : Option Addr} {n c : Nat} {l : List UInt8}
/-- 's[lo:]' -/
theorem ByP.cutU_l (hp : ByP P T e S) (h : BsU U w A n c l) (lo : Nat) (L : Int) (hL : L = (lo : Int)) (h1 : lo ≤ n) :
    ∃ A', BsU U w A' (n - lo) (c - lo) (l.drop lo) ∧ ∀ W, (Instr.slice T (.slice A n c) (some (.int .i64 L)) none none).run P W = .ok (.slice A' (n - lo) (c - lo)) W := by
  subst hL
  refine ⟨if c = lo then A else A.map (·.add (lo * 1)), ?_, fun W => ?_⟩
  rotate_left
  · rw [run_slice_l W T A n c hp.under .i64 lo (by omega) (by have := h.1.cap; omega), hp.elem, hp.size]
    simp only [Result.andThen, sliced, Int.toNat_natCast]
  · have := h.cut h1 (Nat.le_refl n)
    rwa [List.take_of_length_le (by rw [List.length_drop, h.len]; exact Nat.le_refl _)] at this
/-- 's[:hi]' -/
theorem ByP.cutU_h (hp : ByP P T e S) (h : BsU U w A n c l) (hi : Nat) (H : Int) (hH : H = (hi : Int)) (h2 : hi ≤ n) :
    ∃ A', BsU U w A' hi c (l.take hi) ∧ ∀ W, (Instr.slice T (.slice A n c) none (some (.int .i64 H)) none).run P W = .ok (.slice A' hi c) W := by
  subst hH
  refine ⟨if c = 0 then A else A.map (·.add (0 * 1)), ?_, fun W => ?_⟩
  rotate_left
  · rw [run_slice_h W T A n c hp.under .i64 hi (by omega) (by have := h.1.cap; omega), hp.elem, hp.size]
    simp only [Result.andThen, sliced, Int.toNat_natCast, Nat.sub_zero]
  · have := h.cut (Nat.zero_le hi) h2
    simpa using this
/-- 's[lo:hi]' -/
theorem ByP.cutU_lh (hp : ByP P T e S) (h : BsU U w A n c l) (lo hi : Nat) (L H : Int) (hL : L = (lo : Int)) (hH : H = (hi : Int)) (h1 : lo ≤ hi) (h2 : hi ≤ n) :
    ∃ A', BsU U w A' (hi - lo) (c - lo) ((l.drop lo).take (hi - lo)) ∧
      ∀ W, (Instr.slice T (.slice A n c) (some (.int .i64 L)) (some (.int .i64 H)) none).run P W = .ok (.slice A' (hi - lo) (c - lo)) W := by
  subst hL; subst hH
  refine ⟨_, h.cut h1 h2, fun W => ?_⟩
  rw [run_slice_lh W T A n c hp.under .i64 .i64 lo hi (by omega) (by omega) (by have := h.1.cap; omega), hp.elem, hp.size]
  simp [Result.andThen, sliced]
end
/-- The option k of a slice that was read at an earlier world; nothing below that world's end has turned. -/
theorem RdO.atU {w w' : World} {A : Option Addr} {n c : Nat} {ps : List Po} (h : RdO w A n c ps) (hb : Below w.heap.size w w') {k : Nat} (hk : k < n) :
    ∃ b o code A' m c' l, A = some ⟨b, o, none⟩ ∧ w'.cell? ⟨b, o + k * 2, none⟩ = some (.int .i64 code) ∧ w'.cell? ⟨b, o + k * 2 + 1, none⟩ = some (.slice A' m c') ∧
    BsU w.heap.size w' A' m c' l ∧ Hid (ps[k]? = some ⟨code, A', c', l⟩) ∧ Hid (∃ h : k < (osP ps).length, (osP ps)[k] = (code, l)) ∧ Hid (l.length = m) ∧ m ≤ c' ∧ c' ≤ 9223372036854775807 ∧ b < w.heap.size := by
  obtain ⟨b, o, code, A', m, c', l, e, h1, h2, h3, h4, h5, h6, h7, h8⟩ := h.at_ hk
  have hlt : b < w.heap.size := World.block_lt_of_cell? w _ h1
  exact ⟨b, o, code, A', m, c', l, e, (hb.cell (p := ⟨b, o + k * 2, none⟩) hlt).trans h1, (hb.cell (p := ⟨b, o + k * 2 + 1, none⟩) hlt).trans h2, h3.upto.below hb, h4, h5, h6, h7, h8, hlt⟩

/-! ### A block that is known whole -/
def Cel (w : World) (g : Nat) (t : TypeId) (cs : Array Value) : Prop := w.heap[g]? = some (.cells cs t (0, 0))
section
variable {w w' : World} {g : Nat} {t : TypeId} {cs : Array Value}
theorem Cel.born (w : World) (t : TypeId) (cs : Array Value) : Cel (w.alloc (.cells cs t)) w.heap.size t cs := heap_alloc_new w _
theorem Cel.lt (h : Cel w g t cs) : g < w.heap.size := by
  rcases Nat.lt_or_ge g w.heap.size with k | k
  · exact k
  · unfold Cel at h; rw [Array.getElem?_eq_none k] at h; cases h
theorem Cel.cell (h : Cel w g t cs) (i : Nat) : w.cell? ⟨g, i, none⟩ = cs[i]? := by
  unfold Cel at h
  simp [World.cell?, h]
theorem Cel.grown {row : Option Nat} (h : Cel w g t cs) (hg : w.grownBy w' row) (hne : some g ≠ row) : Cel w' g t cs := (hg.block g h.lt hne).trans h
theorem Cel.below {B : Nat} (h : Cel w g t cs) (hb : Below B w w') (hB : g < B) : Cel w' g t cs := (hb.block g hB).trans h
theorem Cel.not_row {e B s n : Nat} {v : Value} {xs : List Value} (h : Cel w g t cs) (ho : w.ownsRow B e s v n xs) (hne : t ≠ e) : some g ≠ v.ownBlock := by
  intro k
  rcases ho.2 with ⟨rfl, _⟩ | ⟨g', cap, cur, rfl, _, hg', _⟩
  · simp [Value.ownBlock] at k
  · simp [Value.ownBlock] at k
    subst k
    unfold Cel at h
    rw [h] at hg'
    injection hg' with hg'
    injection hg' with _ ht
    exact hne ht
end
theorem grownBy_trans {a b c : World} {r r' : Option Nat} (h : a.grownBy b r) (k : b.grownBy c r') (hr : r' = r ∨ ∃ x, r' = some x ∧ a.heap.size ≤ x) : a.grownBy c r :=
  ⟨k.os.trans h.os, k.tape.trans h.tape, k.output.trans h.output, Nat.le_trans h.size k.size, fun i hi hne => (k.block i (Nat.lt_of_lt_of_le hi h.size) (fun e => by
    rcases hr with hr | ⟨x, hr, hx⟩
    · exact hne (e.trans hr)
    · rw [hr] at e; injection e with e; omega)).trans (h.block i hi hne)⟩
theorem grownBy_of_below {a b : World} (h : Below a.heap.size a b) (r : Option Nat) : a.grownBy b r := ⟨h.os, h.tape, h.output, h.size, fun i hi _ => h.block i hi⟩
theorem Own.lit2 (e : Nat) (w : World) (x y : UInt8) : Own e w.heap.size (w.alloc (.cells #[.int .u8 (x.toNat : Int), .int .u8 (y.toNat : Int)] e)) (some ⟨w.heap.size, 0, none⟩) 2 2 [x, y] :=
  World.ownsRow_lit w #[.int .u8 (x.toNat : Int), .int .u8 (y.toNat : Int)] 2 (Nat.le_refl _) (by unfold maxLen; omega) rfl
end Go.Proofs.Ytoobijefjljnjaa.By
