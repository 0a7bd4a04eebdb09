/- What the document's Append comes to. For disks whose names fit. -/
import Derived.Test.YtogcmnpnhncjhaaGreatDwH
import Derived.Test.YtogcmnpnhncjhaaGreatDwG
import Derived.Test.YtogcmnpnhncjhaaGreatDwE
import Derived.Test.YtogcmnpnhncjhaaGreatDwD
import Derived.Deep.RegionHeld3
import Derived.Deep.RegionLaw
import Derived.Deep.CutRange
import Derived.BigQuiet
import Derived.Deep.QuietTactic
section
set_option maxRecDepth 8000
namespace Go.Proofs.YtogcmnpnhncjhaaGreat.Dw
open Go.RowKit By Dk

end Go.Proofs.YtogcmnpnhncjhaaGreat.Dw
end
/- What the document's Crash comes to. For disks whose names fit. -/
section
set_option maxRecDepth 8000
namespace Go.Proofs.YtogcmnpnhncjhaaGreat.Dw
open Go.RowKit By Dk

theorem crashFs_snoc (d : D) (keep : List Int) (e : E) : ∀ (l : List E) (i : Nat), crashFs d keep i (l ++ [e]) = crashFs d keep i l ++ [crashF (fileAt d e.2) keep[i + l.length]?]
  | [], i => rfl
  | a :: l, i => by
    show crashFs d keep i (a :: (l ++ [e])) = _
    rw [crashFs, crashFs, crashFs_snoc d keep e l (i + 1), List.length_cons, show i + 1 + l.length = i + (l.length + 1) by omega]
    rfl
theorem crashEs_snoc (e : E) : ∀ (l : List E) (i : Nat), crashEs i (l ++ [e]) = crashEs i l ++ [(e.1, ((i + l.length : Nat) : Int))]
  | [], i => rfl
  | a :: l, i => by
    show crashEs i (a :: (l ++ [e])) = _
    rw [crashEs, crashEs, crashEs_snoc e l (i + 1), List.length_cons, show i + 1 + l.length = i + (l.length + 1) by omega]
    rfl
theorem ownG_kept {α β : Type} {Y : Lay α} {Z : Lay β} {w w' : World} {e B n c e' B' n' c' : Nat} {A A' : Option Addr} {l : List α} {m : List β} (h : OwnG Y e B w A n c l) (h' : OwnG Z e' B' w A' n' c' m) (hne : e ≠ e') (hg : w.grownBy w' (Value.slice A' n' c').ownBlock) : OwnG Y e B w' A n c l :=
  ⟨World.ownsRow.kept h.1 hg (apart_any h.1 h'.1 hne), h.2⟩
theorem litF_n (e : Nat) (V : World) (A : Option Addr) (c n : Nat) (l : List UInt8) (s : Int) (hl : l.length = n) : RdG layF (V.heap.size + 1) (V.alloc (.cells #[.slice A n c, .int .i64 s] e)) (some ⟨V.heap.size, 0, none⟩) 1 1 [⟨A, c, l, s⟩] := by
  have := litF e V ⟨A, c, l, s⟩
  rw [show (⟨A, c, l, s⟩ : Fv).l.length = n from hl] at this
  exact this
def StCh (U g : Nat) (w4 : World) (d : D) (keep : List Int) (L : List E) (m : Nat) (i : Value) (wr : World) : Prop :=
  ∃ (k : Nat) (A1 : Option Addr) (c1 : Nat) (A2 : Option Addr) (c2 : Nat) (ys : List Fv), k ≤ m ∧ i = .int .i64 k ∧ Cel wr g 34 #[.slice A1 k c1, .slice A2 k c2, .slice none 0 0] ∧ OwnG layF 61 (g + 1) wr A1 k c1 ys ∧ fsOf ys = crashFs d keep 0 (L.take k) ∧ Byt U wr ys ∧ OwnG layE 64 (g + 1) wr A2 k c2 (crashEs 0 (L.take k)) ∧ Below g w4 wr

end Go.Proofs.YtogcmnpnhncjhaaGreat.Dw
end
/- What the document's Crash comes to. For disks whose names fit. -/
section
set_option maxRecDepth 8000
namespace Go.Proofs.YtogcmnpnhncjhaaGreat.Dw
open Go.RowKit By Dk

end Go.Proofs.YtogcmnpnhncjhaaGreat.Dw
end
