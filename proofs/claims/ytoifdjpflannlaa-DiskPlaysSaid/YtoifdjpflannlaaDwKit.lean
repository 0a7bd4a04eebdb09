/- Words for disks in memory: files, entries, disks by value, as they read below a mark. No conditions but those that each theorem names. -/
import Derived.Test.YtoifdjpflannlaaDkLasts
import Derived.Test.YtoifdjpflannlaaRgKit
import Derived.Test.YtoifdjpflannlaaByU
import Derived.Test.YtoifdjpflannlaaElKit
import Derived.Test.YtoifdjpflannlaaBase
import Derived.Sort.Walk0
import Derived.WalkSpells
import Derived.WalkLawsBesides
import Derived.IntWalk
set_option maxRecDepth 8000
namespace Go.Proofs.Ytoifdjpflannlaa.Dw
open Go.RowKit By Dk

/-! ### Strings -/
/-- A name as a string. -/
def ba (l : List UInt8) : ByteArray := ⟨l.toArray⟩
theorem ba_data (l : List UInt8) : (ba l).data.toList = l := rfl
theorem ba_list (l : List UInt8) : (ba l).toList = l := by rw [ByteArray.toList_eq]; rfl
theorem ba_size (l : List UInt8) : (ba l).size = l.length := rfl
theorem ba_of (s : ByteArray) : s = ba s.data.toList := rfl
theorem ba_inj {a b : List UInt8} (h : ba a = ba b) : a = b := by have := congrArg (fun s => s.data.toList) h; exact this

/-! ### Entries -/
def layE : Lay E := ⟨2, fun e => [.string (ba e.1), .int .i64 e.2], fun _ => rfl, fun e u hu => by
  rcases List.mem_cons.1 hu with rfl | hu
  · rfl
  · rcases List.mem_cons.1 hu with rfl | hu
    · rfl
    · cases hu⟩
abbrev RdE (U : Nat) (w : World) (A : Option Addr) (n c : Nat) (l : List E) : Prop := RdG layE U w A n c l
abbrev OwnE (e B : Nat) (w : World) (A : Option Addr) (n c : Nat) (l : List E) : Prop := OwnG layE e B w A n c l
section
variable {U : Nat} {w w' : World} {A : Option Addr} {n c : Nat} {l : List E}
/-- One entry of a slice that reads. -/
theorem atE (h : RdE U w A n c l) {k : Nat} (hk : k < n) : ∃ b o s f, A = some ⟨b, o, none⟩ ∧ b < U ∧ Hid (l[k]? = some (s, f)) ∧ w.cell? ⟨b, o + k * 2, none⟩ = some (.string (ba s)) ∧ w.cell? ⟨b, o + k * 2 + 1, none⟩ = some (.int .i64 f) := by
  obtain ⟨b, o, e, hU, ⟨s, f⟩, hl, hc⟩ := h.at_ hk
  exact ⟨b, o, s, f, e, hU, hl, hc 0 _ rfl, hc 1 _ rfl⟩
end
theorem nil_of {α : Type} {Y : Lay α} {U n c : Nat} {w : World} {l : List α} (h : RdG Y U w none n c l) : n = 0 ∧ l = [] := by
  have h0 : n = 0 := by
    rcases Nat.eq_zero_or_pos n with h0 | h0
    · exact h0
    · obtain ⟨_, _, e, _⟩ := h.2.2.2 h0
      cases e
  refine ⟨h0, List.length_eq_zero_iff.1 ?_⟩
  rw [h.len, h0]

/-! ### Files -/
/-- A file as it lies in memory. -/
structure Fv where
  A : Option Addr
  c : Nat
  l : List UInt8
  s : Int
def Fv.f (x : Fv) : F := ⟨x.l, x.s⟩
def layF : Lay Fv := ⟨2, fun x => [.slice x.A x.l.length x.c, .int .i64 x.s], fun _ => rfl, fun e u hu => by
  rcases List.mem_cons.1 hu with rfl | hu
  · rfl
  · rcases List.mem_cons.1 hu with rfl | hu
    · rfl
    · cases hu⟩
def fsOf (xs : List Fv) : List F := xs.map Fv.f
theorem fs_len (xs : List Fv) : (fsOf xs).length = xs.length := List.length_map ..
/-- The files' bytes read, below U. -/
def Byt (U : Nat) (w : World) (xs : List Fv) : Prop := ∀ x ∈ xs, BsU U w x.A x.l.length x.c x.l
def RdF (U : Nat) (w : World) (A : Option Addr) (n c : Nat) (xs : List Fv) : Prop := RdG layF U w A n c xs ∧ Byt U w xs
theorem bsu_mono {U V : Nat} {w : World} {A : Option Addr} {n c : Nat} {l : List UInt8} (h : BsU U w A n c l) (hV : U ≤ V) : BsU V w A n c l := ⟨h.1, fun hn a ha => Nat.lt_of_lt_of_le (h.2 hn a ha) hV⟩
section
variable {U V : Nat} {w w' : World} {A : Option Addr} {n c : Nat} {xs : List Fv}
theorem Byt.below (h : Byt U w xs) (hb : Below U w w') : Byt U w' xs := fun x hx => (h x hx).below hb
theorem Byt.mono (h : Byt U w xs) (hV : U ≤ V) : Byt V w xs := fun x hx => bsu_mono (h x hx) hV
theorem RdF.below (h : RdF U w A n c xs) (hb : Below U w w') : RdF U w' A n c xs := ⟨h.1.below hb, h.2.below hb⟩
theorem RdF.mono (h : RdF U w A n c xs) (hV : U ≤ V) : RdF V w A n c xs := ⟨h.1.mono hV, h.2.mono hV⟩
theorem RdF.drew (h : RdF U w A n c xs) : RdF U w.drew A n c xs := h
theorem RdF.len (h : RdF U w A n c xs) : xs.length = n := h.1.len
theorem RdF.cap (h : RdF U w A n c xs) : n ≤ c := h.1.cap
theorem RdF.max (h : RdF U w A n c xs) : c ≤ 9223372036854775807 := h.1.max
theorem RdF.nil (U : Nat) (w : World) : RdF U w none 0 0 [] := ⟨RdG.nil U w, fun x hx => by cases hx⟩
/-- One file of a slice that reads. -/
theorem atF (h : RdF U w A n c xs) {k : Nat} (hk : k < n) : ∃ b o x, A = some ⟨b, o, none⟩ ∧ b < U ∧ Hid (xs[k]? = some x) ∧ BsU U w x.A x.l.length x.c x.l ∧ w.cell? ⟨b, o + k * 2, none⟩ = some (.slice x.A x.l.length x.c) ∧ w.cell? ⟨b, o + k * 2 + 1, none⟩ = some (.int .i64 x.s) := by
  obtain ⟨b, o, e, hU, x, hl, hc⟩ := h.1.at_ hk
  exact ⟨b, o, x, e, hU, hl, h.2 x (List.mem_of_getElem? hl.out), hc 0 _ rfl, hc 1 _ rfl⟩
end
theorem fs_get {xs : List Fv} {k : Nat} {x : Fv} (h : xs[k]? = some x) : (fsOf xs)[k]? = some x.f := by unfold fsOf; rw [List.getElem?_map, h]; rfl

/-! ### Disks -/
/-- A disk by value: its three slices, and the files as they lie. -/
structure Dv where
  fA : Option Addr
  fn : Nat
  fc : Nat
  xs : List Fv
  nA : Option Addr
  nn : Nat
  nc : Nat
  now : List E
  kA : Option Addr
  kn : Nat
  kc : Nat
  kept : List E
def Dv.d (x : Dv) : D := ⟨fsOf x.xs, x.now, x.kept⟩
@[reducible] def Dv.v (x : Dv) : Value := .agg #[.slice x.fA x.fn x.fc, .slice x.nA x.nn x.nc, .slice x.kA x.kn x.kc]
def zeroV : Dv := ⟨none, 0, 0, [], none, 0, 0, [], none, 0, 0, []⟩
structure RdD (U : Nat) (w : World) (x : Dv) : Prop where
  f : RdF U w x.fA x.fn x.fc x.xs
  n : RdE U w x.nA x.nn x.nc x.now
  k : RdE U w x.kA x.kn x.kc x.kept
section
variable {U V : Nat} {w w' : World} {x : Dv}
theorem RdD.below (h : RdD U w x) (hb : Below U w w') : RdD U w' x := ⟨h.f.below hb, h.n.below hb, h.k.below hb⟩
theorem RdD.mono (h : RdD U w x) (hV : U ≤ V) : RdD V w x := ⟨h.f.mono hV, h.n.mono hV, h.k.mono hV⟩
theorem RdD.drew (h : RdD U w x) : RdD U w.drew x := ⟨h.f, h.n, h.k⟩
theorem RdD.zero (U : Nat) (w : World) : RdD U w zeroV := ⟨RdF.nil U w, RdG.nil U w, RdG.nil U w⟩
end
/-- A call that answers a disk. -/
def DR (w : World) (f : Value → Value) (d : D) (e : Ending) (w' : World) : Prop := ∃ x : Dv, e = .returned (f (.agg #[.slice x.fA x.fn x.fc, .slice x.nA x.nn x.nc, .slice x.kA x.kn x.kc])) ∧ x.d = d ∧ RdD w'.heap.size w' x ∧ Below w.heap.size w w'

/-! ### The program's types -/
theorem filP : RgP Try.prog 22 58 layF (.agg #[.slice none 0 0, .int .i64 0]) 32 := ⟨Try.underlying22, by kernel_rfl⟩
theorem entP : RgP Try.prog 23 68 layE (.agg #[.string ⟨#[]⟩, .int .i64 0]) 24 := ⟨Try.underlying23, by kernel_rfl⟩
theorem rfilP : RgP Try.prog 29 66 layF (.agg #[.slice none 0 0, .int .i64 0]) 32 := ⟨Try.underlying29, by kernel_rfl⟩
theorem rentP : RgP Try.prog 30 69 layE (.agg #[.string ⟨#[]⟩, .int .i64 0]) 24 := ⟨Try.underlying30, by kernel_rfl⟩
end Go.Proofs.Ytoifdjpflannlaa.Dw
