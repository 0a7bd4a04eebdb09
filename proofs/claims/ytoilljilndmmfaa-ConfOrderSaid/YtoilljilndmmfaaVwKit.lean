/- Words for configurations in memory: pools, reservations, subnets, networks, configurations by value, as they read below a mark. No program; no conditions but those that each theorem names. -/
import Derived.Test.YtoilljilndmmfaaCfMath
import Derived.Test.YtoilljilndmmfaaBaKit
import Derived.Test.YtoilljilndmmfaaRgKit
import Derived.Test.YtoilljilndmmfaaByU
set_option maxRecDepth 8000
namespace Go.Proofs.Ytoilljilndmmfaa.Vw
open Go.RowKit By Cf
open Dw (ba)

/-! ### Pools and reservations -/
def layP : Lay Pl := ⟨2, fun p => [.int .i64 p.first, .int .i64 p.last], fun _ => rfl, fun e u hu => by
  simp only [List.mem_cons, List.not_mem_nil, or_false] at hu
  rcases hu with rfl | rfl <;> rfl⟩
def layR : Lay Rs := ⟨2, fun r => [.string (ba r.key), .int .i64 r.addr], fun _ => rfl, fun e u hu => by
  simp only [List.mem_cons, List.not_mem_nil, or_false] at hu
  rcases hu with rfl | rfl <;> rfl⟩
abbrev RdPl (U : Nat) (w : World) (A : Option Addr) (n c : Nat) (l : List Pl) : Prop := RdG layP U w A n c l
abbrev RdRs (U : Nat) (w : World) (A : Option Addr) (n c : Nat) (l : List Rs) : Prop := RdG layR U w A n c l
section
variable {U : Nat} {w w' : World} {A : Option Addr} {n c : Nat}
theorem atP {l : List Pl} (h : RdPl U w A n c l) {k : Nat} (hk : k < n) : ∃ b o p, A = some ⟨b, o, none⟩ ∧ b < U ∧ Hid (l[k]? = some p) ∧ w.cell? ⟨b, o + k * 2, none⟩ = some (.int .i64 p.first) ∧ w.cell? ⟨b, o + k * 2 + 1, none⟩ = some (.int .i64 p.last) := by
  obtain ⟨b, o, e, hU, p, hl, hc⟩ := h.at_ hk
  exact ⟨b, o, p, e, hU, hl, hc 0 _ rfl, hc 1 _ rfl⟩
theorem atR {l : List Rs} (h : RdRs U w A n c l) {k : Nat} (hk : k < n) : ∃ b o r, A = some ⟨b, o, none⟩ ∧ b < U ∧ Hid (l[k]? = some r) ∧ w.cell? ⟨b, o + k * 2, none⟩ = some (.string (ba r.key)) ∧ w.cell? ⟨b, o + k * 2 + 1, none⟩ = some (.int .i64 r.addr) := by
  obtain ⟨b, o, e, hU, r, hl, hc⟩ := h.at_ hk
  exact ⟨b, o, r, e, hU, hl, hc 0 _ rfl, hc 1 _ rfl⟩
end

/-! ### Subnets -/
/-- A subnet as it lies in memory. -/
structure Sx where
  base : Int
  bits : Int
  pA : Option Addr
  pc : Nat
  pools : List Pl
  rA : Option Addr
  rc : Nat
  res : List Rs
  iface : Int
  router : Int
  time : Int
def Sx.s (x : Sx) : Sn := ⟨x.base, x.bits, x.pools, x.res, x.iface, x.router, x.time⟩
@[reducible] def Sx.cs (x : Sx) (pn rn : Nat) : Array Value := #[.int .i64 x.base, .int .i64 x.bits, .slice x.pA pn x.pc, .slice x.rA rn x.rc, .int .i64 x.iface, .int .i64 x.router, .int .i64 x.time]
@[reducible] def Sx.v (x : Sx) (pn rn : Nat) : Value := .agg #[.int .i64 x.base, .int .i64 x.bits, .slice x.pA pn x.pc, .slice x.rA rn x.rc, .int .i64 x.iface, .int .i64 x.router, .int .i64 x.time]
def layS : Lay Sx := ⟨7, fun x => [.int .i64 x.base, .int .i64 x.bits, .slice x.pA x.pools.length x.pc, .slice x.rA x.res.length x.rc, .int .i64 x.iface, .int .i64 x.router, .int .i64 x.time], fun _ => rfl, fun e u hu => by
  simp only [List.mem_cons, List.not_mem_nil, or_false] at hu
  rcases hu with rfl | rfl | rfl | rfl | rfl | rfl | rfl <;> rfl⟩
/-- A key that is reserved for fits. -/
def Fr (r : Rs) : Prop := r.key.length ≤ 9223372036854775807
/-- A subnet's pools and reservations read. -/
structure Sx.ok (U : Nat) (w : World) (x : Sx) (pn rn : Nat) : Prop where
  p : RdPl U w x.pA pn x.pc x.pools
  r : RdRs U w x.rA rn x.rc x.res
  k : ∀ r ∈ x.res, Fr r
/-- A slice of subnets that reads. -/
def RdSx (U : Nat) (w : World) (A : Option Addr) (n c : Nat) (xs : List Sx) : Prop := RdG layS U w A n c xs ∧ ∀ x ∈ xs, x.ok U w x.pools.length x.res.length
def snsOf (xs : List Sx) : List Sn := xs.map Sx.s
section
variable {U V : Nat} {w w' : World} {A : Option Addr} {n c pn rn : Nat} {xs : List Sx} {x : Sx}
theorem Sx.ok.below (h : x.ok U w pn rn) (hb : Below U w w') : x.ok U w' pn rn := ⟨h.p.below hb, h.r.below hb, h.k⟩
theorem Sx.ok.mono (h : x.ok U w pn rn) (hV : U ≤ V) : x.ok V w pn rn := ⟨h.p.mono hV, h.r.mono hV, h.k⟩
theorem RdSx.below (h : RdSx U w A n c xs) (hb : Below U w w') : RdSx U w' A n c xs := ⟨h.1.below hb, fun x hx => (h.2 x hx).below hb⟩
theorem RdSx.mono (h : RdSx U w A n c xs) (hV : U ≤ V) : RdSx V w A n c xs := ⟨h.1.mono hV, fun x hx => (h.2 x hx).mono hV⟩
theorem Sx.ok.drew (h : x.ok U w pn rn) : x.ok U w.drew pn rn := ⟨h.p.drew, h.r.drew, h.k⟩
theorem RdSx.drew (h : RdSx U w A n c xs) : RdSx U w.drew A n c xs := ⟨h.1.drew, fun x hx => (h.2 x hx).drew⟩
theorem RdSx.len (h : RdSx U w A n c xs) : xs.length = n := h.1.len
theorem RdSx.cap (h : RdSx U w A n c xs) : n ≤ c := h.1.cap
theorem RdSx.max (h : RdSx U w A n c xs) : c ≤ 9223372036854775807 := h.1.max
theorem RdSx.nil (U : Nat) (w : World) : RdSx U w none 0 0 [] := ⟨RdG.nil U w, fun x hx => by cases hx⟩
theorem sns_len (xs : List Sx) : (snsOf xs).length = xs.length := List.length_map ..
theorem sns_get {k : Nat} (h : xs[k]? = some x) : (snsOf xs)[k]? = some x.s := by unfold snsOf; rw [List.getElem?_map, h]; rfl
/-- The seven cells of a subnet that lies in a row. -/
def Seven (w : World) (b o : Nat) (x : Sx) (pn rn : Nat) : Prop :=
  w.cell? ⟨b, o, none⟩ = some (.int .i64 x.base) ∧ w.cell? ⟨b, o + 1, none⟩ = some (.int .i64 x.bits) ∧ w.cell? ⟨b, o + 2, none⟩ = some (.slice x.pA pn x.pc) ∧ w.cell? ⟨b, o + 3, none⟩ = some (.slice x.rA rn x.rc) ∧
    w.cell? ⟨b, o + 4, none⟩ = some (.int .i64 x.iface) ∧ w.cell? ⟨b, o + 5, none⟩ = some (.int .i64 x.router) ∧ w.cell? ⟨b, o + 6, none⟩ = some (.int .i64 x.time)
/-- One subnet of a slice that reads: its cells, with the numbers of its pools and reservations as letters. -/
theorem atS (h : RdSx U w A n c xs) {k : Nat} (hk : k < n) : ∃ b o x pn rn, A = some ⟨b, o, none⟩ ∧ b < U ∧ Hid (xs[k]? = some x) ∧ x.ok U w pn rn ∧ Hid (x.pools.length = pn) ∧ Hid (x.res.length = rn) ∧ Seven w b (o + k * 7) x pn rn := by
  obtain ⟨b, o, e, hU, x, hl, hc⟩ := h.1.at_ hk
  refine ⟨b, o, x, x.pools.length, x.res.length, e, hU, hl, h.2 x (List.mem_of_getElem? hl.out), rfl, rfl, ?_⟩
  exact ⟨hc 0 _ rfl, hc 1 _ rfl, hc 2 _ rfl, hc 3 _ rfl, hc 4 _ rfl, hc 5 _ rfl, hc 6 _ rfl⟩
theorem Seven.below {b o : Nat} (h : Seven w b o x pn rn) (hb : Below U w w') (hU : b < U) : Seven w' b o x pn rn :=
  ⟨(hb.cell (p := ⟨b, o, none⟩) hU).trans h.1, (hb.cell (p := ⟨b, o + 1, none⟩) hU).trans h.2.1, (hb.cell (p := ⟨b, o + 2, none⟩) hU).trans h.2.2.1, (hb.cell (p := ⟨b, o + 3, none⟩) hU).trans h.2.2.2.1,
    (hb.cell (p := ⟨b, o + 4, none⟩) hU).trans h.2.2.2.2.1, (hb.cell (p := ⟨b, o + 5, none⟩) hU).trans h.2.2.2.2.2.1, (hb.cell (p := ⟨b, o + 6, none⟩) hU).trans h.2.2.2.2.2.2⟩
/-- The seven cells of a subnet that has a block of its own. -/
theorem cel7 {g : Nat} {t : TypeId} (h : Cel w g t (x.cs pn rn)) : w.cell? ⟨g, 0, none⟩ = some (.int .i64 x.base) ∧ w.cell? ⟨g, 1, none⟩ = some (.int .i64 x.bits) ∧ w.cell? ⟨g, 2, none⟩ = some (.slice x.pA pn x.pc) ∧ w.cell? ⟨g, 3, none⟩ = some (.slice x.rA rn x.rc) ∧
    w.cell? ⟨g, 4, none⟩ = some (.int .i64 x.iface) ∧ w.cell? ⟨g, 5, none⟩ = some (.int .i64 x.router) ∧ w.cell? ⟨g, 6, none⟩ = some (.int .i64 x.time) :=
  ⟨by rw [h.cell]; rfl, by rw [h.cell]; rfl, by rw [h.cell]; rfl, by rw [h.cell]; rfl, by rw [h.cell]; rfl, by rw [h.cell]; rfl, by rw [h.cell]; rfl⟩
end

/-! ### Networks -/
/-- A network as it lies in memory. -/
structure Nx where
  A : Option Addr
  c : Nat
  xs : List Sx
def Nx.l (x : Nx) : List Sn := snsOf x.xs
def layN : Lay Nx := ⟨1, fun x => [.slice x.A x.xs.length x.c], fun _ => rfl, fun e u hu => by
  simp only [List.mem_cons, List.not_mem_nil, or_false] at hu
  rcases hu with rfl; rfl⟩
/-- A slice of networks that reads. -/
def RdNx (U : Nat) (w : World) (A : Option Addr) (n c : Nat) (ns : List Nx) : Prop := RdG layN U w A n c ns ∧ ∀ x ∈ ns, RdSx U w x.A x.xs.length x.c x.xs
def netsOf (ns : List Nx) : List (List Sn) := ns.map Nx.l
section
variable {U V : Nat} {w w' : World} {A : Option Addr} {n c : Nat} {ns : List Nx} {x : Nx}
theorem RdNx.below (h : RdNx U w A n c ns) (hb : Below U w w') : RdNx U w' A n c ns := ⟨h.1.below hb, fun x hx => (h.2 x hx).below hb⟩
theorem RdNx.mono (h : RdNx U w A n c ns) (hV : U ≤ V) : RdNx V w A n c ns := ⟨h.1.mono hV, fun x hx => (h.2 x hx).mono hV⟩
theorem RdNx.drew (h : RdNx U w A n c ns) : RdNx U w.drew A n c ns := ⟨h.1.drew, fun x hx => (h.2 x hx).drew⟩
theorem RdNx.len (h : RdNx U w A n c ns) : ns.length = n := h.1.len
theorem RdNx.cap (h : RdNx U w A n c ns) : n ≤ c := h.1.cap
theorem RdNx.max (h : RdNx U w A n c ns) : c ≤ 9223372036854775807 := h.1.max
theorem RdNx.nil (U : Nat) (w : World) : RdNx U w none 0 0 [] := ⟨RdG.nil U w, fun x hx => by cases hx⟩
theorem nets_len (ns : List Nx) : (netsOf ns).length = ns.length := List.length_map ..
theorem nets_get {k : Nat} (h : ns[k]? = some x) : (netsOf ns)[k]? = some (snsOf x.xs) := by unfold netsOf; rw [List.getElem?_map, h]; rfl
/-- One network of a slice that reads: its cell, with the number of its subnets as a letter. -/
theorem atN (h : RdNx U w A n c ns) {k : Nat} (hk : k < n) : ∃ b o x m, A = some ⟨b, o, none⟩ ∧ b < U ∧ Hid (ns[k]? = some x) ∧ RdSx U w x.A m x.c x.xs ∧ w.cell? ⟨b, o + k, none⟩ = some (.slice x.A m x.c) := by
  obtain ⟨b, o, e, hU, x, hl, hc⟩ := h.1.at_ hk
  refine ⟨b, o, x, x.xs.length, e, hU, hl, h.2 x (List.mem_of_getElem? hl.out), ?_⟩
  have := hc 0 _ rfl
  rw [show o + k * layN.s + 0 = o + k from by show o + k * 1 + 0 = o + k; omega] at this
  exact this
end

/-! ### Configurations -/
/-- A configuration by value: its slice of networks, and the networks as they lie. -/
structure Cx where
  server : Int
  prob : Int
  A : Option Addr
  n : Nat
  c : Nat
  ns : List Nx
def Cx.cf (x : Cx) : Cf := ⟨x.server, x.prob, netsOf x.ns⟩
@[reducible] def Cx.v (x : Cx) : Value := .agg #[.int .i64 x.server, .int .i64 x.prob, .slice x.A x.n x.c]
@[reducible] def Cx.cs (x : Cx) : Array Value := #[.int .i64 x.server, .int .i64 x.prob, .slice x.A x.n x.c]
/-- The configuration reads, below U. -/
def Cx.ok (U : Nat) (w : World) (x : Cx) : Prop := RdNx U w x.A x.n x.c x.ns
section
variable {U V : Nat} {w w' : World} {x : Cx}
theorem Cx.ok.below (h : x.ok U w) (hb : Below U w w') : x.ok U w' := RdNx.below h hb
theorem Cx.ok.mono (h : x.ok U w) (hV : U ≤ V) : x.ok V w := RdNx.mono h hV
theorem Cx.ok.drew (h : x.ok U w) : x.ok U w.drew := RdNx.drew h
theorem Cx.ok.rd (h : x.ok U w) : RdNx U w x.A x.n x.c x.ns := h
theorem Cx.ok.len (h : x.ok U w) : x.ns.length = x.n := RdNx.len h
theorem Cx.ok.nets (h : x.ok U w) : x.cf.nets.length = x.n := (nets_len x.ns).trans (RdNx.len h)
/-- The three cells of a configuration that has a block of its own. -/
theorem cel3C {g : Nat} {t : TypeId} (h : Cel w g t x.cs) : w.cell? ⟨g, 0, none⟩ = some (.int .i64 x.server) ∧ w.cell? ⟨g, 1, none⟩ = some (.int .i64 x.prob) ∧ w.cell? ⟨g, 2, none⟩ = some (.slice x.A x.n x.c) :=
  ⟨by rw [h.cell]; rfl, by rw [h.cell]; rfl, by rw [h.cell]; rfl⟩
end

/-! ### Configurations out of blocks that are known whole -/
section
variable {U : Nat} {w : World}
theorem cel_row {α : Type} {Y : Lay α} {g : Nat} {t : TypeId} (l : List α) (h : Cel w g t (Y.cells l).toArray) (hU : g < U) {c : Nat} (hc : l.length ≤ c) (hm : c ≤ 1000000) : RdG Y U w (some ⟨g, 0, none⟩) l.length c l :=
  ⟨rfl, hc, by unfold maxLen; omega, fun _ => ⟨g, 0, rfl, hU, fun i hi => by rw [Nat.zero_add, h.cell, List.getElem?_toArray, List.getElem?_eq_getElem hi]⟩⟩
end
end Go.Proofs.Ytoilljilndmmfaa.Vw
