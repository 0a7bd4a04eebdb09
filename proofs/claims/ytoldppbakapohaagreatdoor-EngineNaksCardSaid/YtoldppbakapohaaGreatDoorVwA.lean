/- Words for configurations in memory: pools, reservations, subnets, networks, configurations by value, as they read below a mark. No program; no conditions but those that each theorem names. -/
import Derived.Test.YtoldppbakapohaaGreatDoorMathA
import Derived.Test.YtoldppbakapohaaGreatDoorKitA
import Derived.BigQuiet
import Derived.Deep.QuietTactic
import Derived.Deep.Cut
section
set_option maxRecDepth 8000
namespace Go.Proofs.YtoldppbakapohaaGreatDoor.Vw
open Go.RowKit By Cf
open Dw (ba)

/-! ### Pools and reservations -/
def layP : Lay Pl := ⟨2, fun p => [.int .i64 p.first, .int .i64 p.last], fun _ => rfl, fun e u hu => by
  simp only [List.mem_cons, List.not_mem_nil, or_false] at hu
  rcases hu with rfl | rfl <;> rfl⟩
def layR : Lay Rs := ⟨2, fun r => [.string (ba r.key), .int .i64 r.addr], fun _ => rfl, fun e u hu => by
  simp only [List.mem_cons, List.not_mem_nil, or_false] at hu
  rcases hu with rfl | rfl <;> rfl⟩
abbrev RdPl (U : Nat) (w : World) (A : Option Addr) (n c : Nat) (l : List Pl) : Prop := RdG layP U w A n c l
abbrev RdRs (U : Nat) (w : World) (A : Option Addr) (n c : Nat) (l : List Rs) : Prop := RdG layR U w A n c l
section
variable {U : Nat} {w w' : World} {A : Option Addr} {n c : Nat}
theorem atP {l : List Pl} (h : RdPl U w A n c l) {k : Nat} (hk : k < n) : ∃ b o p, A = some ⟨b, o, none⟩ ∧ b < U ∧ Hid (l[k]? = some p) ∧ w.cell? ⟨b, o + k * 2, none⟩ = some (.int .i64 p.first) ∧ w.cell? ⟨b, o + k * 2 + 1, none⟩ = some (.int .i64 p.last) := by
  obtain ⟨b, o, e, hU, p, hl, hc⟩ := h.at_ hk
  exact ⟨b, o, p, e, hU, hl, hc 0 _ rfl, hc 1 _ rfl⟩
theorem atR {l : List Rs} (h : RdRs U w A n c l) {k : Nat} (hk : k < n) : ∃ b o r, A = some ⟨b, o, none⟩ ∧ b < U ∧ Hid (l[k]? = some r) ∧ w.cell? ⟨b, o + k * 2, none⟩ = some (.string (ba r.key)) ∧ w.cell? ⟨b, o + k * 2 + 1, none⟩ = some (.int .i64 r.addr) := by
  obtain ⟨b, o, e, hU, r, hl, hc⟩ := h.at_ hk
  exact ⟨b, o, r, e, hU, hl, hc 0 _ rfl, hc 1 _ rfl⟩
end

/-! ### Subnets -/
/-- A subnet as it lies in memory. -/
structure Sx where
  base : Int
  bits : Int
  pA : Option Addr
  pc : Nat
  pools : List Pl
  rA : Option Addr
  rc : Nat
  res : List Rs
  iface : Int
  router : Int
  time : Int
def Sx.s (x : Sx) : Sn := ⟨x.base, x.bits, x.pools, x.res, x.iface, x.router, x.time⟩
@[reducible] def Sx.cs (x : Sx) (pn rn : Nat) : Array Value := #[.int .i64 x.base, .int .i64 x.bits, .slice x.pA pn x.pc, .slice x.rA rn x.rc, .int .i64 x.iface, .int .i64 x.router, .int .i64 x.time]
@[reducible] def Sx.v (x : Sx) (pn rn : Nat) : Value := .agg #[.int .i64 x.base, .int .i64 x.bits, .slice x.pA pn x.pc, .slice x.rA rn x.rc, .int .i64 x.iface, .int .i64 x.router, .int .i64 x.time]
def layS : Lay Sx := ⟨7, fun x => [.int .i64 x.base, .int .i64 x.bits, .slice x.pA x.pools.length x.pc, .slice x.rA x.res.length x.rc, .int .i64 x.iface, .int .i64 x.router, .int .i64 x.time], fun _ => rfl, fun e u hu => by
  simp only [List.mem_cons, List.not_mem_nil, or_false] at hu
  rcases hu with rfl | rfl | rfl | rfl | rfl | rfl | rfl <;> rfl⟩
/-- A key that is reserved for fits. -/
def Fr (r : Rs) : Prop := r.key.length ≤ 9223372036854775807
/-- A subnet's pools and reservations read. -/
structure Sx.ok (U : Nat) (w : World) (x : Sx) (pn rn : Nat) : Prop where
  p : RdPl U w x.pA pn x.pc x.pools
  r : RdRs U w x.rA rn x.rc x.res
  k : ∀ r ∈ x.res, Fr r
/-- A slice of subnets that reads. -/
def RdSx (U : Nat) (w : World) (A : Option Addr) (n c : Nat) (xs : List Sx) : Prop := RdG layS U w A n c xs ∧ ∀ x ∈ xs, x.ok U w x.pools.length x.res.length
def snsOf (xs : List Sx) : List Sn := xs.map Sx.s
section
variable {U V : Nat} {w w' : World} {A : Option Addr} {n c pn rn : Nat} {xs : List Sx} {x : Sx}
theorem Sx.ok.below (h : x.ok U w pn rn) (hb : Below U w w') : x.ok U w' pn rn := ⟨h.p.below hb, h.r.below hb, h.k⟩
theorem Sx.ok.mono (h : x.ok U w pn rn) (hV : U ≤ V) : x.ok V w pn rn := ⟨h.p.mono hV, h.r.mono hV, h.k⟩
theorem RdSx.below (h : RdSx U w A n c xs) (hb : Below U w w') : RdSx U w' A n c xs := ⟨h.1.below hb, fun x hx => (h.2 x hx).below hb⟩
theorem RdSx.mono (h : RdSx U w A n c xs) (hV : U ≤ V) : RdSx V w A n c xs := ⟨h.1.mono hV, fun x hx => (h.2 x hx).mono hV⟩
theorem RdSx.len (h : RdSx U w A n c xs) : xs.length = n := h.1.len
theorem RdSx.cap (h : RdSx U w A n c xs) : n ≤ c := h.1.cap
theorem RdSx.max (h : RdSx U w A n c xs) : c ≤ 9223372036854775807 := h.1.max
theorem sns_len (xs : List Sx) : (snsOf xs).length = xs.length := List.length_map ..
theorem sns_get {k : Nat} (h : xs[k]? = some x) : (snsOf xs)[k]? = some x.s := by unfold snsOf; rw [List.getElem?_map, h]; rfl
/-- The seven cells of a subnet that lies in a row. -/
def Seven (w : World) (b o : Nat) (x : Sx) (pn rn : Nat) : Prop :=
  w.cell? ⟨b, o, none⟩ = some (.int .i64 x.base) ∧ w.cell? ⟨b, o + 1, none⟩ = some (.int .i64 x.bits) ∧ w.cell? ⟨b, o + 2, none⟩ = some (.slice x.pA pn x.pc) ∧ w.cell? ⟨b, o + 3, none⟩ = some (.slice x.rA rn x.rc) ∧
    w.cell? ⟨b, o + 4, none⟩ = some (.int .i64 x.iface) ∧ w.cell? ⟨b, o + 5, none⟩ = some (.int .i64 x.router) ∧ w.cell? ⟨b, o + 6, none⟩ = some (.int .i64 x.time)
/-- One subnet of a slice that reads: its cells, with the numbers of its pools and reservations as letters. -/
theorem atS (h : RdSx U w A n c xs) {k : Nat} (hk : k < n) : ∃ b o x pn rn, A = some ⟨b, o, none⟩ ∧ b < U ∧ Hid (xs[k]? = some x) ∧ x.ok U w pn rn ∧ Hid (x.pools.length = pn) ∧ Hid (x.res.length = rn) ∧ Seven w b (o + k * 7) x pn rn := by
  obtain ⟨b, o, e, hU, x, hl, hc⟩ := h.1.at_ hk
  refine ⟨b, o, x, x.pools.length, x.res.length, e, hU, hl, h.2 x (List.mem_of_getElem? hl.out), rfl, rfl, ?_⟩
  exact ⟨hc 0 _ rfl, hc 1 _ rfl, hc 2 _ rfl, hc 3 _ rfl, hc 4 _ rfl, hc 5 _ rfl, hc 6 _ rfl⟩
theorem Seven.below {b o : Nat} (h : Seven w b o x pn rn) (hb : Below U w w') (hU : b < U) : Seven w' b o x pn rn :=
  ⟨(hb.cell (p := ⟨b, o, none⟩) hU).trans h.1, (hb.cell (p := ⟨b, o + 1, none⟩) hU).trans h.2.1, (hb.cell (p := ⟨b, o + 2, none⟩) hU).trans h.2.2.1, (hb.cell (p := ⟨b, o + 3, none⟩) hU).trans h.2.2.2.1,
    (hb.cell (p := ⟨b, o + 4, none⟩) hU).trans h.2.2.2.2.1, (hb.cell (p := ⟨b, o + 5, none⟩) hU).trans h.2.2.2.2.2.1, (hb.cell (p := ⟨b, o + 6, none⟩) hU).trans h.2.2.2.2.2.2⟩
/-- The seven cells of a subnet that has a block of its own. -/
theorem cel7 {g : Nat} {t : TypeId} (h : Cel w g t (x.cs pn rn)) : w.cell? ⟨g, 0, none⟩ = some (.int .i64 x.base) ∧ w.cell? ⟨g, 1, none⟩ = some (.int .i64 x.bits) ∧ w.cell? ⟨g, 2, none⟩ = some (.slice x.pA pn x.pc) ∧ w.cell? ⟨g, 3, none⟩ = some (.slice x.rA rn x.rc) ∧
    w.cell? ⟨g, 4, none⟩ = some (.int .i64 x.iface) ∧ w.cell? ⟨g, 5, none⟩ = some (.int .i64 x.router) ∧ w.cell? ⟨g, 6, none⟩ = some (.int .i64 x.time) :=
  ⟨by rw [h.cell]; rfl, by rw [h.cell]; rfl, by rw [h.cell]; rfl, by rw [h.cell]; rfl, by rw [h.cell]; rfl, by rw [h.cell]; rfl, by rw [h.cell]; rfl⟩
end

/-! ### Networks -/
/-- A network as it lies in memory. -/
structure Nx where
  A : Option Addr
  c : Nat
  xs : List Sx
def Nx.l (x : Nx) : List Sn := snsOf x.xs
def layN : Lay Nx := ⟨1, fun x => [.slice x.A x.xs.length x.c], fun _ => rfl, fun e u hu => by
  simp only [List.mem_cons, List.not_mem_nil, or_false] at hu
  rcases hu with rfl; rfl⟩
/-- A slice of networks that reads. -/
def RdNx (U : Nat) (w : World) (A : Option Addr) (n c : Nat) (ns : List Nx) : Prop := RdG layN U w A n c ns ∧ ∀ x ∈ ns, RdSx U w x.A x.xs.length x.c x.xs
def netsOf (ns : List Nx) : List (List Sn) := ns.map Nx.l
section
variable {U V : Nat} {w w' : World} {A : Option Addr} {n c : Nat} {ns : List Nx} {x : Nx}
theorem RdNx.below (h : RdNx U w A n c ns) (hb : Below U w w') : RdNx U w' A n c ns := ⟨h.1.below hb, fun x hx => (h.2 x hx).below hb⟩
theorem RdNx.mono (h : RdNx U w A n c ns) (hV : U ≤ V) : RdNx V w A n c ns := ⟨h.1.mono hV, fun x hx => (h.2 x hx).mono hV⟩
theorem RdNx.len (h : RdNx U w A n c ns) : ns.length = n := h.1.len
theorem RdNx.cap (h : RdNx U w A n c ns) : n ≤ c := h.1.cap
theorem RdNx.max (h : RdNx U w A n c ns) : c ≤ 9223372036854775807 := h.1.max
theorem nets_len (ns : List Nx) : (netsOf ns).length = ns.length := List.length_map ..
theorem nets_get {k : Nat} (h : ns[k]? = some x) : (netsOf ns)[k]? = some (snsOf x.xs) := by unfold netsOf; rw [List.getElem?_map, h]; rfl
/-- One network of a slice that reads: its cell, with the number of its subnets as a letter. -/
theorem atN (h : RdNx U w A n c ns) {k : Nat} (hk : k < n) : ∃ b o x m, A = some ⟨b, o, none⟩ ∧ b < U ∧ Hid (ns[k]? = some x) ∧ RdSx U w x.A m x.c x.xs ∧ w.cell? ⟨b, o + k, none⟩ = some (.slice x.A m x.c) := by
  obtain ⟨b, o, e, hU, x, hl, hc⟩ := h.1.at_ hk
  refine ⟨b, o, x, x.xs.length, e, hU, hl, h.2 x (List.mem_of_getElem? hl.out), ?_⟩
  have := hc 0 _ rfl
  rw [show o + k * layN.s + 0 = o + k from by show o + k * 1 + 0 = o + k; omega] at this
  exact this
end

/-! ### Configurations -/
/-- A configuration by value: its slice of networks, and the networks as they lie. -/
structure Cx where
  server : Int
  prob : Int
  A : Option Addr
  n : Nat
  c : Nat
  ns : List Nx
def Cx.cf (x : Cx) : Cf := ⟨x.server, x.prob, netsOf x.ns⟩
@[reducible] def Cx.v (x : Cx) : Value := .agg #[.int .i64 x.server, .int .i64 x.prob, .slice x.A x.n x.c]
@[reducible] def Cx.cs (x : Cx) : Array Value := #[.int .i64 x.server, .int .i64 x.prob, .slice x.A x.n x.c]
/-- The configuration reads, below U. -/
def Cx.ok (U : Nat) (w : World) (x : Cx) : Prop := RdNx U w x.A x.n x.c x.ns
section
variable {U V : Nat} {w w' : World} {x : Cx}
theorem Cx.ok.below (h : x.ok U w) (hb : Below U w w') : x.ok U w' := RdNx.below h hb
theorem Cx.ok.mono (h : x.ok U w) (hV : U ≤ V) : x.ok V w := RdNx.mono h hV
theorem Cx.ok.rd (h : x.ok U w) : RdNx U w x.A x.n x.c x.ns := h
theorem Cx.ok.len (h : x.ok U w) : x.ns.length = x.n := RdNx.len h
theorem Cx.ok.nets (h : x.ok U w) : x.cf.nets.length = x.n := (nets_len x.ns).trans (RdNx.len h)
/-- The three cells of a configuration that has a block of its own. -/
theorem cel3C {g : Nat} {t : TypeId} (h : Cel w g t x.cs) : w.cell? ⟨g, 0, none⟩ = some (.int .i64 x.server) ∧ w.cell? ⟨g, 1, none⟩ = some (.int .i64 x.prob) ∧ w.cell? ⟨g, 2, none⟩ = some (.slice x.A x.n x.c) :=
  ⟨by rw [h.cell]; rfl, by rw [h.cell]; rfl, by rw [h.cell]; rfl⟩
end

/-! ### Configurations out of blocks that are known whole -/
section
variable {U : Nat} {w : World}
theorem cel_row {α : Type} {Y : Lay α} {g : Nat} {t : TypeId} (l : List α) (h : Cel w g t (Y.cells l).toArray) (hU : g < U) {c : Nat} (hc : l.length ≤ c) (hm : c ≤ 1000000) : RdG Y U w (some ⟨g, 0, none⟩) l.length c l :=
  ⟨rfl, hc, by unfold maxLen; omega, fun _ => ⟨g, 0, rfl, hU, fun i hi => by rw [Nat.zero_add, h.cell, List.getElem?_toArray, List.getElem?_eq_getElem hi]⟩⟩
end
end Go.Proofs.YtoldppbakapohaaGreatDoor.Vw
end
/- Words for subnets with their positions and reservations with their networks, in memory; what conf's smallest functions come to. For all numbers, and keys that fit. -/
section
set_option maxRecDepth 8000
namespace Go.Proofs.YtoldppbakapohaaGreatDoor.Vw
open Go.RowKit By Cf Ad Ky
open Dw (ba ba_size ba_data ba_list alloc_more)

def isB (b : Bool) (w : World) (e : Ending) (w' : World) : Prop := e = .returned (.bool b) ∧ Below w.heap.size w w'
/-- A subnet with its position. -/
structure Px where
  x : Sx
  net : Nat
  sub : Nat
def Px.ns (p : Px) : Nat × Sn := (p.net, p.x.s)
@[reducible] def Px.v (p : Px) (pn rn : Nat) : Value := .agg #[.int .i64 p.x.base, .int .i64 p.x.bits, .slice p.x.pA pn p.x.pc, .slice p.x.rA rn p.x.rc, .int .i64 p.x.iface, .int .i64 p.x.router, .int .i64 p.x.time, .int .i64 (p.net : Int), .int .i64 (p.sub : Int)]
@[reducible] def Px.cs (p : Px) (pn rn : Nat) : Array Value := #[.int .i64 p.x.base, .int .i64 p.x.bits, .slice p.x.pA pn p.x.pc, .slice p.x.rA rn p.x.rc, .int .i64 p.x.iface, .int .i64 p.x.router, .int .i64 p.x.time, .int .i64 (p.net : Int), .int .i64 (p.sub : Int)]
def layX : Lay Px := ⟨9, fun p => [.int .i64 p.x.base, .int .i64 p.x.bits, .slice p.x.pA p.x.pools.length p.x.pc, .slice p.x.rA p.x.res.length p.x.rc, .int .i64 p.x.iface, .int .i64 p.x.router, .int .i64 p.x.time, .int .i64 (p.net : Int), .int .i64 (p.sub : Int)], fun _ => rfl, fun e u hu => by
  simp only [List.mem_cons, List.not_mem_nil, or_false] at hu
  rcases hu with rfl | rfl | rfl | rfl | rfl | rfl | rfl | rfl | rfl <;> rfl⟩
/-- A slice of such subnets that reads. -/
def RdPx (U : Nat) (w : World) (A : Option Addr) (n c : Nat) (ps : List Px) : Prop := RdG layX U w A n c ps ∧ ∀ p ∈ ps, Sx.ok U w p.x p.x.pools.length p.x.res.length
/-- A reservation with its network. -/
structure Kx where
  r : Rs
  net : Nat
def Kx.nr (k : Kx) : Nat × Rs := (k.net, k.r)
@[reducible] def Kx.v (k : Kx) : Value := .agg #[.string (ba k.r.key), .int .i64 k.r.addr, .int .i64 (k.net : Int)]
@[reducible] def Kx.cs (k : Kx) : Array Value := #[.string (ba k.r.key), .int .i64 k.r.addr, .int .i64 (k.net : Int)]
def layK : Lay Kx := ⟨3, fun k => [.string (ba k.r.key), .int .i64 k.r.addr, .int .i64 (k.net : Int)], fun _ => rfl, fun e u hu => by
  simp only [List.mem_cons, List.not_mem_nil, or_false] at hu
  rcases hu with rfl | rfl | rfl <;> rfl⟩
abbrev RdKx (U : Nat) (w : World) (A : Option Addr) (n c : Nat) (ks : List Kx) : Prop := RdG layK U w A n c ks

set_option maxHeartbeats 1000000 in
theorem span_any (t : Int) (w : World) : Calls Tryz.prog 173 #[.int .i64 t] w fun e w' => e = .returned (.bool (decide (1 ≤ t ∧ t ≤ 2147483648))) ∧ w = w' := by
  by_cases h1 : 1 ≤ t
  · go_enter Tryz.func173, Tryz.ntmps173
    go_wp2
    go_ret
    exact ⟨ret_bool (by simp [h1]), rfl⟩
  · go_enter Tryz.func173, Tryz.ntmps173
    go_wp2
    go_ret
    exact ⟨ret_bool (by rw [decide_eq_false (Int.not_le.2 h1)]; rfl), rfl⟩
set_option maxHeartbeats 1000000 in
theorem netSize_any (A : Option Addr) (n c : Nat) (w : World) (hn : n ≤ 9223372036854775807) : Calls Tryz.prog 175 #[.agg #[.slice A n c]] w (isB (!decide (1 ≤ n ∧ n ≤ 4)) w) := by
  by_cases h0 : n = 0
  · subst h0
    go_enter Tryz.func175, Tryz.ntmps175
    go_wp2
    go_ret
    exact ⟨rfl, alloc_more _ _⟩
  · have hz : ((n : Int) == 0) = false := by simpa using h0
    have H : Hid ((!decide (1 ≤ n ∧ n ≤ 4)) = decide ((n : Int) > 4)) := by
      show _ = _
      rw [Bool.eq_iff_iff]
      simp
      omega
    clear h0
    go_enter Tryz.func175, Tryz.ntmps175
    go_wp2
    go_ret
    exact ⟨ret_bool H.out.symm, alloc_more _ _⟩
set_option maxHeartbeats 1000000 in
theorem pool_wrong (p : Pl) (w : World) : Calls Tryz.prog 179 #[.agg #[.int .i64 p.first, .int .i64 p.last]] w (isB (!poolF p) w) := by
  have H : Hid ((!poolF p) = decide (p.first > p.last)) := by
    show _ = _
    unfold poolF
    rw [Bool.eq_iff_iff]
    simp
  go_enter Tryz.func179, Tryz.ntmps179
  go_wp2
  go_ret
  exact ⟨ret_bool H.out.symm, alloc_more _ _⟩
set_option maxHeartbeats 1000000 in
theorem res_wrong (r : Rs) (w : World) (hr : Fr r) : Calls Tryz.prog 181 #[.agg #[.string (ba r.key), .int .i64 r.addr]] w (isB (!resF r) w) := by
  go_enter Tryz.func181, Tryz.ntmps181
  go_wp2_with fail
  refine (Kw.right_any _ _ (by rw [ba_size]; exact hr)).mono ?_
  rintro e w' ⟨rfl, rfl⟩
  go_wp2
  go_ret
  exact ⟨ret_bool (by unfold resF; rw [ba_data]), alloc_more _ _⟩
set_option maxHeartbeats 1000000 in
theorem pool_in (p : Pl) (a : Int) (g : Nat) (w : World) (hg : g < w.heap.size) (hc : w.cell? ⟨g, 0, none⟩ = some (.int .i64 a)) : Calls Tryz.prog 218 #[.agg #[.int .i64 p.first, .int .i64 p.last], .pointer (some ⟨g, 0, none⟩)] w (isB (inPl p a) w) := by
  have hne : g ≠ w.heap.size := by omega
  by_cases h1 : p.first ≤ a
  · have H : Hid (inPl p a = decide (a ≤ p.last)) := by
      show _ = _
      unfold inPl
      rw [decide_eq_decide]
      omega
    go_enter Tryz.func218, Tryz.ntmps218
    go_wp2
    go_ret
    exact ⟨ret_bool H.out.symm, alloc_more _ _⟩
  · have H : Hid (inPl p a = false) := by
      show _ = _
      unfold inPl
      exact decide_eq_false fun k => h1 k.1
    go_enter Tryz.func218, Tryz.ntmps218
    go_wp2
    go_ret
    exact ⟨ret_bool H.out.symm, alloc_more _ _⟩
set_option maxHeartbeats 1000000 in
theorem res_is (r : Rs) (a : Int) (g : Nat) (w : World) (hg : g < w.heap.size) (hc : w.cell? ⟨g, 0, none⟩ = some (.int .i64 a)) : Calls Tryz.prog 186 #[.agg #[.string (ba r.key), .int .i64 r.addr], .pointer (some ⟨g, 0, none⟩)] w (isB (decide (r.addr = a)) w) := by
  have hne : g ≠ w.heap.size := by omega
  go_enter Tryz.func186, Tryz.ntmps186
  go_wp2
  go_ret
  exact ⟨ret_bool (by rw [Bool.eq_iff_iff]; simp), alloc_more _ _⟩
theorem two_boxes (w : World) (cs ds : Array Value) (s t : TypeId) : Below w.heap.size w ((w.alloc (.cells cs s)).alloc (.cells ds t)) := ((Below.refl _ _).alloc (Nat.le_refl _) _).alloc (by simp) _
set_option maxHeartbeats 1000000 in
theorem plMeet_any (p q : Pl) (w : World) : Calls Tryz.prog 194 #[.agg #[.int .i64 p.first, .int .i64 p.last], .agg #[.int .i64 q.first, .int .i64 q.last]] w (isB (plMeet p q) w) := by
  by_cases h1 : p.first ≤ q.last
  · have H : Hid (plMeet p q = decide (q.first ≤ p.last)) := by
      show _ = _
      unfold plMeet
      rw [decide_eq_decide]
      omega
    go_enter Tryz.func194, Tryz.ntmps194
    go_wp2
    go_ret
    exact ⟨ret_bool H.out.symm, two_boxes _ _ _ _ _⟩
  · have H : Hid (plMeet p q = false) := by
      show _ = _
      unfold plMeet
      exact decide_eq_false fun k => h1 k.1
    go_enter Tryz.func194, Tryz.ntmps194
    go_wp2
    go_ret
    exact ⟨ret_bool H.out.symm, two_boxes _ _ _ _ _⟩
theorem beqKey {a b : List UInt8} (h : a = b) : ((ba a).toList == (ba b).toList) = true := by rw [h]; exact beq_self_eq_true _
theorem bneKey {a b : List UInt8} (h : ¬ a = b) : ((ba a).toList == (ba b).toList) = false := by
  rw [beq_eq_false_iff_ne, ba_list, ba_list]
  exact h
set_option maxHeartbeats 1000000 in
theorem rsClash_any (k l : Kx) (w : World) : Calls Tryz.prog 191 #[k.v, l.v] w (isB (rsClash k.nr l.nr) w) := by
  by_cases h1 : k.r.addr = l.r.addr
  · have H : Hid (rsClash k.nr l.nr = true) := by
      show _ = _
      unfold rsClash Kx.nr
      simp [h1]
    have hz : (k.r.addr == l.r.addr) = true := by simpa using h1
    clear h1
    go_enter Tryz.func191, Tryz.ntmps191
    go_wp2
    go_ret
    exact ⟨ret_bool H.out.symm, two_boxes _ _ _ _ _⟩
  · have hz : (k.r.addr == l.r.addr) = false := by simpa using h1
    by_cases h2 : k.net = l.net
    · have H : Hid (rsClash k.nr l.nr = decide (k.r.key = l.r.key)) := by
        show _ = _
        unfold rsClash Kx.nr
        simp [h1, h2]
      have hy : ((k.net : Int) == (l.net : Int)) = true := by rw [h2]; exact beq_self_eq_true _
      by_cases h3 : k.r.key = l.r.key
      · have hx := beqKey h3
        rw [decide_eq_true h3] at H
        clear h1 h2 h3
        go_enter Tryz.func191, Tryz.ntmps191
        go_wp2
        go_ret
        exact ⟨ret_bool H.out.symm, two_boxes _ _ _ _ _⟩
      · have hx := bneKey h3
        rw [decide_eq_false h3] at H
        clear h1 h2 h3
        go_enter Tryz.func191, Tryz.ntmps191
        go_wp2
        go_ret
        exact ⟨ret_bool H.out.symm, two_boxes _ _ _ _ _⟩
    · have H : Hid (rsClash k.nr l.nr = false) := by
        show _ = _
        unfold rsClash Kx.nr
        simp [h1, h2]
      have hy : ((k.net : Int) == (l.net : Int)) = false := by
        rw [beq_eq_false_iff_ne]
        omega
      clear h1 h2
      go_enter Tryz.func191, Tryz.ntmps191
      go_wp2
      go_ret
      exact ⟨ret_bool H.out.symm, two_boxes _ _ _ _ _⟩
end Go.Proofs.YtoldppbakapohaaGreatDoor.Vw
end
/- What conf's functions of one subnet or reservation with its place come to. For all numbers, and keys that fit. -/
section
set_option maxRecDepth 8000
namespace Go.Proofs.YtoldppbakapohaaGreatDoor.Vw
open Go.RowKit By Cf Ad Ky
open Dw (ba ba_size ba_data ba_list alloc_more)

theorem cel9 {w : World} {g pn rn : Nat} {t : TypeId} {p : Px} (h : Cel w g t (p.cs pn rn)) : w.cell? ⟨g, 0, none⟩ = some (.int .i64 p.x.base) ∧ w.cell? ⟨g, 1, none⟩ = some (.int .i64 p.x.bits) ∧ w.cell? ⟨g, 2, none⟩ = some (.slice p.x.pA pn p.x.pc) ∧ w.cell? ⟨g, 3, none⟩ = some (.slice p.x.rA rn p.x.rc) ∧
    w.cell? ⟨g, 4, none⟩ = some (.int .i64 p.x.iface) ∧ w.cell? ⟨g, 5, none⟩ = some (.int .i64 p.x.router) ∧ w.cell? ⟨g, 6, none⟩ = some (.int .i64 p.x.time) ∧ w.cell? ⟨g, 7, none⟩ = some (.int .i64 (p.net : Int)) ∧ w.cell? ⟨g, 8, none⟩ = some (.int .i64 (p.sub : Int)) :=
  ⟨by rw [h.cell]; rfl, by rw [h.cell]; rfl, by rw [h.cell]; rfl, by rw [h.cell]; rfl, by rw [h.cell]; rfl, by rw [h.cell]; rfl, by rw [h.cell]; rfl, by rw [h.cell]; rfl, by rw [h.cell]; rfl⟩
/-- Memory that has a subnet with its place in a new block. -/
theorem boxed (w : World) (p : Px) (pn rn : Nat) : ∃ w0, w0 = w.alloc (.cells (p.cs pn rn) 162) ∧ Cel w0 w.heap.size 162 (p.cs pn rn) ∧ Below w.heap.size w w0 := ⟨_, rfl, Cel.born _ _ _, alloc_more _ _⟩
set_option maxHeartbeats 1000000 in
theorem pnClash_any (p q : Px) (pn rn qn sn : Nat) (w : World) : Calls Tryz.prog 188 #[p.v pn rn, q.v qn sn] w (isB (snClash p.ns q.ns) w) := by
  by_cases h1 : p.net = q.net
  · have hz : ((p.net : Int) == (q.net : Int)) = true := by rw [h1]; exact beq_self_eq_true _
    have hy : ((p.net : Int) != (q.net : Int)) = false := by rw [bne, hz]; rfl
    have H : Hid (snClash p.ns q.ns = meetB p.x.base p.x.bits q.x.base q.x.bits) := by
      show _ = _
      unfold snClash Px.ns Sx.s
      simp only [h1, ne_eq, not_true_eq_false, decide_false, Bool.false_and]
      simp
    clear h1 
    go_enter Tryz.func188, Tryz.ntmps188
    go_wp2_with fail
    refine (Aw.meet_any _ _ _ _ _).mono ?_
    rintro e w1 ⟨rfl, rfl⟩
    go_wp2
    go_ret
    exact ⟨ret_bool H.out.symm, two_boxes _ _ _ _ _⟩
  have hz : ((p.net : Int) == (q.net : Int)) = false := by
    rw [beq_eq_false_iff_ne]
    omega
  have hy : ((p.net : Int) != (q.net : Int)) = true := by rw [bne, hz]; rfl
  by_cases h2 : p.x.iface = q.x.iface
  · have hx : (p.x.iface == q.x.iface) = true := by simpa using h2
    by_cases h3 : p.x.iface > 0
    · have H : Hid (snClash p.ns q.ns = true) := by
        show _ = _
        unfold snClash Px.ns Sx.s
        simp only [h1, ne_eq, not_false_eq_true, decide_true, Bool.true_and]
        rw [decide_eq_true h2, decide_eq_true h3, Bool.true_and, Bool.or_true]
      clear h1 h2
      go_enter Tryz.func188, Tryz.ntmps188
      go_wp2
      go_ret
      exact ⟨ret_bool H.out.symm, two_boxes _ _ _ _ _⟩
    · have H : Hid (snClash p.ns q.ns = meetB p.x.base p.x.bits q.x.base q.x.bits) := by
        show _ = _
        unfold snClash Px.ns Sx.s
        simp only [h1, ne_eq, not_false_eq_true, decide_true, decide_eq_false h3, Bool.true_and, Bool.false_and]
        simp
      clear h1 h2
      go_enter Tryz.func188, Tryz.ntmps188
      go_wp2_with fail
      refine (Aw.meet_any _ _ _ _ _).mono ?_
      rintro e w1 ⟨rfl, rfl⟩
      go_wp2
      go_ret
      exact ⟨ret_bool H.out.symm, two_boxes _ _ _ _ _⟩
  · have hx : (p.x.iface == q.x.iface) = false := by simpa using h2
    have H : Hid (snClash p.ns q.ns = meetB p.x.base p.x.bits q.x.base q.x.bits) := by
      show _ = _
      unfold snClash Px.ns Sx.s
      simp only [h1, h2, ne_eq, not_false_eq_true, decide_true, decide_false, Bool.and_false]
      simp
    clear h1 h2
    go_enter Tryz.func188, Tryz.ntmps188
    go_wp2_with fail
    refine (Aw.meet_any _ _ _ _ _).mono ?_
    rintro e w1 ⟨rfl, rfl⟩
    go_wp2
    go_ret
    exact ⟨ret_bool H.out.symm, two_boxes _ _ _ _ _⟩
set_option maxHeartbeats 1000000 in
theorem lends_any (p : Px) (pn rn : Nat) (a : Int) (w : World) (hf : fairB p.x.base p.x.bits = true) : Calls Tryz.prog 183 #[p.v pn rn, .int .i64 a] w (isB (lendsB p.x.s a) w) := by
  obtain ⟨w0, hw0, hc0, hb0⟩ := boxed w p pn rn
  have HF := Lib.hid hf
  have hc := cel9 hc0
  have HB := Lib.hid hb0
  clear hf hc0 hb0
  obtain ⟨c0, c1, _, _, _, _, _, _, _⟩ := hc
  by_cases h1 : a > p.x.base
  · have H : Hid (lendsB p.x.s a = decide (a < p.x.base + sz p.x.bits - 1)) := by
      show _ = _
      unfold lendsB Sx.s
      rw [decide_eq_decide]
      simp only
      omega
    go_enter Tryz.func183, Tryz.ntmps183
    go_wp2_with fail
    rw [← hw0]
    clear hw0
    refine (Aw.last_yes _ _ _ HF.out).mono ?_
    rintro e w1 ⟨rfl, rfl⟩
    go_wp2
    go_ret
    exact ⟨ret_bool H.out.symm, HB.out⟩
  · have H : Hid (lendsB p.x.s a = false) := by
      show _ = _
      unfold lendsB Sx.s
      exact decide_eq_false fun k => h1 k.1
    go_enter Tryz.func183, Tryz.ntmps183
    go_wp2_with fail
    rw [← hw0]
    clear hw0
    refine (Aw.last_yes _ _ _ HF.out).mono ?_
    rintro e w1 ⟨rfl, rfl⟩
    go_wp2
    go_ret
    exact ⟨ret_bool H.out.symm, HB.out⟩
set_option maxHeartbeats 1000000 in
theorem found_any (p : Px) (pn rn : Nat) (a : Int) (g : Nat) (w : World) (hg : g < w.heap.size) (hc : w.cell? ⟨g, 0, none⟩ = some (.int .i64 a)) : Calls Tryz.prog 166 #[p.v pn rn, .pointer (some ⟨g, 0, none⟩)] w (isB (hasB p.x.base p.x.bits a) w) := by
  have hne : g ≠ w.heap.size := by omega
  go_enter Tryz.func166, Tryz.ntmps166
  go_wp2_with fail
  refine (Aw.has_any _ _ _ _).mono ?_
  rintro e w1 ⟨rfl, rfl⟩
  go_wp2
  go_ret
  exact ⟨rfl, alloc_more _ _⟩
set_option maxHeartbeats 1000000 in
theorem wired_any (p : Px) (pn rn : Nat) (a : Int) (g : Nat) (w : World) (hg : g < w.heap.size) (hc : w.cell? ⟨g, 0, none⟩ = some (.int .i64 a)) : Calls Tryz.prog 198 #[p.v pn rn, .pointer (some ⟨g, 0, none⟩)] w (isB (decide (0 < a) && decide (p.x.iface = a)) w) := by
  have hne : g ≠ w.heap.size := by omega
  by_cases h1 : a > 0
  · have H : Hid ((decide (0 < a) && decide (p.x.iface = a)) = (p.x.iface == a)) := by
      show _ = _
      rw [decide_eq_true h1, Bool.eq_iff_iff]
      simp
    go_enter Tryz.func198, Tryz.ntmps198
    go_wp2
    go_ret
    exact ⟨ret_bool H.out.symm, alloc_more _ _⟩
  · have H : Hid ((decide (0 < a) && decide (p.x.iface = a)) = false) := by
      show _ = _
      rw [decide_eq_false h1]
      rfl
    go_enter Tryz.func198, Tryz.ntmps198
    go_wp2
    go_ret
    exact ⟨ret_bool H.out.symm, alloc_more _ _⟩
set_option maxHeartbeats 1000000 in
theorem keeps_any (k : Kx) (a : Int) (g : Nat) (w : World) (hg : g < w.heap.size) (hc : w.cell? ⟨g, 0, none⟩ = some (.int .i64 a)) : Calls Tryz.prog 211 #[k.v, .pointer (some ⟨g, 0, none⟩)] w (isB (decide (k.r.addr = a)) w) := by
  have hne : g ≠ w.heap.size := by omega
  go_enter Tryz.func211, Tryz.ntmps211
  go_wp2
  go_ret
  exact ⟨ret_bool (by rw [Bool.eq_iff_iff]; simp), alloc_more _ _⟩
set_option maxHeartbeats 1000000 in
theorem kept_any (k : Kx) (net : Int) (key : List UInt8) (g g2 : Nat) (w : World) (hg : g < w.heap.size) (hc : w.cell? ⟨g, 0, none⟩ = some (.int .i64 net)) (hg2 : g2 < w.heap.size) (hc2 : w.cell? ⟨g2, 0, none⟩ = some (.string (ba key))) :
    Calls Tryz.prog 169 #[k.v, .pointer (some ⟨g, 0, none⟩), .pointer (some ⟨g2, 0, none⟩)] w (isB (decide ((k.net : Int) = net) && decide (k.r.key = key)) w) := by
  have hne : g ≠ w.heap.size := by omega
  have hne2 : g2 ≠ w.heap.size := by omega
  by_cases h1 : (k.net : Int) = net
  · have hz : ((k.net : Int) == net) = true := by simpa using h1
    by_cases h2 : k.r.key = key
    · have hx := beqKey h2
      have H : Hid ((decide ((k.net : Int) = net) && decide (k.r.key = key)) = true) := by
        show _ = _
        rw [decide_eq_true h1, decide_eq_true h2]
        rfl
      clear h1 h2
      go_enter Tryz.func169, Tryz.ntmps169
      go_wp2
      go_ret
      exact ⟨ret_bool H.out.symm, alloc_more _ _⟩
    · have hx := bneKey h2
      have H : Hid ((decide ((k.net : Int) = net) && decide (k.r.key = key)) = false) := by
        show _ = _
        rw [decide_eq_true h1, decide_eq_false h2]
        rfl
      clear h1 h2
      go_enter Tryz.func169, Tryz.ntmps169
      go_wp2
      go_ret
      exact ⟨ret_bool H.out.symm, alloc_more _ _⟩
  · have hz : ((k.net : Int) == net) = false := by simpa using h1
    have H : Hid ((decide ((k.net : Int) = net) && decide (k.r.key = key)) = false) := by
      show _ = _
      rw [decide_eq_false h1]
      rfl
    clear h1
    go_enter Tryz.func169, Tryz.ntmps169
    go_wp2
    go_ret
    exact ⟨ret_bool H.out.symm, alloc_more _ _⟩
end Go.Proofs.YtoldppbakapohaaGreatDoor.Vw
end
/- What slices.IndexFunc and ContainsFunc at conf's types come to, for whatever function is handed to them that answers for each element. -/
section
set_option maxRecDepth 8000
namespace Go.Proofs.YtoldppbakapohaaGreatDoor.Vw
open Go.RowKit By Cf Ad Ky
open Dw (ba ba_size ba_data ba_list alloc_more)

/-- The place of the first that is wanted; -1: there is none. -/
def idxI {α : Type} (q : α → Bool) (l : List α) : Int := match l.findIdx? q with | some k => (k : Int) | none => -1
def idxB {α : Type} (q : α → Bool) (l : List α) (w : World) (e : Ending) (w' : World) : Prop := e = .returned (.int .i64 (idxI q l)) ∧ Below w.heap.size w w'
section
variable {α : Type} {q : α → Bool} {l : List α} {k : Nat} {a : α}
theorem mem_take_at (h : a ∈ l.take k) : ∃ j, j < k ∧ l[j]? = some a := by
  obtain ⟨j, hj, e⟩ := List.mem_iff_getElem.1 h
  rw [List.length_take] at hj
  exact ⟨j, by omega, by rw [List.getElem?_eq_getElem (by omega), ← e, List.getElem_take]⟩
theorem take_at (h : l[k]? = some a) : l.take (k + 1) = l.take k ++ [a] := by rw [List.take_add_one, h]; rfl
theorem idx_hit (h : l[k]? = some a) (hE : ∀ b ∈ l.take k, q b = false) (hq : q a = true) : idxI q l = (k : Int) := by
  obtain ⟨hk, e⟩ := List.getElem?_eq_some_iff.1 h
  have : l.findIdx? q = some k := List.findIdx?_eq_some_iff_getElem.2 ⟨hk, by rw [e]; exact hq, fun j hj => by
    rw [Bool.not_eq_true]
    exact hE _ (List.mem_take_iff_getElem.2 ⟨j, by omega, rfl⟩)⟩
  unfold idxI
  rw [this]
theorem take_skip (h : l[k]? = some a) (hE : ∀ b ∈ l.take k, q b = false) (hq : q a = false) : ∀ b ∈ l.take (k + 1), q b = false := by
  intro b hb
  rw [take_at h] at hb
  rcases List.mem_append.1 hb with hb | hb
  · exact hE b hb
  · simp at hb
    rw [hb]
    exact hq
theorem idx_miss (hE : ∀ b ∈ l, q b = false) : idxI q l = -1 := by
  have : l.findIdx? q = none := List.findIdx?_eq_none_iff.2 hE
  unfold idxI
  rw [this]
end
theorem idx_any {α : Type} (q : α → Bool) (l : List α) : decide (idxI q l ≥ 0) = l.any q := by
  unfold idxI
  cases h : l.findIdx? q with
  | none =>
    have := List.findIdx?_eq_none_iff.1 h
    rw [decide_eq_false (by decide), eq_comm, List.any_eq_false]
    exact fun a ha => by rw [this a ha]; decide
  | some k =>
    obtain ⟨hk, hq, _⟩ := List.findIdx?_eq_some_iff_getElem.1 h
    show decide ((k : Int) ≥ 0) = _
    rw [decide_eq_true (by omega), eq_comm, List.any_eq_true]
    exact ⟨_, List.getElem_mem hk, hq⟩
theorem hok0 {U : Nat} {w w' : World} {A : Option Addr} {n c k m : Nat} {l : List Nx} {a : Nx} (h : RdNx U w A n c l) (ha : l[k]? = some a) (hm : RdSx U w' a.A m a.c a.xs) : RdSx U w a.A m a.c a.xs := by
  have := h.2 a (List.mem_of_getElem? ha)
  rwa [hm.len] at this
section
variable {U V : Nat} {w w' : World} {A : Option Addr} {n c : Nat} {ps : List Px} {ks : List Kx}
theorem RdPx.below (h : RdPx U w A n c ps) (hb : Below U w w') : RdPx U w' A n c ps := ⟨h.1.below hb, fun x hx => (h.2 x hx).below hb⟩
theorem RdPx.len (h : RdPx U w A n c ps) : ps.length = n := h.1.len
theorem RdPx.cap (h : RdPx U w A n c ps) : n ≤ c := h.1.cap
theorem RdPx.max (h : RdPx U w A n c ps) : c ≤ 9223372036854775807 := h.1.max
/-- One of a slice that reads: its nine cells, with the numbers of its pools and reservations as letters. -/
theorem atX (h : RdPx U w A n c ps) {k : Nat} (hk : k < n) : ∃ b o p pn rn, A = some ⟨b, o, none⟩ ∧ b < U ∧ Hid (ps[k]? = some p) ∧ p.x.ok U w pn rn ∧ Hid (p.x.pools.length = pn) ∧ Hid (p.x.res.length = rn) ∧
    w.cell? ⟨b, o + k * 9, none⟩ = some (.int .i64 p.x.base) ∧ w.cell? ⟨b, o + k * 9 + 1, none⟩ = some (.int .i64 p.x.bits) ∧ w.cell? ⟨b, o + k * 9 + 2, none⟩ = some (.slice p.x.pA pn p.x.pc) ∧ w.cell? ⟨b, o + k * 9 + 3, none⟩ = some (.slice p.x.rA rn p.x.rc) ∧
    w.cell? ⟨b, o + k * 9 + 4, none⟩ = some (.int .i64 p.x.iface) ∧ w.cell? ⟨b, o + k * 9 + 5, none⟩ = some (.int .i64 p.x.router) ∧ w.cell? ⟨b, o + k * 9 + 6, none⟩ = some (.int .i64 p.x.time) ∧ w.cell? ⟨b, o + k * 9 + 7, none⟩ = some (.int .i64 (p.net : Int)) ∧ w.cell? ⟨b, o + k * 9 + 8, none⟩ = some (.int .i64 (p.sub : Int)) := by
  obtain ⟨b, o, e, hU, x, hl, hc⟩ := h.1.at_ hk
  exact ⟨b, o, x, x.x.pools.length, x.x.res.length, e, hU, hl, h.2 x (List.mem_of_getElem? hl.out), rfl, rfl, hc 0 _ rfl, hc 1 _ rfl, hc 2 _ rfl, hc 3 _ rfl, hc 4 _ rfl, hc 5 _ rfl, hc 6 _ rfl, hc 7 _ rfl, hc 8 _ rfl⟩
theorem atK (h : RdKx U w A n c ks) {k : Nat} (hk : k < n) : ∃ b o a, A = some ⟨b, o, none⟩ ∧ b < U ∧ Hid (ks[k]? = some a) ∧ w.cell? ⟨b, o + k * 3, none⟩ = some (.string (ba a.r.key)) ∧ w.cell? ⟨b, o + k * 3 + 1, none⟩ = some (.int .i64 a.r.addr) ∧ w.cell? ⟨b, o + k * 3 + 2, none⟩ = some (.int .i64 (a.net : Int)) := by
  obtain ⟨b, o, e, hU, r, hl, hc⟩ := h.at_ hk
  exact ⟨b, o, r, e, hU, hl, hc 0 _ rfl, hc 1 _ rfl, hc 2 _ rfl⟩
end
set_option maxHeartbeats 2000000 in
theorem indexX (K : Nat) (hE : ∀ args W, (callFunc K args).run Tryz.prog W = .ok (.enter K args) W) (bs : Array Value) (q : Px → Bool) (A : Option Addr) (n c U : Nat) (l : List Px) (w : World) (h : RdPx U w A n c l) (hU : U ≤ w.heap.size)
    (HK : ∀ a ∈ l, ∀ (pn rn : Nat), a.x.pools.length = pn → a.x.res.length = rn → ∀ W, Below w.heap.size w W → Calls Tryz.prog K (#[a.v pn rn] ++ bs) W (isB (q a) W)) :
    Calls Tryz.prog 176 #[.slice A n c, .func (.func K) #[] bs] w (idxB q l w) := by
  have HX := Lib.hid h
  have HL := Lib.hid h.len
  have HKK := Lib.hid HK
  have HEN := Lib.hid hE
  have HUU := Lib.hid hU
  have hcp := h.cap
  have hmx := h.max
  clear h HK hE hU
  go_enter Tryz.func176, Tryz.ntmps176
  go_wp2
  go_loopw [8] (fun v wr => ∃ k : Nat, v = .int .i64 k ∧ k ≤ n ∧ Hid (∀ a ∈ l.take k, q a = false) ∧ Hid (Below w.heap.size w wr)) (fun v _ => n - (intOf v).toNat)
  case atStart => exact ⟨0, rfl, by omega, fun a ha => by simp at ha, Below.refl _ _⟩
  case round =>
    obtain ⟨k, rfl, hk2, HE, HB⟩ := hrel
    by_cases hlt : k < n
    · obtain ⟨b, o, a, pn, rn, rfl, hbU, HA, hok, HP, HR, c0, c1, c2, c3, c4, c5, c6, c7, c8⟩ := atX (HX.out.below (HB.out.mono HUU.out)) hlt
      have hkz : (k : Int) < (n : Int) := by omega
      have HC := Lib.hid (HKK.out a (List.mem_of_getElem? HA.out) pn rn HP.out HR.out wr HB.out)
      cases hq : q a with
      | true =>
        have HT : Hid (idxI q l = (k : Int)) := idx_hit HA.out HE.out hq
        rw [hq] at HC
        clear hq HE HA
        go_wp2_with fail
        rw [HEN.out, Oper.upon_enter]
        refine HC.out.mono ?_
        rintro e w3 ⟨rfl, hb3⟩
        go_wp2
        go_ret
        exact ⟨ret_int HT.out.symm, HB.out.trans (hb3.mono HB.out.size)⟩
      | false =>
        have HT : Hid (∀ a ∈ l.take (k + 1), q a = false) := take_skip HA.out HE.out hq
        rw [hq] at HC
        clear hq HE HA
        go_wp2_with fail
        rw [HEN.out, Oper.upon_enter]
        refine HC.out.mono ?_
        rintro e w3 ⟨rfl, hb3⟩
        go_wp2
        go_roundw
        case rel => exact ⟨k + 1, by go_num, by omega, HT.out, HB.out.trans (hb3.mono HB.out.size)⟩
        case measure => simp [intOf]; omega
    · obtain rfl : k = n := by omega
      have HT : Hid (idxI q l = -1) := idx_miss (by rw [← HL.out] at HE; rw [List.take_length] at HE; exact HE.out)
      have hkz : ¬ (k : Int) < (k : Int) := by omega
      clear hlt HE
      go_wp2
      go_ret
      exact ⟨ret_int HT.out.symm, HB.out⟩
set_option maxHeartbeats 1000000 in
theorem hasX (K : Nat) (hE : ∀ args W, (callFunc K args).run Tryz.prog W = .ok (.enter K args) W) (bs : Array Value) (q : Px → Bool) (A : Option Addr) (n c U : Nat) (l : List Px) (w : World) (h : RdPx U w A n c l) (hU : U ≤ w.heap.size)
    (HK : ∀ a ∈ l, ∀ (pn rn : Nat), a.x.pools.length = pn → a.x.res.length = rn → ∀ W, Below w.heap.size w W → Calls Tryz.prog K (#[a.v pn rn] ++ bs) W (isB (q a) W)) :
    Calls Tryz.prog 125 #[.slice A n c, .func (.func K) #[] bs] w (isB (l.any q) w) := by
  have HC := Lib.hid (indexX K hE bs q A n c U l w h hU HK)
  have HT := Lib.hid (idx_any q l)
  clear h hU HK hE
  go_enter Tryz.func125, Tryz.ntmps125
  go_wp2_with fail
  refine HC.out.mono ?_
  rintro e w1 ⟨rfl, hb1⟩
  go_wp2
  go_ret
  exact ⟨ret_bool HT.out, hb1⟩
set_option maxHeartbeats 2000000 in
theorem indexK (K : Nat) (hE : ∀ args W, (callFunc K args).run Tryz.prog W = .ok (.enter K args) W) (bs : Array Value) (q : Kx → Bool) (A : Option Addr) (n c U : Nat) (l : List Kx) (w : World) (h : RdKx U w A n c l) (hU : U ≤ w.heap.size)
    (HK : ∀ a ∈ l, ∀ W, Below w.heap.size w W → Calls Tryz.prog K (#[a.v] ++ bs) W (isB (q a) W)) :
    Calls Tryz.prog 210 #[.slice A n c, .func (.func K) #[] bs] w (idxB q l w) := by
  have HX := Lib.hid h
  have HL := Lib.hid h.len
  have HKK := Lib.hid HK
  have HEN := Lib.hid hE
  have HUU := Lib.hid hU
  have hcp := h.cap
  have hmx := h.max
  clear h HK hE hU
  go_enter Tryz.func210, Tryz.ntmps210
  go_wp2
  go_loopw [8] (fun v wr => ∃ k : Nat, v = .int .i64 k ∧ k ≤ n ∧ Hid (∀ a ∈ l.take k, q a = false) ∧ Hid (Below w.heap.size w wr)) (fun v _ => n - (intOf v).toNat)
  case atStart => exact ⟨0, rfl, by omega, fun a ha => by simp at ha, Below.refl _ _⟩
  case round =>
    obtain ⟨k, rfl, hk2, HE, HB⟩ := hrel
    by_cases hlt : k < n
    · obtain ⟨b, o, a, rfl, hbU, HA, c0, c1, c2⟩ := atK (HX.out.below (HB.out.mono HUU.out)) hlt
      have hkz : (k : Int) < (n : Int) := by omega
      have HC := Lib.hid (HKK.out a (List.mem_of_getElem? HA.out)  wr HB.out)
      cases hq : q a with
      | true =>
        have HT : Hid (idxI q l = (k : Int)) := idx_hit HA.out HE.out hq
        rw [hq] at HC
        clear hq HE HA
        go_wp2_with fail
        rw [HEN.out, Oper.upon_enter]
        refine HC.out.mono ?_
        rintro e w3 ⟨rfl, hb3⟩
        go_wp2
        go_ret
        exact ⟨ret_int HT.out.symm, HB.out.trans (hb3.mono HB.out.size)⟩
      | false =>
        have HT : Hid (∀ a ∈ l.take (k + 1), q a = false) := take_skip HA.out HE.out hq
        rw [hq] at HC
        clear hq HE HA
        go_wp2_with fail
        rw [HEN.out, Oper.upon_enter]
        refine HC.out.mono ?_
        rintro e w3 ⟨rfl, hb3⟩
        go_wp2
        go_roundw
        case rel => exact ⟨k + 1, by go_num, by omega, HT.out, HB.out.trans (hb3.mono HB.out.size)⟩
        case measure => simp [intOf]; omega
    · obtain rfl : k = n := by omega
      have HT : Hid (idxI q l = -1) := idx_miss (by rw [← HL.out] at HE; rw [List.take_length] at HE; exact HE.out)
      have hkz : ¬ (k : Int) < (k : Int) := by omega
      clear hlt HE
      go_wp2
      go_ret
      exact ⟨ret_int HT.out.symm, HB.out⟩
set_option maxHeartbeats 2000000 in
theorem indexP (K : Nat) (hE : ∀ args W, (callFunc K args).run Tryz.prog W = .ok (.enter K args) W) (bs : Array Value) (q : Pl → Bool) (A : Option Addr) (n c U : Nat) (l : List Pl) (w : World) (h : RdPl U w A n c l) (hU : U ≤ w.heap.size)
    (HK : ∀ a ∈ l, ∀ W, Below w.heap.size w W → Calls Tryz.prog K (#[.agg #[.int .i64 a.first, .int .i64 a.last]] ++ bs) W (isB (q a) W)) :
    Calls Tryz.prog 215 #[.slice A n c, .func (.func K) #[] bs] w (idxB q l w) := by
  have HX := Lib.hid h
  have HL := Lib.hid h.len
  have HKK := Lib.hid HK
  have HEN := Lib.hid hE
  have HUU := Lib.hid hU
  have hcp := h.cap
  have hmx := h.max
  clear h HK hE hU
  go_enter Tryz.func215, Tryz.ntmps215
  go_wp2
  go_loopw [8] (fun v wr => ∃ k : Nat, v = .int .i64 k ∧ k ≤ n ∧ Hid (∀ a ∈ l.take k, q a = false) ∧ Hid (Below w.heap.size w wr)) (fun v _ => n - (intOf v).toNat)
  case atStart => exact ⟨0, rfl, by omega, fun a ha => by simp at ha, Below.refl _ _⟩
  case round =>
    obtain ⟨k, rfl, hk2, HE, HB⟩ := hrel
    by_cases hlt : k < n
    · obtain ⟨b, o, a, rfl, hbU, HA, c0, c1⟩ := atP (HX.out.below (HB.out.mono HUU.out)) hlt
      have hkz : (k : Int) < (n : Int) := by omega
      have HC := Lib.hid (HKK.out a (List.mem_of_getElem? HA.out)  wr HB.out)
      cases hq : q a with
      | true =>
        have HT : Hid (idxI q l = (k : Int)) := idx_hit HA.out HE.out hq
        rw [hq] at HC
        clear hq HE HA
        go_wp2_with fail
        rw [HEN.out, Oper.upon_enter]
        refine HC.out.mono ?_
        rintro e w3 ⟨rfl, hb3⟩
        go_wp2
        go_ret
        exact ⟨ret_int HT.out.symm, HB.out.trans (hb3.mono HB.out.size)⟩
      | false =>
        have HT : Hid (∀ a ∈ l.take (k + 1), q a = false) := take_skip HA.out HE.out hq
        rw [hq] at HC
        clear hq HE HA
        go_wp2_with fail
        rw [HEN.out, Oper.upon_enter]
        refine HC.out.mono ?_
        rintro e w3 ⟨rfl, hb3⟩
        go_wp2
        go_roundw
        case rel => exact ⟨k + 1, by go_num, by omega, HT.out, HB.out.trans (hb3.mono HB.out.size)⟩
        case measure => simp [intOf]; omega
    · obtain rfl : k = n := by omega
      have HT : Hid (idxI q l = -1) := idx_miss (by rw [← HL.out] at HE; rw [List.take_length] at HE; exact HE.out)
      have hkz : ¬ (k : Int) < (k : Int) := by omega
      clear hlt HE
      go_wp2
      go_ret
      exact ⟨ret_int HT.out.symm, HB.out⟩
set_option maxHeartbeats 1000000 in
theorem hasP (K : Nat) (hE : ∀ args W, (callFunc K args).run Tryz.prog W = .ok (.enter K args) W) (bs : Array Value) (q : Pl → Bool) (A : Option Addr) (n c U : Nat) (l : List Pl) (w : World) (h : RdPl U w A n c l) (hU : U ≤ w.heap.size)
    (HK : ∀ a ∈ l, ∀ W, Below w.heap.size w W → Calls Tryz.prog K (#[.agg #[.int .i64 a.first, .int .i64 a.last]] ++ bs) W (isB (q a) W)) :
    Calls Tryz.prog 178 #[.slice A n c, .func (.func K) #[] bs] w (isB (l.any q) w) := by
  have HC := Lib.hid (indexP K hE bs q A n c U l w h hU HK)
  have HT := Lib.hid (idx_any q l)
  clear h hU HK hE
  go_enter Tryz.func178, Tryz.ntmps178
  go_wp2_with fail
  refine HC.out.mono ?_
  rintro e w1 ⟨rfl, hb1⟩
  go_wp2
  go_ret
  exact ⟨ret_bool HT.out, hb1⟩
set_option maxHeartbeats 2000000 in
theorem indexR (K : Nat) (hE : ∀ args W, (callFunc K args).run Tryz.prog W = .ok (.enter K args) W) (bs : Array Value) (q : Rs → Bool) (A : Option Addr) (n c U : Nat) (l : List Rs) (w : World) (h : RdRs U w A n c l) (hU : U ≤ w.heap.size)
    (HK : ∀ a ∈ l, ∀ W, Below w.heap.size w W → Calls Tryz.prog K (#[.agg #[.string (ba a.key), .int .i64 a.addr]] ++ bs) W (isB (q a) W)) :
    Calls Tryz.prog 216 #[.slice A n c, .func (.func K) #[] bs] w (idxB q l w) := by
  have HX := Lib.hid h
  have HL := Lib.hid h.len
  have HKK := Lib.hid HK
  have HEN := Lib.hid hE
  have HUU := Lib.hid hU
  have hcp := h.cap
  have hmx := h.max
  clear h HK hE hU
  go_enter Tryz.func216, Tryz.ntmps216
  go_wp2
  go_loopw [8] (fun v wr => ∃ k : Nat, v = .int .i64 k ∧ k ≤ n ∧ Hid (∀ a ∈ l.take k, q a = false) ∧ Hid (Below w.heap.size w wr)) (fun v _ => n - (intOf v).toNat)
  case atStart => exact ⟨0, rfl, by omega, fun a ha => by simp at ha, Below.refl _ _⟩
  case round =>
    obtain ⟨k, rfl, hk2, HE, HB⟩ := hrel
    by_cases hlt : k < n
    · obtain ⟨b, o, a, rfl, hbU, HA, c0, c1⟩ := atR (HX.out.below (HB.out.mono HUU.out)) hlt
      have hkz : (k : Int) < (n : Int) := by omega
      have HC := Lib.hid (HKK.out a (List.mem_of_getElem? HA.out)  wr HB.out)
      cases hq : q a with
      | true =>
        have HT : Hid (idxI q l = (k : Int)) := idx_hit HA.out HE.out hq
        rw [hq] at HC
        clear hq HE HA
        go_wp2_with fail
        rw [HEN.out, Oper.upon_enter]
        refine HC.out.mono ?_
        rintro e w3 ⟨rfl, hb3⟩
        go_wp2
        go_ret
        exact ⟨ret_int HT.out.symm, HB.out.trans (hb3.mono HB.out.size)⟩
      | false =>
        have HT : Hid (∀ a ∈ l.take (k + 1), q a = false) := take_skip HA.out HE.out hq
        rw [hq] at HC
        clear hq HE HA
        go_wp2_with fail
        rw [HEN.out, Oper.upon_enter]
        refine HC.out.mono ?_
        rintro e w3 ⟨rfl, hb3⟩
        go_wp2
        go_roundw
        case rel => exact ⟨k + 1, by go_num, by omega, HT.out, HB.out.trans (hb3.mono HB.out.size)⟩
        case measure => simp [intOf]; omega
    · obtain rfl : k = n := by omega
      have HT : Hid (idxI q l = -1) := idx_miss (by rw [← HL.out] at HE; rw [List.take_length] at HE; exact HE.out)
      have hkz : ¬ (k : Int) < (k : Int) := by omega
      clear hlt HE
      go_wp2
      go_ret
      exact ⟨ret_int HT.out.symm, HB.out⟩
set_option maxHeartbeats 1000000 in
theorem hasR (K : Nat) (hE : ∀ args W, (callFunc K args).run Tryz.prog W = .ok (.enter K args) W) (bs : Array Value) (q : Rs → Bool) (A : Option Addr) (n c U : Nat) (l : List Rs) (w : World) (h : RdRs U w A n c l) (hU : U ≤ w.heap.size)
    (HK : ∀ a ∈ l, ∀ W, Below w.heap.size w W → Calls Tryz.prog K (#[.agg #[.string (ba a.key), .int .i64 a.addr]] ++ bs) W (isB (q a) W)) :
    Calls Tryz.prog 180 #[.slice A n c, .func (.func K) #[] bs] w (isB (l.any q) w) := by
  have HC := Lib.hid (indexR K hE bs q A n c U l w h hU HK)
  have HT := Lib.hid (idx_any q l)
  clear h hU HK hE
  go_enter Tryz.func180, Tryz.ntmps180
  go_wp2_with fail
  refine HC.out.mono ?_
  rintro e w1 ⟨rfl, hb1⟩
  go_wp2
  go_ret
  exact ⟨ret_bool HT.out, hb1⟩
set_option maxHeartbeats 2000000 in
theorem indexN (K : Nat) (hE : ∀ args W, (callFunc K args).run Tryz.prog W = .ok (.enter K args) W) (bs : Array Value) (q : Nx → Bool) (A : Option Addr) (n c U : Nat) (l : List Nx) (w : World) (h : RdNx U w A n c l) (hU : U ≤ w.heap.size)
    (HK : ∀ a ∈ l, ∀ (m : Nat), RdSx U w a.A m a.c a.xs → ∀ W, Below w.heap.size w W → Calls Tryz.prog K (#[.agg #[.slice a.A m a.c]] ++ bs) W (isB (q a) W)) :
    Calls Tryz.prog 213 #[.slice A n c, .func (.func K) #[] bs] w (idxB q l w) := by
  have HX := Lib.hid h
  have HL := Lib.hid h.len
  have HKK := Lib.hid HK
  have HEN := Lib.hid hE
  have HUU := Lib.hid hU
  have hcp := h.cap
  have hmx := h.max
  clear h HK hE hU
  go_enter Tryz.func213, Tryz.ntmps213
  go_wp2
  go_loopw [8] (fun v wr => ∃ k : Nat, v = .int .i64 k ∧ k ≤ n ∧ Hid (∀ a ∈ l.take k, q a = false) ∧ Hid (Below w.heap.size w wr)) (fun v _ => n - (intOf v).toNat)
  case atStart => exact ⟨0, rfl, by omega, fun a ha => by simp at ha, Below.refl _ _⟩
  case round =>
    obtain ⟨k, rfl, hk2, HE, HB⟩ := hrel
    by_cases hlt : k < n
    · obtain ⟨b, o, a, m, rfl, hbU, HA, hok, c0⟩ := atN (HX.out.below (HB.out.mono HUU.out)) hlt
      have hkz : (k : Int) < (n : Int) := by omega
      have HC := Lib.hid (HKK.out a (List.mem_of_getElem? HA.out) m (hok0 HX.out HA.out hok) wr HB.out)
      cases hq : q a with
      | true =>
        have HT : Hid (idxI q l = (k : Int)) := idx_hit HA.out HE.out hq
        rw [hq] at HC
        clear hq HE HA
        go_wp2_with fail
        rw [HEN.out, Oper.upon_enter]
        refine HC.out.mono ?_
        rintro e w3 ⟨rfl, hb3⟩
        go_wp2
        go_ret
        exact ⟨ret_int HT.out.symm, HB.out.trans (hb3.mono HB.out.size)⟩
      | false =>
        have HT : Hid (∀ a ∈ l.take (k + 1), q a = false) := take_skip HA.out HE.out hq
        rw [hq] at HC
        clear hq HE HA
        go_wp2_with fail
        rw [HEN.out, Oper.upon_enter]
        refine HC.out.mono ?_
        rintro e w3 ⟨rfl, hb3⟩
        go_wp2
        go_roundw
        case rel => exact ⟨k + 1, by go_num, by omega, HT.out, HB.out.trans (hb3.mono HB.out.size)⟩
        case measure => simp [intOf]; omega
    · obtain rfl : k = n := by omega
      have HT : Hid (idxI q l = -1) := idx_miss (by rw [← HL.out] at HE; rw [List.take_length] at HE; exact HE.out)
      have hkz : ¬ (k : Int) < (k : Int) := by omega
      clear hlt HE
      go_wp2
      go_ret
      exact ⟨ret_int HT.out.symm, HB.out⟩
set_option maxHeartbeats 1000000 in
theorem hasN (K : Nat) (hE : ∀ args W, (callFunc K args).run Tryz.prog W = .ok (.enter K args) W) (bs : Array Value) (q : Nx → Bool) (A : Option Addr) (n c U : Nat) (l : List Nx) (w : World) (h : RdNx U w A n c l) (hU : U ≤ w.heap.size)
    (HK : ∀ a ∈ l, ∀ (m : Nat), RdSx U w a.A m a.c a.xs → ∀ W, Below w.heap.size w W → Calls Tryz.prog K (#[.agg #[.slice a.A m a.c]] ++ bs) W (isB (q a) W)) :
    Calls Tryz.prog 174 #[.slice A n c, .func (.func K) #[] bs] w (isB (l.any q) w) := by
  have HC := Lib.hid (indexN K hE bs q A n c U l w h hU HK)
  have HT := Lib.hid (idx_any q l)
  clear h hU HK hE
  go_enter Tryz.func174, Tryz.ntmps174
  go_wp2_with fail
  refine HC.out.mono ?_
  rintro e w1 ⟨rfl, hb1⟩
  go_wp2
  go_ret
  exact ⟨ret_bool HT.out, hb1⟩
end Go.Proofs.YtoldppbakapohaaGreatDoor.Vw
end
/- What conf's anyTwo comes to at its three types, for whatever function is handed to it that answers for every two elements. -/
section
set_option maxRecDepth 8000
namespace Go.Proofs.YtoldppbakapohaaGreatDoor.Vw
open Go.RowKit By Cf Ad Ky
open Dw (ba ba_size ba_data ba_list alloc_more)

theorem plxP : RgP Tryz.prog 158 162 layX (.agg #[.int .i64 0, .int .i64 0, .slice none 0 0, .slice none 0 0, .int .i64 0, .int .i64 0, .int .i64 0, .int .i64 0, .int .i64 0]) 104 := ⟨Tryz.underlying158, by kernel_rfl⟩
theorem kxP : RgP Tryz.prog 202 187 layK (.agg #[.string ⟨#[]⟩, .int .i64 0, .int .i64 0]) 32 := ⟨Tryz.underlying202, by kernel_rfl⟩
theorem plP : RgP Tryz.prog 112 124 layP (.agg #[.int .i64 0, .int .i64 0]) 16 := ⟨Tryz.underlying112, by kernel_rfl⟩
theorem celK {w : World} {g : Nat} {t : TypeId} {k : Kx} (h : Cel w g t k.cs) : w.cell? ⟨g, 0, none⟩ = some (.string (ba k.r.key)) ∧ w.cell? ⟨g, 1, none⟩ = some (.int .i64 k.r.addr) ∧ w.cell? ⟨g, 2, none⟩ = some (.int .i64 (k.net : Int)) :=
  ⟨by rw [h.cell]; rfl, by rw [h.cell]; rfl, by rw [h.cell]; rfl⟩
theorem celP {w : World} {g : Nat} {t : TypeId} {p : Pl} (h : Cel w g t #[.int .i64 p.first, .int .i64 p.last]) : w.cell? ⟨g, 0, none⟩ = some (.int .i64 p.first) ∧ w.cell? ⟨g, 1, none⟩ = some (.int .i64 p.last) :=
  ⟨by rw [h.cell]; rfl, by rw [h.cell]; rfl⟩
section
variable {α : Type} {q : α → α → Bool} {l : List α} {k j : Nat} {a d : α}
theorem pair_next (h : l[k]? = some a) (hE : pairB q (l.take k) = false) (hF : (l.take k).any (q a) = false) : pairB q (l.take (k + 1)) = false := by
  rw [take_at h, pair_snoc, hE, hF]
  rfl
theorem pair_hit (h : l[k]? = some a) (hd : l[j]? = some d) (hj : j < k) (hq : q a d = true) : pairB q l = true := by
  rw [← List.take_append_drop (k + 1) l, pair_app, take_at h, pair_snoc]
  have : (l.take k).any (q a) = true := List.any_eq_true.2 ⟨d, List.mem_of_getElem? (i := j) (by rw [List.getElem?_take, if_pos hj]; exact hd), hq⟩
  rw [this, Bool.or_true, Bool.true_or]
theorem any_skip {p : α → Bool} (h : l[j]? = some d) (hE : (l.take j).any p = false) (hq : p d = false) : (l.take (j + 1)).any p = false := by
  rw [take_at h, List.any_append, hE, List.any_cons, hq]
  rfl
end
theorem cutX {U n c : Nat} {w : World} {A : Option Addr} {l : List Px} (h : RdPx U w A n c l) (k : Nat) (hk : k ≤ n) : ∃ A', (RdPx U w A' k c (l.take k)) ∧ ∀ W, (Instr.slice 158 (.slice A n c) none (some (.int .i64 (k : Int))) none).run Tryz.prog W = .ok (.slice A' k c) W := by
  obtain ⟨A', h1, h2⟩ := plxP.cut_h h.1 k (k : Int) rfl hk
  exact ⟨A', ⟨h1, fun p hp => h.2 p (List.mem_of_mem_take hp)⟩, h2⟩
set_option maxHeartbeats 4000000 in
theorem any2X (K : Nat) (hE : ∀ args W, (callFunc K args).run Tryz.prog W = .ok (.enter K args) W) (q : Px → Px → Bool) (A : Option Addr) (n c U : Nat) (l : List Px) (w : World) (h : RdPx U w A n c l) (hU : U ≤ w.heap.size)
    (HK : ∀ a ∈ l, ∀ b ∈ l, ∀ pn rn qn sn W, Calls Tryz.prog K #[a.v pn rn, b.v qn sn] W (isB (q a b) W)) :
    Calls Tryz.prog 187 #[.slice A n c, .func (.func K) #[] #[]] w (isB (pairB q l) w) := by
  have HX := Lib.hid h
  have HL := Lib.hid h.len
  have HKK := Lib.hid HK
  have HEN := Lib.hid hE
  have HUU := Lib.hid hU
  have hcp := h.cap
  have hmx := h.max
  clear h HK hE hU
  go_enter Tryz.func187, Tryz.ntmps187
  go_wp2
  go_loopw [11] (fun v wr => ∃ k : Nat, v = .int .i64 k ∧ k ≤ n ∧ Hid (pairB q (l.take k) = false) ∧ Hid (Below w.heap.size w wr)) (fun v _ => n - (intOf v).toNat)
  case atStart => exact ⟨0, rfl, by omega, rfl, Below.refl _ _⟩
  case round =>
    obtain ⟨k, rfl, hk2, HE, HB⟩ := hrel
    by_cases hlt : k < n
    · obtain ⟨A2, hr2, hs2⟩ := cutX HX.out k (by omega)
      obtain ⟨b, o, a, pn, rn, rfl, hbU, HA, hok, HP, HR, c0, c1, c2, c3, c4, c5, c6, c7, c8⟩ := atX (HX.out.below (HB.out.mono HUU.out)) hlt
      have hkz : (k : Int) < (n : Int) := by omega
      obtain ⟨w1, hw1⟩ : ∃ w1, w1 = wr.alloc (.cells (a.cs pn rn) 162) := ⟨_, rfl⟩
      have hc1 : Cel w1 wr.heap.size 162 (a.cs pn rn) := by rw [hw1]; exact Cel.born _ _ _
      have hb1 : Below wr.heap.size wr w1 := by rw [hw1]; exact alloc_more _ _
      have HC1 := Lib.hid hc1
      have HB1 := Lib.hid (HB.out.trans (hb1.mono HB.out.size))
      have HR2 := Lib.hid hr2
      have hcp2 := hr2.cap
      have hsx := HB.out.size
      have HLT : Hid (wr.heap.size < w1.heap.size) := hc1.lt
      clear hr2 hc1 hb1
      go_wp2_with fail
      rw [← hw1]
      clear hw1
      generalize wr.heap.size = gg at HC1 HLT ⊢
      go_loopw [20] (fun v wr => ∃ j : Nat, v = .int .i64 j ∧ j ≤ k ∧ Hid ((l.take j).any (q a) = false) ∧ Hid (Below w1.heap.size w1 wr)) (fun v _ => k - (intOf v).toNat)
      case atStart => exact ⟨0, rfl, by omega, rfl, Below.refl _ _⟩
      case round =>
        obtain ⟨j, rfl, hj, HF, HB2⟩ := hrel
        have HBW := Lib.hid (HB1.out.trans (HB2.out.mono HB1.out.size))
        by_cases hlt2 : j < k
        · obtain ⟨b2, o2, d, qn, sn, rfl, hbU2, HD, hok2, HP2, HR2, d0, d1, d2, d3, d4, d5, d6, d7, d8⟩ := atX (HR2.out.below (HBW.out.mono HUU.out)) hlt2
          have hjz : (j : Int) < (k : Int) := by omega
          have HDL : Hid (l[j]? = some d) := by
            have := HD.out
            rw [List.getElem?_take, if_pos hlt2] at this
            exact this
          have hlg := HLT.out
          have hsw := HB2.out.size
          have hne : gg ≠ wr.heap.size := by omega
          obtain ⟨w2, hw2⟩ : ∃ w2, w2 = wr.alloc (.cells (d.cs qn sn) 162) := ⟨_, rfl⟩
          have hb2 : Below wr.heap.size wr w2 := by rw [hw2]; exact alloc_more _ _
          have HC5 := Lib.hid (show Cel w2 wr.heap.size 162 (d.cs qn sn) by rw [hw2]; exact Cel.born _ _ _)
          have HB4 := Lib.hid (HB2.out.trans (hb2.mono HB2.out.size))
          have HC := Lib.hid (HKK.out a (List.mem_of_getElem? HA.out) d (List.mem_of_getElem? HDL.out) pn rn qn sn w2)
          clear hb2
          cases hq : q a d with
          | true =>
            have HT : Hid (pairB q l = true) := pair_hit HA.out HDL.out hlt2 hq
            rw [hq] at HC
            clear hq HE HA HD HDL
            go_upto_region 7 with fail
            rw [← hw2]
            clear hw2
            obtain ⟨g0, g1, g2, g3, g4, g5, g6, g7, g8⟩ := cel9 HC5.out
            obtain ⟨f0, f1, f2, f3, f4, f5, f6, f7, f8⟩ := cel9 (HC1.out.below HB4.out HLT.out)
            go_wp2_with fail
            rw [HEN.out, Oper.upon_enter]
            refine HC.out.mono ?_
            rintro e w3 ⟨rfl, hb3⟩
            go_wp2
            go_ret
            exact ⟨ret_bool HT.out.symm, (HB1.out.trans (HB4.out.mono HB1.out.size)).trans (hb3.mono (Nat.le_trans HB1.out.size HB4.out.size))⟩
          | false =>
            have HT : Hid ((l.take (j + 1)).any (q a) = false) := any_skip HDL.out HF.out hq
            rw [hq] at HC
            clear hq HE HA HD HDL
            go_upto_region 7 with fail
            rw [← hw2]
            clear hw2
            obtain ⟨g0, g1, g2, g3, g4, g5, g6, g7, g8⟩ := cel9 HC5.out
            obtain ⟨f0, f1, f2, f3, f4, f5, f6, f7, f8⟩ := cel9 (HC1.out.below HB4.out HLT.out)
            go_wp2_with fail
            rw [HEN.out, Oper.upon_enter]
            refine HC.out.mono ?_
            rintro e w3 ⟨rfl, hb3⟩
            go_wp2
            go_roundw
            case rel => exact ⟨j + 1, by go_num, by omega, HT.out, HB4.out.trans (hb3.mono HB4.out.size)⟩
            case measure => simp [intOf]; omega
        · obtain rfl : j = k := by omega
          have HT : Hid (pairB q (l.take (j + 1)) = false) := pair_next HA.out HE.out HF.out
          have hjz : ¬ (j : Int) < (j : Int) := by omega
          clear hlt2 HE HA HF
          go_wp2
          go_roundw
          case rel => exact ⟨j + 1, by go_num, by omega, HT.out, HBW.out⟩
          case measure => simp [intOf]; omega
    · obtain rfl : k = n := by omega
      have HT : Hid (pairB q l = false) := by rw [← HL.out] at HE; rw [List.take_length] at HE; exact HE
      have hkz : ¬ (k : Int) < (k : Int) := by omega
      clear hlt HE
      go_wp2
      go_ret
      exact ⟨ret_bool HT.out.symm, HB.out⟩
theorem cutK {U n c : Nat} {w : World} {A : Option Addr} {l : List Kx} (h : RdKx U w A n c l) (k : Nat) (hk : k ≤ n) : ∃ A', (RdKx U w A' k c (l.take k)) ∧ ∀ W, (Instr.slice 202 (.slice A n c) none (some (.int .i64 (k : Int))) none).run Tryz.prog W = .ok (.slice A' k c) W := by
  obtain ⟨A', h1, h2⟩ := kxP.cut_h h k (k : Int) rfl hk
  exact ⟨A', h1, h2⟩
set_option maxHeartbeats 4000000 in
theorem any2K (K : Nat) (hE : ∀ args W, (callFunc K args).run Tryz.prog W = .ok (.enter K args) W) (q : Kx → Kx → Bool) (A : Option Addr) (n c U : Nat) (l : List Kx) (w : World) (h : RdKx U w A n c l) (hU : U ≤ w.heap.size)
    (HK : ∀ a ∈ l, ∀ b ∈ l, ∀ W, Calls Tryz.prog K #[a.v, b.v] W (isB (q a b) W)) :
    Calls Tryz.prog 189 #[.slice A n c, .func (.func K) #[] #[]] w (isB (pairB q l) w) := by
  have HX := Lib.hid h
  have HL := Lib.hid h.len
  have HKK := Lib.hid HK
  have HEN := Lib.hid hE
  have HUU := Lib.hid hU
  have hcp := h.cap
  have hmx := h.max
  clear h HK hE hU
  go_enter Tryz.func189, Tryz.ntmps189
  go_wp2
  go_loopw [11] (fun v wr => ∃ k : Nat, v = .int .i64 k ∧ k ≤ n ∧ Hid (pairB q (l.take k) = false) ∧ Hid (Below w.heap.size w wr)) (fun v _ => n - (intOf v).toNat)
  case atStart => exact ⟨0, rfl, by omega, rfl, Below.refl _ _⟩
  case round =>
    obtain ⟨k, rfl, hk2, HE, HB⟩ := hrel
    by_cases hlt : k < n
    · obtain ⟨A2, hr2, hs2⟩ := cutK HX.out k (by omega)
      obtain ⟨b, o, a, rfl, hbU, HA, c0, c1, c2⟩ := atK (HX.out.below (HB.out.mono HUU.out)) hlt
      have hkz : (k : Int) < (n : Int) := by omega
      obtain ⟨w1, hw1⟩ : ∃ w1, w1 = wr.alloc (.cells (a.cs) 187) := ⟨_, rfl⟩
      have hc1 : Cel w1 wr.heap.size 187 (a.cs) := by rw [hw1]; exact Cel.born _ _ _
      have hb1 : Below wr.heap.size wr w1 := by rw [hw1]; exact alloc_more _ _
      have HC1 := Lib.hid hc1
      have HB1 := Lib.hid (HB.out.trans (hb1.mono HB.out.size))
      have HR2 := Lib.hid hr2
      have hcp2 := hr2.cap
      have hsx := HB.out.size
      have HLT : Hid (wr.heap.size < w1.heap.size) := hc1.lt
      clear hr2 hc1 hb1
      go_wp2_with fail
      rw [← hw1]
      clear hw1
      generalize wr.heap.size = gg at HC1 HLT ⊢
      go_loopw [20] (fun v wr => ∃ j : Nat, v = .int .i64 j ∧ j ≤ k ∧ Hid ((l.take j).any (q a) = false) ∧ Hid (Below w1.heap.size w1 wr)) (fun v _ => k - (intOf v).toNat)
      case atStart => exact ⟨0, rfl, by omega, rfl, Below.refl _ _⟩
      case round =>
        obtain ⟨j, rfl, hj, HF, HB2⟩ := hrel
        have HBW := Lib.hid (HB1.out.trans (HB2.out.mono HB1.out.size))
        by_cases hlt2 : j < k
        · obtain ⟨b2, o2, d, rfl, hbU2, HD, d0, d1, d2⟩ := atK (HR2.out.below (HBW.out.mono HUU.out)) hlt2
          have hjz : (j : Int) < (k : Int) := by omega
          have HDL : Hid (l[j]? = some d) := by
            have := HD.out
            rw [List.getElem?_take, if_pos hlt2] at this
            exact this
          have hlg := HLT.out
          have hsw := HB2.out.size
          have hne : gg ≠ wr.heap.size := by omega
          obtain ⟨w2, hw2⟩ : ∃ w2, w2 = wr.alloc (.cells (d.cs) 187) := ⟨_, rfl⟩
          have hb2 : Below wr.heap.size wr w2 := by rw [hw2]; exact alloc_more _ _
          have HC5 := Lib.hid (show Cel w2 wr.heap.size 187 (d.cs) by rw [hw2]; exact Cel.born _ _ _)
          have HB4 := Lib.hid (HB2.out.trans (hb2.mono HB2.out.size))
          have HC := Lib.hid (HKK.out a (List.mem_of_getElem? HA.out) d (List.mem_of_getElem? HDL.out)  w2)
          clear hb2
          cases hq : q a d with
          | true =>
            have HT : Hid (pairB q l = true) := pair_hit HA.out HDL.out hlt2 hq
            rw [hq] at HC
            clear hq HE HA HD HDL
            go_upto_region 7 with fail
            rw [← hw2]
            clear hw2
            obtain ⟨g0, g1, g2⟩ := celK HC5.out
            obtain ⟨f0, f1, f2⟩ := celK (HC1.out.below HB4.out HLT.out)
            go_wp2_with fail
            rw [HEN.out, Oper.upon_enter]
            refine HC.out.mono ?_
            rintro e w3 ⟨rfl, hb3⟩
            go_wp2
            go_ret
            exact ⟨ret_bool HT.out.symm, (HB1.out.trans (HB4.out.mono HB1.out.size)).trans (hb3.mono (Nat.le_trans HB1.out.size HB4.out.size))⟩
          | false =>
            have HT : Hid ((l.take (j + 1)).any (q a) = false) := any_skip HDL.out HF.out hq
            rw [hq] at HC
            clear hq HE HA HD HDL
            go_upto_region 7 with fail
            rw [← hw2]
            clear hw2
            obtain ⟨g0, g1, g2⟩ := celK HC5.out
            obtain ⟨f0, f1, f2⟩ := celK (HC1.out.below HB4.out HLT.out)
            go_wp2_with fail
            rw [HEN.out, Oper.upon_enter]
            refine HC.out.mono ?_
            rintro e w3 ⟨rfl, hb3⟩
            go_wp2
            go_roundw
            case rel => exact ⟨j + 1, by go_num, by omega, HT.out, HB4.out.trans (hb3.mono HB4.out.size)⟩
            case measure => simp [intOf]; omega
        · obtain rfl : j = k := by omega
          have HT : Hid (pairB q (l.take (j + 1)) = false) := pair_next HA.out HE.out HF.out
          have hjz : ¬ (j : Int) < (j : Int) := by omega
          clear hlt2 HE HA HF
          go_wp2
          go_roundw
          case rel => exact ⟨j + 1, by go_num, by omega, HT.out, HBW.out⟩
          case measure => simp [intOf]; omega
    · obtain rfl : k = n := by omega
      have HT : Hid (pairB q l = false) := by rw [← HL.out] at HE; rw [List.take_length] at HE; exact HE
      have hkz : ¬ (k : Int) < (k : Int) := by omega
      clear hlt HE
      go_wp2
      go_ret
      exact ⟨ret_bool HT.out.symm, HB.out⟩
theorem cutP {U n c : Nat} {w : World} {A : Option Addr} {l : List Pl} (h : RdPl U w A n c l) (k : Nat) (hk : k ≤ n) : ∃ A', (RdPl U w A' k c (l.take k)) ∧ ∀ W, (Instr.slice 112 (.slice A n c) none (some (.int .i64 (k : Int))) none).run Tryz.prog W = .ok (.slice A' k c) W := by
  obtain ⟨A', h1, h2⟩ := plP.cut_h h k (k : Int) rfl hk
  exact ⟨A', h1, h2⟩
set_option maxHeartbeats 4000000 in
theorem any2P (K : Nat) (hE : ∀ args W, (callFunc K args).run Tryz.prog W = .ok (.enter K args) W) (q : Pl → Pl → Bool) (A : Option Addr) (n c U : Nat) (l : List Pl) (w : World) (h : RdPl U w A n c l) (hU : U ≤ w.heap.size)
    (HK : ∀ a ∈ l, ∀ b ∈ l, ∀ W, Calls Tryz.prog K #[.agg #[.int .i64 a.first, .int .i64 a.last], .agg #[.int .i64 b.first, .int .i64 b.last]] W (isB (q a b) W)) :
    Calls Tryz.prog 193 #[.slice A n c, .func (.func K) #[] #[]] w (isB (pairB q l) w) := by
  have HX := Lib.hid h
  have HL := Lib.hid h.len
  have HKK := Lib.hid HK
  have HEN := Lib.hid hE
  have HUU := Lib.hid hU
  have hcp := h.cap
  have hmx := h.max
  clear h HK hE hU
  go_enter Tryz.func193, Tryz.ntmps193
  go_wp2
  go_loopw [11] (fun v wr => ∃ k : Nat, v = .int .i64 k ∧ k ≤ n ∧ Hid (pairB q (l.take k) = false) ∧ Hid (Below w.heap.size w wr)) (fun v _ => n - (intOf v).toNat)
  case atStart => exact ⟨0, rfl, by omega, rfl, Below.refl _ _⟩
  case round =>
    obtain ⟨k, rfl, hk2, HE, HB⟩ := hrel
    by_cases hlt : k < n
    · obtain ⟨A2, hr2, hs2⟩ := cutP HX.out k (by omega)
      obtain ⟨b, o, a, rfl, hbU, HA, c0, c1⟩ := atP (HX.out.below (HB.out.mono HUU.out)) hlt
      have hkz : (k : Int) < (n : Int) := by omega
      obtain ⟨w1, hw1⟩ : ∃ w1, w1 = wr.alloc (.cells (#[.int .i64 a.first, .int .i64 a.last]) 124) := ⟨_, rfl⟩
      have hc1 : Cel w1 wr.heap.size 124 (#[.int .i64 a.first, .int .i64 a.last]) := by rw [hw1]; exact Cel.born _ _ _
      have hb1 : Below wr.heap.size wr w1 := by rw [hw1]; exact alloc_more _ _
      have HC1 := Lib.hid hc1
      have HB1 := Lib.hid (HB.out.trans (hb1.mono HB.out.size))
      have HR2 := Lib.hid hr2
      have hcp2 := hr2.cap
      have hsx := HB.out.size
      have HLT : Hid (wr.heap.size < w1.heap.size) := hc1.lt
      clear hr2 hc1 hb1
      go_wp2_with fail
      rw [← hw1]
      clear hw1
      generalize wr.heap.size = gg at HC1 HLT ⊢
      go_loopw [20] (fun v wr => ∃ j : Nat, v = .int .i64 j ∧ j ≤ k ∧ Hid ((l.take j).any (q a) = false) ∧ Hid (Below w1.heap.size w1 wr)) (fun v _ => k - (intOf v).toNat)
      case atStart => exact ⟨0, rfl, by omega, rfl, Below.refl _ _⟩
      case round =>
        obtain ⟨j, rfl, hj, HF, HB2⟩ := hrel
        have HBW := Lib.hid (HB1.out.trans (HB2.out.mono HB1.out.size))
        by_cases hlt2 : j < k
        · obtain ⟨b2, o2, d, rfl, hbU2, HD, d0, d1⟩ := atP (HR2.out.below (HBW.out.mono HUU.out)) hlt2
          have hjz : (j : Int) < (k : Int) := by omega
          have HDL : Hid (l[j]? = some d) := by
            have := HD.out
            rw [List.getElem?_take, if_pos hlt2] at this
            exact this
          have hlg := HLT.out
          have hsw := HB2.out.size
          have hne : gg ≠ wr.heap.size := by omega
          obtain ⟨w2, hw2⟩ : ∃ w2, w2 = wr.alloc (.cells (#[.int .i64 d.first, .int .i64 d.last]) 124) := ⟨_, rfl⟩
          have hb2 : Below wr.heap.size wr w2 := by rw [hw2]; exact alloc_more _ _
          have HC5 := Lib.hid (show Cel w2 wr.heap.size 124 (#[.int .i64 d.first, .int .i64 d.last]) by rw [hw2]; exact Cel.born _ _ _)
          have HB4 := Lib.hid (HB2.out.trans (hb2.mono HB2.out.size))
          have HC := Lib.hid (HKK.out a (List.mem_of_getElem? HA.out) d (List.mem_of_getElem? HDL.out)  w2)
          clear hb2
          cases hq : q a d with
          | true =>
            have HT : Hid (pairB q l = true) := pair_hit HA.out HDL.out hlt2 hq
            rw [hq] at HC
            clear hq HE HA HD HDL
            go_upto_region 7 with fail
            rw [← hw2]
            clear hw2
            obtain ⟨g0, g1⟩ := celP HC5.out
            obtain ⟨f0, f1⟩ := celP (HC1.out.below HB4.out HLT.out)
            go_wp2_with fail
            rw [HEN.out, Oper.upon_enter]
            refine HC.out.mono ?_
            rintro e w3 ⟨rfl, hb3⟩
            go_wp2
            go_ret
            exact ⟨ret_bool HT.out.symm, (HB1.out.trans (HB4.out.mono HB1.out.size)).trans (hb3.mono (Nat.le_trans HB1.out.size HB4.out.size))⟩
          | false =>
            have HT : Hid ((l.take (j + 1)).any (q a) = false) := any_skip HDL.out HF.out hq
            rw [hq] at HC
            clear hq HE HA HD HDL
            go_upto_region 7 with fail
            rw [← hw2]
            clear hw2
            obtain ⟨g0, g1⟩ := celP HC5.out
            obtain ⟨f0, f1⟩ := celP (HC1.out.below HB4.out HLT.out)
            go_wp2_with fail
            rw [HEN.out, Oper.upon_enter]
            refine HC.out.mono ?_
            rintro e w3 ⟨rfl, hb3⟩
            go_wp2
            go_roundw
            case rel => exact ⟨j + 1, by go_num, by omega, HT.out, HB4.out.trans (hb3.mono HB4.out.size)⟩
            case measure => simp [intOf]; omega
        · obtain rfl : j = k := by omega
          have HT : Hid (pairB q (l.take (j + 1)) = false) := pair_next HA.out HE.out HF.out
          have hjz : ¬ (j : Int) < (j : Int) := by omega
          clear hlt2 HE HA HF
          go_wp2
          go_roundw
          case rel => exact ⟨j + 1, by go_num, by omega, HT.out, HBW.out⟩
          case measure => simp [intOf]; omega
    · obtain rfl : k = n := by omega
      have HT : Hid (pairB q l = false) := by rw [← HL.out] at HE; rw [List.take_length] at HE; exact HE
      have hkz : ¬ (k : Int) < (k : Int) := by omega
      clear hlt HE
      go_wp2
      go_ret
      exact ⟨ret_bool HT.out.symm, HB.out⟩
end Go.Proofs.YtoldppbakapohaaGreatDoor.Vw
end
