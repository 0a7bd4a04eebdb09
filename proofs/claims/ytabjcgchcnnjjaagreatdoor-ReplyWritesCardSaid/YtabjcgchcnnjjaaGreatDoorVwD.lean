/- What the document's own subnet, lends and Form come to. Conditions: the configuration reads; for lends, the prefix is right. -/
import Derived.Test.YtabjcgchcnnjjaaGreatDoorVwB
import Derived.Deep.RegionHeld3
import Derived.Deep.RegionWith
section
set_option maxRecDepth 8000
namespace Go.Proofs.YtabjcgchcnnjjaaGreatDoor.Vw
open Go.RowKit By Cf Ad Ky
open Dw (ba ba_size ba_data ba_list alloc_more)

/-- Memory that has a subnet in a new block. -/
theorem boxedS (w : World) (x : Sx) (pn rn : Nat) : ∃ w0, w0 = w.alloc (.cells (x.cs pn rn) 53) ∧ Cel w0 w.heap.size 53 (x.cs pn rn) ∧ Below w.heap.size w w0 := ⟨_, rfl, Cel.born _ _ _, alloc_more _ _⟩
theorem all_next {α : Type} {p : α → Bool} {l : List α} {k : Nat} {a : α} (h : l[k]? = some a) (hE : (l.take k).all p = true) (hq : p a = true) : (l.take (k + 1)).all p = true := by
  rw [take_at h, List.all_append, hE, List.all_cons, hq]
  rfl
theorem all_bad {α : Type} {p : α → Bool} {l : List α} {k : Nat} {a : α} (h : l[k]? = some a) (hq : p a = false) : l.all p = false := List.all_eq_false.2 ⟨a, List.mem_of_getElem? h, by rw [hq]; decide⟩
end Go.Proofs.YtabjcgchcnnjjaaGreatDoor.Vw
end
/- What the document's own Form comes to. Condition: the configuration reads. -/
section
set_option maxRecDepth 8000
namespace Go.Proofs.YtabjcgchcnnjjaaGreatDoor.Vw
open Go.RowKit By Cf Ad Ky
open Dw (ba ba_size ba_data ba_list alloc_more)

theorem celC {w : World} {g : Nat} {t : TypeId} {a b c : Value} (h : Cel w g t #[a, b, c]) : w.cell? ⟨g, 0, none⟩ = some a ∧ w.cell? ⟨g, 1, none⟩ = some b ∧ w.cell? ⟨g, 2, none⟩ = some c := ⟨by rw [h.cell]; rfl, by rw [h.cell]; rfl, by rw [h.cell]; rfl⟩
theorem netF_at {y : Nx} {m : Nat} (hm : y.xs.length = m) : netF y.l = (decide (1 ≤ m ∧ m ≤ 4) && y.xs.all fun x => snF x.s) := by
  unfold netF Nx.l
  rw [sns_len, hm]
  unfold snsOf
  rw [List.all_map]
  rfl
theorem form_at (x : Cx) : formC x.cf = (rightB x.server && decide (1 ≤ x.prob ∧ x.prob ≤ 2147483648) && decide (x.ns.length ≤ 4) && x.ns.all fun y => netF y.l) := by
  unfold formC
  rw [show x.cf.nets = netsOf x.ns from rfl, nets_len]
  unfold netsOf
  rw [List.all_map]
  rfl
end Go.Proofs.YtabjcgchcnnjjaaGreatDoor.Vw
end
/- What the document's own Places comes to. Conditions: the configuration reads, and its form is right. -/
section
set_option maxRecDepth 8000
namespace Go.Proofs.YtabjcgchcnnjjaaGreatDoor.Vw
open Go.RowKit By Cf Ad Ky
open Dw (ba ba_size ba_data ba_list alloc_more)

theorem places_at (x : Cx) : placesC x.cf = x.ns.all fun y => y.xs.all fun s => snO x.server s.s := by
  unfold placesC
  rw [show x.cf.nets = netsOf x.ns from rfl]
  unfold netsOf
  rw [List.all_map]
  refine congrArg (x.ns.all ·) (funext fun y => ?_)
  show (snsOf y.xs).all _ = _
  unfold snsOf
  rw [List.all_map]
  rfl
theorem form_fair {x : Cx} (h : formC x.cf = true) : ∀ y ∈ x.ns, ∀ s ∈ y.xs, fairB s.base s.bits = true := by
  intro y hy s hs
  rw [form_at, Bool.and_eq_true, List.all_eq_true] at h
  have h1 := h.2 y hy
  unfold netF at h1
  rw [Bool.and_eq_true, List.all_eq_true] at h1
  exact sn_fair (h1.2 s.s (List.mem_map.2 ⟨s, hs, rfl⟩))
end Go.Proofs.YtabjcgchcnnjjaaGreatDoor.Vw
end
/- What the document's own Flat and Pooled come to. Conditions: the configuration reads; for Flat, at most ten networks of ten subnets each. -/
section
set_option maxRecDepth 8000
namespace Go.Proofs.YtabjcgchcnnjjaaGreatDoor.Vw
open Go.RowKit By Cf Ad Ky
open Dw (ba ba_size ba_data ba_list alloc_more)

/-! ### Rows of numbers -/
def layI : Lay Nat := ⟨1, fun n => [.int .i64 (n : Int)], fun _ => rfl, fun e u hu => by
  simp only [List.mem_cons, List.not_mem_nil, or_false] at hu
  rcases hu with rfl; rfl⟩
abbrev RdI (U : Nat) (w : World) (A : Option Addr) (n c : Nat) (l : List Nat) : Prop := RdG layI U w A n c l
theorem intP : RgP Tryz.prog 106 3 layI (.int .i64 0) 8 := ⟨Tryz.underlying106, by kernel_rfl⟩
theorem snP : RgP Tryz.prog 71 53 layS (.agg #[.int .i64 0, .int .i64 0, .slice none 0 0, .slice none 0 0, .int .i64 0, .int .i64 0, .int .i64 0]) 88 := ⟨Tryz.underlying71, by kernel_rfl⟩
theorem rsP : RgP Tryz.prog 51 75 layR (.agg #[.string ⟨#[]⟩, .int .i64 0]) 24 := ⟨Tryz.underlying51, by kernel_rfl⟩
theorem atI {U : Nat} {w : World} {A : Option Addr} {n c : Nat} {l : List Nat} (h : RdI U w A n c l) {k : Nat} (hk : k < n) : ∃ b o i, A = some ⟨b, o, none⟩ ∧ b < U ∧ Hid (l[k]? = some i) ∧ w.cell? ⟨b, o + k, none⟩ = some (.int .i64 (i : Int)) := by
  obtain ⟨b, o, e, hU, i, hl, hc⟩ := h.at_ hk
  refine ⟨b, o, i, e, hU, hl, ?_⟩
  have := hc 0 _ rfl
  rw [show o + k * layI.s + 0 = o + k from by show o + k * 1 + 0 = o + k; omega] at this
  exact this
/-- Two rows of different element types do not share a block: what is done to one leaves the other. -/
theorem rowsApart {w : World} {e e' B B' s s' n n' : Nat} {A A' : Option Addr} {c c' : Nat} {xs ys : List Value} (hne : e ≠ e') (h : w.ownsRow B e s (.slice A n c) n xs) (h' : w.ownsRow B' e' s' (.slice A' n' c') n' ys) :
    (Value.slice A n c).ownBlock = none ∨ (Value.slice A n c).ownBlock ≠ (Value.slice A' n' c').ownBlock := by
  rcases h.2 with ⟨e1, _⟩ | ⟨g, cap, cur, e1, _, hg, _⟩
  · rw [e1]; exact .inl rfl
  · rcases h'.2 with ⟨e2, _⟩ | ⟨g', cap', cur', e2, _, hg', _⟩
    · rw [e1, e2]; exact .inr (by simp [Value.ownBlock])
    · rw [e1, e2]
      refine .inr fun k => ?_
      simp [Value.ownBlock] at k
      subst k
      rw [hg] at hg'
      injection hg' with hg'
      injection hg' with _ ht
      exact hne ht
theorem ownG_grown {α β : Type} {Y : Lay α} {Z : Lay β} {e e' B B' n n' c c' : Nat} {A A' : Option Addr} {l : List α} {m : List β} {w w' : World} (hne : e ≠ e') (h : OwnG Y e B w A n c l) (h' : OwnG Z e' B' w A' n' c' m) (hg : w.grownBy w' (Value.slice A' n' c').ownBlock) : OwnG Y e B w' A n c l :=
  ⟨World.ownsRow.kept h.1 hg (rowsApart hne h.1 h'.1), h.2⟩
theorem litSx (w : World) (x : Sx) {pn rn : Nat} (hp : x.pools.length = pn) (hr : x.res.length = rn) : RdG layS (w.heap.size + 1) (w.alloc (.cells (x.cs pn rn) 53)) (some ⟨w.heap.size, 0, none⟩) 1 1 [x] := by
  subst hp hr
  have := (OwnG.lit (Y := layS) 53 w [x] (by simp)).rd
  have e : (w.alloc (.cells (layS.cells [x]).toArray 53)).heap.size = w.heap.size + 1 := by simp
  rw [e, layS.cells_one] at this
  exact this
theorem litI (w : World) (i : Nat) : RdI (w.heap.size + 1) (w.alloc (.cells #[.int .i64 (i : Int)] 3)) (some ⟨w.heap.size, 0, none⟩) 1 1 [i] := by
  have := (OwnG.lit (Y := layI) 3 w [i] (by simp)).rd
  have e : (w.alloc (.cells (layI.cells [i]).toArray 3)).heap.size = w.heap.size + 1 := by simp
  rw [e, layI.cells_one] at this
  exact this
/-- What Flat answers: all subnets, and of each its network. -/
def FlR (w : World) (ps : List Px) (e : Ending) (w' : World) : Prop := ∃ A1 c1 A2 c2 n, e = .returned (.tuple #[.slice A1 n c1, .slice A2 n c2]) ∧ RdSx w'.heap.size w' A1 n c1 (ps.map Px.x) ∧ RdI w'.heap.size w' A2 n c2 (ps.map Px.net) ∧ Below w.heap.size w w'
theorem atPb {U : Nat} {w : World} {b o n c : Nat} {l : List Pl} (h : RdPl U w (some ⟨b, o, none⟩) n c l) {k : Nat} (hk : k < n) : ∃ p, Hid (l[k]? = some p) ∧ w.cell? ⟨b, o + k * 2, none⟩ = some (.int .i64 p.first) ∧ w.cell? ⟨b, o + k * 2 + 1, none⟩ = some (.int .i64 p.last) := by
  obtain ⟨b', o', p, e, _, hl, c0, c1⟩ := atP h hk
  injection e with e
  injection e with e1 e2
  subst e1 e2
  exact ⟨p, hl, c0, c1⟩
end Go.Proofs.YtabjcgchcnnjjaaGreatDoor.Vw
end
/- What the document's own Twice comes to. Conditions: the configuration reads; at most ten networks of ten subnets each, at most twenty reservations in each of them. -/
section
set_option maxRecDepth 8000
namespace Go.Proofs.YtabjcgchcnnjjaaGreatDoor.Vw
open Go.RowKit By Cf Ad Ky
open Dw (ba ba_size ba_data ba_list alloc_more)

theorem get_map {α β : Type} {f : α → β} {l : List α} {k : Nat} {b : β} (h : (l.map f)[k]? = some b) : ∃ a, l[k]? = some a ∧ f a = b := by
  rw [List.getElem?_map, Option.map_eq_some_iff] at h
  exact h
/-- One subnet, and its network, out of two rows that lie side by side. -/
theorem atF {U : Nat} {w : World} {A1 A2 : Option Addr} {n c1 c2 : Nat} {ps : List Px} (h1 : RdSx U w A1 n c1 (ps.map Px.x)) (h2 : RdI U w A2 n c2 (ps.map Px.net)) {k : Nat} (hk : k < n) :
    ∃ b o b' o' p pn rn, A1 = some ⟨b, o, none⟩ ∧ A2 = some ⟨b', o', none⟩ ∧ b < U ∧ b' < U ∧ Hid (ps[k]? = some p) ∧ p.x.ok U w pn rn ∧ Hid (p.x.pools.length = pn) ∧ Hid (p.x.res.length = rn) ∧ Seven w b (o + k * 7) p.x pn rn ∧ w.cell? ⟨b', o' + k, none⟩ = some (.int .i64 (p.net : Int)) := by
  obtain ⟨b, o, x, pn, rn, e1, hb, hx, hok, hp, hr, hs⟩ := atS h1 hk
  obtain ⟨b', o', i, e2, hb', hi, hc⟩ := atI h2 hk
  obtain ⟨p, hp1, rfl⟩ := get_map hx.out
  obtain ⟨p', hp2, rfl⟩ := get_map hi.out
  obtain rfl : p = p' := by rw [hp1] at hp2; injection hp2
  exact ⟨b, o, b', o', p, pn, rn, e1, e2, hb, hb', hp1, hok, hp, hr, hs, hc⟩
theorem atFb {U : Nat} {w : World} {b o b' o' n c1 c2 : Nat} {ps : List Px} (h1 : RdSx U w (some ⟨b, o, none⟩) n c1 (ps.map Px.x)) (h2 : RdI U w (some ⟨b', o', none⟩) n c2 (ps.map Px.net)) {k : Nat} (hk : k < n) :
    ∃ p pn rn, Hid (ps[k]? = some p) ∧ Seven w b (o + k * 7) p.x pn rn ∧ w.cell? ⟨b', o' + k, none⟩ = some (.int .i64 (p.net : Int)) := by
  obtain ⟨_, _, _, _, p, pn, rn, e1, e2, _, _, hp, _, _, _, hs, hc⟩ := atF h1 h2 hk
  injection e1 with e1
  injection e1 with f1 f2
  injection e2 with e2
  injection e2 with g1 g2
  subst f1 f2 g1 g2
  exact ⟨p, pn, rn, hp, hs, hc⟩
/-- One reservation, and its network, out of two rows that lie side by side. -/
theorem atG {U : Nat} {w : World} {A1 A2 : Option Addr} {n c1 c2 : Nat} {ks : List Kx} (h1 : RdRs U w A1 n c1 (ks.map Kx.r)) (h2 : RdI U w A2 n c2 (ks.map Kx.net)) {k : Nat} (hk : k < n) :
    ∃ b o b' o' a, A1 = some ⟨b, o, none⟩ ∧ A2 = some ⟨b', o', none⟩ ∧ b < U ∧ b' < U ∧ Hid (ks[k]? = some a) ∧ w.cell? ⟨b, o + k * 2, none⟩ = some (.string (ba a.r.key)) ∧ w.cell? ⟨b, o + k * 2 + 1, none⟩ = some (.int .i64 a.r.addr) ∧ w.cell? ⟨b', o' + k, none⟩ = some (.int .i64 (a.net : Int)) := by
  obtain ⟨b, o, r, e1, hb, hr, c0, c1⟩ := atR h1 hk
  obtain ⟨b', o', i, e2, hb', hi, hc⟩ := atI h2 hk
  obtain ⟨p, hp1, rfl⟩ := get_map hr.out
  obtain ⟨p', hp2, rfl⟩ := get_map hi.out
  obtain rfl : p = p' := by rw [hp1] at hp2; injection hp2
  exact ⟨b, o, b', o', p, e1, e2, hb, hb', hp1, c0, c1, hc⟩
theorem atGb {U : Nat} {w : World} {b o b' o' n c1 c2 : Nat} {ks : List Kx} (h1 : RdRs U w (some ⟨b, o, none⟩) n c1 (ks.map Kx.r)) (h2 : RdI U w (some ⟨b', o', none⟩) n c2 (ks.map Kx.net)) {k : Nat} (hk : k < n) :
    ∃ a, Hid (ks[k]? = some a) ∧ w.cell? ⟨b, o + k * 2, none⟩ = some (.string (ba a.r.key)) ∧ w.cell? ⟨b, o + k * 2 + 1, none⟩ = some (.int .i64 a.r.addr) ∧ w.cell? ⟨b', o' + k, none⟩ = some (.int .i64 (a.net : Int)) := by
  obtain ⟨_, _, _, _, a, e1, e2, _, _, hp, c0, c1, hc⟩ := atG h1 h2 hk
  injection e1 with e1
  injection e1 with f1 f2
  injection e2 with e2
  injection e2 with g1 g2
  subst f1 f2 g1 g2
  exact ⟨a, hp, c0, c1, hc⟩
theorem litR (w : World) (r : Rs) : RdRs (w.heap.size + 1) (w.alloc (.cells #[.string (ba r.key), .int .i64 r.addr] 75)) (some ⟨w.heap.size, 0, none⟩) 1 1 [r] := by
  have := (OwnG.lit (Y := layR) 75 w [r] (by simp)).rd
  have e : (w.alloc (.cells (layR.cells [r]).toArray 75)).heap.size = w.heap.size + 1 := by simp
  rw [e, layR.cells_one] at this
  exact this
def qX (a b : Px) : Bool := snClash a.ns b.ns
def qK (a b : Kx) : Bool := rsClash a.nr b.nr
theorem twice_px (x : Cx) : twiceC x.cf = (pairB qX (pxF 0 x.ns) || pairB qK (kxF (pxF 0 x.ns)) || (pxF 0 x.ns).any fun p => pooledB p.x.s) := by
  unfold twiceC
  rw [show x.cf.nets = netsOf x.ns from rfl, flat_px, ← twice_code, List.any_map, pair_map (p := qX) (q := snClash) Px.ns (fun _ _ => rfl), ← kxF_nr, pair_map (p := qK) (q := rsClash) Kx.nr (fun _ _ => rfl)]
  rfl
theorem qX_is (p q : Px) : qX p q = (meetB p.x.base p.x.bits q.x.base q.x.bits || (decide (p.net ≠ q.net) && decide (0 < p.x.iface) && decide (p.x.iface = q.x.iface))) := rfl
theorem qK_is (a b : Kx) : qK a b = (decide (a.r.addr = b.r.addr) || (decide (a.net = b.net) && decide (a.r.key = b.r.key))) := rfl
end Go.Proofs.YtabjcgchcnnjjaaGreatDoor.Vw
end
