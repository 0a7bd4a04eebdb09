/- Words for alloc: rows of numbers and of ranges, what a client needs by value, two rows of one type that grow side by side. No program but the types; no conditions but those that each theorem names. -/
import Derived.Test.YtoldppbakapohaaGreatDoorVwA
import Derived.Test.YtoldppbakapohaaGreatDoorMathA
import Derived.Test.YtoldppbakapohaaGreatDoorEwA
import Derived.Test.YtoldppbakapohaaGreatDoorVwC
import Derived.Test.YtoldppbakapohaaGreatDoorBwA
import Derived.Test.YtoldppbakapohaaGreatDoorBwB
import Derived.Deep.QuietTactic
import Derived.BigQuiet
import Derived.WalkMore
import Derived.Deep.LoopGhost
import Derived.Lib.AppendZeros
import Derived.Lib.SliceRun
section
set_option maxRecDepth 8000
namespace Go.Proofs.YtoldppbakapohaaGreatDoor.Xw
open Go.RowKit Co By Ky Rc Ew Jw La Tb Lw Cf Al
open Vw (Cx RdPl layP atP)
open Dw (ba ba_size ba_data ba_list alloc_more)

/-! ### Rows of numbers and of ranges -/
def layZ : Lay Int := ⟨1, fun n => [.int .i64 n], fun _ => rfl, fun e u hu => by
  simp only [List.mem_cons, List.not_mem_nil, or_false] at hu
  rcases hu with rfl; rfl⟩
abbrev RdZ (U : Nat) (w : World) (A : Option Addr) (n c : Nat) (l : List Int) : Prop := RdG layZ U w A n c l
abbrev OwnZ (B : Nat) (w : World) (A : Option Addr) (n c : Nat) (l : List Int) : Prop := OwnG layZ 3 B w A n c l
abbrev OwnPl (B : Nat) (w : World) (A : Option Addr) (n c : Nat) (l : List Pl) : Prop := OwnG layP 124 B w A n c l
theorem intZP : RgP Tryz.prog 118 3 layZ (.int .i64 0) 8 := ⟨Tryz.underlying118, by kernel_rfl⟩
theorem plP : RgP Tryz.prog 112 124 layP (.agg #[.int .i64 0, .int .i64 0]) 16 := ⟨Tryz.underlying112, by kernel_rfl⟩
theorem atZ {U : Nat} {w : World} {A : Option Addr} {n c : Nat} {l : List Int} (h : RdZ U w A n c l) {k : Nat} (hk : k < n) : ∃ b o i, A = some ⟨b, o, none⟩ ∧ b < U ∧ Hid (l[k]? = some i) ∧ w.cell? ⟨b, o + k, none⟩ = some (.int .i64 i) := by
  obtain ⟨b, o, e, hU, i, hl, hc⟩ := h.at_ hk
  refine ⟨b, o, i, e, hU, hl, ?_⟩
  have := hc 0 _ rfl
  rw [show o + k * layZ.s + 0 = o + k from by show o + k * 1 + 0 = o + k; omega] at this
  exact this
theorem litZ (w : World) (i : Int) : RdZ (w.heap.size + 1) (w.alloc (.cells #[.int .i64 i] 3)) (some ⟨w.heap.size, 0, none⟩) 1 1 [i] := by
  have := (OwnG.lit (Y := layZ) 3 w [i] (by simp)).rd
  have e : (w.alloc (.cells (layZ.cells [i]).toArray 3)).heap.size = w.heap.size + 1 := by simp
  rw [e, layZ.cells_one] at this
  exact this
theorem litP (w : World) (a b : Int) : RdPl (w.heap.size + 1) (w.alloc (.cells #[.int .i64 a, .int .i64 b] 124)) (some ⟨w.heap.size, 0, none⟩) 1 1 [⟨a, b⟩] := by
  have := (OwnG.lit (Y := layP) 124 w [⟨a, b⟩] (by simp)).rd
  have e : (w.alloc (.cells (layP.cells [⟨a, b⟩]).toArray 124)).heap.size = w.heap.size + 1 := by simp
  rw [e, layP.cells_one] at this
  exact this

/-! ### Two rows of one type that grow side by side -/
structure Two {α : Type} (Y : Lay α) (e B : Nat) (w : World) (A1 A2 : Option Addr) (n1 c1 n2 c2 : Nat) (l1 l2 : List α) : Prop where
  o1 : OwnG Y e B w A1 n1 c1 l1
  o2 : OwnG Y e B w A2 n2 c2 l2
  ap : (Value.slice A1 n1 c1).ownBlock = none ∨ (Value.slice A1 n1 c1).ownBlock ≠ (Value.slice A2 n2 c2).ownBlock
section
variable {α : Type} {Y : Lay α} {e B : Nat} {w w' : World} {A1 A2 : Option Addr} {n1 c1 n2 c2 : Nat} {l1 l2 : List α}
theorem Two.nil : Two Y e B w none none 0 0 0 0 ([] : List α) [] := ⟨OwnG.nil _ _ _, OwnG.nil _ _ _, .inl rfl⟩
theorem Two.below (h : Two Y e B w A1 A2 n1 c1 n2 c2 l1 l2) (hb : Below w.heap.size w w') : Two Y e B w' A1 A2 n1 c1 n2 c2 l1 l2 := ⟨h.o1.below hb, h.o2.below hb, h.ap⟩
theorem Two.swap (h : Two Y e B w A1 A2 n1 c1 n2 c2 l1 l2) : Two Y e B w A2 A1 n2 c2 n1 c1 l2 l1 := ⟨h.o2, h.o1, by
  rcases h.ap with k | k
  · cases hb : (Value.slice A2 n2 c2).ownBlock with
    | none => exact .inl rfl
    | some g => rw [k]; exact .inr (by simp)
  · exact .inr (Ne.symm k)⟩
theorem Two.app {m c' : Nat} {l' : List α} {A' : Option Addr} (h : Two Y e B w A1 A2 n1 c1 n2 c2 l1 l2) (ha : AppG Y e B w A1 n1 c1 m l' A' c' w') : Two Y e B w' A' A2 (n1 + m) c' n2 c2 l' l2 := by
  obtain ⟨h1, h2, h3, h4⟩ := ha
  refine ⟨h1, ⟨World.ownsRow.kept h.o2.1 h3 h.swap.ap, h.o2.2⟩, ?_⟩
  rcases h4 with h4 | h4
  · rw [h4]
    exact h.ap
  · rw [h4]
    refine .inr fun k => ?_
    have := (World.ownsRow.lt h.o2.1 _ k.symm).2
    omega
end

/-! ### What a client needs -/
/-- A need by value: a configuration, leases, a network, a key, a moment. -/
structure Nd where
  x : Cx
  A : Option Addr
  n : Nat
  c : Nat
  l : List L
  net : Int
  k : List UInt8
  now : Int
@[reducible] def Nd.v (d : Nd) : Value := .agg #[.int .i64 d.x.server, .int .i64 d.x.prob, .slice d.x.A d.x.n d.x.c, .slice d.A d.n d.c, .int .i64 d.net, .string (ba d.k), .int .i64 d.now]
@[reducible] def Nd.cs (d : Nd) : Array Value := #[.int .i64 d.x.server, .int .i64 d.x.prob, .slice d.x.A d.x.n d.x.c, .slice d.A d.n d.c, .int .i64 d.net, .string (ba d.k), .int .i64 d.now]
/-- It reads, below U; it is not great. -/
structure Nd.ok (U : Nat) (w : World) (d : Nd) : Prop where
  x : d.x.ok U w
  t : RdLs U w d.A d.n d.c d.l
  f : ∀ a ∈ d.l, Fk a
  s : Small d.x.cf
  k : d.k.length ≤ 9223372036854775807
theorem Nd.ok.below {U : Nat} {w w' : World} {d : Nd} (h : d.ok U w) (hb : Below U w w') : d.ok U w' := ⟨h.x.below hb, h.t.below hb, h.f, h.s, h.k⟩
theorem boxedN (w : World) (d : Nd) : ∃ w0, w0 = w.alloc (.cells d.cs 117) ∧ Cel w0 w.heap.size 117 d.cs ∧ Below w.heap.size w w0 ∧ w0.heap.size = w.heap.size + 1 := ⟨_, rfl, Cel.born _ _ _, alloc_more _ _, by simp⟩
theorem cel7N {w : World} {g : Nat} {t : TypeId} {d : Nd} (h : Cel w g t d.cs) : w.cell? ⟨g, 0, none⟩ = some (.int .i64 d.x.server) ∧ w.cell? ⟨g, 1, none⟩ = some (.int .i64 d.x.prob) ∧ w.cell? ⟨g, 2, none⟩ = some (.slice d.x.A d.x.n d.x.c) ∧
    w.cell? ⟨g, 3, none⟩ = some (.slice d.A d.n d.c) ∧ w.cell? ⟨g, 4, none⟩ = some (.int .i64 d.net) ∧ w.cell? ⟨g, 5, none⟩ = some (.string (ba d.k)) ∧ w.cell? ⟨g, 6, none⟩ = some (.int .i64 d.now) :=
  ⟨by rw [h.cell]; rfl, by rw [h.cell]; rfl, by rw [h.cell]; rfl, by rw [h.cell]; rfl, by rw [h.cell]; rfl, by rw [h.cell]; rfl, by rw [h.cell]; rfl⟩
theorem right_fair {d : Nd} (h1 : checkC d.x.cf = 0) (h2 : rightT d.l = true) (h3 : rightK d.k = true) (h4 : 0 ≤ d.net) (hl : d.x.cf.nets.length = d.x.n) : decide (FairA d.x.cf d.l d.net d.k) = decide (d.net < (d.x.n : Int)) := by
  refine decide_eq_decide.2 ⟨fun h => ?_, fun h => ⟨h1, of_decide_eq_true h2, h3, h4, ?_⟩⟩
  · rw [← hl]
    exact h.2.2.2.2
  · rwa [hl]
theorem right_not {d : Nd} (h : ¬ FairA d.x.cf d.l d.net d.k) : decide (FairA d.x.cf d.l d.net d.k) = false := decide_eq_false h
end Go.Proofs.YtoldppbakapohaaGreatDoor.Xw
end
/- What alloc's right, pooled and the smallest closure come to. Conditions: the configuration is small and the keys fit (Nd.ok). -/
section
set_option maxRecDepth 8000
namespace Go.Proofs.YtoldppbakapohaaGreatDoor.Xw
open Go.RowKit Co By Ky Rc Ew Jw La Tb Lw Cf Al Bw
open Vw (Cx RdPl layP atP FiR AdR KeR isI)
open Dw (ba ba_size ba_data ba_list alloc_more)

set_option maxHeartbeats 4000000 in
theorem right_any (d : Nd) (U : Nat) (w : World) (h : d.ok U w) (hU : U ≤ w.heap.size) : Calls Tryz.prog 69 #[d.v] w (isB (decide (FairA d.x.cf d.l d.net d.k)) w) := by
  obtain ⟨w0, hw0, hc0, hb0, hz⟩ := boxedN w d
  have HK := Lib.hid (fun W (hW : Below w.heap.size w W) => Vw.check_any d.x U W (h.x.below (hW.mono hU)) (Nat.le_trans hU hW.size) h.s)
  have HT := Lib.hid (fun W (hW : Below w.heap.size w W) => Bw.right_any d.A d.n d.c U d.l W (h.t.below (hW.mono hU)) (Nat.le_trans hU hW.size) h.f)
  have HY := Lib.hid (fun W => Kw.right_any (ba d.k) W (by rw [ba_size]; exact h.k))
  rw [ba_data] at HY
  have HL := Lib.hid h.x.nets
  have HB0 := Lib.hid hb0
  have HC0 := Lib.hid hc0
  have hmx : d.x.c ≤ 9223372036854775807 := h.x.rd.max
  have hcp : d.x.n ≤ d.x.c := h.x.rd.cap
  clear h hU hb0 hc0 hz
  by_cases h1 : checkC d.x.cf = 0
  · rw [h1] at HK
    cases h2 : rightT d.l with
    | false =>
      have HF := Lib.hid (right_not (d := d) fun q => by rw [show rightT d.l = true from decide_eq_true q.2.1] at h2; cases h2)
      rw [h2] at HT
      clear h1 h2
      go_enter Tryz.func69, Tryz.ntmps69
      go_wp2_with fail
      rw [← hw0]
      clear hw0
      obtain ⟨c0, c1, c2, c3, c4, c5, c6⟩ := cel7N HC0.out
      go_wp2_with fail
      refine (HK.out _ HB0.out).mono ?_
      rintro e w1 ⟨rfl, hb1⟩
      have HB1 := Lib.hid (HB0.out.trans (hb1.mono HB0.out.size))
      obtain ⟨c0, c1, c2, c3, c4, c5, c6⟩ := cel7N (HC0.out.below hb1 HC0.out.lt)
      have HC1 := Lib.hid (HC0.out.below hb1 HC0.out.lt)
      go_wp2_with fail
      refine (HT.out _ HB1.out).mono ?_
      rintro e w2 ⟨rfl, hb2⟩
      have HB2 := Lib.hid (HB1.out.trans (hb2.mono HB1.out.size))
      obtain ⟨c0, c1, c2, c3, c4, c5, c6⟩ := cel7N (HC1.out.below hb2 HC1.out.lt)
      go_wp2
      go_ret
      exact ⟨ret_bool HF.out.symm, HB2.out⟩
    | true =>
      rw [h2] at HT
      cases h3 : rightK d.k with
      | false =>
        have HF := Lib.hid (right_not (d := d) fun q => by rw [q.2.2.1] at h3; cases h3)
        rw [h3] at HY
        clear h1 h2 h3
        go_enter Tryz.func69, Tryz.ntmps69
        go_wp2_with fail
        rw [← hw0]
        clear hw0
        obtain ⟨c0, c1, c2, c3, c4, c5, c6⟩ := cel7N HC0.out
        go_wp2_with fail
        refine (HK.out _ HB0.out).mono ?_
        rintro e w1 ⟨rfl, hb1⟩
        have HB1 := Lib.hid (HB0.out.trans (hb1.mono HB0.out.size))
        obtain ⟨c0, c1, c2, c3, c4, c5, c6⟩ := cel7N (HC0.out.below hb1 HC0.out.lt)
        have HC1 := Lib.hid (HC0.out.below hb1 HC0.out.lt)
        go_wp2_with fail
        refine (HT.out _ HB1.out).mono ?_
        rintro e w2 ⟨rfl, hb2⟩
        have HB2 := Lib.hid (HB1.out.trans (hb2.mono HB1.out.size))
        obtain ⟨c0, c1, c2, c3, c4, c5, c6⟩ := cel7N (HC1.out.below hb2 HC1.out.lt)
        go_wp2_with fail
        refine (HY.out _).mono ?_
        rintro e w3 ⟨rfl, rfl⟩
        go_wp2
        go_ret
        exact ⟨ret_bool HF.out.symm, HB2.out⟩
      | true =>
        rw [h3] at HY
        by_cases h4 : 0 ≤ d.net
        · have HF := Lib.hid (right_fair (d := d) h1 h2 h3 h4 HL.out)
          have hz4 : decide (d.net ≥ 0) = true := decide_eq_true h4
          clear h1 h2 h3
          go_enter Tryz.func69, Tryz.ntmps69
          go_wp2_with fail
          rw [← hw0]
          clear hw0
          obtain ⟨c0, c1, c2, c3, c4, c5, c6⟩ := cel7N HC0.out
          go_wp2_with fail
          refine (HK.out _ HB0.out).mono ?_
          rintro e w1 ⟨rfl, hb1⟩
          have HB1 := Lib.hid (HB0.out.trans (hb1.mono HB0.out.size))
          obtain ⟨c0, c1, c2, c3, c4, c5, c6⟩ := cel7N (HC0.out.below hb1 HC0.out.lt)
          have HC1 := Lib.hid (HC0.out.below hb1 HC0.out.lt)
          go_wp2_with fail
          refine (HT.out _ HB1.out).mono ?_
          rintro e w2 ⟨rfl, hb2⟩
          have HB2 := Lib.hid (HB1.out.trans (hb2.mono HB1.out.size))
          obtain ⟨c0, c1, c2, c3, c4, c5, c6⟩ := cel7N (HC1.out.below hb2 HC1.out.lt)
          go_wp2_with fail
          refine (HY.out _).mono ?_
          rintro e w3 ⟨rfl, rfl⟩
          go_wp2
          go_ret
          exact ⟨ret_bool HF.out.symm, HB2.out⟩
        · have HF := Lib.hid (right_not (d := d) fun q => h4 q.2.2.2.1)
          have hz4 : decide (d.net ≥ 0) = false := decide_eq_false h4
          clear h1 h2 h3 h4
          go_enter Tryz.func69, Tryz.ntmps69
          go_wp2_with fail
          rw [← hw0]
          clear hw0
          obtain ⟨c0, c1, c2, c3, c4, c5, c6⟩ := cel7N HC0.out
          go_wp2_with fail
          refine (HK.out _ HB0.out).mono ?_
          rintro e w1 ⟨rfl, hb1⟩
          have HB1 := Lib.hid (HB0.out.trans (hb1.mono HB0.out.size))
          obtain ⟨c0, c1, c2, c3, c4, c5, c6⟩ := cel7N (HC0.out.below hb1 HC0.out.lt)
          have HC1 := Lib.hid (HC0.out.below hb1 HC0.out.lt)
          go_wp2_with fail
          refine (HT.out _ HB1.out).mono ?_
          rintro e w2 ⟨rfl, hb2⟩
          have HB2 := Lib.hid (HB1.out.trans (hb2.mono HB1.out.size))
          obtain ⟨c0, c1, c2, c3, c4, c5, c6⟩ := cel7N (HC1.out.below hb2 HC1.out.lt)
          go_wp2_with fail
          refine (HY.out _).mono ?_
          rintro e w3 ⟨rfl, rfl⟩
          go_wp2
          go_ret
          exact ⟨ret_bool HF.out.symm, HB2.out⟩
  · have HF := Lib.hid (right_not (d := d) fun q => h1 q.1)
    have hz1 : (checkC d.x.cf == 0) = false := by simpa using h1
    clear h1
    go_enter Tryz.func69, Tryz.ntmps69
    go_wp2_with fail
    rw [← hw0]
    clear hw0
    obtain ⟨c0, c1, c2, c3, c4, c5, c6⟩ := cel7N HC0.out
    go_wp2_with fail
    refine (HK.out _ HB0.out).mono ?_
    rintro e w1 ⟨rfl, hb1⟩
    have HB1 := Lib.hid (HB0.out.trans (hb1.mono HB0.out.size))
    obtain ⟨c0, c1, c2, c3, c4, c5, c6⟩ := cel7N (HC0.out.below hb1 HC0.out.lt)
    have HC1 := Lib.hid (HC0.out.below hb1 HC0.out.lt)
    go_wp2
    go_ret
    exact ⟨ret_bool HF.out.symm, HB1.out⟩
set_option maxHeartbeats 1000000 in
theorem another_any (h a : Int) (g : Nat) (w : World) (hc : w.cell? ⟨g, 0, none⟩ = some (.int .i64 a)) : Calls Tryz.prog 120 #[.int .i64 h, .pointer (some ⟨g, 0, none⟩)] w (isB (decide (h ≠ a)) w) := by
  have H : Hid ((h != a) = decide (h ≠ a)) := by show _ = _; by_cases k : h = a <;> simp [k]
  go_enter Tryz.func120, Tryz.ntmps120
  go_wp2
  go_ret
  exact ⟨ret_bool H.out, Below.refl _ _⟩
/-- Is an address in a pool of the network, and not reserved for another client? -/
def poolB (c : Cf) (net : Int) (k : List UInt8) (a : Int) : Bool := inPoolC c net a && (!(keeperC c a).2 || decide ((keeperC c a).1 = k))
theorem keeper_any (x : Cx) (a : Int) (U : Nat) (w : World) (h : x.ok U w) (hU : U ≤ w.heap.size) (hS : Small x.cf) : Calls Tryz.prog 171 #[x.v, .int .i64 a] w (KeR (keeperC x.cf a) w) := by
  rw [← Vw.keeper_doc]
  exact Vw.keeperX_any x a U w h hU hS
theorem kept_any (x : Cx) (net : Int) (k : List UInt8) (U : Nat) (w : World) (h : x.ok U w) (hU : U ≤ w.heap.size) (hS : Small x.cf) : Calls Tryz.prog 117 #[x.v, .int .i64 net, .string (ba k)] w (AdR (keptC x.cf net k) w) := by
  rw [← Vw.kept_doc]
  exact Vw.keptX_any x net k U w h hU hS
theorem pool_any (x : Cx) (net a : Int) (U : Nat) (w : World) (h : x.ok U w) (hU : U ≤ w.heap.size) (hS : Small x.cf) : Calls Tryz.prog 172 #[x.v, .int .i64 net, .int .i64 a] w (isB (inPoolC x.cf net a) w) := by
  rw [← Vw.pool_doc]
  exact Vw.inPoolX_any x net a U w h hU hS
theorem find_any (x : Cx) (a : Int) (U : Nat) (w : World) (h : x.ok U w) (hU : U ≤ w.heap.size) (hS : Small x.cf) : Calls Tryz.prog 115 #[x.v, .int .i64 a] w (FiR (findC x.cf a) w) := by
  rw [← Vw.find_doc]
  exact Vw.findX_any x a U w h hU hS
set_option maxHeartbeats 4000000 in
theorem pooled_any (d : Nd) (a : Int) (U : Nat) (w : World) (h : d.ok U w) (hU : U ≤ w.heap.size) : Calls Tryz.prog 122 #[d.v, .int .i64 a] w (isB (poolB d.x.cf d.net d.k a) w) := by
  obtain ⟨w0, hw0, hc0, hb0, hz⟩ := boxedN w d
  have HK := Lib.hid (fun W (hW : Below w.heap.size w W) => keeper_any d.x a U W (h.x.below (hW.mono hU)) (Nat.le_trans hU hW.size) h.s)
  have HP := Lib.hid (fun W (hW : Below w.heap.size w W) => pool_any d.x d.net a U W (h.x.below (hW.mono hU)) (Nat.le_trans hU hW.size) h.s)
  have HB0 := Lib.hid hb0
  have HC0 := Lib.hid hc0
  clear h hU hb0 hc0 hz
  unfold poolB
  generalize inPoolC d.x.cf d.net a = p at HP ⊢
  generalize keeperC d.x.cf a = u at HK ⊢
  obtain ⟨u1, u2⟩ := u
  cases p with
  | false =>
    have HF : Hid ((false && (!u2 || decide (u1 = d.k))) = false) := by show _ = _; rfl
    go_enter Tryz.func122, Tryz.ntmps122
    go_wp2_with fail
    rw [← hw0]
    clear hw0
    obtain ⟨c0, c1, c2, c3, c4, c5, c6⟩ := cel7N HC0.out
    go_wp2_with fail
    refine (HK.out _ HB0.out).mono ?_
    rintro e w1 ⟨rfl, hb1⟩
    have HB1 := Lib.hid (HB0.out.trans (hb1.mono HB0.out.size))
    obtain ⟨c0, c1, c2, c3, c4, c5, c6⟩ := cel7N (HC0.out.below hb1 HC0.out.lt)
    have HC1 := Lib.hid (HC0.out.below hb1 HC0.out.lt)
    go_wp2_with fail
    refine (HP.out _ HB1.out).mono ?_
    rintro e w2 ⟨rfl, hb2⟩
    obtain ⟨c0, c1, c2, c3, c4, c5, c6⟩ := cel7N (HC1.out.below hb2 HC1.out.lt)
    go_wp2
    go_ret
    exact ⟨ret_bool HF.out.symm, HB1.out.trans (hb2.mono HB1.out.size)⟩
  | true =>
    cases u2 with
    | false =>
      have HF : Hid ((true && (!false || decide (u1 = d.k))) = true) := by show _ = _; rfl
      go_enter Tryz.func122, Tryz.ntmps122
      go_wp2_with fail
      rw [← hw0]
      clear hw0
      obtain ⟨c0, c1, c2, c3, c4, c5, c6⟩ := cel7N HC0.out
      go_wp2_with fail
      refine (HK.out _ HB0.out).mono ?_
      rintro e w1 ⟨rfl, hb1⟩
      have HB1 := Lib.hid (HB0.out.trans (hb1.mono HB0.out.size))
      obtain ⟨c0, c1, c2, c3, c4, c5, c6⟩ := cel7N (HC0.out.below hb1 HC0.out.lt)
      have HC1 := Lib.hid (HC0.out.below hb1 HC0.out.lt)
      go_wp2_with fail
      refine (HP.out _ HB1.out).mono ?_
      rintro e w2 ⟨rfl, hb2⟩
      obtain ⟨c0, c1, c2, c3, c4, c5, c6⟩ := cel7N (HC1.out.below hb2 HC1.out.lt)
      go_wp2
      go_ret
      exact ⟨ret_bool HF.out.symm, HB1.out.trans (hb2.mono HB1.out.size)⟩
    | true =>
      by_cases hq : u1 = d.k
      · have HF : Hid ((true && (!true || decide (u1 = d.k))) = true) := by show _ = _; rw [decide_eq_true hq]; rfl
        have hqz := beq_key hq
        clear hq
        go_enter Tryz.func122, Tryz.ntmps122
        go_wp2_with fail
        rw [← hw0]
        clear hw0
        obtain ⟨c0, c1, c2, c3, c4, c5, c6⟩ := cel7N HC0.out
        go_wp2_with fail
        refine (HK.out _ HB0.out).mono ?_
        rintro e w1 ⟨rfl, hb1⟩
        have HB1 := Lib.hid (HB0.out.trans (hb1.mono HB0.out.size))
        obtain ⟨c0, c1, c2, c3, c4, c5, c6⟩ := cel7N (HC0.out.below hb1 HC0.out.lt)
        have HC1 := Lib.hid (HC0.out.below hb1 HC0.out.lt)
        go_wp2_with fail
        refine (HP.out _ HB1.out).mono ?_
        rintro e w2 ⟨rfl, hb2⟩
        obtain ⟨c0, c1, c2, c3, c4, c5, c6⟩ := cel7N (HC1.out.below hb2 HC1.out.lt)
        go_wp2
        go_ret
        exact ⟨ret_bool HF.out.symm, HB1.out.trans (hb2.mono HB1.out.size)⟩
      · have HF : Hid ((true && (!true || decide (u1 = d.k))) = false) := by show _ = _; rw [decide_eq_false hq]; rfl
        have hqz := bne_key hq
        clear hq
        go_enter Tryz.func122, Tryz.ntmps122
        go_wp2_with fail
        rw [← hw0]
        clear hw0
        obtain ⟨c0, c1, c2, c3, c4, c5, c6⟩ := cel7N HC0.out
        go_wp2_with fail
        refine (HK.out _ HB0.out).mono ?_
        rintro e w1 ⟨rfl, hb1⟩
        have HB1 := Lib.hid (HB0.out.trans (hb1.mono HB0.out.size))
        obtain ⟨c0, c1, c2, c3, c4, c5, c6⟩ := cel7N (HC0.out.below hb1 HC0.out.lt)
        have HC1 := Lib.hid (HC0.out.below hb1 HC0.out.lt)
        go_wp2_with fail
        refine (HP.out _ HB1.out).mono ?_
        rintro e w2 ⟨rfl, hb2⟩
        obtain ⟨c0, c1, c2, c3, c4, c5, c6⟩ := cel7N (HC1.out.below hb2 HC1.out.lt)
        go_wp2
        go_ret
        exact ⟨ret_bool HF.out.symm, HB1.out.trans (hb2.mono HB1.out.size)⟩
end Go.Proofs.YtoldppbakapohaaGreatDoor.Xw
end
/- What alloc.leased comes to: two rows of the call's own. Conditions: the configuration is small and the keys fit (Nd.ok). -/
section
set_option maxRecDepth 8000
namespace Go.Proofs.YtoldppbakapohaaGreatDoor.Xw
open Go.RowKit Co By Ky Rc Ew Jw La Tb Lw Cf Al Bw
open Vw (Cx RdPl layP atP FiR AdR KeR isI)
open Dw (ba ba_size ba_data ba_list alloc_more)

def heldL (d : Nd) : List Int := ((ofT d.l d.k).filter fun a => inA d.x.cf d.net a.addr && holdsT a d.now).map fun a => a.addr
def restL (d : Nd) : List Int := ((ofT d.l d.k).filter fun a => inA d.x.cf d.net a.addr && !holdsT a d.now).map fun a => a.addr
def LdR (w : World) (l1 l2 : List Int) (e : Ending) (w' : World) : Prop := ∃ A1 n1 c1 A2 n2 c2, e = .returned (.tuple #[.slice A1 n1 c1, .slice A2 n2 c2]) ∧ OwnZ w.heap.size w' A1 n1 c1 l1 ∧ OwnZ w.heap.size w' A2 n2 c2 l2 ∧ Below w.heap.size w w'
theorem map_put {t : List L} {q : L → Bool} {k : Nat} {a : L} (ha : t[k]? = some a) (hq : q a = true) : ((t.take (k + 1)).filter q).map (fun a => a.addr) = ((t.take k).filter q).map (fun a => a.addr) ++ [a.addr] := by
  rw [← filter_put rfl ha hq, List.map_append]
  rfl
theorem map_skip {t : List L} {q : L → Bool} {k : Nat} {a : L} (ha : t[k]? = some a) (hq : q a = false) : ((t.take (k + 1)).filter q).map (fun a => a.addr) = ((t.take k).filter q).map (fun a => a.addr) := by
  rw [← filter_skip rfl ha hq]
set_option maxHeartbeats 4000000 in
theorem leased_any (d : Nd) (U : Nat) (w : World) (h : d.ok U w) (hU : U ≤ w.heap.size) : Calls Tryz.prog 70 #[d.v] w (LdR w (heldL d) (restL d)) := by
  obtain ⟨w0, hw0, hc0, hb0, hz⟩ := boxedN w d
  have HO := Lib.hid (fun W (hW : Below w.heap.size w W) => Bw.of_any d.A d.n d.c U d.l d.k W (h.t.below (hW.mono hU)) (Nat.le_trans hU hW.size) h.f)
  have HF := Lib.hid (fun a W (hW : Below w.heap.size w W) => find_any d.x a U W (h.x.below (hW.mono hU)) (Nat.le_trans hU hW.size) h.s)
  have HB0 := Lib.hid hb0
  have HC0 := Lib.hid hc0
  clear h hU hb0 hc0 hz
  go_enter Tryz.func70, Tryz.ntmps70
  go_wp2_with fail
  rw [← hw0]
  clear hw0
  obtain ⟨c0, c1, c2, c3, c4, c5, c6⟩ := cel7N HC0.out
  go_wp2_with fail
  refine (HO.out _ HB0.out).mono ?_
  rintro e w1 ⟨A, n, c, rfl, ho, hb1⟩
  have HB1 := Lib.hid (HB0.out.trans (hb1.mono HB0.out.size))
  have HC1 := Lib.hid (HC0.out.below hb1 HC0.out.lt)
  have hl := ho.len
  have hn : n ≤ 64 := by rw [← hl]; exact Nat.le_trans (List.length_filter_le _ _) (good_len _)
  have HR := Lib.hid ho.rd
  have hcp := ho.rd.cap
  have hmx := ho.rd.max
  have HL := Lib.hid hl
  clear ho hl hb1 HO HC0 c0 c1 c2 c3 c4 c5 c6
  have HE1 : Hid (heldL d = ((ofT d.l d.k).filter fun a => inA d.x.cf d.net a.addr && holdsT a d.now).map fun a => a.addr) := rfl
  have HE2 : Hid (restL d = ((ofT d.l d.k).filter fun a => inA d.x.cf d.net a.addr && !holdsT a d.now).map fun a => a.addr) := rfl
  generalize ofT d.l d.k = t at HR HL HE1 HE2
  go_wp2
  go_loopw [2, 3, 15] (fun v2 v3 i wr => ∃ (j : Nat) (A1 A2 : Option Addr) (n1 c1 n2 c2 : Nat), j ≤ n ∧ n1 ≤ j ∧ n2 ≤ j ∧ i = .int .i64 j ∧ v2 = .slice A1 n1 c1 ∧ v3 = .slice A2 n2 c2 ∧ Hid (Below w1.heap.size w1 wr) ∧
    Hid (Two layZ 3 w1.heap.size wr A1 A2 n1 c1 n2 c2 (((t.take j).filter fun a => inA d.x.cf d.net a.addr && holdsT a d.now).map fun a => a.addr) (((t.take j).filter fun a => inA d.x.cf d.net a.addr && !holdsT a d.now).map fun a => a.addr))) (fun _ _ i _ => n - (intOf i).toNat)
  case atStart => exact ⟨0, none, none, 0, 0, 0, 0, by omega, Nat.le_refl _, Nat.le_refl _, rfl, rfl, rfl, Below.refl _ _, Two.nil⟩
  case round =>
    obtain ⟨j, A1, A2, n1, c1, n2, c2, hj, hn1, hn2, rfl, rfl, rfl, HB, HT⟩ := hrel
    by_cases hlt : j < n
    · obtain ⟨b, o, a, rfl, hbU, HA, d0, d1, d2, d3⟩ := atL (HR.out.below HB.out) hlt
      have hkz : (j : Int) < (n : Int) := by omega
      obtain ⟨wL, hwL⟩ : ∃ wL, wL = wr.alloc (.cells (lcs a) 35) := ⟨_, rfl⟩
      have hc4 : Cel wL wr.heap.size 35 (lcs a) := by rw [hwL]; exact Cel.born _ _ _
      have hbL : Below wr.heap.size wr wL := by rw [hwL]; exact alloc_more _ _
      have hs1 := HC1.out.lt
      have hs2 := HB.out.size
      have hcw := HC1.out.below HB.out hs1
      have HBL := Lib.hid (HB.out.trans (hbL.mono hs2))
      have HCL := Lib.hid (hcw.below hbL hcw.lt)
      have HTL := Lib.hid (HT.out.below hbL)
      have HFA := Lib.hid (HF.out a.addr wL (HB1.out.trans (HBL.out.mono HB1.out.size)))
      have HIN : Hid (inA d.x.cf d.net a.addr = ((findC d.x.cf a.addr).2.2 && decide ((findC d.x.cf a.addr).1 = d.net))) := rfl
      have HC4 := Lib.hid hc4
      have HH := Lib.hid (fun W => Bw.holds_any a d.now W)
      generalize findC d.x.cf a.addr = f at HFA HIN
      obtain ⟨f1, f2, f3⟩ := f
      clear hcw hc4 hbL hlt hs1
      cases f3 with
      | false =>
        have HI : Hid (inA d.x.cf d.net a.addr = false) := HIN.out
        clear HIN HH
        go_upto_region 4 with fail
        rw [← hwL]
        clear hwL d0 d1 d2 d3
        obtain ⟨c0, c1', c2', c3, c4, c5, c6⟩ := cel7N HCL.out
        obtain ⟨y0, y1, y2, y3⟩ := cel4L HC4.out
        go_wp2_with fail
        clear c0 c1' c2' c3 c4 c5 c6 y0 y1 y2 y3
        refine HFA.out.mono ?_
        rintro e w2 ⟨rfl, hb2⟩
        have HB2 := Lib.hid (HBL.out.trans (hb2.mono HBL.out.size))
        have HT2 := Lib.hid (HTL.out.below hb2)
        obtain ⟨c0, c1', c2', c3, c4, c5, c6⟩ := cel7N (HCL.out.below hb2 HCL.out.lt)
        obtain ⟨y0, y1, y2, y3⟩ := cel4L (HC4.out.below hb2 HC4.out.lt)
        have H1 := Lib.hid (map_skip (q := fun a => inA d.x.cf d.net a.addr && holdsT a d.now) HA.out (by show (inA d.x.cf d.net a.addr && _) = false; rw [HI.out]; rfl))
        have H2 := Lib.hid (map_skip (q := fun a => inA d.x.cf d.net a.addr && !holdsT a d.now) HA.out (by show (inA d.x.cf d.net a.addr && _) = false; rw [HI.out]; rfl))
        clear HA
        go_wp2
        go_roundw
        case rel => exact ⟨j + 1, A1, A2, n1, c1, n2, c2, by omega, by omega, by omega, by go_num, rfl, rfl, HB2.out, by rw [H1.out, H2.out]; exact HT2.out⟩
        case measure => simp [intOf]; omega
      | true =>
        by_cases hf : f1 = d.net
        · have HI : Hid (inA d.x.cf d.net a.addr = true) := HIN.out.trans (by rw [decide_eq_true hf]; rfl)
          have hfz : (f1 != d.net) = false := by simpa using hf
          clear HIN hf
          cases hh : holdsT a d.now with
          | true =>
            rw [hh] at HH
            go_upto_region 4 with fail
            rw [← hwL]
            clear hwL d0 d1 d2 d3
            obtain ⟨c0, c1', c2', c3, c4, c5, c6⟩ := cel7N HCL.out
            obtain ⟨y0, y1, y2, y3⟩ := cel4L HC4.out
            go_wp2_with fail
            clear c0 c1' c2' c3 c4 c5 c6 y0 y1 y2 y3
            refine HFA.out.mono ?_
            rintro e w2 ⟨rfl, hb2⟩
            have HB2 := Lib.hid (HBL.out.trans (hb2.mono HBL.out.size))
            have HT2 := Lib.hid (HTL.out.below hb2)
            obtain ⟨c0, c1', c2', c3, c4, c5, c6⟩ := cel7N (HCL.out.below hb2 HCL.out.lt)
            obtain ⟨y0, y1, y2, y3⟩ := cel4L (HC4.out.below hb2 HC4.out.lt)
            have HC5 := Lib.hid (HC4.out.below hb2 HC4.out.lt)
            clear HC4 hb2
            have HC4 := HC5
            clear HC5
            have H1 := Lib.hid (map_put (q := fun a => inA d.x.cf d.net a.addr && holdsT a d.now) HA.out (by show (inA d.x.cf d.net a.addr && holdsT a d.now) = true; rw [HI.out, hh]; rfl))
            have H2 := Lib.hid (map_skip (q := fun a => inA d.x.cf d.net a.addr && !holdsT a d.now) HA.out (by show (inA d.x.cf d.net a.addr && !holdsT a d.now) = false; rw [HI.out, hh]; rfl))
            clear HA hh
            go_wp2_with fail
            refine (HH.out _).mono ?_
            rintro e w3 ⟨rfl, hb3⟩
            have HB3 := Lib.hid (HB2.out.trans (hb3.mono HB2.out.size))
            obtain ⟨y0, y1, y2, y3⟩ := cel4L (HC4.out.below hb3 HC4.out.lt)
            have htw := (HT2.out.below hb3)
            have hlit := litZ w3 a.addr
            have hba : Below w3.heap.size w3 (w3.alloc (.cells #[.int .i64 a.addr] 3)) := alloc_more _ _
            have htw2 := htw.below hba
            have hown := htw2.o1
            have hsz := HB3.out.size
            clear htw HT HT2 HH hb3 HC4
            go_wp2_with (at_builtin; refine wpList_appG intZP (by decide) (by decide) (by kernel_rfl) rfl (.tmp 40) (.tmp 43) rfl rfl hown rfl hlit (by omega) (by simp; omega) ?_; intro A5 c5 w5 happ)
            have HX := Lib.hid (htw2.app happ)
            have HB5 := Lib.hid (HB3.out.trans ((hba.mono hsz).trans happ.2.1))
            clear happ hown htw2 hlit hba hsz
            go_roundw
            case rel => exact ⟨j + 1, A5, A2, n1 + 1, c5, n2, c2, by omega, by omega, by omega, by go_num, rfl, rfl, HB5.out, by rw [H1.out, H2.out]; exact HX.out⟩
            case measure => simp [intOf]; omega
          | false =>
            rw [hh] at HH
            go_upto_region 4 with fail
            rw [← hwL]
            clear hwL d0 d1 d2 d3
            obtain ⟨c0, c1', c2', c3, c4, c5, c6⟩ := cel7N HCL.out
            obtain ⟨y0, y1, y2, y3⟩ := cel4L HC4.out
            go_wp2_with fail
            clear c0 c1' c2' c3 c4 c5 c6 y0 y1 y2 y3
            refine HFA.out.mono ?_
            rintro e w2 ⟨rfl, hb2⟩
            have HB2 := Lib.hid (HBL.out.trans (hb2.mono HBL.out.size))
            have HT2 := Lib.hid (HTL.out.below hb2)
            obtain ⟨c0, c1', c2', c3, c4, c5, c6⟩ := cel7N (HCL.out.below hb2 HCL.out.lt)
            obtain ⟨y0, y1, y2, y3⟩ := cel4L (HC4.out.below hb2 HC4.out.lt)
            have HC5 := Lib.hid (HC4.out.below hb2 HC4.out.lt)
            clear HC4 hb2
            have HC4 := HC5
            clear HC5
            have H1 := Lib.hid (map_skip (q := fun a => inA d.x.cf d.net a.addr && holdsT a d.now) HA.out (by show (inA d.x.cf d.net a.addr && holdsT a d.now) = false; rw [HI.out, hh]; rfl))
            have H2 := Lib.hid (map_put (q := fun a => inA d.x.cf d.net a.addr && !holdsT a d.now) HA.out (by show (inA d.x.cf d.net a.addr && !holdsT a d.now) = true; rw [HI.out, hh]; rfl))
            clear HA hh
            go_wp2_with fail
            refine (HH.out _).mono ?_
            rintro e w3 ⟨rfl, hb3⟩
            have HB3 := Lib.hid (HB2.out.trans (hb3.mono HB2.out.size))
            obtain ⟨y0, y1, y2, y3⟩ := cel4L (HC4.out.below hb3 HC4.out.lt)
            have htw := (HT2.out.below hb3)
            have hlit := litZ w3 a.addr
            have hba : Below w3.heap.size w3 (w3.alloc (.cells #[.int .i64 a.addr] 3)) := alloc_more _ _
            have htw2 := htw.below hba
            have hown := htw2.o2
            have hsz := HB3.out.size
            clear htw HT HT2 HH hb3 HC4
            go_wp2_with (at_builtin; refine wpList_appG intZP (by decide) (by decide) (by kernel_rfl) rfl (.tmp 45) (.tmp 48) rfl rfl hown rfl hlit (by omega) (by simp; omega) ?_; intro A5 c5 w5 happ)
            have HX := Lib.hid ((htw2.swap.app happ).swap)
            have HB5 := Lib.hid (HB3.out.trans ((hba.mono hsz).trans happ.2.1))
            clear happ hown htw2 hlit hba hsz
            go_roundw
            case rel => exact ⟨j + 1, A1, A5, n1, c1, n2 + 1, c5, by omega, by omega, by omega, by go_num, rfl, rfl, HB5.out, by rw [H1.out, H2.out]; exact HX.out⟩
            case measure => simp [intOf]; omega
        · have HI : Hid (inA d.x.cf d.net a.addr = false) := HIN.out.trans (by rw [decide_eq_false hf]; rfl)
          have hfz : (f1 != d.net) = true := by simpa using hf
          clear HIN hf HH
          go_upto_region 4 with fail
          rw [← hwL]
          clear hwL d0 d1 d2 d3
          obtain ⟨c0, c1', c2', c3, c4, c5, c6⟩ := cel7N HCL.out
          obtain ⟨y0, y1, y2, y3⟩ := cel4L HC4.out
          go_wp2_with fail
          clear c0 c1' c2' c3 c4 c5 c6 y0 y1 y2 y3
          refine HFA.out.mono ?_
          rintro e w2 ⟨rfl, hb2⟩
          have HB2 := Lib.hid (HBL.out.trans (hb2.mono HBL.out.size))
          have HT2 := Lib.hid (HTL.out.below hb2)
          obtain ⟨c0, c1', c2', c3, c4, c5, c6⟩ := cel7N (HCL.out.below hb2 HCL.out.lt)
          obtain ⟨y0, y1, y2, y3⟩ := cel4L (HC4.out.below hb2 HC4.out.lt)
          have H1 := Lib.hid (map_skip (q := fun a => inA d.x.cf d.net a.addr && holdsT a d.now) HA.out (by show (inA d.x.cf d.net a.addr && _) = false; rw [HI.out]; rfl))
          have H2 := Lib.hid (map_skip (q := fun a => inA d.x.cf d.net a.addr && !holdsT a d.now) HA.out (by show (inA d.x.cf d.net a.addr && _) = false; rw [HI.out]; rfl))
          clear HA
          go_wp2
          go_roundw
          case rel => exact ⟨j + 1, A1, A2, n1, c1, n2, c2, by omega, by omega, by omega, by go_num, rfl, rfl, HB2.out, by rw [H1.out, H2.out]; exact HT2.out⟩
          case measure => simp [intOf]; omega
    · obtain rfl : j = n := by omega
      have HJ : Hid (t.take j = t) := List.take_of_length_le (by rw [HL.out]; exact Nat.le_refl _)
      have hkz : ¬ (j : Int) < (j : Int) := by omega
      clear hlt
      rw [HJ.out] at HT
      go_wp2
      go_ret2
      rw [HE1.out, HE2.out]
      exact ⟨A1, n1, c1, A2, n2, c2, rfl, HT.out.o1.mono HB1.out.size, HT.out.o2.mono HB1.out.size, HB1.out.trans (HB.out.mono HB1.out.size)⟩
end Go.Proofs.YtoldppbakapohaaGreatDoor.Xw
end
/- What alloc.try comes to, for whatever function is handed to it that answers for each address. Conditions: each range's numbers are in order and not far apart. -/
section
set_option maxRecDepth 8000
namespace Go.Proofs.YtoldppbakapohaaGreatDoor.Xw
open Go.RowKit Co By Ky Rc Ew Jw La Tb Lw Cf Al
open Vw (Cx RdPl layP atP AdR)
open Dw (ba ba_size ba_data ba_list alloc_more)

/-- The numbers of a range are in order and not far apart. -/
structure Okr (p : Pl) : Prop where
  lo : -9223372036854775808 ≤ p.first
  ord : p.first ≤ p.last
  hi : p.last ≤ 9223372036854775807
  near : p.last - p.first < 4294967296
section
variable {l : List Pl} {q : Int → Bool} {j k : Nat} {p : Pl}
theorem addrs_at (h : p.first + (k : Int) ≤ p.last) : ∃ r, addrsP p = ((List.range k).map fun n : Nat => p.first + (n : Int)) ++ (p.first + (k : Int)) :: r := by
  unfold addrsP
  obtain ⟨m, hm⟩ : ∃ m, m = (p.last + 1 - p.first).toNat := ⟨_, rfl⟩
  have hk : k < m := by omega
  rw [← hm]
  have e : List.range m = List.range k ++ k :: (List.range m).drop (k + 1) := by
    have e1 : (List.range m).take k = List.range k := by rw [List.take_range, Nat.min_eq_left (by omega)]
    have e2 : (List.range m).drop k = k :: (List.range m).drop (k + 1) := by
      rw [List.drop_eq_getElem_cons (by rw [List.length_range]; exact hk), List.getElem_range]
    rw [← e1, ← e2, List.take_append_drop]
  rw [e, List.map_append, List.map_cons]
  exact ⟨_, rfl⟩
theorem flat_at (hp : l[j]? = some p) : l.flatMap addrsP = (l.take j).flatMap addrsP ++ (addrsP p ++ (l.drop (j + 1)).flatMap addrsP) := by
  obtain ⟨hj, e⟩ := List.getElem?_eq_some_iff.1 hp
  have e2 : l = l.take j ++ p :: l.drop (j + 1) := by rw [← e, ← List.drop_eq_getElem_cons hj, List.take_append_drop]
  have e3 : l.flatMap addrsP = (l.take j ++ p :: l.drop (j + 1)).flatMap addrsP := congrArg (fun x => x.flatMap addrsP) e2
  rw [e3, List.flatMap_append, List.flatMap_cons]
theorem try_hit (hp : l[j]? = some p) (h1 : ∀ a ∈ (l.take j).flatMap addrsP, q a = false) (h2 : ∀ i : Nat, i < k → q (p.first + (i : Int)) = false) (h3 : p.first + (k : Int) ≤ p.last) (h4 : q (p.first + (k : Int)) = true) : (l.flatMap addrsP).find? q = some (p.first + (k : Int)) := by
  obtain ⟨r, hr⟩ := addrs_at h3
  rw [List.find?_eq_some_iff_append]
  refine ⟨h4, (l.take j).flatMap addrsP ++ ((List.range k).map fun n : Nat => p.first + (n : Int)), r ++ (l.drop (j + 1)).flatMap addrsP, ?_, fun a ha => ?_⟩
  · rw [flat_at hp, hr]
    simp
  · rcases List.mem_append.1 ha with ha | ha
    · rw [h1 a ha]; rfl
    · obtain ⟨i, hi, rfl⟩ := List.mem_map.1 ha
      rw [h2 i (List.mem_range.1 hi)]; rfl
theorem try_next (hp : l[j]? = some p) (h1 : ∀ a ∈ (l.take j).flatMap addrsP, q a = false) (h2 : ∀ i : Nat, i < k → q (p.first + (i : Int)) = false) (h3 : p.last < p.first + (k : Int)) : ∀ a ∈ (l.take (j + 1)).flatMap addrsP, q a = false := by
  intro a ha
  rw [take_nextL hp, List.flatMap_append] at ha
  rcases List.mem_append.1 ha with ha | ha
  · exact h1 a ha
  · rw [List.flatMap_cons, List.flatMap_nil, List.append_nil] at ha
    unfold addrsP at ha
    obtain ⟨i, hi, rfl⟩ := List.mem_map.1 ha
    exact h2 i (by have := List.mem_range.1 hi; omega)
theorem try_end (h1 : ∀ a ∈ (l.take l.length).flatMap addrsP, q a = false) : (l.flatMap addrsP).find? q = none := by
  rw [List.take_length] at h1
  exact List.find?_eq_none.2 fun a ha k => by rw [h1 a ha] at k; cases k
end
theorem cel2 {w : World} {g : Nat} {t : TypeId} {a b : Value} (h : Cel w g t #[a, b]) : w.cell? ⟨g, 0, none⟩ = some a ∧ w.cell? ⟨g, 1, none⟩ = some b := ⟨by rw [h.cell]; rfl, by rw [h.cell]; rfl⟩
set_option maxHeartbeats 4000000 in
theorem try_any (K : Nat) (hE : ∀ args W, (callFunc K args).run Tryz.prog W = .ok (.enter K args) W) (bs : Array Value) (q : Int → Bool) (A : Option Addr) (n c U : Nat) (l : List Pl) (w : World) (h : RdPl U w A n c l) (hU : U ≤ w.heap.size) (hl : ∀ p ∈ l, Okr p)
    (HK : ∀ a W, Below w.heap.size w W → Calls Tryz.prog K (#[.int .i64 a] ++ bs) W (isB (q a) W)) :
    Calls Tryz.prog 199 #[.slice A n c, .func (.func K) #[] bs] w (AdR (ansI ((l.flatMap addrsP).find? q)) w) := by
  have HX := Lib.hid h
  have HL := Lib.hid h.len
  have HKK := Lib.hid HK
  have HEN := Lib.hid hE
  have HUU := Lib.hid hU
  have HOK := Lib.hid hl
  have hcp := h.cap
  have hmx := h.max
  obtain ⟨r, hr⟩ : ∃ r, r = (l.flatMap addrsP).find? q := ⟨_, rfl⟩
  have HRR := Lib.hid hr
  rw [← hr]
  clear h HK hE hU hl hr
  go_enter Tryz.func199, Tryz.ntmps199
  go_wp2
  go_step3
  go_wp2
  go_step3
  go_wp2
  go_loopg [6, 7, 14] n (fun g v6 v7 i wr => ∃ j : Nat, j + g = n ∧ v6 = .int .i64 0 ∧ v7 = .bool false ∧ i = .int .i64 j ∧ Hid (∀ a ∈ (l.take j).flatMap addrsP, q a = false) ∧ Hid (Below w.heap.size w wr))
  case atStart => exact ⟨0, by omega, rfl, rfl, rfl, fun a ha => by simp at ha, Below.refl _ _⟩
  case round =>
    obtain ⟨j, hjg, rfl, rfl, rfl, HE, HB⟩ := hrel
    cases gk with
    | succ g =>
      have hlt : j < n := by omega
      obtain ⟨b, o, p, rfl, hbU, HA, d0, d1⟩ := atP (HX.out.below (HB.out.mono HUU.out)) hlt
      have hkz : (j : Int) < (n : Int) := by omega
      obtain ⟨hlo, hord, hhi, hnear⟩ := HOK.out p (List.mem_of_getElem? HA.out)
      obtain ⟨wB, hwB⟩ : ∃ wB, wB = wr.alloc (.cells #[.int .i64 p.first, .int .i64 p.last] 124) := ⟨_, rfl⟩
      have HC := Lib.hid (show Cel wB wr.heap.size 124 #[.int .i64 p.first, .int .i64 p.last] by rw [hwB]; exact Cel.born _ _ _)
      have HBB := Lib.hid (show Below w.heap.size w wB by rw [hwB]; exact HB.out.trans ((alloc_more _ _).mono HB.out.size))
      obtain ⟨m, hm⟩ : ∃ m : Nat, (m : Int) = p.last - p.first + 1 := ⟨(p.last - p.first + 1).toNat, by omega⟩
      go_upto_region 5 with fail
      rw [← hwB]
      clear hwB d0 d1
      obtain ⟨y0, y1⟩ := cel2 HC.out
      go_wp2
      go_loopg [6, 7, 24] m (fun g2 v6 v7 i wi => ∃ k : Nat, k + g2 = m ∧ v6 = .int .i64 0 ∧ v7 = .bool false ∧ i = .int .i64 k ∧ Hid (∀ i : Nat, i < k → q (p.first + (i : Int)) = false) ∧ Hid (Below wB.heap.size wB wi))
      case atStart => exact ⟨0, by omega, rfl, rfl, rfl, fun i hi => by omega, Below.refl _ _⟩
      case round =>
        obtain ⟨k, hk, rfl, rfl, rfl, HI, HW⟩ := hrel
        obtain ⟨y0, y1⟩ := cel2 (HC.out.below HW.out HC.out.lt)
        have HB2 := Lib.hid (HBB.out.trans (HW.out.mono HBB.out.size))
        have HCL := Lib.hid (HKK.out (p.first + (k : Int)) wr HB2.out)
        cases gk with
        | succ g2 =>
          have hkm : (k : Int) < p.last - p.first + 1 := by omega
          cases hq : q (p.first + (k : Int)) with
          | true =>
            rw [hq] at HCL
            have HT := Lib.hid (try_hit HA.out HE.out HI.out (by omega) hq)
            clear hq HI HE
            go_wp2_with fail
            rw [HEN.out, Oper.upon_enter]
            refine HCL.out.mono ?_
            rintro e w3 ⟨rfl, hb3⟩
            go_wp2
            go_ret2
            rw [HRR.out, HT.out]
            exact ⟨rfl, HB2.out.trans (hb3.mono HB2.out.size)⟩
          | false =>
            rw [hq] at HCL
            have HT : Hid (∀ i : Nat, i < k + 1 → q (p.first + (i : Int)) = false) := fun i hi => by
              rcases Nat.lt_or_ge i k with h | h
              · exact HI.out i h
              · obtain rfl : i = k := by omega
                exact hq
            clear hq HI
            go_wp2_with fail
            rw [HEN.out, Oper.upon_enter]
            refine HCL.out.mono ?_
            rintro e w3 ⟨rfl, hb3⟩
            go_wp2
            go_roundg g2
            case rel => exact ⟨k + 1, by omega, rfl, rfl, by go_num, HT.out, HW.out.trans (hb3.mono HW.out.size)⟩
            case measure => omega
        | zero =>
          have hkm : ¬ (k : Int) < p.last - p.first + 1 := by omega
          have HT := Lib.hid (try_next HA.out HE.out HI.out (by omega))
          clear HI HE HCL
          go_wp2
          go_roundg g
          case rel => exact ⟨j + 1, by omega, rfl, rfl, by go_num, HT.out, HB2.out⟩
          case measure => omega
    | zero =>
      obtain rfl : j = n := by omega
      have HT := Lib.hid (try_end (l := l) (q := q) (by rw [HL.out]; exact HE.out))
      have hkz : ¬ (j : Int) < (j : Int) := by omega
      clear HE
      go_wp2
      go_ret2
      rw [HRR.out, HT.out]
      exact ⟨rfl, HB.out⟩
end Go.Proofs.YtoldppbakapohaaGreatDoor.Xw
end
/- What slices.IndexFunc and ContainsFunc at numbers, slices.Concat at ranges, and alloc.singly come to. Conditions: 1000 ranges together at most. -/
section
set_option maxRecDepth 8000
namespace Go.Proofs.YtoldppbakapohaaGreatDoor.Xw
open Go.RowKit Co By Ky Rc Ew Jw La Tb Lw Cf Al
open Vw (Cx RdPl layP atP idxI idxB idx_hit idx_miss idx_any take_skip)
open Dw (ba ba_size ba_data ba_list alloc_more)

set_option maxHeartbeats 2000000 in
theorem indexZ (K : Nat) (hE : ∀ args W, (callFunc K args).run Tryz.prog W = .ok (.enter K args) W) (bs : Array Value) (q : Int → Bool) (A : Option Addr) (n c U : Nat) (l : List Int) (w : World) (h : RdZ U w A n c l) (hU : U ≤ w.heap.size)
    (HK : ∀ a ∈ l, ∀ W, Below w.heap.size w W → Calls Tryz.prog K (#[.int .i64 a] ++ bs) W (isB (q a) W)) :
    Calls Tryz.prog 170 #[.slice A n c, .func (.func K) #[] bs] w (idxB q l w) := by
  have HX := Lib.hid h
  have HL := Lib.hid h.len
  have HKK := Lib.hid HK
  have HEN := Lib.hid hE
  have HUU := Lib.hid hU
  have hcp := h.cap
  have hmx := h.max
  clear h HK hE hU
  go_enter Tryz.func170, Tryz.ntmps170
  go_wp2
  go_loopw [8] (fun v wr => ∃ k : Nat, v = .int .i64 k ∧ k ≤ n ∧ Hid (∀ a ∈ l.take k, q a = false) ∧ Hid (Below w.heap.size w wr)) (fun v _ => n - (intOf v).toNat)
  case atStart => exact ⟨0, rfl, by omega, fun a ha => by simp at ha, Below.refl _ _⟩
  case round =>
    obtain ⟨k, rfl, hk2, HE, HB⟩ := hrel
    by_cases hlt : k < n
    · obtain ⟨b, o, a, rfl, hbU, HA, c0⟩ := atZ (HX.out.below (HB.out.mono HUU.out)) hlt
      have hkz : (k : Int) < (n : Int) := by omega
      have HC := Lib.hid (HKK.out a (List.mem_of_getElem? HA.out)  wr HB.out)
      cases hq : q a with
      | true =>
        have HT : Hid (idxI q l = (k : Int)) := idx_hit HA.out HE.out hq
        rw [hq] at HC
        clear hq HE HA
        go_wp2_with fail
        rw [HEN.out, Oper.upon_enter]
        refine HC.out.mono ?_
        rintro e w3 ⟨rfl, hb3⟩
        go_wp2
        go_ret
        exact ⟨ret_int HT.out.symm, HB.out.trans (hb3.mono HB.out.size)⟩
      | false =>
        have HT : Hid (∀ a ∈ l.take (k + 1), q a = false) := take_skip HA.out HE.out hq
        rw [hq] at HC
        clear hq HE HA
        go_wp2_with fail
        rw [HEN.out, Oper.upon_enter]
        refine HC.out.mono ?_
        rintro e w3 ⟨rfl, hb3⟩
        go_wp2
        go_roundw
        case rel => exact ⟨k + 1, by go_num, by omega, HT.out, HB.out.trans (hb3.mono HB.out.size)⟩
        case measure => simp [intOf]; omega
    · obtain rfl : k = n := by omega
      have HT : Hid (idxI q l = -1) := idx_miss (by rw [← HL.out] at HE; rw [List.take_length] at HE; exact HE.out)
      have hkz : ¬ (k : Int) < (k : Int) := by omega
      clear hlt HE
      go_wp2
      go_ret
      exact ⟨ret_int HT.out.symm, HB.out⟩
set_option maxHeartbeats 1000000 in
theorem hasZ (K : Nat) (hE : ∀ args W, (callFunc K args).run Tryz.prog W = .ok (.enter K args) W) (bs : Array Value) (q : Int → Bool) (A : Option Addr) (n c U : Nat) (l : List Int) (w : World) (h : RdZ U w A n c l) (hU : U ≤ w.heap.size)
    (HK : ∀ a ∈ l, ∀ W, Below w.heap.size w W → Calls Tryz.prog K (#[.int .i64 a] ++ bs) W (isB (q a) W)) :
    Calls Tryz.prog 119 #[.slice A n c, .func (.func K) #[] bs] w (isB (l.any q) w) := by
  have HC := Lib.hid (indexZ K hE bs q A n c U l w h hU HK)
  have HT := Lib.hid (idx_any q l)
  clear h hU HK hE
  go_enter Tryz.func119, Tryz.ntmps119
  go_wp2_with fail
  refine HC.out.mono ?_
  rintro e w1 ⟨rfl, hb1⟩
  go_wp2
  go_ret
  exact ⟨ret_bool HT.out, hb1⟩
/-- A call that answers a slice whose array is its own. -/
def RCP (w : World) (n : Nat) (l : List Pl) (e : Ending) (w' : World) : Prop := ∃ A c, e = .returned (.slice A n c) ∧ OwnPl w.heap.size w' A n c l ∧ Below w.heap.size w w'
theorem growP_nil (n : Nat) (w : World) (hn : n ≤ 1000) :
    Calls Tryz.prog 234 #[.slice none 0 0, .int .i64 (n : Int)] w (RCP w 0 []) := by
  by_cases h0 : n = 0
  · subst h0
    go_enter Tryz.func234, Tryz.ntmps234
    go_wp2
    go_ret
    exact ⟨none, 0, rfl, OwnG.nil _ _ _, Below.refl _ _⟩
  · have hpos : 0 < n := by omega
    obtain ⟨i0, hi0, hz0, hz1, hz2⟩ := info_parts plP.hi
    have hrun := fun ty => Lib.run_append_nil_zeros (P := Tryz.prog) w 112 3 ty 124 i0 _ .i64 .i64 Tryz.underlying112 Tryz.underlying3 hi0 hz0 n hpos (by rw [hz1]; decide) (by omega) (by rw [hz2]; omega)
    have hge := grownCap_ge w n 0 124
    have hcm := grownCap_le_maxLen w n 0 124 (by unfold maxLen; omega)
    generalize grownCap w n 0 124 = G at hrun hge hcm
    generalize hcs : (Builtin.zeroCells (Value.agg #[.int .i64 0, .int .i64 0]).cells n ++ Builtin.zeroCells (Value.agg #[.int .i64 0, .int .i64 0]).cells (G - n)) = cs at hrun
    have hsz : cs.size = G * 2 := by
      rw [← hcs, Array.size_append, size_zeroCells, size_zeroCells]
      show n * 2 + (G - n) * 2 = G * 2
      omega
    have HR := Lib.hid hrun
    have HS := Lib.hid hsz
    have HM := Lib.hid hcm
    have hcm2 : G ≤ 9223372036854775807 := by unfold maxLen at hcm; omega
    clear hrun hsz hcm hcs hi0 hz0 hz1 hz2 h0
    go_enter Tryz.func234, Tryz.ntmps234
    go_wp2_with (at_builtin; refine Lib.wpList_append_run _ rfl (.tmp 20) (.tmp 21) _ _ rfl _ _ rfl rfl _ _ (HR.out _) ?_)
    go_ret
    exact ⟨some ⟨w.heap.size, 0, none⟩, G, rfl, ⟨(World.ownsRow_made w cs G (Nat.le_refl _) HM.out HS.out).drew, rfl⟩, ((Below.refl _ _).alloc (Nat.le_refl _) _).drew⟩

/-- A part of a list of ranges. -/
structure PartQ where
  A : Option Addr
  c : Nat
  l : List Pl
def PartsQ (w : World) (b o : Nat) (qs : List PartQ) : Prop :=
  ∀ i (h : i < qs.length), w.cell? ⟨b, o + i, none⟩ = some (.slice qs[i].A qs[i].l.length qs[i].c) ∧ RdPl w.heap.size w qs[i].A qs[i].l.length qs[i].c qs[i].l
theorem PartsQ.below {w w' : World} {b o : Nat} {qs : List PartQ} (h : PartsQ w b o qs) (hb : Below w.heap.size w w') : PartsQ w' b o qs := fun i hi =>
  ⟨(hb.cell (World.block_lt_of_cell? w _ (h i hi).1)).trans (h i hi).1, ((h i hi).2.below hb).mono hb.size⟩
def totQ (qs : List PartQ) : Nat := (qs.map fun p => p.l.length).sum
def catQ (qs : List PartQ) : List Pl := qs.flatMap (·.l)
theorem totQ_next {qs : List PartQ} {k : Nat} (h : k < qs.length) : totQ (qs.take (k + 1)) = totQ (qs.take k) + (qs[k]).l.length := by
  unfold totQ
  rw [List.take_succ_eq_append_getElem h]
  simp only [List.map_append, List.sum_append, List.map_cons, List.map_nil, List.sum_cons, List.sum_nil, Nat.add_zero]
theorem catQ_next {qs : List PartQ} {k : Nat} (h : k < qs.length) : catQ (qs.take (k + 1)) = catQ (qs.take k) ++ (qs[k]).l := by
  unfold catQ
  rw [List.take_succ_eq_append_getElem h, List.flatMap_append]
  simp only [List.flatMap_cons, List.flatMap_nil, List.append_nil]
theorem totQ_le (qs : List PartQ) (k : Nat) : totQ (qs.take k) ≤ totQ qs := by
  have h : totQ (qs.take k) + totQ (qs.drop k) = totQ qs := by
    unfold totQ
    rw [← List.sum_append, ← List.map_append, List.take_append_drop]
  omega
set_option maxHeartbeats 1000000 in
theorem concatQ_any (b o N c : Nat) (qs : List PartQ) (w : World) (h : PartsQ w b o qs) (hN : qs.length = N) (hc : c ≤ 9223372036854775807) (hNc : N ≤ c) (ht : totQ qs ≤ 1000) :
    Calls Tryz.prog 225 #[.slice (some ⟨b, o, none⟩) N c] w (RCP w (totQ qs) (catQ qs)) := by
  have HN := Lib.hid hN
  clear hN
  go_enter Tryz.func225, Tryz.ntmps225
  go_wp2
  go_loop [3, 11] (fun v i => ∃ k : Nat, k ≤ N ∧ i = .int .i64 k ∧ v = .int .i64 (totQ (qs.take k) : Nat)) (fun _ i => N - (intOf i).toNat)
  case atStart => exact ⟨0, by omega, rfl, rfl⟩
  case round =>
    obtain ⟨k, hk, rfl, rfl⟩ := hrel
    have hle := totQ_le qs k
    by_cases hlt : k < N
    · have hkl : k < qs.length := by have := HN.out; omega
      have hcell := (h k hkl).1
      have H := Lib.hid (totQ_next hkl)
      have hle2 := totQ_le qs (k + 1)
      rw [totQ_next hkl] at hle2
      generalize qs[k].l.length = m at hcell H hle2
      generalize qs[k].A = A' at hcell
      generalize qs[k].c = c' at hcell
      generalize totQ (qs.take k) = x at H hle hle2
      clear hkl
      go_wp2
      go_round
      case rel => exact ⟨k + 1, by omega, by go_num, by rw [H.out]; go_num⟩
      case measure => simp [intOf]; omega
    · obtain rfl : k = N := by omega
      have H := Lib.hid (show qs.take k = qs from List.take_of_length_le (by have := HN.out; omega))
      rw [H.out]
      go_wp2_with fail
      refine (growP_nil _ _ ht).mono ?_
      rintro e w1 ⟨A1, c1, rfl, hown0, hb1⟩
      go_wp2
      go_loopw [6, 27] (fun v i wr => ∃ (j : Nat) (A2 : Option Addr) (c2 : Nat), j ≤ k ∧ i = .int .i64 j ∧ v = .slice A2 (totQ (qs.take j)) c2 ∧ OwnPl w.heap.size wr A2 (totQ (qs.take j)) c2 (catQ (qs.take j)) ∧ Below w.heap.size w wr) (fun _ i _ => k - (intOf i).toNat)
      case atStart => exact ⟨0, A1, c1, by omega, rfl, rfl, hown0, hb1⟩
      case round =>
        obtain ⟨j, A2, c2, hj, rfl, rfl, hown, hb⟩ := hrel
        have hle3 := totQ_le qs j
        by_cases hlt2 : j < k
        · have hkl : j < qs.length := by have := HN.out; omega
          have hP := h.below hb
          have hcell := (hP j hkl).1
          have hbs := (hP j hkl).2
          have H1 := Lib.hid (totQ_next hkl)
          have H2 := Lib.hid (catQ_next hkl)
          have hle2 := totQ_le qs (j + 1)
          rw [totQ_next hkl] at hle2
          generalize qs[j] = p at hcell H1 H2 hle2 hbs
          clear hP
          clear hkl
          generalize totQ (qs.take j) = x at H1 hle3 hle2 hown
          generalize catQ (qs.take j) = y at H2 hown
          go_wp2_with (at_builtin; refine wpList_appG plP (by decide) (by decide) (by kernel_rfl) rfl (.tmp 31) (.tmp 32) rfl rfl hown rfl hbs (by omega) (by have := hb.size; omega) ?_; intro A3 c3 w3 happ)
          go_roundw
          case rel => exact ⟨j + 1, A3, c3, by omega, by go_num, by rw [H1.out], by rw [H1.out, H2.out]; exact happ.1, hb.trans happ.2.1⟩
          case measure => simp [intOf]; omega
        · obtain rfl : j = k := by omega
          go_wp2
          go_ret
          rw [H.out] at hown
          exact ⟨A2, c2, by rw [H.out]; rfl, hown, hb⟩
def sgl (a : Int) : Pl := ⟨a, a⟩
set_option maxHeartbeats 1000000 in
theorem singly_any (A : Option Addr) (n c U : Nat) (l : List Int) (w : World) (h : RdZ U w A n c l) (hU : U ≤ w.heap.size) (hn : n ≤ 1000) :
    Calls Tryz.prog 200 #[.slice A n c] w (RCP w n (l.map sgl)) := by
  have HX := Lib.hid h
  have HL := Lib.hid h.len
  have HUU := Lib.hid hU
  have hcp := h.cap
  have hmx := h.max
  clear h hU
  go_enter Tryz.func200, Tryz.ntmps200
  go_wp2
  go_loopw [3, 8] (fun v i wr => ∃ (j : Nat) (A2 : Option Addr) (c2 : Nat), j ≤ n ∧ i = .int .i64 j ∧ v = .slice A2 j c2 ∧ Hid (OwnPl w.heap.size wr A2 j c2 ((l.take j).map sgl)) ∧ Hid (Below w.heap.size w wr)) (fun _ i _ => n - (intOf i).toNat)
  case atStart => exact ⟨0, none, 0, by omega, rfl, rfl, OwnG.nil _ _ _, Below.refl _ _⟩
  case round =>
    obtain ⟨j, A2, c2, hj, rfl, rfl, HO, HB⟩ := hrel
    by_cases hlt : j < n
    · obtain ⟨b, o, a, rfl, _, HA, d0⟩ := atZ (HX.out.below (HB.out.mono HUU.out)) hlt
      have hkz : (j : Int) < (n : Int) := by omega
      have HT : Hid ((l.take (j + 1)).map sgl = (l.take j).map sgl ++ [⟨a, a⟩]) := by show _ = _; rw [take_nextL HA.out, List.map_append]; rfl
      have hlit := litP wr a a
      have hba : Below wr.heap.size wr (wr.alloc (.cells #[.int .i64 a, .int .i64 a] 124)) := alloc_more _ _
      have hown := HO.out.below hba
      have hsz := HB.out.size
      clear HA HO
      go_wp2_with (at_builtin; refine wpList_appG plP (by decide) (by decide) (by kernel_rfl) rfl (.tmp 12) (.tmp 16) rfl rfl hown rfl hlit (by omega) (by simp; omega) ?_; intro A5 c5 w5 happ)
      go_roundw
      case rel =>
        refine ⟨j + 1, A5, c5, by omega, by go_num, rfl, ?_, HB.out.trans ((hba.mono hsz).trans happ.2.1)⟩
        rw [HT.out]
        exact happ.1
      case measure => simp [intOf]; omega
    · obtain rfl : j = n := by omega
      have HT : Hid (l.take j = l) := List.take_of_length_le (by rw [HL.out]; exact Nat.le_refl _)
      have hkz : ¬ (j : Int) < (j : Int) := by omega
      clear hlt
      go_wp2
      go_ret
      rw [HT.out] at HO
      exact ⟨A2, c2, rfl, HO.out, HB.out⟩
end Go.Proofs.YtoldppbakapohaaGreatDoor.Xw
end
