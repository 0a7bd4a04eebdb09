/- What relay.cut and relay.Parts come to, and 's[lo:hi:hi]' at a byte slice. For all inputs. -/
import Derived.Test.YtfdlhfindcngeaaTlRight
import Derived.Test.YtfdlhfindcngeaaByU
import Derived.Test.YtfdlhfindcngeaaRyMath
namespace Go.Proofs.Ytfdlhfindcngeaa.By
open Go.RowKit Tl
section
variable {U : Nat} {w : World} {A : Option Addr} {n c : Nat} {l : List UInt8}
/-- The first k bytes, without what stands behind them. -/
theorem BsU.first (h : BsU U w A n c l) {k : Nat} (hk : k ≤ n) : BsU U w A k k (l.take k) := by
  have hl := h.1.len
  have hm := h.1.2.2.1
  have hc := h.1.cap
  refine ⟨⟨by rw [List.length_take]; omega, Nat.le_refl _, by omega, fun h0 => ?_⟩, fun h0 a ha => h.2 (by omega) a ha⟩
  obtain ⟨b, o, e, hcl⟩ := h.1.2.2.2 (by omega)
  refine ⟨b, o, e, fun i hi => ?_⟩
  rw [List.length_take] at hi
  rw [hcl i (by omega)]
  simp
variable {P : Program} {T e S : TypeId}
/-- 's[lo:hi:hi]' -/
theorem ByP.cutU_lhm (hp : ByP P T e S) (h : BsU U w A n c l) (lo hi : Nat) (L H : Int) (hL : L = (lo : Int)) (hH : H = (hi : Int)) (h1 : lo ≤ hi) (h2 : hi ≤ n) :
    ∃ A', BsU U w A' (hi - lo) (hi - lo) ((l.drop lo).take (hi - lo)) ∧
      ∀ W, (Instr.slice T (.slice A n c) (some (.int .i64 L)) (some (.int .i64 H)) (some (.int .i64 H))).run P W = .ok (.slice A' (hi - lo) (hi - lo)) W := by
  subst hL; subst hH
  have hk := (h.first h2).cut h1 (Nat.le_refl hi)
  rw [List.drop_take, List.take_take, Nat.min_self] at hk
  refine ⟨_, hk, fun W => ?_⟩
  rw [run_slice_lhm W T A n c hp.under .i64 .i64 .i64 lo hi hi (by omega) (by omega) (by omega) (by have := h.1.cap; omega), hp.elem, hp.size]
  simp [Result.andThen, sliced]
end
/-- '[]api.Opt{..}' of one option, its length a letter. -/
theorem OwnC.lit1m (e : Nat) (w : World) (co : Int) (D : Option Addr) (m cD : Nat) (d : List UInt8) (hd : d.length = m) : OwnC e w.heap.size (w.alloc (.cells #[.int .i64 co, .slice D m cD] e)) (some ⟨w.heap.size, 0, none⟩) 1 1 [⟨co, D, cD, d⟩] := by
  subst hd
  exact OwnC.lit1 e w ⟨co, D, cD, d⟩
end Go.Proofs.Ytfdlhfindcngeaa.By
namespace Go.Proofs.Ytfdlhfindcngeaa.Ry
open Tl
/-- The answer, where some parts have been read. -/
def goL (acc : List O) (x : List UInt8) : List O × Int := match partsL x with
  | none => ([], 2)
  | some m => (acc ++ m, 0)
theorem go_start {b : List UInt8} (h : ¬ 600 < b.length) : partsR b = goL [] b := by
  unfold partsR goL
  rw [if_neg h]
  cases partsL b <;> rfl
theorem go_nil (acc : List O) : goL acc [] = (acc, 0) := by unfold goL; rw [parts_nil]; simp
theorem go_lone (acc : List O) (c : UInt8) : goL acc [c] = ([], 2) := by unfold goL; rw [parts_lone]
theorem go_short (acc : List O) {c n : UInt8} {r : List UInt8} (h : r.length < n.toNat) : goL acc (c :: n :: r) = ([], 2) := by unfold goL; rw [parts_short h]
theorem go_step (acc : List O) {c n : UInt8} {r : List UInt8} (h : n.toNat ≤ r.length) : goL acc (c :: n :: r) = goL (acc ++ [((c.toNat : Int), r.take n.toNat)]) (r.drop n.toNat) := by
  unfold goL
  rw [parts_step h]
  cases partsL (r.drop n.toNat) <;> simp
end Go.Proofs.Ytfdlhfindcngeaa.Ry
namespace Go.Proofs.Ytfdlhfindcngeaa.Rw
open Go.RowKit Tl By Ry

theorem cut_few (A : Option Addr) (n c : Nat) (w : World) (hn : n < 2) :
    Calls Try.prog 19 #[.slice A n c] w fun e w' => e = .returned (.tuple #[.slice none 0 0, .int .i64 2]) ∧ w = w' := by
  go_enter Try.func19, Try.ntmps19
  go_wp2
  go_ret2
  exact ⟨rfl, rfl⟩
theorem cut_short (U : Nat) (A : Option Addr) (n c : Nat) (x y : UInt8) (r : List UInt8) (w : World) (h : BsU U w A n c (x :: y :: r)) (hs : r.length < y.toNat) :
    Calls Try.prog 19 #[.slice A n c] w fun e w' => e = .returned (.tuple #[.slice none 0 0, .int .i64 2]) ∧ w = w' := by
  have hl := h.len
  have hcap := h.1.cap
  have hmax := h.1.max
  simp only [List.length_cons] at hl
  obtain ⟨b, o, rfl, hc⟩ := h.1.at_ (k := 0) (by omega)
  have hcell : w.cell? ⟨b, o + 1, none⟩ = some (.int .u8 (y.toNat : Int)) := hc 1 (by simp)
  have hy := y.toNat_lt
  have hlt : n < 2 + y.toNat := by omega
  have hn2 : 2 ≤ n := by omega
  generalize y.toNat = k at hcell hy hlt
  clear hl hs hc
  go_enter Try.func19, Try.ntmps19
  go_wp2
  go_ret2
  exact ⟨rfl, rfl⟩
/-- The bytes of the part at the beginning. -/
def CutOk (U : Nat) (w : World) (m : Nat) (d : List UInt8) (en : Ending) (w' : World) : Prop := ∃ A c, en = .returned (.tuple #[.slice A m c, .int .i64 0]) ∧ BsU U w A m c d ∧ w = w'
theorem cut_ok (U : Nat) (A : Option Addr) (n c : Nat) (x y : UInt8) (r : List UInt8) (w : World) (h : BsU U w A n c (x :: y :: r)) (hs : y.toNat ≤ r.length) :
    Calls Try.prog 19 #[.slice A n c] w (CutOk U w y.toNat (r.take y.toNat)) := by
  have hl := h.len
  have hcap := h.1.cap
  have hmax := h.1.max
  simp only [List.length_cons] at hl
  obtain ⟨b, o, rfl, hc⟩ := h.1.at_ (k := 0) (by omega)
  have hcell : w.cell? ⟨b, o + 1, none⟩ = some (.int .u8 (y.toNat : Int)) := hc 1 (by simp)
  have hy := y.toNat_lt
  have hlt : 2 + y.toNat ≤ n := by omega
  generalize y.toNat = k at hcell hy hlt
  obtain ⟨D, hD, hrun⟩ := byP.cutU_lhm h 2 (2 + k) 2 (2 + (k : Int)) rfl (by omega) (by omega) hlt
  rw [show 2 + k - 2 = k by omega] at hD hrun
  have hD' : BsU U w D k k (r.take k) := hD
  have hn2 : 2 ≤ n := by omega
  clear hl hs hc hD h
  go_enter Try.func19, Try.ntmps19
  go_wp2
  go_ret2
  exact ⟨D, k, rfl, hD', rfl⟩

/-- What Parts answers, the program's and the document's. -/
def PtR (w : World) (R : List O × Int) (en : Ending) (w' : World) : Prop := ∃ A n c ps, en = .returned (.tuple #[.slice A n c, .int .i64 R.2]) ∧ osP ps = R.1 ∧ RdO w' A n c ps ∧ Below w.heap.size w w'
theorem PtR.err {w w' : World} {R : List O × Int} {e : Int} (hR : R = ([], e)) (hb : Below w.heap.size w w') : PtR w R (.returned (.tuple #[.slice none 0 0, .int .i64 e])) w' :=
  ⟨none, 0, 0, [], by rw [hR], by rw [hR]; rfl, RdO.nil _, hb⟩
theorem PtR.good {w w' : World} {R : List O × Int} {A : Option Addr} {n c : Nat} {ps : List Po} (hR : R = (osP ps, 0)) (ho : RdO w' A n c ps) (hb : Below w.heap.size w w') : PtR w R (.returned (.tuple #[.slice A n c, .int .i64 0])) w' :=
  ⟨A, n, c, ps, by rw [hR], by rw [hR], ho, hb⟩
/-- What Parts' loop holds. -/
def StP (w : World) (R : List O × Int) (v4 v5 : Value) (wr : World) : Prop :=
  ∃ A1 n1 c1 x A2 n2 c2 ps, v4 = .slice A1 n1 c1 ∧ v5 = .slice A2 n2 c2 ∧ BsU w.heap.size wr A1 n1 c1 x ∧ OwnC 42 w.heap.size wr A2 n2 c2 ps ∧ (∀ p ∈ ps, BsU w.heap.size wr p.A p.l.length p.c p.l) ∧
    n1 + 2 * n2 ≤ 600 ∧ goL (osP ps) x = R ∧ Below w.heap.size w wr
/-- One part more. -/
theorem data_more {U : Nat} {w w' : World} {ps : List Po} {co : Int} {D : Option Addr} {m cD : Nat} {d : List UInt8} (h : ∀ p ∈ ps, BsU U w p.A p.l.length p.c p.l) (hd : BsU U w D m cD d) (hb : Below U w w') :
    ∀ p ∈ ps ++ [⟨co, D, cD, d⟩], BsU U w' p.A p.l.length p.c p.l := fun p hp => by
  rcases List.mem_append.1 hp with hp | hp
  · exact (h p hp).below hb
  · simp only [List.mem_singleton] at hp
    subst hp
    show BsU U w' D d.length cD d
    rw [hd.len]
    exact hd.below hb
theorem rd_of {e U : Nat} {w : World} {A : Option Addr} {n c : Nat} {ps : List Po} (h : OwnC e U w A n c ps) (hd : ∀ p ∈ ps, BsU U w p.A p.l.length p.c p.l) : RdO w A n c ps := ⟨h.rdc, fun p hp => (hd p hp).bs⟩

set_option maxHeartbeats 1600000 in
theorem parts_any (A : Option Addr) (n c : Nat) (l : List UInt8) (w : World) (h : Bs w A n c l) :
    Calls Try.prog 10 #[.slice A n c] w (PtR w (partsR l)) := by
  have HL := Lib.hid h.len
  have hcap := h.cap
  have hmax := h.max
  by_cases h6 : 600 < n
  · have H : Hid (partsR l = ([], 3)) := partsR_long (by rw [HL.out]; exact h6)
    go_enter Try.func10, Try.ntmps10
    go_wp2
    go_ret2
    exact PtR.err H.out (Below.refl _ _)
  have H0 : Hid (goL [] l = partsR l) := (go_start (by rw [HL.out]; exact h6)).symm
  have h6' : n ≤ 600 := by omega
  clear h6
  go_enter Try.func10, Try.ntmps10
  go_wp2_with fail
  refine (Tw.clone_any A n c l _ h (by omega)).mono ?_
  rintro e w1 ⟨A0, c0, rfl, hown0, hb01⟩
  have hbs0 := hown0.bs.upto
  have hsz01 := hb01.size
  clear hown0 h
  go_wp2
  go_loopw [4, 5] (fun v4 v5 wr => StP w1 (partsR l) v4 v5 wr) (fun v4 _ _ => lenV v4)
  case atStart => exact ⟨A0, n, c0, l, none, 0, 0, [], rfl, rfl, hbs0, OwnC.nil _ _ _, (fun p hp => by cases hp), by omega, H0.out, Below.refl _ _⟩
  case round =>
    clear hbs0
    obtain ⟨A1, n1, c1, x, A2, n2, c2, ps, rfl, rfl, hbs, hown, hdat, hn12, hR, hb⟩ := hrel
    have HR := Lib.hid hR
    have HDT := Lib.hid hdat
    clear hR hdat
    have hsz := hb.size
    have hcap1 := hbs.1.cap
    have hmax1 := hbs.1.max
    have hb0 : Below w.heap.size w wr := hb01.trans (hb.mono hsz01)
    match x, hbs, HR with
    | [], hbs, HR =>
      obtain rfl : n1 = 0 := by have := hbs.len; simpa using this.symm
      have H : Hid (partsR l = (osP ps, 0)) := by rw [← HR.out]; exact go_nil _
      go_wp2
      go_ret2
      exact PtR.good H.out (rd_of hown HDT.out) hb0
    | [y], hbs, HR =>
      obtain rfl : n1 = 1 := by have := hbs.len; simpa using this.symm
      have H : Hid (partsR l = ([], 2)) := by rw [← HR.out]; exact go_lone _ _
      go_wp2_with fail
      refine (cut_few _ 1 c1 _ (by omega)).mono ?_
      rintro e w' ⟨rfl, rfl⟩
      go_wp2
      go_ret2
      exact PtR.err H.out hb0
    | y :: z :: r, hbs, HR =>
      have hlen := hbs.len
      simp only [List.length_cons] at hlen
      have hpos : 0 < n1 := by omega
      by_cases hsh : r.length < z.toNat
      · have H : Hid (partsR l = ([], 2)) := by rw [← HR.out]; exact go_short _ hsh
        have HC := Lib.hid (cut_short w1.heap.size A1 n1 c1 y z r wr hbs hsh)
        clear hsh hlen
        go_wp2_with fail
        refine HC.out.mono ?_
        rintro e w' ⟨rfl, rfl⟩
        go_wp2
        go_ret2
        exact PtR.err H.out hb0
      · have H : Hid (goL (osP ps ++ [((y.toNat : Int), r.take z.toNat)]) (r.drop z.toNat) = partsR l) := by rw [← HR.out]; exact (go_step _ (by omega)).symm
        have HC := Lib.hid (cut_ok w1.heap.size A1 n1 c1 y z r wr hbs (by omega))
        have hzr : z.toNat ≤ r.length := by omega
        generalize z.toNat = m at H HC hzr
        obtain ⟨D, hD, hrun⟩ := byP.cutU_l hbs (m + 2) (2 + (m : Int)) (by omega) (by omega)
        have hD' : BsU w1.heap.size wr D (n1 - (m + 2)) (c1 - (m + 2)) (r.drop m) := hD
        obtain ⟨b, o, rfl, hc⟩ := hbs.1.at_ (k := 0) hpos
        have hcell : wr.cell? ⟨b, o, none⟩ = some (.int .u8 (y.toNat : Int)) := by have := hc 0 (by simp); simpa using this
        have hy := y.toNat_lt
        have hm2 : m + 2 ≤ n1 := by omega
        generalize y.toNat = k at H hcell hy
        clear hc hD hsh hlen hbs HR hzr
        go_wp2_with fail
        refine HC.out.mono ?_
        rintro e w' ⟨E, cE, rfl, hE, rfl⟩
        have hba : Below wr.heap.size wr (wr.alloc (Obj.cells #[Value.int IntKind.i64 (k : Int), Value.slice E m cE] 42)) := (Below.refl _ _).alloc (Nat.le_refl _) _
        have hlit := (OwnC.lit1m 42 wr (k : Int) E m cE (r.take m) hE.len).rdc
        have hcE := hE.1.cap
        have hxE := hE.1.max
        go_wp2_with (at_builtin; refine wpList_appO Tw.opP rfl (.tmp 24) (.tmp 31) rfl rfl (hown.below hba) rfl hlit (by omega) (by simp; omega) ?_; intro A3 c3 w3 hown3 hb3 _)
        have hb13 : Below w1.heap.size wr w3 := (hba.mono hsz).trans hb3
        go_roundw
        case rel => exact ⟨D, n1 - (m + 2), c1 - (m + 2), r.drop m, A3, n2 + 1, c3, ps ++ [⟨(k : Int), E, cE, r.take m⟩], rfl, rfl, hD'.below hb13, hown3, data_more HDT.out hE hb13, by omega, by rw [os_app]; exact H.out, hb.trans hb13⟩
        case measure => simp [lenV]; omega
end Go.Proofs.Ytfdlhfindcngeaa.Rw
