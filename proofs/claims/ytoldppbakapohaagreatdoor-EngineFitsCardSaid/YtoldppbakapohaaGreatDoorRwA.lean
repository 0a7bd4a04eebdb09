/- What relay.cut and relay.Parts come to, and 's[lo:hi:hi]' at a byte slice. For all inputs. -/
import Derived.Test.YtoldppbakapohaaGreatDoorTlA
import Derived.Test.YtoldppbakapohaaGreatDoorKitA
import Derived.Test.YtoldppbakapohaaGreatDoorMathA
import Derived.Test.YtoldppbakapohaaGreatDoorCoA
import Derived.Deep.RegionLaw
section
namespace Go.Proofs.YtoldppbakapohaaGreatDoor.By
open Go.RowKit Tl
section
variable {U : Nat} {w : World} {A : Option Addr} {n c : Nat} {l : List UInt8}
/-- The first k bytes, without what stands behind them. -/
theorem BsU.first (h : BsU U w A n c l) {k : Nat} (hk : k ≤ n) : BsU U w A k k (l.take k) := by
  have hl := h.1.len
  have hm := h.1.2.2.1
  have hc := h.1.cap
  refine ⟨⟨by rw [List.length_take]; omega, Nat.le_refl _, by omega, fun h0 => ?_⟩, fun h0 a ha => h.2 (by omega) a ha⟩
  obtain ⟨b, o, e, hcl⟩ := h.1.2.2.2 (by omega)
  refine ⟨b, o, e, fun i hi => ?_⟩
  rw [List.length_take] at hi
  rw [hcl i (by omega)]
  simp
variable {P : Program} {T e S : TypeId}
/-- 's[lo:hi:hi]' -/
theorem ByP.cutU_lhm (hp : ByP P T e S) (h : BsU U w A n c l) (lo hi : Nat) (L H : Int) (hL : L = (lo : Int)) (hH : H = (hi : Int)) (h1 : lo ≤ hi) (h2 : hi ≤ n) :
    ∃ A', BsU U w A' (hi - lo) (hi - lo) ((l.drop lo).take (hi - lo)) ∧
      ∀ W, (Instr.slice T (.slice A n c) (some (.int .i64 L)) (some (.int .i64 H)) (some (.int .i64 H))).run P W = .ok (.slice A' (hi - lo) (hi - lo)) W := by
  subst hL; subst hH
  have hk := (h.first h2).cut h1 (Nat.le_refl hi)
  rw [List.drop_take, List.take_take, Nat.min_self] at hk
  refine ⟨_, hk, fun W => ?_⟩
  rw [run_slice_lhm W T A n c hp.under .i64 .i64 .i64 lo hi hi (by omega) (by omega) (by omega) (by have := h.1.cap; omega), hp.elem, hp.size]
  simp [Result.andThen, sliced]
end
/-- '[]api.Opt{..}' of one option, its length a letter. -/
theorem OwnC.lit1m (e : Nat) (w : World) (co : Int) (D : Option Addr) (m cD : Nat) (d : List UInt8) (hd : d.length = m) : OwnC e w.heap.size (w.alloc (.cells #[.int .i64 co, .slice D m cD] e)) (some ⟨w.heap.size, 0, none⟩) 1 1 [⟨co, D, cD, d⟩] := by
  subst hd
  exact OwnC.lit1 e w ⟨co, D, cD, d⟩
end Go.Proofs.YtoldppbakapohaaGreatDoor.By
namespace Go.Proofs.YtoldppbakapohaaGreatDoor.Ry
open Tl
/-- The answer, where some parts have been read. -/
def goL (acc : List O) (x : List UInt8) : List O × Int := match partsL x with
  | none => ([], 2)
  | some m => (acc ++ m, 0)
theorem go_start {b : List UInt8} (h : ¬ 600 < b.length) : partsR b = goL [] b := by
  unfold partsR goL
  rw [if_neg h]
  cases partsL b <;> rfl
theorem go_nil (acc : List O) : goL acc [] = (acc, 0) := by unfold goL; rw [parts_nil]; simp
theorem go_lone (acc : List O) (c : UInt8) : goL acc [c] = ([], 2) := by unfold goL; rw [parts_lone]
theorem go_short (acc : List O) {c n : UInt8} {r : List UInt8} (h : r.length < n.toNat) : goL acc (c :: n :: r) = ([], 2) := by unfold goL; rw [parts_short h]
theorem go_step (acc : List O) {c n : UInt8} {r : List UInt8} (h : n.toNat ≤ r.length) : goL acc (c :: n :: r) = goL (acc ++ [((c.toNat : Int), r.take n.toNat)]) (r.drop n.toNat) := by
  unfold goL
  rw [parts_step h]
  cases partsL (r.drop n.toNat) <;> simp
end Go.Proofs.YtoldppbakapohaaGreatDoor.Ry
namespace Go.Proofs.YtoldppbakapohaaGreatDoor.Rw
open Go.RowKit Tl By Ry

theorem cut_few (A : Option Addr) (n c : Nat) (w : World) (hn : n < 2) :
    Calls Tryz.prog 255 #[.slice A n c] w fun e w' => e = .returned (.tuple #[.slice none 0 0, .int .i64 2]) ∧ w = w' := by
  go_enter Tryz.func255, Tryz.ntmps255
  go_wp2
  go_ret2
  exact ⟨rfl, rfl⟩
theorem cut_short (U : Nat) (A : Option Addr) (n c : Nat) (x y : UInt8) (r : List UInt8) (w : World) (h : BsU U w A n c (x :: y :: r)) (hs : r.length < y.toNat) :
    Calls Tryz.prog 255 #[.slice A n c] w fun e w' => e = .returned (.tuple #[.slice none 0 0, .int .i64 2]) ∧ w = w' := by
  have hl := h.len
  have hcap := h.1.cap
  have hmax := h.1.max
  simp only [List.length_cons] at hl
  obtain ⟨b, o, rfl, hc⟩ := h.1.at_ (k := 0) (by omega)
  have hcell : w.cell? ⟨b, o + 1, none⟩ = some (.int .u8 (y.toNat : Int)) := hc 1 (by simp)
  have hy := y.toNat_lt
  have hlt : n < 2 + y.toNat := by omega
  have hn2 : 2 ≤ n := by omega
  generalize y.toNat = k at hcell hy hlt
  clear hl hs hc
  go_enter Tryz.func255, Tryz.ntmps255
  go_wp2
  go_ret2
  exact ⟨rfl, rfl⟩
/-- The bytes of the part at the beginning. -/
def CutOk (U : Nat) (w : World) (m : Nat) (d : List UInt8) (en : Ending) (w' : World) : Prop := ∃ A c, en = .returned (.tuple #[.slice A m c, .int .i64 0]) ∧ BsU U w A m c d ∧ w = w'
theorem cut_ok (U : Nat) (A : Option Addr) (n c : Nat) (x y : UInt8) (r : List UInt8) (w : World) (h : BsU U w A n c (x :: y :: r)) (hs : y.toNat ≤ r.length) :
    Calls Tryz.prog 255 #[.slice A n c] w (CutOk U w y.toNat (r.take y.toNat)) := by
  have hl := h.len
  have hcap := h.1.cap
  have hmax := h.1.max
  simp only [List.length_cons] at hl
  obtain ⟨b, o, rfl, hc⟩ := h.1.at_ (k := 0) (by omega)
  have hcell : w.cell? ⟨b, o + 1, none⟩ = some (.int .u8 (y.toNat : Int)) := hc 1 (by simp)
  have hy := y.toNat_lt
  have hlt : 2 + y.toNat ≤ n := by omega
  generalize y.toNat = k at hcell hy hlt
  obtain ⟨D, hD, hrun⟩ := byP.cutU_lhm h 2 (2 + k) 2 (2 + (k : Int)) rfl (by omega) (by omega) hlt
  rw [show 2 + k - 2 = k by omega] at hD hrun
  have hD' : BsU U w D k k (r.take k) := hD
  have hn2 : 2 ≤ n := by omega
  clear hl hs hc hD h
  go_enter Tryz.func255, Tryz.ntmps255
  go_wp2
  go_ret2
  exact ⟨D, k, rfl, hD', rfl⟩

/-- What Parts answers, the program's and the document's. -/
def PtR (w : World) (R : List O × Int) (en : Ending) (w' : World) : Prop := ∃ A n c ps, en = .returned (.tuple #[.slice A n c, .int .i64 R.2]) ∧ osP ps = R.1 ∧ RdO w' A n c ps ∧ Below w.heap.size w w'
theorem PtR.err {w w' : World} {R : List O × Int} {e : Int} (hR : R = ([], e)) (hb : Below w.heap.size w w') : PtR w R (.returned (.tuple #[.slice none 0 0, .int .i64 e])) w' :=
  ⟨none, 0, 0, [], by rw [hR], by rw [hR]; rfl, RdO.nil _, hb⟩
theorem PtR.good {w w' : World} {R : List O × Int} {A : Option Addr} {n c : Nat} {ps : List Po} (hR : R = (osP ps, 0)) (ho : RdO w' A n c ps) (hb : Below w.heap.size w w') : PtR w R (.returned (.tuple #[.slice A n c, .int .i64 0])) w' :=
  ⟨A, n, c, ps, by rw [hR], by rw [hR], ho, hb⟩
/-- What Parts' loop holds. -/
def StP (w : World) (R : List O × Int) (v4 v5 : Value) (wr : World) : Prop :=
  ∃ A1 n1 c1 x A2 n2 c2 ps, v4 = .slice A1 n1 c1 ∧ v5 = .slice A2 n2 c2 ∧ BsU w.heap.size wr A1 n1 c1 x ∧ OwnC 74 w.heap.size wr A2 n2 c2 ps ∧ (∀ p ∈ ps, BsU w.heap.size wr p.A p.l.length p.c p.l) ∧
    n1 + 2 * n2 ≤ 600 ∧ goL (osP ps) x = R ∧ Below w.heap.size w wr
/-- One part more. -/
theorem data_more {U : Nat} {w w' : World} {ps : List Po} {co : Int} {D : Option Addr} {m cD : Nat} {d : List UInt8} (h : ∀ p ∈ ps, BsU U w p.A p.l.length p.c p.l) (hd : BsU U w D m cD d) (hb : Below U w w') :
    ∀ p ∈ ps ++ [⟨co, D, cD, d⟩], BsU U w' p.A p.l.length p.c p.l := fun p hp => by
  rcases List.mem_append.1 hp with hp | hp
  · exact (h p hp).below hb
  · simp only [List.mem_singleton] at hp
    subst hp
    show BsU U w' D d.length cD d
    rw [hd.len]
    exact hd.below hb
theorem rd_of {e U : Nat} {w : World} {A : Option Addr} {n c : Nat} {ps : List Po} (h : OwnC e U w A n c ps) (hd : ∀ p ∈ ps, BsU U w p.A p.l.length p.c p.l) : RdO w A n c ps := ⟨h.rdc, fun p hp => (hd p hp).bs⟩

set_option maxHeartbeats 1600000 in
theorem parts_any (A : Option Addr) (n c : Nat) (l : List UInt8) (w : World) (h : Bs w A n c l) :
    Calls Tryz.prog 244 #[.slice A n c] w (PtR w (partsR l)) := by
  have HL := Lib.hid h.len
  have hcap := h.cap
  have hmax := h.max
  by_cases h6 : 600 < n
  · have H : Hid (partsR l = ([], 3)) := partsR_long (by rw [HL.out]; exact h6)
    go_enter Tryz.func244, Tryz.ntmps244
    go_wp2
    go_ret2
    exact PtR.err H.out (Below.refl _ _)
  have H0 : Hid (goL [] l = partsR l) := (go_start (by rw [HL.out]; exact h6)).symm
  have h6' : n ≤ 600 := by omega
  clear h6
  go_enter Tryz.func244, Tryz.ntmps244
  go_wp2_with fail
  refine (Tw.clone_any A n c l _ h (by omega)).mono ?_
  rintro e w1 ⟨A0, c0, rfl, hown0, hb01⟩
  have hbs0 := hown0.bs.upto
  have hsz01 := hb01.size
  clear hown0 h
  go_wp2
  go_loopw [4, 5] (fun v4 v5 wr => StP w1 (partsR l) v4 v5 wr) (fun v4 _ _ => lenV v4)
  case atStart => exact ⟨A0, n, c0, l, none, 0, 0, [], rfl, rfl, hbs0, OwnC.nil _ _ _, (fun p hp => by cases hp), by omega, H0.out, Below.refl _ _⟩
  case round =>
    clear hbs0
    obtain ⟨A1, n1, c1, x, A2, n2, c2, ps, rfl, rfl, hbs, hown, hdat, hn12, hR, hb⟩ := hrel
    have HR := Lib.hid hR
    have HDT := Lib.hid hdat
    clear hR hdat
    have hsz := hb.size
    have hcap1 := hbs.1.cap
    have hmax1 := hbs.1.max
    have hb0 : Below w.heap.size w wr := hb01.trans (hb.mono hsz01)
    match x, hbs, HR with
    | [], hbs, HR =>
      obtain rfl : n1 = 0 := by have := hbs.len; simpa using this.symm
      have H : Hid (partsR l = (osP ps, 0)) := by rw [← HR.out]; exact go_nil _
      go_wp2
      go_ret2
      exact PtR.good H.out (rd_of hown HDT.out) hb0
    | [y], hbs, HR =>
      obtain rfl : n1 = 1 := by have := hbs.len; simpa using this.symm
      have H : Hid (partsR l = ([], 2)) := by rw [← HR.out]; exact go_lone _ _
      go_wp2_with fail
      refine (cut_few _ 1 c1 _ (by omega)).mono ?_
      rintro e w' ⟨rfl, rfl⟩
      go_wp2
      go_ret2
      exact PtR.err H.out hb0
    | y :: z :: r, hbs, HR =>
      have hlen := hbs.len
      simp only [List.length_cons] at hlen
      have hpos : 0 < n1 := by omega
      by_cases hsh : r.length < z.toNat
      · have H : Hid (partsR l = ([], 2)) := by rw [← HR.out]; exact go_short _ hsh
        have HC := Lib.hid (cut_short w1.heap.size A1 n1 c1 y z r wr hbs hsh)
        clear hsh hlen
        go_wp2_with fail
        refine HC.out.mono ?_
        rintro e w' ⟨rfl, rfl⟩
        go_wp2
        go_ret2
        exact PtR.err H.out hb0
      · have H : Hid (goL (osP ps ++ [((y.toNat : Int), r.take z.toNat)]) (r.drop z.toNat) = partsR l) := by rw [← HR.out]; exact (go_step _ (by omega)).symm
        have HC := Lib.hid (cut_ok w1.heap.size A1 n1 c1 y z r wr hbs (by omega))
        have hzr : z.toNat ≤ r.length := by omega
        generalize z.toNat = m at H HC hzr
        obtain ⟨D, hD, hrun⟩ := byP.cutU_l hbs (m + 2) (2 + (m : Int)) (by omega) (by omega)
        have hD' : BsU w1.heap.size wr D (n1 - (m + 2)) (c1 - (m + 2)) (r.drop m) := hD
        obtain ⟨b, o, rfl, hc⟩ := hbs.1.at_ (k := 0) hpos
        have hcell : wr.cell? ⟨b, o, none⟩ = some (.int .u8 (y.toNat : Int)) := by have := hc 0 (by simp); simpa using this
        have hy := y.toNat_lt
        have hm2 : m + 2 ≤ n1 := by omega
        generalize y.toNat = k at H hcell hy
        clear hc hD hsh hlen hbs HR hzr
        go_wp2_with fail
        refine HC.out.mono ?_
        rintro e w' ⟨E, cE, rfl, hE, rfl⟩
        have hba : Below wr.heap.size wr (wr.alloc (Obj.cells #[Value.int IntKind.i64 (k : Int), Value.slice E m cE] 74)) := (Below.refl _ _).alloc (Nat.le_refl _) _
        have hlit := (OwnC.lit1m 74 wr (k : Int) E m cE (r.take m) hE.len).rdc
        have hcE := hE.1.cap
        have hxE := hE.1.max
        go_wp2_with (at_builtin; refine wpList_appO Tw.opP rfl (.tmp 24) (.tmp 31) rfl rfl (hown.below hba) rfl hlit (by omega) (by simp; omega) ?_; intro A3 c3 w3 hown3 hb3 _)
        have hb13 : Below w1.heap.size wr w3 := (hba.mono hsz).trans hb3
        go_roundw
        case rel => exact ⟨D, n1 - (m + 2), c1 - (m + 2), r.drop m, A3, n2 + 1, c3, ps ++ [⟨(k : Int), E, cE, r.take m⟩], rfl, rfl, hD'.below hb13, hown3, data_more HDT.out hE hb13, by omega, by rw [os_app]; exact H.out, hb.trans hb13⟩
        case measure => simp [lenV]; omega
end Go.Proofs.YtoldppbakapohaaGreatDoor.Rw
end
/- What relay.LinkOf comes to, its closure and slices.IndexFunc. For all inputs. -/
section
namespace Go.Proofs.YtoldppbakapohaaGreatDoor.Ry
open Tl Co
theorem link_none {b : List UInt8} (h : (5 : Int) ∉ codesL (partsR b).1) : linkR b = none := by unfold linkR; rw [find_none h]; rfl
theorem link_four {b d : List UInt8} (h : findL (partsR b).1 5 = some d) (h4 : d.length = 4) : linkR b = some (valL d) := by unfold linkR; rw [h]; simp [h4]
theorem link_other {b d : List UInt8} (h : findL (partsR b).1 5 = some d) (h4 : d.length ≠ 4) : linkR b = none := by unfold linkR; rw [h]; simp [h4]
end Go.Proofs.YtoldppbakapohaaGreatDoor.Ry
namespace Go.Proofs.YtoldppbakapohaaGreatDoor.Rw
open Go.RowKit Tl Co By Ry

theorem link_is (co : Int) (A' : Option Addr) (m c' : Nat) (w : World) :
    Calls Tryz.prog 245 #[.agg #[.int .i64 co, .slice A' m c']] w fun e w' => e = .returned (.bool (co == 5)) ∧ Below w.heap.size w w' := by
  go_enter Tryz.func245, Tryz.ntmps245
  go_wp2
  go_ret
  exact ⟨by simp, (Below.refl _ _).alloc (Nat.le_refl _) _⟩

set_option maxHeartbeats 400000 in
theorem index5_any (A : Option Addr) (n c : Nat) (ps : List Po) (w : World) (h : RdO w A n c ps) :
    Calls Tryz.prog 161 #[.slice A n c, .func (.func 245) #[] #[]] w fun e w' => e = .returned (.int .i64 (placeL (osP ps) 5)) ∧ Below w.heap.size w w' := by
  have hl := Lib.hid h.len
  have hm := h.max
  have hcap := h.cap
  go_enter Tryz.func161, Tryz.ntmps161
  go_wp2
  go_loopw [8] (fun i wr => ∃ k : Nat, k ≤ n ∧ i = .int .i64 k ∧ (5 : Int) ∉ codesL ((osP ps).take k) ∧ Below w.heap.size w wr) (fun i _ => n - (intOf i).toNat)
  case atStart => exact ⟨0, by omega, rfl, by simp [codesL], Below.refl _ _⟩
  case round =>
    obtain ⟨k, hk, rfl, hs, hbw⟩ := hrel
    have HS := Lib.hid hs
    clear hs
    by_cases hlt : k < n
    · obtain ⟨b, o, co, A', m, c', l, rfl, hcell, hcell2, _, _, HO, _, _, _⟩ := (h.below hbw).at_ hlt
      have hsz := hbw.size
      go_wp2_with fail
      refine (link_is co A' m c' _).mono ?_
      rintro e w1 ⟨rfl, hb1⟩
      have hb01 := hbw.trans (hb1.mono hsz)
      by_cases he : co = 5
      · subst he
        have H : Hid (placeL (osP ps) 5 = (k : Int)) := by
          obtain ⟨h1, h2⟩ := HO.out
          exact place_hit h1 (by rw [h2]) HS.out
        go_wp2
        go_ret
        exact ⟨ret_int H.out.symm, hb01⟩
      · have hb : (co == 5) = false := by simpa using he
        have H : Hid ((5 : Int) ∉ codesL ((osP ps).take (k + 1))) := by
          obtain ⟨h1, h2⟩ := HO.out
          exact not_codes_next h1 HS.out (by rw [h2]; exact he)
        clear he
        go_wp2
        go_roundw
        case rel => exact ⟨k + 1, by omega, by go_num, H.out, hb01⟩
        case measure => simp [intOf]; omega
    · obtain rfl : k = n := by omega
      have H : Hid (placeL (osP ps) 5 = -1) := place_none (by have := HS.out; rwa [List.take_of_length_le (by rw [os_len, hl.out]; exact Nat.le_refl _)] at this)
      go_wp2
      go_ret
      exact ⟨ret_int H.out.symm, hbw⟩

/-- What LinkOf answers, the program's and the document's. -/
def LkR (w : World) (r : Option Nat) (e : Ending) (w' : World) : Prop := e = .returned (.tuple #[.int .i64 ((r.getD 0 : Nat) : Int), .bool r.isSome]) ∧ Below w.heap.size w w'

set_option maxHeartbeats 1600000 in
theorem linkOf_any (A : Option Addr) (n c : Nat) (l : List UInt8) (w : World) (h : Bs w A n c l) :
    Calls Tryz.prog 233 #[.slice A n c] w (LkR w (linkR l)) := by
  have HC := Lib.hid (parts_any A n c l w h)
  clear h
  by_cases hd : (5 : Int) ∈ codesL (partsR l).1
  rotate_left
  · have HP := Lib.hid (place_none hd)
    have H := Lib.hid (link_none hd)
    clear hd
    go_enter Tryz.func233, Tryz.ntmps233
    go_wp2_with fail
    refine HC.out.mono ?_
    rintro e w1 ⟨A1, n1, c1, ps, rfl, hps, hrd, hb1⟩
    have HI := Lib.hid (index5_any A1 n1 c1 ps w1 hrd)
    rw [hps, HP.out] at HI
    generalize (partsR l).2 = err
    go_wp2_with fail
    refine HI.out.mono ?_
    rintro e w2 ⟨rfl, hb2⟩
    go_wp2
    go_ret2
    rw [H.out]
    exact ⟨rfl, hb1.trans (hb2.mono hb1.size)⟩
  obtain ⟨i, hi, hp, hcode, hno⟩ := place_mem hd
  have HF := Lib.hid (find_hit (c := 5) hi hcode hno)
  have HP := Lib.hid hp
  obtain ⟨d, hdd⟩ : ∃ d, d = ((partsR l).1[i]).2 := ⟨_, rfl⟩
  rw [← hdd] at HF
  have HD : Hid (∃ h : i < (partsR l).1.length, ((partsR l).1[i]).2 = d) := ⟨hi, hdd.symm⟩
  clear hd hp hcode hno hdd hi
  by_cases h4 : d.length = 4
  · have H := Lib.hid (link_four HF.out h4)
    have HV : Hid (valL ((d.drop 0).take 4) = valL d) := by
      show valL ((d.drop 0).take 4) = valL d
      rw [List.drop_zero, List.take_of_length_le (by omega)]
    have H4 := Lib.hid h4
    clear h4
    go_enter Tryz.func233, Tryz.ntmps233
    go_wp2_with fail
    refine HC.out.mono ?_
    rintro e w1 ⟨A1, n1, c1, ps, rfl, hps, hrd, hb1⟩
    have HI := Lib.hid (index5_any A1 n1 c1 ps w1 hrd)
    rw [hps, HP.out] at HI
    have hin : i < n1 := by obtain ⟨g, _⟩ := HD.out; rw [← hps, os_len, hrd.len] at g; exact g
    generalize (partsR l).2 = err
    go_wp2_with fail
    refine HI.out.mono ?_
    rintro e w2 ⟨rfl, hb2⟩
    obtain ⟨b, o, co, A', m, c', d', rfl, hcell, hcell2, hbs, _, HO, HM, hmc, hc63⟩ := (hrd.below hb2).at_ hin
    obtain rfl : d' = d := by
      obtain ⟨g1, g2⟩ := HO.out
      obtain ⟨g3, g4⟩ := HD.out
      simp only [hps] at g2
      rw [g2] at g4
      exact g4
    obtain rfl : m = 4 := by rw [← HM.out]; exact H4.out
    have hi0 : (0 : Int) ≤ (i : Int) := by omega
    have hi1 : (i : Int) < (n1 : Int) := by omega
    clear hrd hps HI
    go_wp2_with fail
    refine (Cw.get_ok A' 4 c' d' 0 4 w2 hbs (by omega) (by omega) (by omega)).mono ?_
    rw [HV.out]
    rintro e w3 ⟨rfl, rfl⟩
    go_wp2
    go_ret2
    rw [H.out]
    exact ⟨rfl, hb1.trans (hb2.mono hb1.size)⟩
  · have H := Lib.hid (link_other HF.out h4)
    have H4 := Lib.hid h4
    clear h4
    go_enter Tryz.func233, Tryz.ntmps233
    go_wp2_with fail
    refine HC.out.mono ?_
    rintro e w1 ⟨A1, n1, c1, ps, rfl, hps, hrd, hb1⟩
    have HI := Lib.hid (index5_any A1 n1 c1 ps w1 hrd)
    rw [hps, HP.out] at HI
    have hin : i < n1 := by obtain ⟨g, _⟩ := HD.out; rw [← hps, os_len, hrd.len] at g; exact g
    generalize (partsR l).2 = err
    go_wp2_with fail
    refine HI.out.mono ?_
    rintro e w2 ⟨rfl, hb2⟩
    obtain ⟨b, o, co, A', m, c', d', rfl, hcell, hcell2, hbs, _, HO, HM, hmc, hc63⟩ := (hrd.below hb2).at_ hin
    obtain rfl : d' = d := by
      obtain ⟨g1, g2⟩ := HO.out
      obtain ⟨g3, g4⟩ := HD.out
      simp only [hps] at g2
      rw [g2] at g4
      exact g4
    have hne : ((m : Int) != 4) = true := by
      have e1 := HM.out
      have e2 := H4.out
      simp
      omega
    have hi0 : (0 : Int) ≤ (i : Int) := by omega
    have hi1 : (i : Int) < (n1 : Int) := by omega
    clear hrd hps HI hbs
    go_wp2
    go_ret2
    rw [H.out]
    exact ⟨rfl, hb1.trans (hb2.mono hb1.size)⟩
end Go.Proofs.YtoldppbakapohaaGreatDoor.Rw
end
/- What relay.right and relay.Bytes come to. For lists of up to 100000 options. -/
section
namespace Go.Proofs.YtoldppbakapohaaGreatDoor.Ry
open Tl
end Go.Proofs.YtoldppbakapohaaGreatDoor.Ry
namespace Go.Proofs.YtoldppbakapohaaGreatDoor.Rw
open Go.RowKit Tl By Ry

end Go.Proofs.YtoldppbakapohaaGreatDoor.Rw
end
/- What the document's Parts, Bytes and Link come to. Conditions: for Bytes, 100000 options at most. -/
section
namespace Go.Proofs.YtoldppbakapohaaGreatDoor.By
open Go.RowKit Tl
section
variable {P : Program} {T e S : TypeId} {w : World} {A : Option Addr} {n c : Nat}
/-- 'append' of options as a step of a region that draws its order. -/
theorem step_appO {ps : List Po} (hp : OpP P T e) {ops : Array Oper} {o : Oper} {a : Act} {K : Act → World → Prop} {Q : Exit → Act → World → Prop} {E : Prop} (hgd : o.guard = none) (s x : Operand)
    (ho : o.op = .call { callee := .builtin .append, args := #[s, x], argTypes := #[T, T] }) {B : Nat} (hs : a.eval s = .slice A n c) (hown : OwnC e B w A n c ps)
    {A2 : Option Addr} {m c2 : Nat} {qs : List Po} (hx : a.eval x = .slice A2 m c2) (h2 : RdC w A2 m c2 (cellsP qs)) (hb : (n + m) * 32 ≤ 140737488355328) (hB : B ≤ w.heap.size)
    (h : ∀ A' c' w', OwnC e B w' A' (n + m) c' (ps ++ qs) → Below B w w' → w.grownBy w' (Value.slice A n c).ownBlock → K (a.put o.dst (.slice A' (n + m) c')) w') :
    if Region.wanted o (yielded ops a.tmps) = true then Oper.wp P o a w K Q else E := by
  have hw : Region.wanted o (yielded ops a.tmps) = true := by simp [Region.wanted, hgd]
  rw [if_pos hw]
  exact wp_appO hp s x ho hs hown hx h2 hb hB h
end
end Go.Proofs.YtoldppbakapohaaGreatDoor.By
namespace Go.Proofs.YtoldppbakapohaaGreatDoor.Rw
open Go.RowKit Tl Co By Ry

/-- What the loop of the document's Parts holds. -/
def StQ (w : World) (l : List UInt8) (N : Nat) (R : List O × Int) (v i : Value) (wr : World) : Prop :=
  ∃ k A n c ps, k ≤ N ∧ i = .int .i64 (k : Nat) ∧ v = .slice A n c ∧ OwnC 74 w.heap.size wr A n c ps ∧ (∀ p ∈ ps, BsU w.heap.size wr p.A p.l.length p.c p.l) ∧ 2 * n ≤ k ∧ goL (osP ps) (l.drop k) = R ∧ Below w.heap.size w wr

set_option maxRecDepth 8000 in
set_option maxHeartbeats 4000000 in
theorem refParts_any (A : Option Addr) (n c : Nat) (l : List UInt8) (w : World) (h : Bs w A n c l) :
    Calls Tryz.prog 159 #[.slice A n c] w (PtR w (partsR l)) := by
  have HL := Lib.hid h.len
  have hcap := h.cap
  have hmax := h.max
  by_cases h6 : 600 < n
  · have H : Hid (partsR l = ([], 3)) := partsR_long (by rw [HL.out]; exact h6)
    go_enter Tryz.func159, Tryz.ntmps159
    go_wp2
    go_ret2
    exact PtR.err H.out (Below.refl _ _)
  have H0 : Hid (goL [] l = partsR l) := (go_start (by rw [HL.out]; exact h6)).symm
  have h6' : n ≤ 600 := by omega
  have h0 := h.upto
  clear h6 h
  go_enter Tryz.func159, Tryz.ntmps159
  go_wp2
  go_loopw [4, 5] (fun v i wr => StQ w l n (partsR l) v i wr) (fun _ i _ => n - (intOf i).toNat)
  case atStart => exact ⟨0, none, 0, 0, [], by omega, rfl, rfl, OwnC.nil _ _ _, (fun p hp => by cases hp), by omega, H0.out, Below.refl _ _⟩
  case round =>
    obtain ⟨k, A2, n2, c2, ps, hk, rfl, rfl, hown, hdat, hn2, hR, hb⟩ := hrel
    have HR := Lib.hid hR
    have HDT := Lib.hid hdat
    clear hR hdat
    have hsz := hb.size
    have hbs := h0.below hb
    by_cases hlt : k < n
    rotate_left
    · obtain rfl : k = n := by omega
      have H : Hid (partsR l = (osP ps, 0)) := by
        rw [← HR.out, List.drop_eq_nil_of_le (by rw [HL.out]; exact Nat.le_refl _)]
        exact go_nil _
      go_wp2
      go_ret2
      exact PtR.good H.out (rd_of hown HDT.out) hb
    obtain ⟨b, o, rfl, hc⟩ := hbs.1.at_ hlt
    have hkl : k < l.length := by rw [HL.out]; exact hlt
    have hcell := hc k hkl
    have HDr := Lib.hid (List.drop_eq_getElem_cons hkl)
    obtain ⟨y, hy⟩ : ∃ y, l[k] = y := ⟨_, rfl⟩
    rw [hy] at hcell HDr
    have HC := Lib.hid hc
    clear hc hy hkl
    have hyl := y.toNat_lt
    by_cases hlt2 : k + 1 < n
    rotate_left
    · have H : Hid (partsR l = ([], 2)) := by
        rw [← HR.out, HDr.out, List.drop_eq_nil_of_le (by rw [HL.out]; omega)]
        exact go_lone _ _
      obtain rfl : n = k + 1 := by omega
      generalize y.toNat = u at hcell hyl
      go_wp2
      go_ret2
      exact PtR.err H.out hb
    have hkl2 : k + 1 < l.length := by rw [HL.out]; exact hlt2
    have hcell1 := HC.out (k + 1) hkl2
    have HDr2 := Lib.hid (List.drop_eq_getElem_cons hkl2)
    obtain ⟨z, hz⟩ : ∃ z, l[k + 1] = z := ⟨_, rfl⟩
    rw [hz] at hcell1 HDr2
    have hrl : (l.drop (k + 1 + 1)).length = n - (k + 2) := by rw [List.length_drop, HL.out]
    have hzl := z.toNat_lt
    have hne : ((k : Int) + 1 == (n : Int)) = false := by simp; omega
    clear hz hkl2
    by_cases hsh : n < k + 2 + z.toNat
    · have H : Hid (partsR l = ([], 2)) := by
        rw [← HR.out, HDr.out, HDr2.out]
        exact go_short _ (by rw [hrl]; omega)
      clear hrl
      generalize y.toNat = u at hcell hyl
      generalize z.toNat = m at hcell1 hzl hsh
      go_wp2
      go_ret2
      exact PtR.err H.out hb
    have H : Hid (goL (osP ps ++ [((y.toNat : Int), (l.drop (k + 2)).take z.toNat)]) (l.drop (k + 2 + z.toNat)) = partsR l) := by
      have e := go_step (osP ps) (c := y) (n := z) (r := l.drop (k + 1 + 1)) (by rw [hrl]; omega)
      rw [List.drop_drop] at e
      show goL (osP ps ++ [((y.toNat : Int), (l.drop (k + 1 + 1)).take z.toNat)]) (l.drop (k + 1 + 1 + z.toNat)) = partsR l
      rw [← e, ← HR.out, HDr.out, HDr2.out]
    obtain ⟨D, hD, hrun⟩ := byP.cutU_lh hbs (k + 2) (k + 2 + z.toNat) ((k : Int) + 2) ((k : Int) + 2 + (z.toNat : Int)) (by omega) (by omega) (by omega) (by omega)
    rw [show k + 2 + z.toNat - (k + 2) = z.toNat by omega] at hD hrun
    clear hrl
    generalize y.toNat = u at hcell hyl H
    generalize z.toNat = m at hcell1 hzl hsh H hD hrun
    have hba : Below wr.heap.size wr (wr.alloc (Obj.cells #[Value.int IntKind.i64 (u : Int), Value.slice D m (c - (k + 2))] 74)).drew := ((Below.refl _ _).alloc (Nat.le_refl _) _).drew
    have hlit : RdC (wr.alloc (Obj.cells #[Value.int IntKind.i64 (u : Int), Value.slice D m (c - (k + 2))] 74)).drew (some ⟨wr.heap.size, 0, none⟩) 1 1 (cellsP [⟨(u : Int), D, c - (k + 2), (l.drop (k + 2)).take m⟩]) :=
      (OwnC.lit1m 74 wr (u : Int) D m (c - (k + 2)) ((l.drop (k + 2)).take m) hD.len).rdc
    have howna := hown.below hba
    have hszb : w.heap.size ≤ (wr.alloc (Obj.cells #[Value.int IntKind.i64 (u : Int), Value.slice D m (c - (k + 2))] 74)).drew.heap.size := Nat.le_trans hsz hba.size
    have hba' : Below w.heap.size wr (wr.alloc (Obj.cells #[Value.int IntKind.i64 (u : Int), Value.slice D m (c - (k + 2))] 74)).drew := hba.mono hsz
    have hi1 : (0 : Int) ≤ (k : Int) := by omega
    have hi2 : (k : Int) < (n : Int) := by omega
    clear hown hba hbs
    have hw1 : IntKind.i64.wrap ((k : Int) + 2) = (k : Int) + 2 := IntWalk.i64_in _ (by omega)
    have hw2 : IntKind.i64.wrap ((k : Int) + 2 + (m : Int)) = (k : Int) + 2 + (m : Int) := IntWalk.i64_in _ (by omega)
    have hw0 : IntKind.i64.wrap (u : Int) = (u : Int) := IntWalk.i64_in _ (by omega)
    have HW0 := Lib.hid hw0
    have HW1 := Lib.hid hw1
    have HW2 := Lib.hid hw2
    have hb600 : (n2 + 1) * 32 ≤ 140737488355328 := by omega
    clear hw0 hw1 hw2
    go_wp2_with fail
    have hw0 := HW0.out
    have hw1 := HW1.out
    have hw2 := HW2.out
    go_region_law (refine step_appO Tw.opP (by rfl) (.tmp 39) (.tmp 54) (by rfl) (by rfl) howna (by rfl) hlit hb600 hszb ?_; intro A3 c3 w3 hown3 hb3 _)
    all_goals
      clear hw0 hw1 hw2
      have hb13 : Below w.heap.size wr w3 := hba'.trans hb3
      go_wp2
      go_roundw
      case rel => exact ⟨k + 2 + m, A3, n2 + 1, c3, ps ++ [⟨(u : Int), D, c - (k + 2), (l.drop (k + 2)).take m⟩], by omega, by go_num, rfl, hown3, data_more HDT.out hD hb13, by omega, by rw [os_app]; exact H.out, hb.trans hb13⟩
      case measure => simp [intOf]; omega
end Go.Proofs.YtoldppbakapohaaGreatDoor.Rw
end
/- What the document's Bytes and Link come to. Conditions: for Bytes, 100000 options at most. -/
section
namespace Go.Proofs.YtoldppbakapohaaGreatDoor.Rw
open Go.RowKit Tl Co By Ry

set_option maxHeartbeats 1600000 in
theorem refLink_any (A : Option Addr) (n c : Nat) (l : List UInt8) (w : World) (h : Bs w A n c l) :
    Calls Tryz.prog 96 #[.slice A n c] w (LkR w (linkR l)) := by
  have HC := Lib.hid (refParts_any A n c l w h)
  clear h
  go_enter Tryz.func96, Tryz.ntmps96
  go_wp2_with fail
  refine HC.out.mono ?_
  rintro e w1 ⟨A1, n1, c1, ps, rfl, hps, hrd, hb1⟩
  have HPS := Lib.hid hps
  have hl := Lib.hid hrd.len
  have hm := hrd.max
  have hcap := hrd.cap
  generalize (partsR l).2 = err
  clear hps
  go_wp2
  go_loop [6] (fun i => ∃ k : Nat, k ≤ n1 ∧ i = .int .i64 k ∧ Hid ((5 : Int) ∉ codesL ((osP ps).take k))) (fun i => n1 - (intOf i).toNat)
  case atStart => exact ⟨0, by omega, rfl, by show (5 : Int) ∉ codesL ((osP ps).take 0); simp [codesL]⟩
  case round =>
    obtain ⟨k, hk, rfl, HS⟩ := hrel
    by_cases hlt : k < n1
    · obtain ⟨b, o, co, A', m, c', d, rfl, hcell, hcell2, hbs, _, HO, HM, hmc, hc63⟩ := hrd.at_ hlt
      have hi1 : (0 : Int) ≤ (k : Int) := by omega
      have hi2 : (k : Int) < (n1 : Int) := by omega
      by_cases he : co = 5
      · subst he
        have HF : Hid (findL (partsR l).1 5 = some d) := by
          obtain ⟨h1, h2⟩ := HO.out
          have := find_hit (c := 5) h1 (by rw [h2]) HS.out
          rw [h2, HPS.out] at this
          exact this
        by_cases h4 : m = 4
        · subst h4
          have H := Lib.hid (link_four HF.out HM.out)
          go_wp2_with fail
          refine (Cw.value_any A' 4 c' d _ hbs (by omega)).mono ?_
          rintro e w2 ⟨rfl, rfl⟩
          go_wp2
          go_ret2
          rw [H.out]
          exact ⟨rfl, hb1⟩
        · have H := Lib.hid (link_other HF.out (by rw [HM.out]; exact h4))
          have hne : ((m : Int) == 4) = false := by simp; omega
          clear h4
          go_wp2
          go_ret2
          rw [H.out]
          exact ⟨rfl, hb1⟩
      · have hne : (co == 5) = false := by simpa using he
        have H : Hid ((5 : Int) ∉ codesL ((osP ps).take (k + 1))) := by
          obtain ⟨h1, h2⟩ := HO.out
          exact not_codes_next h1 HS.out (by rw [h2]; exact he)
        clear he
        go_wp2
        go_round
        case rel => exact ⟨k + 1, by omega, by go_num, H⟩
        case measure => simp [intOf]; omega
    · obtain rfl : k = n1 := by omega
      have H : Hid (linkR l = none) := link_none (by have := HS.out; rwa [List.take_of_length_le (by rw [os_len, hl.out]; exact Nat.le_refl _), HPS.out] at this)
      go_wp2
      go_ret2
      rw [H.out]
      exact ⟨rfl, hb1⟩
end Go.Proofs.YtoldppbakapohaaGreatDoor.Rw
end
