/- What alloc's right, pooled and the smallest closure come to. Conditions: the configuration is small and the keys fit (Nd.ok). -/
import Derived.Test.YtpdjdaoclpeffaaGreatXwKit
import Derived.Test.YtpdjdaoclpeffaaGreatVwC
import Derived.Test.YtpdjdaoclpeffaaGreatBwA
import Derived.Deep.QuietTactic
set_option maxRecDepth 8000
namespace Go.Proofs.YtpdjdaoclpeffaaGreat.Xw
open Go.RowKit Co By Ky Rc Ew Jw La Tb Lw Cf Al Bw
open Vw (Cx RdPl layP atP FiR AdR KeR isI)
open Dw (ba ba_size ba_data ba_list alloc_more)

set_option maxHeartbeats 4000000 in
theorem right_any (d : Nd) (U : Nat) (w : World) (h : d.ok U w) (hU : U ≤ w.heap.size) : Calls Tryz.prog 22 #[d.v] w (isB (decide (FairA d.x.cf d.l d.net d.k)) w) := by
  obtain ⟨w0, hw0, hc0, hb0, hz⟩ := boxedN w d
  have HK := Lib.hid (fun W (hW : Below w.heap.size w W) => Vw.check_any d.x U W (h.x.below (hW.mono hU)) (Nat.le_trans hU hW.size) h.s)
  have HT := Lib.hid (fun W (hW : Below w.heap.size w W) => Bw.right_any d.A d.n d.c U d.l W (h.t.below (hW.mono hU)) (Nat.le_trans hU hW.size) h.f)
  have HY := Lib.hid (fun W => Kw.right_any (ba d.k) W (by rw [ba_size]; exact h.k))
  rw [ba_data] at HY
  have HL := Lib.hid h.x.nets
  have HB0 := Lib.hid hb0
  have HC0 := Lib.hid hc0
  have hmx : d.x.c ≤ 9223372036854775807 := h.x.rd.max
  have hcp : d.x.n ≤ d.x.c := h.x.rd.cap
  clear h hU hb0 hc0 hz
  by_cases h1 : checkC d.x.cf = 0
  · rw [h1] at HK
    cases h2 : rightT d.l with
    | false =>
      have HF := Lib.hid (right_not (d := d) fun q => by rw [show rightT d.l = true from decide_eq_true q.2.1] at h2; cases h2)
      rw [h2] at HT
      clear h1 h2
      go_enter Tryz.func22, Tryz.ntmps22
      go_wp2_with fail
      rw [← hw0]
      clear hw0
      obtain ⟨c0, c1, c2, c3, c4, c5, c6⟩ := cel7N HC0.out
      go_wp2_with fail
      refine (HK.out _ HB0.out).mono ?_
      rintro e w1 ⟨rfl, hb1⟩
      have HB1 := Lib.hid (HB0.out.trans (hb1.mono HB0.out.size))
      obtain ⟨c0, c1, c2, c3, c4, c5, c6⟩ := cel7N (HC0.out.below hb1 HC0.out.lt)
      have HC1 := Lib.hid (HC0.out.below hb1 HC0.out.lt)
      go_wp2_with fail
      refine (HT.out _ HB1.out).mono ?_
      rintro e w2 ⟨rfl, hb2⟩
      have HB2 := Lib.hid (HB1.out.trans (hb2.mono HB1.out.size))
      obtain ⟨c0, c1, c2, c3, c4, c5, c6⟩ := cel7N (HC1.out.below hb2 HC1.out.lt)
      go_wp2
      go_ret
      exact ⟨ret_bool HF.out.symm, HB2.out⟩
    | true =>
      rw [h2] at HT
      cases h3 : rightK d.k with
      | false =>
        have HF := Lib.hid (right_not (d := d) fun q => by rw [q.2.2.1] at h3; cases h3)
        rw [h3] at HY
        clear h1 h2 h3
        go_enter Tryz.func22, Tryz.ntmps22
        go_wp2_with fail
        rw [← hw0]
        clear hw0
        obtain ⟨c0, c1, c2, c3, c4, c5, c6⟩ := cel7N HC0.out
        go_wp2_with fail
        refine (HK.out _ HB0.out).mono ?_
        rintro e w1 ⟨rfl, hb1⟩
        have HB1 := Lib.hid (HB0.out.trans (hb1.mono HB0.out.size))
        obtain ⟨c0, c1, c2, c3, c4, c5, c6⟩ := cel7N (HC0.out.below hb1 HC0.out.lt)
        have HC1 := Lib.hid (HC0.out.below hb1 HC0.out.lt)
        go_wp2_with fail
        refine (HT.out _ HB1.out).mono ?_
        rintro e w2 ⟨rfl, hb2⟩
        have HB2 := Lib.hid (HB1.out.trans (hb2.mono HB1.out.size))
        obtain ⟨c0, c1, c2, c3, c4, c5, c6⟩ := cel7N (HC1.out.below hb2 HC1.out.lt)
        go_wp2_with fail
        refine (HY.out _).mono ?_
        rintro e w3 ⟨rfl, rfl⟩
        go_wp2
        go_ret
        exact ⟨ret_bool HF.out.symm, HB2.out⟩
      | true =>
        rw [h3] at HY
        by_cases h4 : 0 ≤ d.net
        · have HF := Lib.hid (right_fair (d := d) h1 h2 h3 h4 HL.out)
          have hz4 : decide (d.net ≥ 0) = true := decide_eq_true h4
          clear h1 h2 h3
          go_enter Tryz.func22, Tryz.ntmps22
          go_wp2_with fail
          rw [← hw0]
          clear hw0
          obtain ⟨c0, c1, c2, c3, c4, c5, c6⟩ := cel7N HC0.out
          go_wp2_with fail
          refine (HK.out _ HB0.out).mono ?_
          rintro e w1 ⟨rfl, hb1⟩
          have HB1 := Lib.hid (HB0.out.trans (hb1.mono HB0.out.size))
          obtain ⟨c0, c1, c2, c3, c4, c5, c6⟩ := cel7N (HC0.out.below hb1 HC0.out.lt)
          have HC1 := Lib.hid (HC0.out.below hb1 HC0.out.lt)
          go_wp2_with fail
          refine (HT.out _ HB1.out).mono ?_
          rintro e w2 ⟨rfl, hb2⟩
          have HB2 := Lib.hid (HB1.out.trans (hb2.mono HB1.out.size))
          obtain ⟨c0, c1, c2, c3, c4, c5, c6⟩ := cel7N (HC1.out.below hb2 HC1.out.lt)
          go_wp2_with fail
          refine (HY.out _).mono ?_
          rintro e w3 ⟨rfl, rfl⟩
          go_wp2
          go_ret
          exact ⟨ret_bool HF.out.symm, HB2.out⟩
        · have HF := Lib.hid (right_not (d := d) fun q => h4 q.2.2.2.1)
          have hz4 : decide (d.net ≥ 0) = false := decide_eq_false h4
          clear h1 h2 h3 h4
          go_enter Tryz.func22, Tryz.ntmps22
          go_wp2_with fail
          rw [← hw0]
          clear hw0
          obtain ⟨c0, c1, c2, c3, c4, c5, c6⟩ := cel7N HC0.out
          go_wp2_with fail
          refine (HK.out _ HB0.out).mono ?_
          rintro e w1 ⟨rfl, hb1⟩
          have HB1 := Lib.hid (HB0.out.trans (hb1.mono HB0.out.size))
          obtain ⟨c0, c1, c2, c3, c4, c5, c6⟩ := cel7N (HC0.out.below hb1 HC0.out.lt)
          have HC1 := Lib.hid (HC0.out.below hb1 HC0.out.lt)
          go_wp2_with fail
          refine (HT.out _ HB1.out).mono ?_
          rintro e w2 ⟨rfl, hb2⟩
          have HB2 := Lib.hid (HB1.out.trans (hb2.mono HB1.out.size))
          obtain ⟨c0, c1, c2, c3, c4, c5, c6⟩ := cel7N (HC1.out.below hb2 HC1.out.lt)
          go_wp2_with fail
          refine (HY.out _).mono ?_
          rintro e w3 ⟨rfl, rfl⟩
          go_wp2
          go_ret
          exact ⟨ret_bool HF.out.symm, HB2.out⟩
  · have HF := Lib.hid (right_not (d := d) fun q => h1 q.1)
    have hz1 : (checkC d.x.cf == 0) = false := by simpa using h1
    clear h1
    go_enter Tryz.func22, Tryz.ntmps22
    go_wp2_with fail
    rw [← hw0]
    clear hw0
    obtain ⟨c0, c1, c2, c3, c4, c5, c6⟩ := cel7N HC0.out
    go_wp2_with fail
    refine (HK.out _ HB0.out).mono ?_
    rintro e w1 ⟨rfl, hb1⟩
    have HB1 := Lib.hid (HB0.out.trans (hb1.mono HB0.out.size))
    obtain ⟨c0, c1, c2, c3, c4, c5, c6⟩ := cel7N (HC0.out.below hb1 HC0.out.lt)
    have HC1 := Lib.hid (HC0.out.below hb1 HC0.out.lt)
    go_wp2
    go_ret
    exact ⟨ret_bool HF.out.symm, HB1.out⟩
set_option maxHeartbeats 1000000 in
theorem another_any (h a : Int) (g : Nat) (w : World) (hc : w.cell? ⟨g, 0, none⟩ = some (.int .i64 a)) : Calls Tryz.prog 47 #[.int .i64 h, .pointer (some ⟨g, 0, none⟩)] w (isB (decide (h ≠ a)) w) := by
  have H : Hid ((h != a) = decide (h ≠ a)) := by show _ = _; by_cases k : h = a <;> simp [k]
  go_enter Tryz.func47, Tryz.ntmps47
  go_wp2
  go_ret
  exact ⟨ret_bool H.out, Below.refl _ _⟩
/-- Is an address in a pool of the network, and not reserved for another client? -/
def poolB (c : Cf) (net : Int) (k : List UInt8) (a : Int) : Bool := inPoolC c net a && (!(keeperC c a).2 || decide ((keeperC c a).1 = k))
theorem keeper_any (x : Cx) (a : Int) (U : Nat) (w : World) (h : x.ok U w) (hU : U ≤ w.heap.size) (hS : Small x.cf) : Calls Tryz.prog 75 #[x.v, .int .i64 a] w (KeR (keeperC x.cf a) w) := by
  rw [← Vw.keeper_doc]
  exact Vw.keeperX_any x a U w h hU hS
theorem kept_any (x : Cx) (net : Int) (k : List UInt8) (U : Nat) (w : World) (h : x.ok U w) (hU : U ≤ w.heap.size) (hS : Small x.cf) : Calls Tryz.prog 44 #[x.v, .int .i64 net, .string (ba k)] w (AdR (keptC x.cf net k) w) := by
  rw [← Vw.kept_doc]
  exact Vw.keptX_any x net k U w h hU hS
theorem pool_any (x : Cx) (net a : Int) (U : Nat) (w : World) (h : x.ok U w) (hU : U ≤ w.heap.size) (hS : Small x.cf) : Calls Tryz.prog 76 #[x.v, .int .i64 net, .int .i64 a] w (isB (inPoolC x.cf net a) w) := by
  rw [← Vw.pool_doc]
  exact Vw.inPoolX_any x net a U w h hU hS
theorem find_any (x : Cx) (a : Int) (U : Nat) (w : World) (h : x.ok U w) (hU : U ≤ w.heap.size) (hS : Small x.cf) : Calls Tryz.prog 42 #[x.v, .int .i64 a] w (FiR (findC x.cf a) w) := by
  rw [← Vw.find_doc]
  exact Vw.findX_any x a U w h hU hS
set_option maxHeartbeats 4000000 in
theorem pooled_any (d : Nd) (a : Int) (U : Nat) (w : World) (h : d.ok U w) (hU : U ≤ w.heap.size) : Calls Tryz.prog 49 #[d.v, .int .i64 a] w (isB (poolB d.x.cf d.net d.k a) w) := by
  obtain ⟨w0, hw0, hc0, hb0, hz⟩ := boxedN w d
  have HK := Lib.hid (fun W (hW : Below w.heap.size w W) => keeper_any d.x a U W (h.x.below (hW.mono hU)) (Nat.le_trans hU hW.size) h.s)
  have HP := Lib.hid (fun W (hW : Below w.heap.size w W) => pool_any d.x d.net a U W (h.x.below (hW.mono hU)) (Nat.le_trans hU hW.size) h.s)
  have HB0 := Lib.hid hb0
  have HC0 := Lib.hid hc0
  clear h hU hb0 hc0 hz
  unfold poolB
  generalize inPoolC d.x.cf d.net a = p at HP ⊢
  generalize keeperC d.x.cf a = u at HK ⊢
  obtain ⟨u1, u2⟩ := u
  cases p with
  | false =>
    have HF : Hid ((false && (!u2 || decide (u1 = d.k))) = false) := by show _ = _; rfl
    go_enter Tryz.func49, Tryz.ntmps49
    go_wp2_with fail
    rw [← hw0]
    clear hw0
    obtain ⟨c0, c1, c2, c3, c4, c5, c6⟩ := cel7N HC0.out
    go_wp2_with fail
    refine (HK.out _ HB0.out).mono ?_
    rintro e w1 ⟨rfl, hb1⟩
    have HB1 := Lib.hid (HB0.out.trans (hb1.mono HB0.out.size))
    obtain ⟨c0, c1, c2, c3, c4, c5, c6⟩ := cel7N (HC0.out.below hb1 HC0.out.lt)
    have HC1 := Lib.hid (HC0.out.below hb1 HC0.out.lt)
    go_wp2_with fail
    refine (HP.out _ HB1.out).mono ?_
    rintro e w2 ⟨rfl, hb2⟩
    obtain ⟨c0, c1, c2, c3, c4, c5, c6⟩ := cel7N (HC1.out.below hb2 HC1.out.lt)
    go_wp2
    go_ret
    exact ⟨ret_bool HF.out.symm, HB1.out.trans (hb2.mono HB1.out.size)⟩
  | true =>
    cases u2 with
    | false =>
      have HF : Hid ((true && (!false || decide (u1 = d.k))) = true) := by show _ = _; rfl
      go_enter Tryz.func49, Tryz.ntmps49
      go_wp2_with fail
      rw [← hw0]
      clear hw0
      obtain ⟨c0, c1, c2, c3, c4, c5, c6⟩ := cel7N HC0.out
      go_wp2_with fail
      refine (HK.out _ HB0.out).mono ?_
      rintro e w1 ⟨rfl, hb1⟩
      have HB1 := Lib.hid (HB0.out.trans (hb1.mono HB0.out.size))
      obtain ⟨c0, c1, c2, c3, c4, c5, c6⟩ := cel7N (HC0.out.below hb1 HC0.out.lt)
      have HC1 := Lib.hid (HC0.out.below hb1 HC0.out.lt)
      go_wp2_with fail
      refine (HP.out _ HB1.out).mono ?_
      rintro e w2 ⟨rfl, hb2⟩
      obtain ⟨c0, c1, c2, c3, c4, c5, c6⟩ := cel7N (HC1.out.below hb2 HC1.out.lt)
      go_wp2
      go_ret
      exact ⟨ret_bool HF.out.symm, HB1.out.trans (hb2.mono HB1.out.size)⟩
    | true =>
      by_cases hq : u1 = d.k
      · have HF : Hid ((true && (!true || decide (u1 = d.k))) = true) := by show _ = _; rw [decide_eq_true hq]; rfl
        have hqz := beq_key hq
        clear hq
        go_enter Tryz.func49, Tryz.ntmps49
        go_wp2_with fail
        rw [← hw0]
        clear hw0
        obtain ⟨c0, c1, c2, c3, c4, c5, c6⟩ := cel7N HC0.out
        go_wp2_with fail
        refine (HK.out _ HB0.out).mono ?_
        rintro e w1 ⟨rfl, hb1⟩
        have HB1 := Lib.hid (HB0.out.trans (hb1.mono HB0.out.size))
        obtain ⟨c0, c1, c2, c3, c4, c5, c6⟩ := cel7N (HC0.out.below hb1 HC0.out.lt)
        have HC1 := Lib.hid (HC0.out.below hb1 HC0.out.lt)
        go_wp2_with fail
        refine (HP.out _ HB1.out).mono ?_
        rintro e w2 ⟨rfl, hb2⟩
        obtain ⟨c0, c1, c2, c3, c4, c5, c6⟩ := cel7N (HC1.out.below hb2 HC1.out.lt)
        go_wp2
        go_ret
        exact ⟨ret_bool HF.out.symm, HB1.out.trans (hb2.mono HB1.out.size)⟩
      · have HF : Hid ((true && (!true || decide (u1 = d.k))) = false) := by show _ = _; rw [decide_eq_false hq]; rfl
        have hqz := bne_key hq
        clear hq
        go_enter Tryz.func49, Tryz.ntmps49
        go_wp2_with fail
        rw [← hw0]
        clear hw0
        obtain ⟨c0, c1, c2, c3, c4, c5, c6⟩ := cel7N HC0.out
        go_wp2_with fail
        refine (HK.out _ HB0.out).mono ?_
        rintro e w1 ⟨rfl, hb1⟩
        have HB1 := Lib.hid (HB0.out.trans (hb1.mono HB0.out.size))
        obtain ⟨c0, c1, c2, c3, c4, c5, c6⟩ := cel7N (HC0.out.below hb1 HC0.out.lt)
        have HC1 := Lib.hid (HC0.out.below hb1 HC0.out.lt)
        go_wp2_with fail
        refine (HP.out _ HB1.out).mono ?_
        rintro e w2 ⟨rfl, hb2⟩
        obtain ⟨c0, c1, c2, c3, c4, c5, c6⟩ := cel7N (HC1.out.below hb2 HC1.out.lt)
        go_wp2
        go_ret
        exact ⟨ret_bool HF.out.symm, HB1.out.trans (hb2.mono HB1.out.size)⟩
end Go.Proofs.YtpdjdaoclpeffaaGreat.Xw
