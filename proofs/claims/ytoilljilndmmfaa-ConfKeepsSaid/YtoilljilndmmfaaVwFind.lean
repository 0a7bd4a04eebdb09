/- What conf's first, Find, OnWire, reserved, KeptFor, Keeper and InPool come to. Condition: the configuration is small (boarderlaw13's Great is false); the keys that are asked for fit. -/
import Derived.Test.YtoilljilndmmfaaVwChk
set_option maxRecDepth 8000
namespace Go.Proofs.Ytoilljilndmmfaa.Vw
open Go.RowKit By Cf Ad Ky
open Dw (ba ba_size ba_data ba_list alloc_more)

/-! ### The first of a list that is wanted -/
section
variable {α : Type} {q : α → Bool} {l : List α} {k : Nat} {a : α}
theorem find_hit (h : l[k]? = some a) (hE : ∀ b ∈ l.take k, q b = false) (hq : q a = true) : l.find? q = some a := by
  have e : l = l.take k ++ (a :: l.drop (k + 1)) := by
    obtain ⟨hk, rfl⟩ := List.getElem?_eq_some_iff.1 h
    rw [← List.drop_eq_getElem_cons hk, List.take_append_drop]
  rw [e, List.find?_append, List.find?_eq_none.2 fun b hb => by rw [hE b hb]; decide, Option.none_or, List.find?_cons_of_pos hq]
theorem find_miss (hE : ∀ b ∈ l, q b = false) : l.find? q = none := List.find?_eq_none.2 fun b hb => by rw [hE b hb]; decide
theorem idx_find : ∀ l : List α, (idxI q l = -1 ∧ l.find? q = none) ∨ ∃ k : Nat, idxI q l = (k : Int) ∧ ∃ a, l[k]? = some a ∧ l.find? q = some a := fun l => by
  unfold idxI
  cases h : l.findIdx? q with
  | none => exact .inl ⟨rfl, find_miss (List.findIdx?_eq_none_iff.1 h)⟩
  | some k =>
    obtain ⟨hk, hq, hn⟩ := List.findIdx?_eq_some_iff_getElem.1 h
    refine .inr ⟨k, rfl, l[k], List.getElem?_eq_getElem hk, find_hit (List.getElem?_eq_getElem hk) (fun b hb => ?_) hq⟩
    obtain ⟨j, hj, e⟩ := mem_take_at hb
    have hjl : j < l.length := (List.getElem?_eq_some_iff.1 e).1
    have := hn j hj
    rw [(List.getElem?_eq_some_iff.1 e).2] at this
    simpa using this
end
/-- Memory that has a configuration and a number in two new blocks. -/
theorem boxedCi (w : World) (x : Cx) (a : Int) : ∃ w0, w0 = (w.alloc (.cells x.cs 24)).alloc (.cells #[.int .i64 a] 3) ∧ Cel w0 w.heap.size 24 x.cs ∧ Cel w0 (w.heap.size + 1) 3 #[.int .i64 a] ∧ Below w.heap.size w w0 := by
  have hs : (w.alloc (.cells x.cs 24)).heap.size = w.heap.size + 1 := by simp
  have c1 := Cel.born (w.alloc (.cells x.cs 24)) 3 #[.int .i64 a]
  rw [hs] at c1
  exact ⟨_, rfl, (Cel.born w 24 x.cs).below (alloc_more _ _) (by rw [hs]; omega), c1, two_boxes _ _ _ _ _⟩
def knownX (x : Cx) : List Px := if checkC x.cf = 0 then pxF 0 x.ns else []
theorem knownX_mem {x : Cx} {p : Px} (h : p ∈ knownX x) : p ∈ pxF 0 x.ns := by
  unfold knownX at h
  split at h
  · exact h
  · cases h
theorem knownX_len {x : Cx} {U : Nat} {w : World} (h : x.ok U w) (hS : Small x.cf) : (knownX x).length ≤ 100 := by
  unfold knownX
  split
  · exact small_px h hS
  · simp
def firstP (q : Px → Bool) (ps : List Px) : Int × Int × Bool := match ps.find? q with | some p => ((p.net : Int), (p.sub : Int), true) | none => (0, 0, false)
def FiR (t : Int × Int × Bool) (w : World) (e : Ending) (w' : World) : Prop := e = .returned (.tuple #[.int .i64 t.1, .int .i64 t.2.1, .bool t.2.2]) ∧ Below w.heap.size w w'
set_option maxHeartbeats 4000000 in
theorem first_gen (x : Cx) (U : Nat) (w : World) (h : x.ok U w) (hU : U ≤ w.heap.size) (hS : Small x.cf) (K : Nat) (hE : ∀ args W, (callFunc K args).run Try.prog W = .ok (.enter K args) W) (bs : Array Value) (q : Px → Bool)
    (HK : ∀ p pn rn W, Below w.heap.size w W → Calls Try.prog K (#[Px.v p pn rn] ++ bs) W (isB (q p) W)) :
    Calls Try.prog 34 #[x.v, .func (.func K) #[] bs] w (FiR (firstP q (knownX x)) w) := by
  obtain ⟨w0, hw0, hc0, hb0⟩ := boxedC w x
  have hz : w0.heap.size = w.heap.size + 1 := by rw [hw0]; simp
  have HKN : Hid (Calls Try.prog 43 #[x.v] w0 (PlR w0 (knownX x))) := known_any x U w0 (h.below (hb0.mono hU)) (by omega) hS
  have HKK := Lib.hid HK
  have HEN := Lib.hid hE
  have HB := Lib.hid hb0
  clear h hU hS hc0 hb0 hz HK hE
  generalize knownX x = ps at HKN ⊢
  go_enter Try.func34, Try.ntmps34
  go_wp2_with fail
  rw [← hw0]
  clear hw0
  refine HKN.out.mono ?_
  rintro e w1 ⟨A, n, c, rfl, hr, hb1⟩
  have HX := Lib.hid hr
  have HL := Lib.hid hr.len
  have hcp := hr.cap
  have hmx := hr.max
  have HB1 := Lib.hid (HB.out.trans (hb1.mono HB.out.size))
  clear hr hb1 HKN
  go_wp2_with fail
  go_loopw [12] (fun v wr => ∃ k : Nat, v = .int .i64 k ∧ k ≤ n ∧ Hid (∀ a ∈ ps.take k, q a = false) ∧ Hid (Below w1.heap.size w1 wr)) (fun v _ => n - (intOf v).toNat)
  case atStart => exact ⟨0, rfl, by omega, fun a ha => by simp at ha, Below.refl _ _⟩
  case round =>
    obtain ⟨k, rfl, hk2, HE, HB2⟩ := hrel
    by_cases hlt : k < n
    · obtain ⟨b, o, p, pn, rn, rfl, hbU, HA, hok, HP, HR, t0, t1, t2, t3, t4, t5, t6, t7, t8⟩ := atX (HX.out.below HB2.out) hlt
      have hkz : (k : Int) < (n : Int) := by omega
      obtain ⟨w2, hw2⟩ : ∃ w2, w2 = wr.alloc (.cells (p.cs pn rn) 55) := ⟨_, rfl⟩
      have hb2 : Below wr.heap.size wr w2 := by rw [hw2]; exact alloc_more _ _
      have HC2 := Lib.hid (show Cel w2 wr.heap.size 55 (p.cs pn rn) by rw [hw2]; exact Cel.born _ _ _)
      have HB3 := Lib.hid (HB2.out.trans (hb2.mono HB2.out.size))
      have HB4 := Lib.hid (HB1.out.trans (HB3.out.mono HB1.out.size))
      have HC := Lib.hid (HKK.out p pn rn w2 HB4.out)
      clear hb2 hok
      cases hq : q p with
      | true =>
        have HT : Hid (firstP q ps = ((p.net : Int), (p.sub : Int), true)) := by
          show _ = _
          unfold firstP
          rw [find_hit HA.out HE.out hq]
        rw [hq] at HC
        clear hq HE HA
        go_upto_region 4 with fail
        rw [← hw2]
        clear hw2
        obtain ⟨z0, z1, z2, z3, z4, z5, z6, z7, z8⟩ := cel9 HC2.out
        go_wp2_with fail
        rw [HEN.out, Oper.upon_enter]
        refine HC.out.mono ?_
        rintro e w3 ⟨rfl, hb3⟩
        clear z0 z1 z2 z3 z4 z5 z6 z7 z8
        obtain ⟨z0, z1, z2, z3, z4, z5, z6, z7, z8⟩ := cel9 (HC2.out.below hb3 HC2.out.lt)
        have HB5 := Lib.hid (HB4.out.trans (hb3.mono HB4.out.size))
        clear hb3
        go_wp2_with fail
        go_quiet (fail)
        go_wp2
        go_ret3
        rw [HT.out]
        exact ⟨rfl, below_drewN HB5.out _⟩
      | false =>
        have HT : Hid (∀ a ∈ ps.take (k + 1), q a = false) := take_skip HA.out HE.out hq
        rw [hq] at HC
        clear hq HE HA
        go_upto_region 4 with fail
        rw [← hw2]
        clear hw2
        obtain ⟨z0, z1, z2, z3, z4, z5, z6, z7, z8⟩ := cel9 HC2.out
        go_wp2_with fail
        rw [HEN.out, Oper.upon_enter]
        refine HC.out.mono ?_
        rintro e w3 ⟨rfl, hb3⟩
        go_wp2
        go_roundw
        case rel => exact ⟨k + 1, by go_num, by omega, HT.out, HB3.out.trans (hb3.mono HB3.out.size)⟩
        case measure => simp [intOf]; omega
    · obtain rfl : k = n := by omega
      have HT : Hid (firstP q ps = (0, 0, false)) := by
        show _ = _
        unfold firstP
        rw [← HL.out, List.take_length] at HE
        rw [find_miss HE.out]
      have hkz : ¬ (k : Int) < (k : Int) := by omega
      clear hlt HE
      go_wp2
      go_ret3
      rw [HT.out]
      exact ⟨rfl, HB1.out.trans (HB2.out.mono HB1.out.size)⟩
set_option maxHeartbeats 2000000 in
theorem findX_any (x : Cx) (a : Int) (U : Nat) (w : World) (h : x.ok U w) (hU : U ≤ w.heap.size) (hS : Small x.cf) : Calls Try.prog 12 #[x.v, .int .i64 a] w (FiR (firstP (fun p => hasB p.x.base p.x.bits a) (knownX x)) w) := by
  obtain ⟨w0, hw0, hc0, hc1, hb0⟩ := boxedCi w x a
  have hz : w0.heap.size = w.heap.size + 2 := by rw [hw0]; simp
  have HF := Lib.hid (first_gen x U w0 (h.below (hb0.mono hU)) (by omega) hS 35 (fun args W => by rfl) #[.pointer (some ⟨w.heap.size + 1, 0, none⟩)] (fun p => hasB p.x.base p.x.bits a)
    (fun p pn rn W hW => by rw [app1]; exact found_any p pn rn a _ W (by have := hW.size; omega) (by rw [(hc1.below hW hc1.lt).cell]; rfl)))
  have HB := Lib.hid hb0
  clear h hU hS hc0 hc1 hb0 hz
  go_enter Try.func12, Try.ntmps12
  go_wp2_with fail
  rw [← hw0]
  clear hw0
  refine HF.out.mono ?_
  rintro e w1 ⟨rfl, hb1⟩
  go_wp2
  go_ret3
  exact ⟨rfl, HB.out.trans (hb1.mono HB.out.size)⟩
set_option maxHeartbeats 2000000 in
theorem wireX_any (x : Cx) (a : Int) (U : Nat) (w : World) (h : x.ok U w) (hU : U ≤ w.heap.size) (hS : Small x.cf) : Calls Try.prog 14 #[x.v, .int .i64 a] w (FiR (firstP (fun p => decide (0 < a) && decide (p.x.iface = a)) (knownX x)) w) := by
  obtain ⟨w0, hw0, hc0, hc1, hb0⟩ := boxedCi w x a
  have hz : w0.heap.size = w.heap.size + 2 := by rw [hw0]; simp
  have HF := Lib.hid (first_gen x U w0 (h.below (hb0.mono hU)) (by omega) hS 38 (fun args W => by rfl) #[.pointer (some ⟨w.heap.size + 1, 0, none⟩)] (fun p => decide (0 < a) && decide (p.x.iface = a))
    (fun p pn rn W hW => by rw [app1]; exact wired_any p pn rn a _ W (by have := hW.size; omega) (by rw [(hc1.below hW hc1.lt).cell]; rfl)))
  have HB := Lib.hid hb0
  clear h hU hS hc0 hc1 hb0 hz
  go_enter Try.func14, Try.ntmps14
  go_wp2_with fail
  rw [← hw0]
  clear hw0
  refine HF.out.mono ?_
  rintro e w1 ⟨rfl, hb1⟩
  go_wp2
  go_ret3
  exact ⟨rfl, HB.out.trans (hb1.mono HB.out.size)⟩
/-! ### What is reserved -/
theorem celPut1 {w : World} {g : Nat} {t : TypeId} {cs : Array Value} (h : Cel w g t cs) (i : Nat) (v : Value) : Cel (w.setCell ⟨g, i, none⟩ v) g t (cs.setIfInBounds i v) := by
  unfold Cel at *
  rw [setCell_eq_setRow w g i cs t (0, 0) v h]
  exact setRow_heap w g cs _ t _ h
theorem celFr1 {w : World} {g : Nat} {t : TypeId} {cs : Array Value} (h : Cel w g t cs) (i : Nat) : w.frozen? ⟨g, i, none⟩ = false := by
  unfold Cel at h
  simp [World.frozen?, h]
section
variable {w v : World} {g B : Nat} {t : TypeId} {a b c a' b' c' : Value}
theorem celK3 (h : Cel w g t #[a, b, c]) : w.cell? ⟨g, 0, none⟩ = some a ∧ w.cell? ⟨g, 1, none⟩ = some b ∧ w.cell? ⟨g, 2, none⟩ = some c := ⟨by rw [h.cell]; rfl, by rw [h.cell]; rfl, by rw [h.cell]; rfl⟩
theorem celFr3 (h : Cel w g t #[a, b, c]) : w.frozen? ⟨g, 0, none⟩ = false ∧ w.frozen? ⟨g, 1, none⟩ = false ∧ w.frozen? ⟨g, 2, none⟩ = false := ⟨celFr1 h 0, celFr1 h 1, celFr1 h 2⟩
theorem celPut3 (h : Cel w g t #[a', b', c']) : Cel (((w.setCell ⟨g, 0, none⟩ a).setCell ⟨g, 1, none⟩ b).setCell ⟨g, 2, none⟩ c) g t #[a, b, c] := celPut1 (celPut1 (celPut1 h 0 a) 1 b) 2 c
theorem belowPut3 (h : Below B v w) (hg : B ≤ g) (a b c : Value) : Below B v (((w.setCell ⟨g, 0, none⟩ a).setCell ⟨g, 1, none⟩ b).setCell ⟨g, 2, none⟩ c) :=
  ((h.setCell (p := ⟨g, 0, none⟩) hg _).setCell (p := ⟨g, 1, none⟩) hg _).setCell (p := ⟨g, 2, none⟩) hg _
theorem ret_kept2 {fn : Func} {p u : Tmp} (hres : fn.results = #[.cell p 62, .tmp u]) (tmps : Array Value) (w : World) (g : Nat) (cs : Array Value) (hp : tmps.getD p undef = .pointer (some ⟨g, 0, none⟩)) (hc : Cel w g 62 cs) (h3 : cs.size = 3) :
    (results fn tmps).run Try.prog w = .ok (.tuple #[.agg cs, tmps.getD u undef]) w := by
  rw [results_cell_tmp hres, hp]
  have := run_loadVar_row (P := Try.prog) w g 62 62 cs (0, 0) _ hc Try.underlying62 rfl (by rw [h3]; kernel_rfl)
  simp [asAddr, this]
end
def firstK (q : Kx → Bool) (ks : List Kx) : Value × Bool := match ks.find? q with | some k => (k.v, true) | none => (.agg #[.string ⟨#[]⟩, .int .i64 0, .int .i64 0], false)
def KpR (t : Value × Bool) (w : World) (e : Ending) (w' : World) : Prop := e = .returned (.tuple #[t.1, .bool t.2]) ∧ Below w.heap.size w w'
set_option maxHeartbeats 4000000 in
theorem reserved_gen (x : Cx) (U : Nat) (w : World) (h : x.ok U w) (hU : U ≤ w.heap.size) (hS : Small x.cf) (K : Nat) (hE : ∀ args W, (callFunc K args).run Try.prog W = .ok (.enter K args) W) (bs : Array Value) (q : Kx → Bool)
    (HK : ∀ k W, Below w.heap.size w W → Calls Try.prog K (#[Kx.v k] ++ bs) W (isB (q k) W)) :
    Calls Try.prog 39 #[x.v, .func (.func K) #[] bs] w (KpR (firstK q (kxF (knownX x))) w) := by
  obtain ⟨w0, hw0⟩ : ∃ w0, w0 = (w.alloc (.cells x.cs 24)).alloc (.cells #[.string ⟨#[]⟩, .int .i64 0, .int .i64 0] 62) := ⟨_, rfl⟩
  have hb0 : Below w.heap.size w w0 := by rw [hw0]; exact two_boxes _ _ _ _ _
  have hz : w0.heap.size = w.heap.size + 2 := by rw [hw0]; simp
  have hc1 : Cel w0 (w.heap.size + 1) 62 #[.string ⟨#[]⟩, .int .i64 0, .int .i64 0] := by
    have c1 := Cel.born (w.alloc (.cells x.cs 24)) 62 #[.string ⟨#[]⟩, .int .i64 0, .int .i64 0]
    rw [show (w.alloc (.cells x.cs 24)).heap.size = w.heap.size + 1 by simp] at c1
    rw [hw0]
    exact c1
  have HKN : Hid (Calls Try.prog 43 #[x.v] w0 (PlR w0 (knownX x))) := known_any x U w0 (h.below (hb0.mono hU)) (by omega) hS
  have HRS := Lib.hid (fun w1 A n c (r1 : RdPx w1.heap.size w1 A n c (knownX x)) => reserves_any A n c w1.heap.size (knownX x) w1 r1 (Nat.le_refl _) (by have := r1.len; have := knownX_len h hS; omega) (fun p hp => small_res hS p (knownX_mem hp)))
  have HIX := Lib.hid (fun w2 A n c (b1 : Below w0.heap.size w0 w2) (r2 : RdKx w2.heap.size w2 A n c (kxF (knownX x))) => indexK K hE bs q A n c w2.heap.size (kxF (knownX x)) w2 r2 (Nat.le_refl _) (fun k _ W hW => HK k W (hb0.trans ((b1.trans (hW.mono b1.size)).mono hb0.size))))
  have HB := Lib.hid hb0
  have HC1 := Lib.hid hc1
  clear h hU hS hE HK hb0 hz hc1
  generalize kxF (knownX x) = ks at HRS HIX ⊢
  rcases idx_find (q := q) ks with ⟨hi, hf⟩ | ⟨k, hi, a, ha, hf⟩
  · have HT : Hid (firstK q ks = (.agg #[.string ⟨#[]⟩, .int .i64 0, .int .i64 0], false)) := by show _ = _; unfold firstK; rw [hf]
    have HI := Lib.hid hi
    clear hi hf
    go_enter Try.func39, Try.ntmps39
    go_wp2_with fail
    rw [← hw0]
    clear hw0
    refine HKN.out.mono ?_
    rintro e w1 ⟨A, n, c, rfl, hr, hb1⟩
    go_wp2_with fail
    refine (HRS.out w1 A n c hr).mono ?_
    rintro e w2 ⟨A2, n2, c2, rfl, hr2, hb2⟩
    have hb02 := hb1.trans (hb2.mono hb1.size)
    have HB2 := Lib.hid hb02
    have HX2 := Lib.hid (HIX.out w2 A2 n2 c2 hb02 hr2)
    clear hr hb1 hb2 hb02
    go_wp2_with fail
    refine HX2.out.mono ?_
    rintro e w3 ⟨rfl, hb3⟩
    rw [HI.out]
    have hb03 := HB2.out.trans (hb3.mono HB2.out.size)
    have hk := HC1.out.below hb03 HC1.out.lt
    obtain ⟨q0, q1, q2⟩ := celK3 hk
    obtain ⟨f0, f1, f2⟩ := celFr3 hk
    have HK3 := Lib.hid hk
    have HB3 := Lib.hid (HB.out.trans (hb03.mono HB.out.size))
    clear hb3 hb03 hk
    go_wp2
    (try simp only [Exit.inBlock, Exit.then])
    refine bodyPost_ret (ret_kept2 rfl _ _ (w.heap.size + 1) #[.string ⟨#[]⟩, .int .i64 0, .int .i64 0] rfl (celPut3 HK3.out) rfl) rfl ?_
    rw [HT.out]
    exact ⟨rfl, belowPut3 HB3.out (by omega) _ _ _⟩
  · have HT : Hid (firstK q ks = (a.v, true)) := by show _ = _; unfold firstK; rw [hf]
    have HI := Lib.hid hi
    have HA := Lib.hid ha
    have hneg : ¬ (k : Int) < 0 := by omega
    clear hi hf ha
    go_enter Try.func39, Try.ntmps39
    go_wp2_with fail
    rw [← hw0]
    clear hw0
    refine HKN.out.mono ?_
    rintro e w1 ⟨A, n, c, rfl, hr, hb1⟩
    go_wp2_with fail
    refine (HRS.out w1 A n c hr).mono ?_
    rintro e w2 ⟨A2, n2, c2, rfl, hr2, hb2⟩
    have hb02 := hb1.trans (hb2.mono hb1.size)
    have HB2 := Lib.hid hb02
    have HX2 := Lib.hid (HIX.out w2 A2 n2 c2 hb02 hr2)
    have hlt : k < n2 := by rw [← hr2.len]; exact (List.getElem?_eq_some_iff.1 HA.out).1
    have hcp2 := hr2.cap
    have hmx2 := hr2.max
    have HR2 := Lib.hid hr2
    clear hr hr2 hb1 hb2 hb02
    go_wp2_with fail
    refine HX2.out.mono ?_
    rintro e w3 ⟨rfl, hb3⟩
    rw [HI.out]
    obtain ⟨b, o, a', rfl, hbU, HA', t0, t1, t2⟩ := atK (HR2.out.below hb3) hlt
    obtain rfl : a' = a := by have := HA'.out; rw [HA.out] at this; injection this with this; exact this.symm
    have hb03 := HB2.out.trans (hb3.mono HB2.out.size)
    have hk := HC1.out.below hb03 HC1.out.lt
    obtain ⟨q0, q1, q2⟩ := celK3 hk
    obtain ⟨f0, f1, f2⟩ := celFr3 hk
    have HK3 := Lib.hid hk
    have HB3 := Lib.hid (HB.out.trans (hb03.mono HB.out.size))
    clear hb3 hb03 hk
    go_wp2
    (try simp only [Exit.inBlock, Exit.then])
    refine bodyPost_ret (ret_kept2 rfl _ _ (w.heap.size + 1) a'.cs rfl (celPut3 HK3.out) rfl) rfl ?_
    rw [HT.out]
    exact ⟨rfl, belowPut3 HB3.out (by omega) _ _ _⟩
end Go.Proofs.Ytoilljilndmmfaa.Vw
