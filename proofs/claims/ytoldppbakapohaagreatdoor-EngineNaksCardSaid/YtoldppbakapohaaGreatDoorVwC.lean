/- What conf's first, Find, OnWire, reserved, KeptFor, Keeper and InPool come to. Condition: the configuration is small (boarderlaw13's Great is false); the keys that are asked for fit. -/
import Derived.Test.YtoldppbakapohaaGreatDoorVwB
section
set_option maxRecDepth 8000
namespace Go.Proofs.YtoldppbakapohaaGreatDoor.Vw
open Go.RowKit By Cf Ad Ky
open Dw (ba ba_size ba_data ba_list alloc_more)

/-! ### The first of a list that is wanted -/
section
variable {α : Type} {q : α → Bool} {l : List α} {k : Nat} {a : α}
theorem find_hit (h : l[k]? = some a) (hE : ∀ b ∈ l.take k, q b = false) (hq : q a = true) : l.find? q = some a := by
  have e : l = l.take k ++ (a :: l.drop (k + 1)) := by
    obtain ⟨hk, rfl⟩ := List.getElem?_eq_some_iff.1 h
    rw [← List.drop_eq_getElem_cons hk, List.take_append_drop]
  rw [e, List.find?_append, List.find?_eq_none.2 fun b hb => by rw [hE b hb]; decide, Option.none_or, List.find?_cons_of_pos hq]
theorem find_miss (hE : ∀ b ∈ l, q b = false) : l.find? q = none := List.find?_eq_none.2 fun b hb => by rw [hE b hb]; decide
theorem idx_find : ∀ l : List α, (idxI q l = -1 ∧ l.find? q = none) ∨ ∃ k : Nat, idxI q l = (k : Int) ∧ ∃ a, l[k]? = some a ∧ l.find? q = some a := fun l => by
  unfold idxI
  cases h : l.findIdx? q with
  | none => exact .inl ⟨rfl, find_miss (List.findIdx?_eq_none_iff.1 h)⟩
  | some k =>
    obtain ⟨hk, hq, hn⟩ := List.findIdx?_eq_some_iff_getElem.1 h
    refine .inr ⟨k, rfl, l[k], List.getElem?_eq_getElem hk, find_hit (List.getElem?_eq_getElem hk) (fun b hb => ?_) hq⟩
    obtain ⟨j, hj, e⟩ := mem_take_at hb
    have hjl : j < l.length := (List.getElem?_eq_some_iff.1 e).1
    have := hn j hj
    rw [(List.getElem?_eq_some_iff.1 e).2] at this
    simpa using this
end
/-- Memory that has a configuration and a number in two new blocks. -/
theorem boxedCi (w : World) (x : Cx) (a : Int) : ∃ w0, w0 = (w.alloc (.cells x.cs 24)).alloc (.cells #[.int .i64 a] 3) ∧ Cel w0 w.heap.size 24 x.cs ∧ Cel w0 (w.heap.size + 1) 3 #[.int .i64 a] ∧ Below w.heap.size w w0 := by
  have hs : (w.alloc (.cells x.cs 24)).heap.size = w.heap.size + 1 := by simp
  have c1 := Cel.born (w.alloc (.cells x.cs 24)) 3 #[.int .i64 a]
  rw [hs] at c1
  exact ⟨_, rfl, (Cel.born w 24 x.cs).below (alloc_more _ _) (by rw [hs]; omega), c1, two_boxes _ _ _ _ _⟩
def knownX (x : Cx) : List Px := if checkC x.cf = 0 then pxF 0 x.ns else []
theorem knownX_mem {x : Cx} {p : Px} (h : p ∈ knownX x) : p ∈ pxF 0 x.ns := by
  unfold knownX at h
  split at h
  · exact h
  · cases h
theorem knownX_len {x : Cx} {U : Nat} {w : World} (h : x.ok U w) (hS : Small x.cf) : (knownX x).length ≤ 100 := by
  unfold knownX
  split
  · exact small_px h hS
  · simp
def firstP (q : Px → Bool) (ps : List Px) : Int × Int × Bool := match ps.find? q with | some p => ((p.net : Int), (p.sub : Int), true) | none => (0, 0, false)
def FiR (t : Int × Int × Bool) (w : World) (e : Ending) (w' : World) : Prop := e = .returned (.tuple #[.int .i64 t.1, .int .i64 t.2.1, .bool t.2.2]) ∧ Below w.heap.size w w'
set_option maxHeartbeats 4000000 in
theorem first_gen (x : Cx) (U : Nat) (w : World) (h : x.ok U w) (hU : U ≤ w.heap.size) (hS : Small x.cf) (K : Nat) (hE : ∀ args W, (callFunc K args).run Tryz.prog W = .ok (.enter K args) W) (bs : Array Value) (q : Px → Bool)
    (HK : ∀ p pn rn W, Below w.heap.size w W → Calls Tryz.prog K (#[Px.v p pn rn] ++ bs) W (isB (q p) W)) :
    Calls Tryz.prog 165 #[x.v, .func (.func K) #[] bs] w (FiR (firstP q (knownX x)) w) := by
  obtain ⟨w0, hw0, hc0, hb0⟩ := boxedC w x
  have hz : w0.heap.size = w.heap.size + 1 := by rw [hw0]; simp
  have HKN : Hid (Calls Tryz.prog 208 #[x.v] w0 (PlR w0 (knownX x))) := known_any x U w0 (h.below (hb0.mono hU)) (by omega) hS
  have HKK := Lib.hid HK
  have HEN := Lib.hid hE
  have HB := Lib.hid hb0
  clear h hU hS hc0 hb0 hz HK hE
  generalize knownX x = ps at HKN ⊢
  go_enter Tryz.func165, Tryz.ntmps165
  go_wp2_with fail
  rw [← hw0]
  clear hw0
  refine HKN.out.mono ?_
  rintro e w1 ⟨A, n, c, rfl, hr, hb1⟩
  have HX := Lib.hid hr
  have HL := Lib.hid hr.len
  have hcp := hr.cap
  have hmx := hr.max
  have HB1 := Lib.hid (HB.out.trans (hb1.mono HB.out.size))
  clear hr hb1 HKN
  go_wp2_with fail
  go_loopw [12] (fun v wr => ∃ k : Nat, v = .int .i64 k ∧ k ≤ n ∧ Hid (∀ a ∈ ps.take k, q a = false) ∧ Hid (Below w1.heap.size w1 wr)) (fun v _ => n - (intOf v).toNat)
  case atStart => exact ⟨0, rfl, by omega, fun a ha => by simp at ha, Below.refl _ _⟩
  case round =>
    obtain ⟨k, rfl, hk2, HE, HB2⟩ := hrel
    by_cases hlt : k < n
    · obtain ⟨b, o, p, pn, rn, rfl, hbU, HA, hok, HP, HR, t0, t1, t2, t3, t4, t5, t6, t7, t8⟩ := atX (HX.out.below HB2.out) hlt
      have hkz : (k : Int) < (n : Int) := by omega
      obtain ⟨w2, hw2⟩ : ∃ w2, w2 = wr.alloc (.cells (p.cs pn rn) 162) := ⟨_, rfl⟩
      have hb2 : Below wr.heap.size wr w2 := by rw [hw2]; exact alloc_more _ _
      have HC2 := Lib.hid (show Cel w2 wr.heap.size 162 (p.cs pn rn) by rw [hw2]; exact Cel.born _ _ _)
      have HB3 := Lib.hid (HB2.out.trans (hb2.mono HB2.out.size))
      have HB4 := Lib.hid (HB1.out.trans (HB3.out.mono HB1.out.size))
      have HC := Lib.hid (HKK.out p pn rn w2 HB4.out)
      clear hb2 hok
      cases hq : q p with
      | true =>
        have HT : Hid (firstP q ps = ((p.net : Int), (p.sub : Int), true)) := by
          show _ = _
          unfold firstP
          rw [find_hit HA.out HE.out hq]
        rw [hq] at HC
        clear hq HE HA
        go_upto_region 4 with fail
        rw [← hw2]
        clear hw2
        obtain ⟨z0, z1, z2, z3, z4, z5, z6, z7, z8⟩ := cel9 HC2.out
        go_wp2_with fail
        rw [HEN.out, Oper.upon_enter]
        refine HC.out.mono ?_
        rintro e w3 ⟨rfl, hb3⟩
        clear z0 z1 z2 z3 z4 z5 z6 z7 z8
        obtain ⟨z0, z1, z2, z3, z4, z5, z6, z7, z8⟩ := cel9 (HC2.out.below hb3 HC2.out.lt)
        have HB5 := Lib.hid (HB4.out.trans (hb3.mono HB4.out.size))
        clear hb3
        go_wp2_with fail
        go_quiet (fail)
        go_wp2
        go_ret3
        rw [HT.out]
        exact ⟨rfl, below_drewN HB5.out _⟩
      | false =>
        have HT : Hid (∀ a ∈ ps.take (k + 1), q a = false) := take_skip HA.out HE.out hq
        rw [hq] at HC
        clear hq HE HA
        go_upto_region 4 with fail
        rw [← hw2]
        clear hw2
        obtain ⟨z0, z1, z2, z3, z4, z5, z6, z7, z8⟩ := cel9 HC2.out
        go_wp2_with fail
        rw [HEN.out, Oper.upon_enter]
        refine HC.out.mono ?_
        rintro e w3 ⟨rfl, hb3⟩
        go_wp2
        go_roundw
        case rel => exact ⟨k + 1, by go_num, by omega, HT.out, HB3.out.trans (hb3.mono HB3.out.size)⟩
        case measure => simp [intOf]; omega
    · obtain rfl : k = n := by omega
      have HT : Hid (firstP q ps = (0, 0, false)) := by
        show _ = _
        unfold firstP
        rw [← HL.out, List.take_length] at HE
        rw [find_miss HE.out]
      have hkz : ¬ (k : Int) < (k : Int) := by omega
      clear hlt HE
      go_wp2
      go_ret3
      rw [HT.out]
      exact ⟨rfl, HB1.out.trans (HB2.out.mono HB1.out.size)⟩
set_option maxHeartbeats 2000000 in
theorem findX_any (x : Cx) (a : Int) (U : Nat) (w : World) (h : x.ok U w) (hU : U ≤ w.heap.size) (hS : Small x.cf) : Calls Tryz.prog 115 #[x.v, .int .i64 a] w (FiR (firstP (fun p => hasB p.x.base p.x.bits a) (knownX x)) w) := by
  obtain ⟨w0, hw0, hc0, hc1, hb0⟩ := boxedCi w x a
  have hz : w0.heap.size = w.heap.size + 2 := by rw [hw0]; simp
  have HF := Lib.hid (first_gen x U w0 (h.below (hb0.mono hU)) (by omega) hS 166 (fun args W => by rfl) #[.pointer (some ⟨w.heap.size + 1, 0, none⟩)] (fun p => hasB p.x.base p.x.bits a)
    (fun p pn rn W hW => by rw [app1]; exact found_any p pn rn a _ W (by have := hW.size; omega) (by rw [(hc1.below hW hc1.lt).cell]; rfl)))
  have HB := Lib.hid hb0
  clear h hU hS hc0 hc1 hb0 hz
  go_enter Tryz.func115, Tryz.ntmps115
  go_wp2_with fail
  rw [← hw0]
  clear hw0
  refine HF.out.mono ?_
  rintro e w1 ⟨rfl, hb1⟩
  go_wp2
  go_ret3
  exact ⟨rfl, HB.out.trans (hb1.mono HB.out.size)⟩
set_option maxHeartbeats 2000000 in
theorem wireX_any (x : Cx) (a : Int) (U : Nat) (w : World) (h : x.ok U w) (hU : U ≤ w.heap.size) (hS : Small x.cf) : Calls Tryz.prog 137 #[x.v, .int .i64 a] w (FiR (firstP (fun p => decide (0 < a) && decide (p.x.iface = a)) (knownX x)) w) := by
  obtain ⟨w0, hw0, hc0, hc1, hb0⟩ := boxedCi w x a
  have hz : w0.heap.size = w.heap.size + 2 := by rw [hw0]; simp
  have HF := Lib.hid (first_gen x U w0 (h.below (hb0.mono hU)) (by omega) hS 198 (fun args W => by rfl) #[.pointer (some ⟨w.heap.size + 1, 0, none⟩)] (fun p => decide (0 < a) && decide (p.x.iface = a))
    (fun p pn rn W hW => by rw [app1]; exact wired_any p pn rn a _ W (by have := hW.size; omega) (by rw [(hc1.below hW hc1.lt).cell]; rfl)))
  have HB := Lib.hid hb0
  clear h hU hS hc0 hc1 hb0 hz
  go_enter Tryz.func137, Tryz.ntmps137
  go_wp2_with fail
  rw [← hw0]
  clear hw0
  refine HF.out.mono ?_
  rintro e w1 ⟨rfl, hb1⟩
  go_wp2
  go_ret3
  exact ⟨rfl, HB.out.trans (hb1.mono HB.out.size)⟩
/-! ### What is reserved -/
theorem celPut1 {w : World} {g : Nat} {t : TypeId} {cs : Array Value} (h : Cel w g t cs) (i : Nat) (v : Value) : Cel (w.setCell ⟨g, i, none⟩ v) g t (cs.setIfInBounds i v) := by
  unfold Cel at *
  rw [setCell_eq_setRow w g i cs t (0, 0) v h]
  exact setRow_heap w g cs _ t _ h
theorem celFr1 {w : World} {g : Nat} {t : TypeId} {cs : Array Value} (h : Cel w g t cs) (i : Nat) : w.frozen? ⟨g, i, none⟩ = false := by
  unfold Cel at h
  simp [World.frozen?, h]
section
variable {w v : World} {g B : Nat} {t : TypeId} {a b c a' b' c' : Value}
theorem celK3 (h : Cel w g t #[a, b, c]) : w.cell? ⟨g, 0, none⟩ = some a ∧ w.cell? ⟨g, 1, none⟩ = some b ∧ w.cell? ⟨g, 2, none⟩ = some c := ⟨by rw [h.cell]; rfl, by rw [h.cell]; rfl, by rw [h.cell]; rfl⟩
theorem celFr3 (h : Cel w g t #[a, b, c]) : w.frozen? ⟨g, 0, none⟩ = false ∧ w.frozen? ⟨g, 1, none⟩ = false ∧ w.frozen? ⟨g, 2, none⟩ = false := ⟨celFr1 h 0, celFr1 h 1, celFr1 h 2⟩
theorem celPut3 (h : Cel w g t #[a', b', c']) : Cel (((w.setCell ⟨g, 0, none⟩ a).setCell ⟨g, 1, none⟩ b).setCell ⟨g, 2, none⟩ c) g t #[a, b, c] := celPut1 (celPut1 (celPut1 h 0 a) 1 b) 2 c
theorem belowPut3 (h : Below B v w) (hg : B ≤ g) (a b c : Value) : Below B v (((w.setCell ⟨g, 0, none⟩ a).setCell ⟨g, 1, none⟩ b).setCell ⟨g, 2, none⟩ c) :=
  ((h.setCell (p := ⟨g, 0, none⟩) hg _).setCell (p := ⟨g, 1, none⟩) hg _).setCell (p := ⟨g, 2, none⟩) hg _
theorem ret_kept2 {fn : Func} {p u : Tmp} (hres : fn.results = #[.cell p 187, .tmp u]) (tmps : Array Value) (w : World) (g : Nat) (cs : Array Value) (hp : tmps.getD p undef = .pointer (some ⟨g, 0, none⟩)) (hc : Cel w g 187 cs) (h3 : cs.size = 3) :
    (results fn tmps).run Tryz.prog w = .ok (.tuple #[.agg cs, tmps.getD u undef]) w := by
  rw [results_cell_tmp hres, hp]
  have := run_loadVar_row (P := Tryz.prog) w g 187 187 cs (0, 0) _ hc Tryz.underlying187 rfl (by rw [h3]; kernel_rfl)
  simp [asAddr, this]
end
def firstK (q : Kx → Bool) (ks : List Kx) : Value × Bool := match ks.find? q with | some k => (k.v, true) | none => (.agg #[.string ⟨#[]⟩, .int .i64 0, .int .i64 0], false)
def KpR (t : Value × Bool) (w : World) (e : Ending) (w' : World) : Prop := e = .returned (.tuple #[t.1, .bool t.2]) ∧ Below w.heap.size w w'
set_option maxHeartbeats 4000000 in
theorem reserved_gen (x : Cx) (U : Nat) (w : World) (h : x.ok U w) (hU : U ≤ w.heap.size) (hS : Small x.cf) (K : Nat) (hE : ∀ args W, (callFunc K args).run Tryz.prog W = .ok (.enter K args) W) (bs : Array Value) (q : Kx → Bool)
    (HK : ∀ k W, Below w.heap.size w W → Calls Tryz.prog K (#[Kx.v k] ++ bs) W (isB (q k) W)) :
    Calls Tryz.prog 168 #[x.v, .func (.func K) #[] bs] w (KpR (firstK q (kxF (knownX x))) w) := by
  obtain ⟨w0, hw0⟩ : ∃ w0, w0 = (w.alloc (.cells x.cs 24)).alloc (.cells #[.string ⟨#[]⟩, .int .i64 0, .int .i64 0] 187) := ⟨_, rfl⟩
  have hb0 : Below w.heap.size w w0 := by rw [hw0]; exact two_boxes _ _ _ _ _
  have hz : w0.heap.size = w.heap.size + 2 := by rw [hw0]; simp
  have hc1 : Cel w0 (w.heap.size + 1) 187 #[.string ⟨#[]⟩, .int .i64 0, .int .i64 0] := by
    have c1 := Cel.born (w.alloc (.cells x.cs 24)) 187 #[.string ⟨#[]⟩, .int .i64 0, .int .i64 0]
    rw [show (w.alloc (.cells x.cs 24)).heap.size = w.heap.size + 1 by simp] at c1
    rw [hw0]
    exact c1
  have HKN : Hid (Calls Tryz.prog 208 #[x.v] w0 (PlR w0 (knownX x))) := known_any x U w0 (h.below (hb0.mono hU)) (by omega) hS
  have HRS := Lib.hid (fun w1 A n c (r1 : RdPx w1.heap.size w1 A n c (knownX x)) => reserves_any A n c w1.heap.size (knownX x) w1 r1 (Nat.le_refl _) (by have := r1.len; have := knownX_len h hS; omega) (fun p hp => small_res hS p (knownX_mem hp)))
  have HIX := Lib.hid (fun w2 A n c (b1 : Below w0.heap.size w0 w2) (r2 : RdKx w2.heap.size w2 A n c (kxF (knownX x))) => indexK K hE bs q A n c w2.heap.size (kxF (knownX x)) w2 r2 (Nat.le_refl _) (fun k _ W hW => HK k W (hb0.trans ((b1.trans (hW.mono b1.size)).mono hb0.size))))
  have HB := Lib.hid hb0
  have HC1 := Lib.hid hc1
  clear h hU hS hE HK hb0 hz hc1
  generalize kxF (knownX x) = ks at HRS HIX ⊢
  rcases idx_find (q := q) ks with ⟨hi, hf⟩ | ⟨k, hi, a, ha, hf⟩
  · have HT : Hid (firstK q ks = (.agg #[.string ⟨#[]⟩, .int .i64 0, .int .i64 0], false)) := by show _ = _; unfold firstK; rw [hf]
    have HI := Lib.hid hi
    clear hi hf
    go_enter Tryz.func168, Tryz.ntmps168
    go_wp2_with fail
    rw [← hw0]
    clear hw0
    refine HKN.out.mono ?_
    rintro e w1 ⟨A, n, c, rfl, hr, hb1⟩
    go_wp2_with fail
    refine (HRS.out w1 A n c hr).mono ?_
    rintro e w2 ⟨A2, n2, c2, rfl, hr2, hb2⟩
    have hb02 := hb1.trans (hb2.mono hb1.size)
    have HB2 := Lib.hid hb02
    have HX2 := Lib.hid (HIX.out w2 A2 n2 c2 hb02 hr2)
    clear hr hb1 hb2 hb02
    go_wp2_with fail
    refine HX2.out.mono ?_
    rintro e w3 ⟨rfl, hb3⟩
    rw [HI.out]
    have hb03 := HB2.out.trans (hb3.mono HB2.out.size)
    have hk := HC1.out.below hb03 HC1.out.lt
    obtain ⟨q0, q1, q2⟩ := celK3 hk
    obtain ⟨f0, f1, f2⟩ := celFr3 hk
    have HK3 := Lib.hid hk
    have HB3 := Lib.hid (HB.out.trans (hb03.mono HB.out.size))
    clear hb3 hb03 hk
    go_wp2
    (try simp only [Exit.inBlock, Exit.then])
    refine bodyPost_ret (ret_kept2 rfl _ _ (w.heap.size + 1) #[.string ⟨#[]⟩, .int .i64 0, .int .i64 0] rfl (celPut3 HK3.out) rfl) rfl ?_
    rw [HT.out]
    exact ⟨rfl, belowPut3 HB3.out (by omega) _ _ _⟩
  · have HT : Hid (firstK q ks = (a.v, true)) := by show _ = _; unfold firstK; rw [hf]
    have HI := Lib.hid hi
    have HA := Lib.hid ha
    have hneg : ¬ (k : Int) < 0 := by omega
    clear hi hf ha
    go_enter Tryz.func168, Tryz.ntmps168
    go_wp2_with fail
    rw [← hw0]
    clear hw0
    refine HKN.out.mono ?_
    rintro e w1 ⟨A, n, c, rfl, hr, hb1⟩
    go_wp2_with fail
    refine (HRS.out w1 A n c hr).mono ?_
    rintro e w2 ⟨A2, n2, c2, rfl, hr2, hb2⟩
    have hb02 := hb1.trans (hb2.mono hb1.size)
    have HB2 := Lib.hid hb02
    have HX2 := Lib.hid (HIX.out w2 A2 n2 c2 hb02 hr2)
    have hlt : k < n2 := by rw [← hr2.len]; exact (List.getElem?_eq_some_iff.1 HA.out).1
    have hcp2 := hr2.cap
    have hmx2 := hr2.max
    have HR2 := Lib.hid hr2
    clear hr hr2 hb1 hb2 hb02
    go_wp2_with fail
    refine HX2.out.mono ?_
    rintro e w3 ⟨rfl, hb3⟩
    rw [HI.out]
    obtain ⟨b, o, a', rfl, hbU, HA', t0, t1, t2⟩ := atK (HR2.out.below hb3) hlt
    obtain rfl : a' = a := by have := HA'.out; rw [HA.out] at this; injection this with this; exact this.symm
    have hb03 := HB2.out.trans (hb3.mono HB2.out.size)
    have hk := HC1.out.below hb03 HC1.out.lt
    obtain ⟨q0, q1, q2⟩ := celK3 hk
    obtain ⟨f0, f1, f2⟩ := celFr3 hk
    have HK3 := Lib.hid hk
    have HB3 := Lib.hid (HB.out.trans (hb03.mono HB.out.size))
    clear hb3 hb03 hk
    go_wp2
    (try simp only [Exit.inBlock, Exit.then])
    refine bodyPost_ret (ret_kept2 rfl _ _ (w.heap.size + 1) a'.cs rfl (celPut3 HK3.out) rfl) rfl ?_
    rw [HT.out]
    exact ⟨rfl, belowPut3 HB3.out (by omega) _ _ _⟩
end Go.Proofs.YtoldppbakapohaaGreatDoor.Vw
end
/- What conf's KeptFor, Keeper and InPool come to. Condition: the configuration is small (boarderlaw13's Great is false); the keys that are asked for fit. -/
section
set_option maxRecDepth 8000
namespace Go.Proofs.YtoldppbakapohaaGreatDoor.Vw
open Go.RowKit By Cf Ad Ky
open Dw (ba ba_size ba_data ba_list alloc_more)

/-- Memory that has a configuration and two more cells in three new blocks. -/
theorem boxedC2 (w : World) (x : Cx) (u v : Value) (s t : TypeId) : ∃ w0, w0 = ((w.alloc (.cells x.cs 24)).alloc (.cells #[u] s)).alloc (.cells #[v] t) ∧ Cel w0 (w.heap.size + 1) s #[u] ∧ Cel w0 (w.heap.size + 2) t #[v] ∧ Below w.heap.size w w0 ∧ w0.heap.size = w.heap.size + 3 := by
  have hs : (w.alloc (.cells x.cs 24)).heap.size = w.heap.size + 1 := by simp
  have hs2 : ((w.alloc (.cells x.cs 24)).alloc (.cells #[u] s)).heap.size = w.heap.size + 2 := by simp
  have c1 := Cel.born (w.alloc (.cells x.cs 24)) s #[u]
  rw [hs] at c1
  have c2 := Cel.born ((w.alloc (.cells x.cs 24)).alloc (.cells #[u] s)) t #[v]
  rw [hs2] at c2
  exact ⟨_, rfl, c1.below (alloc_more _ _) (by rw [hs2]; omega), c2, (two_boxes w _ _ _ _).alloc (by rw [hs2]; omega) _, by simp⟩
theorem firstK_cases (q : Kx → Bool) (ks : List Kx) : (ks.find? q = none ∧ firstK q ks = (.agg #[.string ⟨#[]⟩, .int .i64 0, .int .i64 0], false)) ∨ ∃ k, ks.find? q = some k ∧ firstK q ks = (k.v, true) := by
  unfold firstK
  cases h : ks.find? q with
  | none => exact .inl ⟨rfl, rfl⟩
  | some k => exact .inr ⟨k, rfl, rfl⟩
def AdR (t : Int × Bool) (w : World) (e : Ending) (w' : World) : Prop := e = .returned (.tuple #[.int .i64 t.1, .bool t.2]) ∧ Below w.heap.size w w'
def KeR (t : List UInt8 × Bool) (w : World) (e : Ending) (w' : World) : Prop := e = .returned (.tuple #[.string (ba t.1), .bool t.2]) ∧ Below w.heap.size w w'
set_option maxHeartbeats 2000000 in
theorem keptX_any (x : Cx) (net : Int) (key : List UInt8) (U : Nat) (w : World) (h : x.ok U w) (hU : U ≤ w.heap.size) (hS : Small x.cf) :
    Calls Tryz.prog 117 #[x.v, .int .i64 net, .string (ba key)] w (AdR (ansA (((kxF (knownX x)).find? fun k => decide ((k.net : Int) = net) && decide (k.r.key = key)).map Kx.r)) w) := by
  obtain ⟨w0, hw0, hc1, hc2, hb0, hz⟩ := boxedC2 w x (.int .i64 net) (.string (ba key)) 3 9
  have HF := Lib.hid (reserved_gen x U w0 (h.below (hb0.mono hU)) (by omega) hS 169 (fun args W => by rfl) #[.pointer (some ⟨w.heap.size + 1, 0, none⟩), .pointer (some ⟨w.heap.size + 2, 0, none⟩)] (fun k => decide ((k.net : Int) = net) && decide (k.r.key = key))
    (fun k W hW => by rw [app2]; exact kept_any k net key _ _ W (by have := hW.size; omega) (by rw [(hc1.below hW hc1.lt).cell]; rfl) (by have := hW.size; omega) (by rw [(hc2.below hW hc2.lt).cell]; rfl)))
  have HB := Lib.hid hb0
  clear h hU hS hc1 hc2 hb0 hz
  rcases firstK_cases (fun k => decide ((k.net : Int) = net) && decide (k.r.key = key)) (kxF (knownX x)) with ⟨h1, h2⟩ | ⟨k, h1, h2⟩
  · rw [h2] at HF
    rw [h1]
    clear h1 h2
    go_enter Tryz.func117, Tryz.ntmps117
    go_wp2_with fail
    rw [← hw0]
    clear hw0
    refine HF.out.mono ?_
    rintro e w1 ⟨rfl, hb1⟩
    go_wp2
    go_ret2
    exact ⟨rfl, (HB.out.trans (hb1.mono HB.out.size)).trans ((alloc_more _ _).mono (Nat.le_trans HB.out.size hb1.size))⟩
  · rw [h2] at HF
    rw [h1]
    clear h1 h2
    go_enter Tryz.func117, Tryz.ntmps117
    go_wp2_with fail
    rw [← hw0]
    clear hw0
    refine HF.out.mono ?_
    rintro e w1 ⟨rfl, hb1⟩
    go_wp2
    go_ret2
    exact ⟨rfl, (HB.out.trans (hb1.mono HB.out.size)).trans ((alloc_more _ _).mono (Nat.le_trans HB.out.size hb1.size))⟩
set_option maxHeartbeats 2000000 in
theorem keeperX_any (x : Cx) (a : Int) (U : Nat) (w : World) (h : x.ok U w) (hU : U ≤ w.heap.size) (hS : Small x.cf) :
    Calls Tryz.prog 171 #[x.v, .int .i64 a] w (KeR (ansK (((kxF (knownX x)).find? fun k => decide (k.r.addr = a)).map Kx.r)) w) := by
  obtain ⟨w0, hw0, hc0, hc1, hb0⟩ := boxedCi w x a
  have hz : w0.heap.size = w.heap.size + 2 := by rw [hw0]; simp
  have HF := Lib.hid (reserved_gen x U w0 (h.below (hb0.mono hU)) (by omega) hS 211 (fun args W => by rfl) #[.pointer (some ⟨w.heap.size + 1, 0, none⟩)] (fun k => decide (k.r.addr = a))
    (fun k W hW => by rw [app1]; exact keeps_any k a _ W (by have := hW.size; omega) (by rw [(hc1.below hW hc1.lt).cell]; rfl)))
  have HB := Lib.hid hb0
  clear h hU hS hc0 hc1 hb0 hz
  rcases firstK_cases (fun k => decide (k.r.addr = a)) (kxF (knownX x)) with ⟨h1, h2⟩ | ⟨k, h1, h2⟩
  · rw [h2] at HF
    rw [h1]
    clear h1 h2
    go_enter Tryz.func171, Tryz.ntmps171
    go_wp2_with fail
    rw [← hw0]
    clear hw0
    refine HF.out.mono ?_
    rintro e w1 ⟨rfl, hb1⟩
    go_wp2
    go_ret2
    exact ⟨rfl, (HB.out.trans (hb1.mono HB.out.size)).trans ((alloc_more _ _).mono (Nat.le_trans HB.out.size hb1.size))⟩
  · rw [h2] at HF
    rw [h1]
    clear h1 h2
    go_enter Tryz.func171, Tryz.ntmps171
    go_wp2_with fail
    rw [← hw0]
    clear hw0
    refine HF.out.mono ?_
    rintro e w1 ⟨rfl, hb1⟩
    go_wp2
    go_ret2
    exact ⟨rfl, (HB.out.trans (hb1.mono HB.out.size)).trans ((alloc_more _ _).mono (Nat.le_trans HB.out.size hb1.size))⟩
set_option maxHeartbeats 2000000 in
theorem inNet_any (p : Px) (pn rn U : Nat) (net a : Int) (g g2 : Nat) (w : World) (hok : p.x.ok U w pn rn) (hU : U ≤ w.heap.size) (hg : g < w.heap.size) (hc : w.cell? ⟨g, 0, none⟩ = some (.int .i64 net)) (hg2 : g2 < w.heap.size) (hc2 : w.cell? ⟨g2, 0, none⟩ = some (.int .i64 a)) :
    Calls Tryz.prog 212 #[p.v pn rn, .pointer (some ⟨g, 0, none⟩), .pointer (some ⟨g2, 0, none⟩)] w (isB (decide ((p.net : Int) = net) && p.x.s.pools.any fun q => inPl q a) w) := by
  obtain ⟨w0, hw0, hc0, hb0⟩ := boxed w p pn rn
  have hz : w0.heap.size = w.heap.size + 1 := by rw [hw0]; simp
  have HP := Lib.hid (pools_any p pn rn U a w0 (hok.below (hb0.mono hU)) (by omega))
  have HB := Lib.hid hb0
  have HC0 := Lib.hid hc0
  have d0 : w0.cell? ⟨g, 0, none⟩ = some (.int .i64 net) := (hb0.cell (p := ⟨g, 0, none⟩) hg).trans hc
  have d1 : w0.cell? ⟨g2, 0, none⟩ = some (.int .i64 a) := (hb0.cell (p := ⟨g2, 0, none⟩) hg2).trans hc2
  clear hok hU hg hg2 hc hc2 hc0 hb0 hz
  by_cases h1 : (p.net : Int) = net
  · have hq : ((p.net : Int) == net) = true := by simpa using h1
    have H : Hid ((decide ((p.net : Int) = net) && p.x.s.pools.any fun q => inPl q a) = p.x.s.pools.any fun q => inPl q a) := by show _ = _; rw [decide_eq_true h1, Bool.true_and]
    clear h1
    go_enter Tryz.func212, Tryz.ntmps212
    go_upto_region 1 with fail
    rw [← hw0]
    clear hw0
    obtain ⟨c0, c1, c2, c3, c4, c5, c6, c7, c8⟩ := cel9 HC0.out
    go_wp2_with fail
    refine HP.out.mono ?_
    rintro e w1 ⟨rfl, hb1⟩
    go_wp2
    go_ret
    exact ⟨ret_bool H.out.symm, HB.out.trans (hb1.mono HB.out.size)⟩
  · have hq : ((p.net : Int) == net) = false := by simpa using h1
    have H : Hid ((decide ((p.net : Int) = net) && p.x.s.pools.any fun q => inPl q a) = false) := by show _ = _; rw [decide_eq_false h1, Bool.false_and]
    clear h1
    go_enter Tryz.func212, Tryz.ntmps212
    go_upto_region 1 with fail
    rw [← hw0]
    clear hw0
    obtain ⟨c0, c1, c2, c3, c4, c5, c6, c7, c8⟩ := cel9 HC0.out
    go_wp2
    go_ret
    exact ⟨ret_bool H.out.symm, HB.out⟩
set_option maxHeartbeats 2000000 in
theorem inPoolX_any (x : Cx) (net a : Int) (U : Nat) (w : World) (h : x.ok U w) (hU : U ≤ w.heap.size) (hS : Small x.cf) :
    Calls Tryz.prog 172 #[x.v, .int .i64 net, .int .i64 a] w (isB ((knownX x).any fun p => decide ((p.net : Int) = net) && p.x.s.pools.any fun q => inPl q a) w) := by
  obtain ⟨w0, hw0, hc1, hc2, hb0, hz⟩ := boxedC2 w x (.int .i64 net) (.int .i64 a) 3 3
  have HKN : Hid (Calls Tryz.prog 208 #[x.v] w0 (PlR w0 (knownX x))) := known_any x U w0 (h.below (hb0.mono hU)) (by omega) hS
  have HX := Lib.hid (fun w1 A n c (b1 : Below w0.heap.size w0 w1) (r1 : RdPx w1.heap.size w1 A n c (knownX x)) => hasX 212 (fun args W => by rfl) #[.pointer (some ⟨w.heap.size + 1, 0, none⟩), .pointer (some ⟨w.heap.size + 2, 0, none⟩)] (fun p => decide ((p.net : Int) = net) && p.x.s.pools.any fun q => inPl q a) A n c w1.heap.size (knownX x) w1 r1 (Nat.le_refl _)
    (fun p hp pn rn e1 e2 W hW => by
      have b2 := b1.trans (hW.mono b1.size)
      have hs2 := b2.size
      rw [app2]
      exact inNet_any p pn rn w1.heap.size net a _ _ W (ok_of r1 hp e1 e2 (Nat.le_refl _) hW) hW.size (by omega) (by rw [(hc1.below b2 hc1.lt).cell]; rfl) (by omega) (by rw [(hc2.below b2 hc2.lt).cell]; rfl)))
  have HB := Lib.hid hb0
  clear h hU hS hc1 hc2 hb0 hz
  go_enter Tryz.func172, Tryz.ntmps172
  go_wp2_with fail
  rw [← hw0]
  clear hw0
  refine HKN.out.mono ?_
  rintro e w1 ⟨A, n, c, rfl, hr, hb1⟩
  have HX1 := Lib.hid (HX.out w1 A n c hb1 hr)
  have HB1 := Lib.hid (HB.out.trans (hb1.mono HB.out.size))
  clear hr hb1
  go_wp2_with fail
  refine HX1.out.mono ?_
  rintro e w2 ⟨rfl, hb2⟩
  go_wp2
  go_ret
  exact ⟨rfl, HB1.out.trans (hb2.mono HB1.out.size)⟩
/-! ### In the document's words -/
theorem mapIdx_find (f : Sn → Bool) (i : Nat) : ∀ (xs : List Sx) (o : Nat), ((xs.mapIdx fun j x => (⟨x, i, o + j⟩ : Px)).find? fun p => f p.x.s) = ((snsOf xs).findIdx? f).bind fun k => (xs[k]?).map fun x => (⟨x, i, o + k⟩ : Px)
  | [], o => rfl
  | x :: xs, o => by
    rw [List.mapIdx_cons, show snsOf (x :: xs) = x.s :: snsOf xs from rfl, List.findIdx?_cons]
    cases h : f x.s with
    | true => rw [List.find?_cons_of_pos (by exact h)]; rfl
    | false =>
      rw [List.find?_cons_of_neg (by simp [h])]
      have e : (fun j x => (⟨x, i, o + (j + 1)⟩ : Px)) = fun j x => (⟨x, i, (o + 1) + j⟩ : Px) := by
        funext j y
        rw [show o + (j + 1) = o + 1 + j by omega]
      rw [e, mapIdx_find f i xs (o + 1)]
      cases (snsOf xs).findIdx? f with
      | none => rfl
      | some k =>
        show (xs[k]?).map (fun x => (⟨x, i, o + 1 + k⟩ : Px)) = ((x :: xs)[k + 1]?).map fun x => (⟨x, i, o + (k + 1)⟩ : Px)
        rw [List.getElem?_cons_succ, show o + 1 + k = o + (k + 1) by omega]
theorem findN_px (f : Sn → Bool) : ∀ (l : List Nx) (i : Nat), ansP (findN f i (netsOf l)) = firstP (fun p => f p.x.s) (pxF i l)
  | [], _ => rfl
  | y :: l, i => by
    have hm := mapIdx_find f i y.xs 0
    simp only [Nat.zero_add] at hm
    unfold firstP
    rw [show netsOf (y :: l) = snsOf y.xs :: netsOf l from rfl, findN, pxF, List.find?_append, pxN, hm]
    cases h : (snsOf y.xs).findIdx? f with
    | some k =>
      obtain ⟨hk, _, _⟩ := List.findIdx?_eq_some_iff_getElem.1 h
      rw [sns_len] at hk
      simp only [Option.bind_some, List.getElem?_eq_getElem hk]
      rfl
    | none =>
      simp only [Option.bind_none, Option.none_or]
      have := findN_px f l (i + 1)
      unfold firstP at this
      exact this
theorem find_doc (x : Cx) (a : Int) : firstP (fun p => hasB p.x.base p.x.bits a) (knownX x) = findC x.cf a := by
  unfold knownX findC
  split
  · rw [show x.cf.nets = netsOf x.ns from rfl, findN_px]
    rfl
  · rfl
theorem wire_doc (x : Cx) (a : Int) : firstP (fun p => decide (0 < a) && decide (p.x.iface = a)) (knownX x) = wireC x.cf a := by
  unfold knownX wireC
  by_cases h0 : checkC x.cf = 0
  · rw [if_pos h0]
    by_cases h1 : 1 ≤ a
    · rw [if_pos ⟨h0, h1⟩, show x.cf.nets = netsOf x.ns from rfl, findN_px]
      rw [decide_eq_true (show 0 < a by omega)]
      rfl
    · rw [if_neg fun k => h1 k.2, decide_eq_false (show ¬ 0 < a by omega)]
      unfold firstP
      rw [find_miss (q := fun p : Px => false && decide (p.x.iface = a)) fun b _ => rfl]
  · rw [if_neg h0, if_neg fun k => h0 k.1]
    rfl
theorem kx_find (f : Rs → Bool) (net : Int) : ∀ (l : List Nx) (i : Nat), ((kxF (pxF i l)).find? fun k => decide ((k.net : Int) = net) && f k.r).map Kx.r = if (i : Int) ≤ net ∧ net < i + l.length then ((((netsOf l).getD (net - i).toNat []).flatMap fun s => s.res).find? f) else none
  | [], i => by
    rw [if_neg (by simp)]
    rfl
  | y :: l, i => by
    have ih := kx_find f net l (i + 1)
    have h1 : kxF (pxN i y.xs) = ((snsOf y.xs).flatMap fun s => s.res).map fun r => (⟨r, i⟩ : Kx) := by
      unfold kxF pxN snsOf kxP1
      rw [List.map_flatMap, List.flatMap_map]
      have : ∀ (xs : List Sx) (o : Nat), ((xs.mapIdx fun j x => (⟨x, i, o + j⟩ : Px)).flatMap fun p => p.x.res.map fun r => (⟨r, p.net⟩ : Kx)) = xs.flatMap fun x => x.s.res.map fun r => (⟨r, i⟩ : Kx) := by
        intro xs
        induction xs with
        | nil => intro o; rfl
        | cons x xs ih2 =>
          intro o
          rw [List.mapIdx_cons, List.flatMap_cons, List.flatMap_cons]
          have e : (fun j x => (⟨x, i, o + (j + 1)⟩ : Px)) = fun j x => (⟨x, i, (o + 1) + j⟩ : Px) := by
            funext j y
            rw [show o + (j + 1) = o + 1 + j by omega]
          rw [e, ih2 (o + 1)]
          rfl
      have h0 := this y.xs 0
      simp only [Nat.zero_add] at h0
      exact h0
    have h2 : kxF (pxF i (y :: l)) = kxF (pxN i y.xs) ++ kxF (pxF (i + 1) l) := by unfold kxF; rw [pxF, List.flatMap_append]
    rw [h2, List.find?_append, h1, List.find?_map]
    by_cases hi : (i : Int) = net
    · have h3 : ((fun k : Kx => decide ((k.net : Int) = net) && f k.r) ∘ fun r => (⟨r, i⟩ : Kx)) = f := by
        funext r
        simp [hi]
      have hn : (kxF (pxF (i + 1) l)).find? (fun k => decide ((k.net : Int) = net) && f k.r) = none := by
        have := ih
        rw [if_neg (by omega)] at this
        exact Option.map_eq_none_iff.1 this
      rw [h3, hn, Option.or_none, Option.map_map, if_pos (by rw [List.length_cons]; omega), show (net - i).toNat = 0 by omega]
      show Option.map (fun r => r) _ = _
      rw [Option.map_id']
      rfl
    · have h3 : ((fun k : Kx => decide ((k.net : Int) = net) && f k.r) ∘ fun r => (⟨r, i⟩ : Kx)) = fun _ => false := by
        funext r
        simp [hi]
      rw [h3, find_miss (fun b _ => rfl), Option.map_none, Option.none_or, ih]
      by_cases hr : (i : Int) + 1 ≤ net ∧ net < i + 1 + l.length
      · rw [if_pos (by omega), if_pos (by rw [List.length_cons]; omega)]
        rw [show (net - (i : Int)).toNat = (net - ((i + 1 : Nat) : Int)).toNat + 1 by omega]
        rfl
      · rw [if_neg (by omega), if_neg (by rw [List.length_cons]; omega)]
theorem netC_at {x : Cx} (h : checkC x.cf = 0) (net : Int) (f : Rs → Bool) : ((netC x.cf net).flatMap fun s => s.res).find? f = if (0 : Int) ≤ net ∧ net < (0 : Int) + x.ns.length then ((((netsOf x.ns).getD net.toNat []).flatMap fun s => s.res).find? f) else none := by
  unfold netC
  have hl : x.cf.nets.length = x.ns.length := nets_len x.ns
  by_cases hr : (0 : Int) ≤ net ∧ net < x.ns.length
  · rw [if_pos ⟨h, hr.1, by rw [hl]; exact hr.2⟩, if_pos (by omega)]
    rfl
  · rw [if_neg fun k => hr ⟨k.2.1, by rw [← hl]; exact k.2.2⟩, if_neg (by omega)]
    rfl
theorem netC_none {x : Cx} (h : ¬ checkC x.cf = 0) (net : Int) : netC x.cf net = [] := by
  unfold netC
  rw [if_neg fun k => h k.1]
theorem kept_doc (x : Cx) (net : Int) (key : List UInt8) : ansA (((kxF (knownX x)).find? fun k => decide ((k.net : Int) = net) && decide (k.r.key = key)).map Kx.r) = keptC x.cf net key := by
  unfold knownX keptC keptN
  by_cases h : checkC x.cf = 0
  · rw [if_pos h, netC_at h]
    have := kx_find (fun r => decide (r.key = key)) net x.ns 0
    simp only [Int.natCast_zero, Int.sub_zero] at this
    rw [this]
  · rw [if_neg h, netC_none h]
    rfl
theorem kx_res : ∀ (l : List Nx) (i : Nat), (kxF (pxF i l)).map Kx.r = (netsOf l).flatten.flatMap fun s => s.res
  | [], _ => rfl
  | y :: l, i => by
    have h2 : kxF (pxF i (y :: l)) = kxF (pxN i y.xs) ++ kxF (pxF (i + 1) l) := by unfold kxF; rw [pxF, List.flatMap_append]
    have h1 : (kxF (pxN i y.xs)).map Kx.r = (snsOf y.xs).flatMap fun s => s.res := by
      have : ∀ (xs : List Sx) (o : Nat), (((xs.mapIdx fun j x => (⟨x, i, o + j⟩ : Px)).flatMap fun p => p.x.res.map fun r => (⟨r, p.net⟩ : Kx))).map Kx.r = (snsOf xs).flatMap fun s => s.res := by
        intro xs
        induction xs with
        | nil => intro o; rfl
        | cons x xs ih2 =>
          intro o
          rw [List.mapIdx_cons, List.flatMap_cons, List.map_append]
          have e : (fun j x => (⟨x, i, o + (j + 1)⟩ : Px)) = fun j x => (⟨x, i, (o + 1) + j⟩ : Px) := by
            funext j y
            rw [show o + (j + 1) = o + 1 + j by omega]
          rw [e, ih2 (o + 1), List.map_map]
          show List.map (fun r => r) _ ++ _ = _
          rw [List.map_id']
          rfl
      have h0 := this y.xs 0
      simp only [Nat.zero_add] at h0
      exact h0
    rw [h2, List.map_append, h1, kx_res l (i + 1), show netsOf (y :: l) = snsOf y.xs :: netsOf l from rfl, List.flatten_cons, List.flatMap_append]
theorem keeper_doc (x : Cx) (a : Int) : ansK (((kxF (knownX x)).find? fun k => decide (k.r.addr = a)).map Kx.r) = keeperC x.cf a := by
  unfold knownX keeperC
  by_cases h : checkC x.cf = 0
  · rw [if_pos h, if_pos h]
    unfold keeperN
    rw [show x.cf.nets = netsOf x.ns from rfl, ← kx_res x.ns 0, List.find?_map]
    rfl
  · rw [if_neg h, if_neg h]
    rfl
theorem pool_doc (x : Cx) (net a : Int) : ((knownX x).any fun p => decide ((p.net : Int) = net) && p.x.s.pools.any fun q => inPl q a) = inPoolC x.cf net a := by
  unfold knownX inPoolC pooledN
  by_cases h : checkC x.cf = 0
  · rw [if_pos h]
    have e : ((pxF 0 x.ns).any fun p => decide ((p.net : Int) = net) && p.x.s.pools.any fun q => inPl q a) = (flatN 0 x.cf.nets).any fun z => decide ((z.1 : Int) = net) && z.2.pools.any fun q => inPl q a := by
      rw [show x.cf.nets = netsOf x.ns from rfl, flat_px, List.any_map]
      rfl
    rw [e, Bool.eq_iff_iff, List.any_eq_true, List.any_eq_true]
    constructor
    · rintro ⟨⟨i, s⟩, hz, hq⟩
      rw [Bool.and_eq_true, decide_eq_true_iff] at hq
      obtain ⟨hi, hs⟩ := mem_flat.1 hz
      refine ⟨s, ?_, hq.2⟩
      unfold netC
      have hq1 := hq.1
      simp only at hq1
      rw [if_pos ⟨h, by omega, by omega⟩, List.getD_eq_getElem?_getD, show net.toNat = i by omega, List.getElem?_eq_getElem hi]
      exact hs
    · rintro ⟨s, hs, hq⟩
      obtain ⟨_, i, rfl, hi, hm⟩ := net_at hs
      exact ⟨(i, s), mem_flat.2 ⟨hi, hm⟩, by simp only [decide_true, Bool.true_and]; exact hq⟩
  · rw [if_neg h, netC_none h]
    rfl
end Go.Proofs.YtoldppbakapohaaGreatDoor.Vw
end
