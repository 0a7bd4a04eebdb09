/- Arguments of type disk.Disk, []int, bool, boarderlaw08.Act and []boarderlaw08.Act, opened. No conditions of their own. -/
import Derived.Test.YtoifdjpflannlaaDwAct
import Derived.Test.YtoifdjpflannlaaRowO
import Derived.ChangeMaps5
set_option maxRecDepth 100000
namespace Go.Proofs.Ytoifdjpflannlaa
open Go.ChangeShapes Go.WideShapes Go.ChangeAt Go.RowKit By Dw

section
variable {H : Type} {enc : TypeId × Value → H} {P : Program}
/-- A cell that reads as a slice whose elements lie in a row of cells each. -/
theorem rdg_of_trod {α : Type} {Y : Lay α} {TT E : TypeId} {W : World} {base : Nat} {held : Bool} {fuel : Nat} {v : Value} {x : DataW H × List MemPlace} (hTT : P.underlying TT = some (.slice E)) (hc : P.cellsOf E = Y.s) (hs0 : 0 < Y.s) (ok : α → Prop)
    (hel : ∀ n cs y, DataW.trod enc P W base (fun _ => true) held n E cs = some y → ∃ a, cs = Y.cs a ∧ ok a) (hf : DataW.trod enc P W base (fun _ => true) held fuel TT [v] = some x) :
    ∃ A n c l, v = .slice A n c ∧ RdG Y W.heap.size W A n c l ∧ ∀ a ∈ l, ok a := by
  rcases Go.Deep.open_slice hTT hf with ⟨h1, _⟩ | ⟨a, len, cap, m, k, D, Pl, h1, hb, hlc, hmax, hm, _, hrow⟩
  · simp at h1
    exact ⟨none, 0, 0, [], h1, RdG.nil _ _, fun a ha => by cases ha⟩
  · simp only [List.cons.injEq, and_true] at h1
    subst h1
    simp only [if_true] at hm
    have each : ∀ i, i < len → ∃ p : α, (∀ j u, (Y.cs p)[j]? = some u → W.cell? (a.add (i * Y.s + j)) = some u) ∧ ok p := fun i hi => by
      obtain ⟨cs', g1, g2⟩ := hrow i (by omega)
      rw [hc] at g1
      obtain ⟨_, hlen, hcell⟩ := World.cells?_some g1
      obtain ⟨p, rfl, hok⟩ := hel _ _ _ g2
      refine ⟨p, fun j u hu => ?_, hok⟩
      have hj : j < (Y.cs p).length := (List.getElem?_eq_some_iff.1 hu).1
      have hjs : j < Y.s := by rw [Y.len] at hj; exact hj
      have := hcell j hjs
      rw [Go.Deep.add_add] at this
      rw [this, hu]
    obtain ⟨l, hlen, hl⟩ := list_of_all len each
    refine ⟨some a, len, cap, l, rfl, ⟨hlen, hlc, hmax, fun hn => ?_⟩, fun p hp => ?_⟩
    · have hp0 := (hl 0 (by omega)).1
      have hc0 : 0 < (Y.cs (l[0]'(by omega))).length := by rw [Y.len]; exact hs0
      have := hp0 0 _ (List.getElem?_eq_getElem hc0)
      rw [Nat.zero_mul, Nat.zero_add] at this
      obtain ⟨b, o, rfl⟩ := plain_addr this
      rw [add_none] at this
      refine ⟨b, o, rfl, World.block_lt_of_cell? W _ this, fun i hi => ?_⟩
      rw [Y.cells_len] at hi
      have hq : i / Y.s < l.length := (Nat.div_lt_iff_lt_mul hs0).2 hi
      have hr : i % Y.s < Y.s := Nat.mod_lt _ hs0
      have hcr : i % Y.s < (Y.cs (l[i / Y.s]'hq)).length := by rw [Y.len]; exact hr
      have h2 := (hl (i / Y.s) hq).1 (i % Y.s) _ (List.getElem?_eq_getElem hcr)
      rw [add_none] at h2
      have hi3 : i / Y.s * Y.s + i % Y.s = i := Nat.div_add_mod' i Y.s
      rw [hi3] at h2
      rw [h2]
      have h3 := Y.cells_get hq (List.getElem?_eq_getElem hcr)
      rw [hi3] at h3
      rw [List.getElem?_eq_some_iff] at h3
      obtain ⟨_, h3⟩ := h3
      rw [h3]
    · obtain ⟨i, hi, rfl⟩ := List.mem_iff_getElem.1 hp
      exact (hl i hi).2
theorem str_fits {s : ByteArray} (h : s.size ≤ maxLen) : s.data.toList.length ≤ 9223372036854775807 := by
  have e : s.data.toList.length = s.size := Array.length_toList
  unfold maxLen at h
  omega
/-- A cell that reads as []int. -/
theorem ints_of_trod {T e : TypeId} (hT : P.underlying T = some (.slice e)) (he : P.underlying e = some (.int .i64)) (hc : P.cellsOf e = 1) {base : Nat} {spare : Nat → Bool} {held : Bool} {W : World} {v : Value} {n : Nat} {x : DataW H × List MemPlace}
    (h : DataW.trod enc P W base spare held n T [v] = some x) : ∃ A m c l, v = .slice A m c ∧ Rd W A m c (intV l) := by
  rcases open_ints hT he hc h with ⟨h1, _⟩ | ⟨a, len, cap, zs, h1, _, hlc, hm, hz, _, hcell, hwf⟩
  · simp at h1
    exact ⟨none, 0, 0, [], h1, Rd.nil W⟩
  · simp at h1
    have hzl : len ≤ zs.length := by
      rw [hz]
      split <;> omega
    refine ⟨some a, len, cap, zs.take len, h1, by rw [intV_len, List.length_take]; omega, hlc, hm, fun hn => ?_⟩
    obtain ⟨b, o, rfl⟩ := plain_addr (hcell 0 (by omega))
    refine ⟨b, o, rfl, fun i hi => ?_⟩
    rw [intV_len, List.length_take] at hi
    have hi' : i < zs.length := by omega
    have := hcell i hi'
    rw [add_none] at this
    rw [this]
    simp [intV, List.getD, List.getElem?_eq_getElem hi']
end
section
variable {H : Type} {enc : TypeId × Value → H}
theorem files_of_trod {base : Nat} {held : Bool} {W : World} {fuel : Nat} {v : Value} {x : DataW H × List MemPlace} (hf : DataW.trod enc Try.prog W base (fun _ => true) held fuel 22 [v] = some x) :
    ∃ A n c xs, v = .slice A n c ∧ RdF W.heap.size W A n c xs := by
  obtain ⟨A, n, c, l, e, h1, h2⟩ := rdg_of_trod (Y := layF) Try.underlying22 (by kernel_rfl) (by decide) (fun u => BsU W.heap.size W u.A u.l.length u.c u.l) (fun n cs y hy => by
    obtain ⟨xs, k, _, _, hl, hlen, hfs⟩ := DataW.trod_struct Try.underlying58 hy
    have hl2 : cs.length = 2 := hl.trans (by kernel_rfl)
    have kb : Try.prog.cellsOf 35 = 1 := by kernel_rfl
    have ki : Try.prog.cellsOf 3 = 1 := by kernel_rfl
    match cs, hl2, xs, hlen with
    | [c0, c1], _, [y0, y1], _ =>
      have g0 : DataW.trod enc Try.prog W base (fun _ => true) held k 35 [c0] = some y0 := by have := hfs 0 _ rfl; simpa [kb] using this
      have g1 : DataW.trod enc Try.prog W base (fun _ => true) held k 3 [c1] = some y1 := by have := hfs 1 _ rfl; simpa [ki] using this
      obtain ⟨A, m, c, l, rfl, hb⟩ := bs_of_trod byP (by kernel_rfl) g0
      obtain ⟨z, hz, _, _⟩ := DataW.trod_int Try.underlying3 g1
      simp only [List.cons.injEq, and_true] at hz
      subst hz
      have hl := hb.len
      subst hl
      exact ⟨⟨A, c, l, z⟩, rfl, hb.upto⟩) hf
  exact ⟨A, n, c, l, e, h1, h2⟩
theorem entries_of_trod {base : Nat} {held : Bool} {W : World} {fuel : Nat} {v : Value} {x : DataW H × List MemPlace} (hf : DataW.trod enc Try.prog W base (fun _ => true) held fuel 23 [v] = some x) :
    ∃ A n c l, v = .slice A n c ∧ RdE W.heap.size W A n c l ∧ ∀ e ∈ l, e.1.length ≤ 9223372036854775807 :=
  rdg_of_trod (Y := layE) Try.underlying23 (by kernel_rfl) (by decide) (fun e => e.1.length ≤ 9223372036854775807) (fun n cs y hy => by
    obtain ⟨xs, k, _, _, hl, hlen, hfs⟩ := DataW.trod_struct Try.underlying68 hy
    have hl2 : cs.length = 2 := hl.trans (by kernel_rfl)
    have ks : Try.prog.cellsOf 9 = 1 := by kernel_rfl
    have ki : Try.prog.cellsOf 3 = 1 := by kernel_rfl
    match cs, hl2, xs, hlen with
    | [c0, c1], _, [y0, y1], _ =>
      have g0 : DataW.trod enc Try.prog W base (fun _ => true) held k 9 [c0] = some y0 := by have := hfs 0 _ rfl; simpa [ks] using this
      have g1 : DataW.trod enc Try.prog W base (fun _ => true) held k 3 [c1] = some y1 := by have := hfs 1 _ rfl; simpa [ki] using this
      obtain ⟨s, hs, _, hsz⟩ := DataW.trod_string Try.underlying9 g0
      obtain ⟨z, hz, _, _⟩ := DataW.trod_int Try.underlying3 g1
      simp only [List.cons.injEq, and_true] at hs hz
      subst hs hz
      refine ⟨(s.data.toList, z), rfl, ?_⟩
      unfold maxLen at hsz
      show s.data.toList.length ≤ _
      have e : s.data.toList.length = s.size := Array.length_toList
      omega) hf
/-- An argument of type disk.Disk. -/
theorem open_disk {base b0 : Nat} {held : Bool} {r : Reach} {W : World} {v : Value} {d : DataW H} {ps : List MemPlace}
    (hval : Value.okWide Try.prog W r b0 25 v) (h : DataW.Trod enc Try.prog W base (fun _ => true) held 25 v d ps) : ∃ x : Dv, v = x.v ∧ RdD W.heap.size W x ∧ Sm x.d := by
  obtain ⟨cs, rfl, hsz⟩ := okWide_struct Try.underlying25 hval
  obtain ⟨fuel, hf⟩ := h
  have hsz3 : cs.size = 3 := hsz.trans (by kernel_rfl)
  have kf : Try.prog.cellsOf 22 = 1 := by kernel_rfl
  have ke : Try.prog.cellsOf 23 = 1 := by kernel_rfl
  obtain ⟨l⟩ := cs
  match l, hsz3 with
  | [c0, c1, c2], _ =>
    obtain ⟨xs, n, _, _, _, hlen, hfs⟩ := DataW.trod_struct Try.underlying25 hf
    match xs, hlen with
    | [y0, y1, y2], _ =>
      have g0 : DataW.trod enc Try.prog W base (fun _ => true) held n 22 [c0] = some y0 := by have := hfs 0 _ rfl; simpa [kf, Value.cells] using this
      have g1 : DataW.trod enc Try.prog W base (fun _ => true) held n 23 [c1] = some y1 := by have := hfs 1 _ rfl; simpa [ke, Value.cells] using this
      have g2 : DataW.trod enc Try.prog W base (fun _ => true) held n 23 [c2] = some y2 := by have := hfs 2 _ rfl; simpa [ke, Value.cells] using this
      obtain ⟨A, a, b, xf, rfl, hf0⟩ := files_of_trod g0
      obtain ⟨A1, a1, b1, l1, rfl, he1, hs1⟩ := entries_of_trod g1
      obtain ⟨A2, a2, b2, l2, rfl, he2, hs2⟩ := entries_of_trod g2
      refine ⟨⟨A, a, b, xf, A1, a1, b1, l1, A2, a2, b2, l2⟩, rfl, ⟨hf0, he1, he2⟩, fun e he => ?_⟩
      rcases List.mem_append.1 he with k | k
      · exact hs1 e k
      · exact hs2 e k
theorem act_of_trod {base : Nat} {held : Bool} {W : World} {n : Nat} {cs : List Value} {y : DataW H × List MemPlace} (hy : DataW.trod enc Try.prog W base (fun _ => true) held n 38 cs = some y) : ∃ a : Av, cs = layA.cs a ∧ OkA W a := by
  obtain ⟨xs, k, _, _, hl, hlen, hfs⟩ := DataW.trod_struct Try.underlying38 hy
  have hl7 : cs.length = 7 := hl.trans (by kernel_rfl)
  have ks : Try.prog.cellsOf 9 = 1 := by kernel_rfl
  have ki : Try.prog.cellsOf 3 = 1 := by kernel_rfl
  have kb : Try.prog.cellsOf 35 = 1 := by kernel_rfl
  have kn : Try.prog.cellsOf 36 = 1 := by kernel_rfl
  have ko : Try.prog.cellsOf 4 = 1 := by kernel_rfl
  match cs, hl7, xs, hlen with
  | [c0, c1, c2, c3, c4, c5, c6], _, [y0, y1, y2, y3, y4, y5, y6], _ =>
    have g0 : DataW.trod enc Try.prog W base (fun _ => true) held k 3 [c0] = some y0 := by have := hfs 0 _ rfl; simpa [ki] using this
    have g1 : DataW.trod enc Try.prog W base (fun _ => true) held k 3 [c1] = some y1 := by have := hfs 1 _ rfl; simpa [ki] using this
    have g2 : DataW.trod enc Try.prog W base (fun _ => true) held k 9 [c2] = some y2 := by have := hfs 2 _ rfl; simpa [ks] using this
    have g3 : DataW.trod enc Try.prog W base (fun _ => true) held k 9 [c3] = some y3 := by have := hfs 3 _ rfl; simpa [ks] using this
    have g4 : DataW.trod enc Try.prog W base (fun _ => true) held k 35 [c4] = some y4 := by have := hfs 4 _ rfl; simpa [kb] using this
    have g5 : DataW.trod enc Try.prog W base (fun _ => true) held k 36 [c5] = some y5 := by have := hfs 5 _ rfl; simpa [kn] using this
    have g6 : DataW.trod enc Try.prog W base (fun _ => true) held k 4 [c6] = some y6 := by have := hfs 6 _ rfl; simpa [ko] using this
    obtain ⟨z0, h0, _, _⟩ := DataW.trod_int Try.underlying3 g0
    obtain ⟨z1, h1, _, _⟩ := DataW.trod_int Try.underlying3 g1
    obtain ⟨s2, h2, _, hz2⟩ := DataW.trod_string Try.underlying9 g2
    obtain ⟨s3, h3, _, hz3⟩ := DataW.trod_string Try.underlying9 g3
    obtain ⟨A, m, c, l, rfl, hb⟩ := bs_of_trod byP (by kernel_rfl) g4
    obtain ⟨A', m', c', l', rfl, hk⟩ := ints_of_trod Try.underlying36 Try.underlying3 (by kernel_rfl) g5
    obtain ⟨b6, h6, _⟩ := DataW.trod_bool Try.underlying4 g6
    simp only [List.cons.injEq, and_true] at h0 h1 h2 h3 h6
    subst h0 h1 h2 h3 h6
    have e1 := hb.len
    have e2 := hk.len
    rw [intV_len] at e2
    subst e1 e2
    unfold maxLen at hz2 hz3
    have f2 : s2.data.toList.length = s2.size := Array.length_toList
    have f3 : s3.data.toList.length = s3.size := Array.length_toList
    exact ⟨⟨z0, z1, s2.data.toList, s3.data.toList, A, c, l, A', c', l', b6⟩, rfl, ⟨hb, hk, by show s2.data.toList.length ≤ _; omega, by show s3.data.toList.length ≤ _; omega⟩⟩
/-- An argument of type boarderlaw08.Act. -/
theorem open_act {base b0 : Nat} {held : Bool} {r : Reach} {W : World} {v : Value} {d : DataW H} {ps : List MemPlace}
    (hval : Value.okWide Try.prog W r b0 38 v) (h : DataW.Trod enc Try.prog W base (fun _ => true) held 38 v d ps) : ∃ a : Av, v = a.v ∧ OkA W a := by
  obtain ⟨cs, rfl, hsz⟩ := okWide_struct Try.underlying38 hval
  obtain ⟨fuel, hf⟩ := h
  obtain ⟨a, ha, hok⟩ := act_of_trod hf
  refine ⟨a, ?_, hok⟩
  obtain ⟨l⟩ := cs
  simp only [Value.cells] at ha
  show Value.agg _ = Value.agg _
  congr 1
  rw [show l = layA.cs a from ha]
  rfl
/-- An argument of type []boarderlaw08.Act. -/
theorem open_acts {base b0 : Nat} {held : Bool} {r : Reach} {W : World} {v : Value} {d : DataW H} {ps : List MemPlace}
    (hval : Value.okWide Try.prog W r b0 26 v) (h : DataW.Trod enc Try.prog W base (fun _ => true) held 26 v d ps) : ∃ A n c l, v = .slice A n c ∧ RdA W A n c l := by
  obtain ⟨A, n, c, rfl⟩ := okWide_slice Try.underlying26 hval
  obtain ⟨fuel, hf⟩ := h
  obtain ⟨A', n', c', l, e, h1, h2⟩ := rdg_of_trod (Y := layA) Try.underlying26 (by kernel_rfl) (by decide) (OkA W) (fun n cs y hy => act_of_trod hy) (by simpa [Value.cells] using hf)
  exact ⟨A', n', c', l, e, h1, h2⟩
/-- An argument of type []int. -/
theorem open_intsA {base b0 : Nat} {held : Bool} {r : Reach} {W : World} {v : Value} {d : DataW H} {ps : List MemPlace}
    (hval : Value.okWide Try.prog W r b0 36 v) (h : DataW.Trod enc Try.prog W base (fun _ => true) held 36 v d ps) : ∃ A n c l, v = .slice A n c ∧ Rd W A n c (intV l) := by
  obtain ⟨A, n, c, rfl⟩ := okWide_slice Try.underlying36 hval
  obtain ⟨fuel, hf⟩ := h
  exact ints_of_trod Try.underlying36 Try.underlying3 (by kernel_rfl) (by simpa [Value.cells] using hf)
end
end Go.Proofs.Ytoifdjpflannlaa
