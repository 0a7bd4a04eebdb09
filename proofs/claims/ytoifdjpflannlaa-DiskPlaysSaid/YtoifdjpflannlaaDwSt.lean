/- What disk's created comes to; words for a call that has its disk in a block and answers another one. For disks of up to 1000 entries. -/
import Derived.Test.YtoifdjpflannlaaDwCre
import Derived.Laws.ResultCell
set_option maxRecDepth 8000
namespace Go.Proofs.Ytoifdjpflannlaa.Dw
open Go.RowKit By Dk

/-- A call that has its disk at w's end, and the answer's disk behind it. -/
structure St (w w1 : World) (cs : Array Value) : Prop where
  b : Below w.heap.size w w1
  s : w.heap.size + 2 ≤ w1.heap.size
  c0 : Cel w1 w.heap.size 25 cs
  c1 : Cel w1 (w.heap.size + 1) 25 #[.slice none 0 0, .slice none 0 0, .slice none 0 0]
theorem St.start (x : Dv) (w : World) : St w ((w.alloc (.cells x.cs 25)).alloc (.cells #[.slice none 0 0, .slice none 0 0, .slice none 0 0] 25)) x.cs := by
  refine ⟨((Below.refl _ _).alloc (Nat.le_refl _) _).alloc (by simp) _, by simp, (Cel.born w _ _).below ((Below.refl _ _).alloc (Nat.le_refl _) _) (by simp), ?_⟩
  have := Cel.born (w.alloc (.cells x.cs 25)) 25 #[.slice none 0 0, .slice none 0 0, .slice none 0 0]
  simpa using this
theorem St.below {w w1 w2 : World} {cs : Array Value} (h : St w w1 cs) {B : Nat} (hb : Below B w1 w2) (hB : w.heap.size + 2 ≤ B) : St w w2 cs := ⟨h.b.trans (hb.mono (by omega)), Nat.le_trans h.s hb.size, h.c0.below hb (by omega), h.c1.below hb (by omega)⟩
theorem St.put {w w1 : World} {a b c : Value} (h : St w w1 #[a, b, c]) (a' b' c' : Value) : St w (((w1.setCell ⟨w.heap.size, 0, none⟩ a').setCell ⟨w.heap.size, 1, none⟩ b').setCell ⟨w.heap.size, 2, none⟩ c') #[a', b', c'] :=
  ⟨below_put3 h.b (Nat.le_refl _) _ _ _, by simpa using h.s, cel_put3 h.c0, cel_far (cel_far (cel_far h.c1 (by omega) _ _) (by omega) _ _) (by omega) _ _⟩
theorem St.put1 {w w1 : World} {cs : Array Value} (h : St w w1 cs) (j : Nat) (v : Value) : St w (w1.setCell ⟨w.heap.size, j, none⟩ v) (cs.setIfInBounds j v) :=
  ⟨h.b.setCell (p := ⟨w.heap.size, j, none⟩) (Nat.le_refl _) v, by simpa using h.s, cel_put h.c0 j v, cel_far h.c1 (by omega) _ _⟩
theorem St.out {w w1 : World} {cs : Array Value} (h : St w w1 cs) (a b c : Value) : Below w.heap.size w (((w1.setCell ⟨w.heap.size + 1, 0, none⟩ a).setCell ⟨w.heap.size + 1, 1, none⟩ b).setCell ⟨w.heap.size + 1, 2, none⟩ c) := below_put3 h.b (by omega) _ _ _
/-- A disk that reads below the answer's place reads behind the answer. -/
theorem St.rd {w w1 : World} {cs : Array Value} (h : St w w1 cs) {B : Nat} {z : Dv} (hz : RdD B w1 z) (hB : B ≤ w.heap.size + 1) (a b c : Value) :
    RdD (((w1.setCell ⟨w.heap.size + 1, 0, none⟩ a).setCell ⟨w.heap.size + 1, 1, none⟩ b).setCell ⟨w.heap.size + 1, 2, none⟩ c).heap.size (((w1.setCell ⟨w.heap.size + 1, 0, none⟩ a).setCell ⟨w.heap.size + 1, 1, none⟩ b).setCell ⟨w.heap.size + 1, 2, none⟩ c) z :=
  (hz.below (below_put3 (Below.refl _ _) (by omega) _ _ _)).mono (by have := h.s; simp; omega)
/-- A disk of the call's own does so, too. -/
theorem St.own {w w1 : World} {cs : Array Value} (h : St w w1 cs) {B : Nat} {z : Dv} (hz : OwnD B w1 z) (a b c : Value) :
    RdD (((w1.setCell ⟨w.heap.size + 1, 0, none⟩ a).setCell ⟨w.heap.size + 1, 1, none⟩ b).setCell ⟨w.heap.size + 1, 2, none⟩ c).heap.size (((w1.setCell ⟨w.heap.size + 1, 0, none⟩ a).setCell ⟨w.heap.size + 1, 1, none⟩ b).setCell ⟨w.heap.size + 1, 2, none⟩ c) z :=
  (hz.away h.c1 (grown_put3 _ _ _ _ _)).rd
theorem cel_frs {w : World} {g : Nat} {t : TypeId} {cs : Array Value} (h : Cel w g t cs) : w.frozen? ⟨g, 0, none⟩ = false ∧ w.frozen? ⟨g, 1, none⟩ = false ∧ w.frozen? ⟨g, 2, none⟩ = false := ⟨cel_fr h 0, cel_fr h 1, cel_fr h 2⟩
theorem ret_disk2 {fn : Func} {p u : Tmp} (hres : fn.results = #[.cell p 25, .tmp u]) (tmps : Array Value) (w : World) (g : Nat) (cs : Array Value) (hp : tmps.getD p undef = .pointer (some ⟨g, 0, none⟩)) (hc : Cel w g 25 cs) (hs : cs.size = 3) :
    (results fn tmps).run Try.prog w = .ok (.tuple #[.agg cs, tmps.getD u undef]) w := by
  rw [results_cell_tmp hres, hp]
  have := run_loadVar_row (P := Try.prog) w g 25 25 cs (0, 0) _ hc Try.underlying25 rfl (by rw [hs]; kernel_rfl)
  simp [asAddr, this]
/-- A call that answers a disk and an error. -/
def DE (w : World) (p : D × Int) (e : Ending) (w' : World) : Prop := ∃ z : Dv, e = .returned (.tuple #[.agg #[.slice z.fA z.fn z.fc, .slice z.nA z.nn z.nc, .slice z.kA z.kn z.kc], .int .i64 p.2]) ∧ z.d = p.1 ∧ RdD w'.heap.size w' z ∧ Below w.heap.size w w'

/-! ### created -/
def createdD (d : D) (t : N) : D := match findE d.now t with
  | some _ => d
  | none => newD d t []
theorem litF0 (w : World) (e : Nat) : RdG layF (w.heap.size + 1) (w.alloc (.cells #[.slice none 0 0, .int .i64 0] e)) (some ⟨w.heap.size, 0, none⟩) 1 1 [⟨none, 0, [], 0⟩] := litF e w ⟨none, 0, [], 0⟩
theorem parts2 {α : Type} {Y : Lay α} {w : World} {U : Nat} {A B : Option Addr} {n m c d : Nat} {t : TypeId} {l k : List α} (hl : RdG Y U w A n c l) (hk : RdG Y U w B m d k) (hU : U ≤ w.heap.size) :
    PartsG Y (w.heap.size + 1) (w.alloc (.cells #[.slice A n c, .slice B m d] t)) w.heap.size 0 [⟨A, c, l⟩, ⟨B, d, k⟩] := by
  have hcp := Cel.born w t #[.slice A n c, .slice B m d]
  have hb : Below w.heap.size w (w.alloc (.cells #[.slice A n c, .slice B m d] t)) := (Below.refl _ _).alloc (Nat.le_refl _) _
  refine ⟨by omega, fun i hi => ?_⟩
  match i, hi with
  | 0, _ => exact ⟨by rw [hcp.cell]; show _ = some (Value.slice A l.length c); rw [hl.len]; rfl, by show RdG _ _ _ A l.length c l; rw [hl.len]; exact (hl.below (hb.mono hU)).mono (by omega)⟩
  | 1, _ => exact ⟨by rw [hcp.cell]; show _ = some (Value.slice B k.length d); rw [hk.len]; rfl, by show RdG _ _ _ B k.length d k; rw [hk.len]; exact (hk.below (hb.mono hU)).mono (by omega)⟩
theorem fs_app (a b : List Fv) : fsOf (a ++ b) = fsOf a ++ fsOf b := by unfold fsOf; rw [List.map_append]
set_option maxHeartbeats 2000000 in
theorem created_any (x : Dv) (t : N) (w : World) (h : RdD w.heap.size w x) (hnn : x.nn ≤ 1000) (hfn : x.fn ≤ 1000) :
    Calls Try.prog 53 #[x.v, .string (ba t)] w (DR w (fun v => v) (createdD x.d t)) := by
  obtain ⟨w1, hw1⟩ : ∃ w1, w1 = (w.alloc (.cells x.cs 25)).alloc (.cells #[.slice none 0 0, .slice none 0 0, .slice none 0 0] 25) := ⟨_, rfl⟩
  have S1 : St w w1 x.cs := by rw [hw1]; exact St.start x w
  have HFO := Lib.hid (fileOf_any x t w1 ((h.n.below S1.b).mono S1.b.size))
  have HS1 := Lib.hid S1
  have HR := Lib.hid h
  clear h S1
  go_enter Try.func53, Try.ntmps53
  go_wp2_with fail
  rw [← hw1]
  clear hw1
  refine HFO.out.mono ?_
  rintro e w2 ⟨rfl, hb2⟩
  have S2 := HS1.out.below hb2 HS1.out.s
  obtain ⟨q0, q1, q2⟩ := cel3 S2.c0
  cases hf : findE x.now t with
  | some f =>
    obtain ⟨t0, t1, t2⟩ := cel3 S2.c1
    obtain ⟨f0, f1, f2⟩ := cel_frs S2.c1
    have HS2 := Lib.hid S2
    have HF := Lib.hid hf
    clear S2 hb2 hf
    rw [foV_some]
    go_wp2
    (try simp only [Exit.inBlock, Exit.then])
    refine bodyPost_ret (ret_disk rfl _ _ (w.heap.size + 1) x.cs rfl (cel_put3 HS2.out.c1) rfl) rfl ?_
    exact ⟨x, rfl, by unfold createdD; rw [show x.d.now = x.now from rfl, HF.out], HS2.out.rd (HR.out.below HS2.out.b) (by omega) _ _ _, HS2.out.out _ _ _⟩
  | none =>
    have HIN := Lib.hid (inserted_any x.nA x.nn x.nc x.now t (x.fn : Int) w2 ((HR.out.n.below S2.b).mono S2.b.size) hnn)
    have HS2 := Lib.hid S2
    have HF := Lib.hid hf
    have hmx := HR.out.f.max
    have hcp := HR.out.f.cap
    clear S2 hb2 hf
    rw [foV_none]
    go_wp2_with fail
    refine HIN.out.mono ?_
    rintro e w3 ⟨A3, c3, rfl, hown3, hb3⟩
    have S3 := HS2.out.below hb3 HS2.out.s
    obtain ⟨q0, q1, q2⟩ := cel3 S3.c0
    have f3 := cel_fr S3.c0 1
    obtain ⟨w4, hw4⟩ : ∃ w4, w4 = w3.setCell ⟨w.heap.size, 1, none⟩ (.slice A3 (x.nn + 1) c3) := ⟨_, rfl⟩
    have S4 : St w w4 #[.slice x.fA x.fn x.fc, .slice A3 (x.nn + 1) c3, .slice x.kA x.kn x.kc] := by rw [hw4]; exact S3.put1 1 (.slice A3 (x.nn + 1) c3)
    have hs4 : w4.heap.size = w3.heap.size := by rw [hw4]; simp
    have hown4 : OwnE 68 w2.heap.size w4 A3 (x.nn + 1) c3 (withE x.now t (x.fn : Int)) := by rw [hw4]; exact hown3.away S3.c0 (by decide) (grown_set _ _ _ _)
    have hr4 := HR.out.f.below S4.b
    have hal : Below w4.heap.size w4 (w4.alloc (.cells #[.slice none 0 0, .int .i64 0] 58)) := (Below.refl _ _).alloc (Nat.le_refl _) _
    have hal2 : Below w4.heap.size w4 ((w4.alloc (.cells #[.slice none 0 0, .int .i64 0] 58)).alloc (.cells #[.slice x.fA x.fn x.fc, .slice (some ⟨w3.heap.size, 0, none⟩) 1 1] 22)) := hal.alloc (by simp) _
    have hsz : ((w4.alloc (.cells #[.slice none 0 0, .int .i64 0] 58)).alloc (.cells #[.slice x.fA x.fn x.fc, .slice (some ⟨w3.heap.size, 0, none⟩) 1 1] 22)).heap.size = w3.heap.size + 2 := by simp [hs4]
    have hP : PartsG layF (w3.heap.size + 2) ((w4.alloc (.cells #[.slice none 0 0, .int .i64 0] 58)).alloc (.cells #[.slice x.fA x.fn x.fc, .slice (some ⟨w3.heap.size, 0, none⟩) 1 1] 22)) (w3.heap.size + 1) 0 [⟨x.fA, x.fc, x.xs⟩, ⟨some ⟨w3.heap.size, 0, none⟩, 1, [⟨none, 0, [], 0⟩]⟩] := by
      have hl := litF0 w4 58
      rw [hs4] at hl
      have := parts2 (t := 22) ((hr4.1.mono S4.b.size).below hal |>.mono (show w4.heap.size ≤ w3.heap.size + 1 by omega)) hl (by simp [hs4])
      simpa [hs4] using this
    have hl0 := HR.out.f.len
    have htot : totG [(⟨x.fA, x.fc, x.xs⟩ : PartG Fv), ⟨some ⟨w3.heap.size, 0, none⟩, 1, [⟨none, 0, [], 0⟩]⟩] = x.fn + 1 := by simp [totG, hl0]
    have hcat : catG [(⟨x.fA, x.fc, x.xs⟩ : PartG Fv), ⟨some ⟨w3.heap.size, 0, none⟩, 1, [⟨none, 0, [], 0⟩]⟩] = x.xs ++ [⟨none, 0, [], 0⟩] := by simp [catG]
    have hcall := concatF_any (w3.heap.size + 2) (w3.heap.size + 1) 0 2 2 _ _ hP (by rw [hsz]; exact Nat.le_refl _) rfl (by omega) (by omega) (by rw [htot]; omega)
    rw [htot, hcat] at hcall
    have HCALL := Lib.hid hcall
    have HOWN := Lib.hid hown4
    have HS4 := Lib.hid S4
    have HAL2 := Lib.hid hal2
    have hn34 : w.heap.size + 2 ≤ w3.heap.size := S3.s
    have HL0 := Lib.hid hl0
    clear S4 hown3 hb3 S3 hown4 hr4 hal hal2 hP htot hcat hcall hl0
    go_wp2_with fail
    rw [← hw4]
    clear hw4
    refine HCALL.out.mono ?_
    rintro e w5 ⟨A5, c5, rfl, hown5, hb5⟩
    have hb45 : Below w3.heap.size w4 w5 := (HAL2.out.mono (by omega)).trans (hb5.mono (by omega))
    have S5 := HS4.out.below hb45 hn34
    obtain ⟨p0, p1, p2⟩ := cel3 S5.c0
    have g0 := cel_fr S5.c0 0
    have hownE := HOWN.out.below (hb45.mono (show w4.heap.size ≤ w3.heap.size by omega))
    have hownF : OwnG layF 58 (w3.heap.size + 2) w5 A5 (x.fn + 1) c5 (x.xs ++ [⟨none, 0, [], 0⟩]) := hown5.mono (by omega)
    obtain ⟨w6, hw6⟩ : ∃ w6, w6 = w5.setCell ⟨w.heap.size, 0, none⟩ (.slice A5 (x.fn + 1) c5) := ⟨_, rfl⟩
    have S6 : St w w6 #[.slice A5 (x.fn + 1) c5, .slice A3 (x.nn + 1) c3, .slice x.kA x.kn x.kc] := by rw [hw6]; exact S5.put1 0 (.slice A5 (x.fn + 1) c5)
    have HE6 : Hid (OwnE 68 w2.heap.size w6 A3 (x.nn + 1) c3 (withE x.now t (x.fn : Int))) := by show OwnG _ _ _ _ _ _ _ _; rw [hw6]; exact hownE.away S5.c0 (by decide) (grown_set _ _ _ _)
    have HF6 : Hid (OwnG layF 58 (w3.heap.size + 2) w6 A5 (x.fn + 1) c5 (x.xs ++ [⟨none, 0, [], 0⟩])) := by show OwnG _ _ _ _ _ _ _ _; rw [hw6]; exact hownF.away S5.c0 (by decide) (grown_set _ _ _ _)
    obtain ⟨t0, t1, t2⟩ := cel3 S5.c1
    obtain ⟨f0, f1, f2⟩ := cel_frs S5.c1
    have HS6 := Lib.hid S6
    clear S5 hb45 hb5 hown5 hownE hownF S6
    go_wp2
    (try simp only [Exit.inBlock, Exit.then])
    rw [← hw6]
    clear hw6
    refine bodyPost_ret (ret_disk rfl _ _ (w.heap.size + 1) #[.slice A5 (x.fn + 1) c5, .slice A3 (x.nn + 1) c3, .slice x.kA x.kn x.kc] rfl (cel_put3 HS6.out.c1) rfl) rfl ?_
    have hW := HS6.out.out (.slice A5 (x.fn + 1) c5) (.slice A3 (x.nn + 1) c3) (.slice x.kA x.kn x.kc)
    have hg := grown_put3 w6 (w.heap.size + 1) (.slice A5 (x.fn + 1) c5) (.slice A3 (x.nn + 1) c3) (.slice x.kA x.kn x.kc)
    refine ⟨⟨A5, x.fn + 1, c5, x.xs ++ [⟨none, 0, [], 0⟩], A3, x.nn + 1, c3, withE x.now t (x.fn : Int), x.kA, x.kn, x.kc, x.kept⟩, rfl, ?_, ⟨⟨(HF6.out.away HS6.out.c1 (by decide) hg).rd, fun u hu => ?_⟩, (HE6.out.away HS6.out.c1 (by decide) hg).rd, (HR.out.k.below hW).mono hW.size⟩, hW⟩
    · unfold createdD
      rw [show x.d.now = x.now from rfl, HF.out]
      show D.mk (fsOf (x.xs ++ [⟨none, 0, [], 0⟩])) _ _ = D.mk (fsOf x.xs ++ [⟨[], 0⟩]) (withE x.now t ((fsOf x.xs).length : Nat)) x.kept
      rw [fs_app, fs_len, HL0.out]
      rfl
    · rcases List.mem_append.1 hu with hu | hu
      · exact bsu_mono ((HR.out.f.2 u hu).below hW) hW.size
      · simp at hu
        subst hu
        exact BsU.nil _ _
end Go.Proofs.Ytoifdjpflannlaa.Dw
