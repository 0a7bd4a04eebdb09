/- What disk's created comes to; words for a call that has its disk in a block and answers another one. For disks of up to 1000 entries. -/
import Derived.Test.YtlefpodonkdbeaaGreatDwB
import Derived.Laws.ResultCell
section
set_option maxRecDepth 8000
namespace Go.Proofs.YtlefpodonkdbeaaGreat.Dw
open Go.RowKit By Dk

/-- A call that has its disk at w's end, and the answer's disk behind it. -/
structure St (w w1 : World) (cs : Array Value) : Prop where
  b : Below w.heap.size w w1
  s : w.heap.size + 2 ≤ w1.heap.size
  c0 : Cel w1 w.heap.size 30 cs
  c1 : Cel w1 (w.heap.size + 1) 30 #[.slice none 0 0, .slice none 0 0, .slice none 0 0]
theorem St.start (x : Dv) (w : World) : St w ((w.alloc (.cells x.cs 30)).alloc (.cells #[.slice none 0 0, .slice none 0 0, .slice none 0 0] 30)) x.cs := by
  refine ⟨((Below.refl _ _).alloc (Nat.le_refl _) _).alloc (by simp) _, by simp, (Cel.born w _ _).below ((Below.refl _ _).alloc (Nat.le_refl _) _) (by simp), ?_⟩
  have := Cel.born (w.alloc (.cells x.cs 30)) 30 #[.slice none 0 0, .slice none 0 0, .slice none 0 0]
  simpa using this
theorem St.below {w w1 w2 : World} {cs : Array Value} (h : St w w1 cs) {B : Nat} (hb : Below B w1 w2) (hB : w.heap.size + 2 ≤ B) : St w w2 cs := ⟨h.b.trans (hb.mono (by omega)), Nat.le_trans h.s hb.size, h.c0.below hb (by omega), h.c1.below hb (by omega)⟩
theorem St.put {w w1 : World} {a b c : Value} (h : St w w1 #[a, b, c]) (a' b' c' : Value) : St w (((w1.setCell ⟨w.heap.size, 0, none⟩ a').setCell ⟨w.heap.size, 1, none⟩ b').setCell ⟨w.heap.size, 2, none⟩ c') #[a', b', c'] :=
  ⟨below_put3 h.b (Nat.le_refl _) _ _ _, by simpa using h.s, cel_put3 h.c0, cel_far (cel_far (cel_far h.c1 (by omega) _ _) (by omega) _ _) (by omega) _ _⟩
theorem St.put1 {w w1 : World} {cs : Array Value} (h : St w w1 cs) (j : Nat) (v : Value) : St w (w1.setCell ⟨w.heap.size, j, none⟩ v) (cs.setIfInBounds j v) :=
  ⟨h.b.setCell (p := ⟨w.heap.size, j, none⟩) (Nat.le_refl _) v, by simpa using h.s, cel_put h.c0 j v, cel_far h.c1 (by omega) _ _⟩
theorem St.out {w w1 : World} {cs : Array Value} (h : St w w1 cs) (a b c : Value) : Below w.heap.size w (((w1.setCell ⟨w.heap.size + 1, 0, none⟩ a).setCell ⟨w.heap.size + 1, 1, none⟩ b).setCell ⟨w.heap.size + 1, 2, none⟩ c) := below_put3 h.b (by omega) _ _ _
/-- A disk that reads below the answer's place reads behind the answer. -/
theorem St.rd {w w1 : World} {cs : Array Value} (h : St w w1 cs) {B : Nat} {z : Dv} (hz : RdD B w1 z) (hB : B ≤ w.heap.size + 1) (a b c : Value) :
    RdD (((w1.setCell ⟨w.heap.size + 1, 0, none⟩ a).setCell ⟨w.heap.size + 1, 1, none⟩ b).setCell ⟨w.heap.size + 1, 2, none⟩ c).heap.size (((w1.setCell ⟨w.heap.size + 1, 0, none⟩ a).setCell ⟨w.heap.size + 1, 1, none⟩ b).setCell ⟨w.heap.size + 1, 2, none⟩ c) z :=
  (hz.below (below_put3 (Below.refl _ _) (by omega) _ _ _)).mono (by have := h.s; simp; omega)
/-- A disk of the call's own does so, too. -/
theorem St.own {w w1 : World} {cs : Array Value} (h : St w w1 cs) {B : Nat} {z : Dv} (hz : OwnD B w1 z) (a b c : Value) :
    RdD (((w1.setCell ⟨w.heap.size + 1, 0, none⟩ a).setCell ⟨w.heap.size + 1, 1, none⟩ b).setCell ⟨w.heap.size + 1, 2, none⟩ c).heap.size (((w1.setCell ⟨w.heap.size + 1, 0, none⟩ a).setCell ⟨w.heap.size + 1, 1, none⟩ b).setCell ⟨w.heap.size + 1, 2, none⟩ c) z :=
  (hz.away h.c1 (grown_put3 _ _ _ _ _)).rd
theorem cel_frs {w : World} {g : Nat} {t : TypeId} {cs : Array Value} (h : Cel w g t cs) : w.frozen? ⟨g, 0, none⟩ = false ∧ w.frozen? ⟨g, 1, none⟩ = false ∧ w.frozen? ⟨g, 2, none⟩ = false := ⟨cel_fr h 0, cel_fr h 1, cel_fr h 2⟩
theorem ret_disk2 {fn : Func} {p u : Tmp} (hres : fn.results = #[.cell p 30, .tmp u]) (tmps : Array Value) (w : World) (g : Nat) (cs : Array Value) (hp : tmps.getD p undef = .pointer (some ⟨g, 0, none⟩)) (hc : Cel w g 30 cs) (hs : cs.size = 3) :
    (results fn tmps).run Tryz.prog w = .ok (.tuple #[.agg cs, tmps.getD u undef]) w := by
  rw [results_cell_tmp hres, hp]
  have := run_loadVar_row (P := Tryz.prog) w g 30 30 cs (0, 0) _ hc Tryz.underlying30 rfl (by rw [hs]; kernel_rfl)
  simp [asAddr, this]
/-- A call that answers a disk and an error. -/
def DE (w : World) (p : D × Int) (e : Ending) (w' : World) : Prop := ∃ z : Dv, e = .returned (.tuple #[.agg #[.slice z.fA z.fn z.fc, .slice z.nA z.nn z.nc, .slice z.kA z.kn z.kc], .int .i64 p.2]) ∧ z.d = p.1 ∧ RdD w'.heap.size w' z ∧ Below w.heap.size w w'

/-! ### created -/
def createdD (d : D) (t : N) : D := match findE d.now t with
  | some _ => d
  | none => newD d t []
theorem litF0 (w : World) (e : Nat) : RdG layF (w.heap.size + 1) (w.alloc (.cells #[.slice none 0 0, .int .i64 0] e)) (some ⟨w.heap.size, 0, none⟩) 1 1 [⟨none, 0, [], 0⟩] := litF e w ⟨none, 0, [], 0⟩
theorem parts2 {α : Type} {Y : Lay α} {w : World} {U : Nat} {A B : Option Addr} {n m c d : Nat} {t : TypeId} {l k : List α} (hl : RdG Y U w A n c l) (hk : RdG Y U w B m d k) (hU : U ≤ w.heap.size) :
    PartsG Y (w.heap.size + 1) (w.alloc (.cells #[.slice A n c, .slice B m d] t)) w.heap.size 0 [⟨A, c, l⟩, ⟨B, d, k⟩] := by
  have hcp := Cel.born w t #[.slice A n c, .slice B m d]
  have hb : Below w.heap.size w (w.alloc (.cells #[.slice A n c, .slice B m d] t)) := (Below.refl _ _).alloc (Nat.le_refl _) _
  refine ⟨by omega, fun i hi => ?_⟩
  match i, hi with
  | 0, _ => exact ⟨by rw [hcp.cell]; show _ = some (Value.slice A l.length c); rw [hl.len]; rfl, by show RdG _ _ _ A l.length c l; rw [hl.len]; exact (hl.below (hb.mono hU)).mono (by omega)⟩
  | 1, _ => exact ⟨by rw [hcp.cell]; show _ = some (Value.slice B k.length d); rw [hk.len]; rfl, by show RdG _ _ _ B k.length d k; rw [hk.len]; exact (hk.below (hb.mono hU)).mono (by omega)⟩
theorem fs_app (a b : List Fv) : fsOf (a ++ b) = fsOf a ++ fsOf b := by unfold fsOf; rw [List.map_append]
set_option maxHeartbeats 2000000 in
theorem created_any (x : Dv) (t : N) (w : World) (h : RdD w.heap.size w x) (hnn : x.nn ≤ 1000) (hfn : x.fn ≤ 1000) :
    Calls Tryz.prog 125 #[x.v, .string (ba t)] w (DR w (fun v => v) (createdD x.d t)) := by
  obtain ⟨w1, hw1⟩ : ∃ w1, w1 = (w.alloc (.cells x.cs 30)).alloc (.cells #[.slice none 0 0, .slice none 0 0, .slice none 0 0] 30) := ⟨_, rfl⟩
  have S1 : St w w1 x.cs := by rw [hw1]; exact St.start x w
  have HFO := Lib.hid (fileOf_any x t w1 ((h.n.below S1.b).mono S1.b.size))
  have HS1 := Lib.hid S1
  have HR := Lib.hid h
  clear h S1
  go_enter Tryz.func125, Tryz.ntmps125
  go_wp2_with fail
  rw [← hw1]
  clear hw1
  refine HFO.out.mono ?_
  rintro e w2 ⟨rfl, hb2⟩
  have S2 := HS1.out.below hb2 HS1.out.s
  obtain ⟨q0, q1, q2⟩ := cel3 S2.c0
  cases hf : findE x.now t with
  | some f =>
    obtain ⟨t0, t1, t2⟩ := cel3 S2.c1
    obtain ⟨f0, f1, f2⟩ := cel_frs S2.c1
    have HS2 := Lib.hid S2
    have HF := Lib.hid hf
    clear S2 hb2 hf
    rw [foV_some]
    go_wp2
    (try simp only [Exit.inBlock, Exit.then])
    refine bodyPost_ret (ret_disk rfl _ _ (w.heap.size + 1) x.cs rfl (cel_put3 HS2.out.c1) rfl) rfl ?_
    exact ⟨x, rfl, by unfold createdD; rw [show x.d.now = x.now from rfl, HF.out], HS2.out.rd (HR.out.below HS2.out.b) (by omega) _ _ _, HS2.out.out _ _ _⟩
  | none =>
    have HIN := Lib.hid (inserted_any x.nA x.nn x.nc x.now t (x.fn : Int) w2 ((HR.out.n.below S2.b).mono S2.b.size) hnn)
    have HS2 := Lib.hid S2
    have HF := Lib.hid hf
    have hmx := HR.out.f.max
    have hcp := HR.out.f.cap
    clear S2 hb2 hf
    rw [foV_none]
    go_wp2_with fail
    refine HIN.out.mono ?_
    rintro e w3 ⟨A3, c3, rfl, hown3, hb3⟩
    have S3 := HS2.out.below hb3 HS2.out.s
    obtain ⟨q0, q1, q2⟩ := cel3 S3.c0
    have f3 := cel_fr S3.c0 1
    obtain ⟨w4, hw4⟩ : ∃ w4, w4 = w3.setCell ⟨w.heap.size, 1, none⟩ (.slice A3 (x.nn + 1) c3) := ⟨_, rfl⟩
    have S4 : St w w4 #[.slice x.fA x.fn x.fc, .slice A3 (x.nn + 1) c3, .slice x.kA x.kn x.kc] := by rw [hw4]; exact S3.put1 1 (.slice A3 (x.nn + 1) c3)
    have hs4 : w4.heap.size = w3.heap.size := by rw [hw4]; simp
    have hown4 : OwnE 68 w2.heap.size w4 A3 (x.nn + 1) c3 (withE x.now t (x.fn : Int)) := by rw [hw4]; exact hown3.away S3.c0 (by decide) (grown_set _ _ _ _)
    have hr4 := HR.out.f.below S4.b
    have hal : Below w4.heap.size w4 (w4.alloc (.cells #[.slice none 0 0, .int .i64 0] 63)) := (Below.refl _ _).alloc (Nat.le_refl _) _
    have hal2 : Below w4.heap.size w4 ((w4.alloc (.cells #[.slice none 0 0, .int .i64 0] 63)).alloc (.cells #[.slice x.fA x.fn x.fc, .slice (some ⟨w3.heap.size, 0, none⟩) 1 1] 27)) := hal.alloc (by simp) _
    have hsz : ((w4.alloc (.cells #[.slice none 0 0, .int .i64 0] 63)).alloc (.cells #[.slice x.fA x.fn x.fc, .slice (some ⟨w3.heap.size, 0, none⟩) 1 1] 27)).heap.size = w3.heap.size + 2 := by simp [hs4]
    have hP : PartsG layF (w3.heap.size + 2) ((w4.alloc (.cells #[.slice none 0 0, .int .i64 0] 63)).alloc (.cells #[.slice x.fA x.fn x.fc, .slice (some ⟨w3.heap.size, 0, none⟩) 1 1] 27)) (w3.heap.size + 1) 0 [⟨x.fA, x.fc, x.xs⟩, ⟨some ⟨w3.heap.size, 0, none⟩, 1, [⟨none, 0, [], 0⟩]⟩] := by
      have hl := litF0 w4 63
      rw [hs4] at hl
      have := parts2 (t := 27) ((hr4.1.mono S4.b.size).below hal |>.mono (show w4.heap.size ≤ w3.heap.size + 1 by omega)) hl (by simp [hs4])
      simpa [hs4] using this
    have hl0 := HR.out.f.len
    have htot : totG [(⟨x.fA, x.fc, x.xs⟩ : PartG Fv), ⟨some ⟨w3.heap.size, 0, none⟩, 1, [⟨none, 0, [], 0⟩]⟩] = x.fn + 1 := by simp [totG, hl0]
    have hcat : catG [(⟨x.fA, x.fc, x.xs⟩ : PartG Fv), ⟨some ⟨w3.heap.size, 0, none⟩, 1, [⟨none, 0, [], 0⟩]⟩] = x.xs ++ [⟨none, 0, [], 0⟩] := by simp [catG]
    have hcall := concatF_any (w3.heap.size + 2) (w3.heap.size + 1) 0 2 2 _ _ hP (by rw [hsz]; exact Nat.le_refl _) rfl (by omega) (by omega) (by rw [htot]; omega)
    rw [htot, hcat] at hcall
    have HCALL := Lib.hid hcall
    have HOWN := Lib.hid hown4
    have HS4 := Lib.hid S4
    have HAL2 := Lib.hid hal2
    have hn34 : w.heap.size + 2 ≤ w3.heap.size := S3.s
    have HL0 := Lib.hid hl0
    clear S4 hown3 hb3 S3 hown4 hr4 hal hal2 hP htot hcat hcall hl0
    go_wp2_with fail
    rw [← hw4]
    clear hw4
    refine HCALL.out.mono ?_
    rintro e w5 ⟨A5, c5, rfl, hown5, hb5⟩
    have hb45 : Below w3.heap.size w4 w5 := (HAL2.out.mono (by omega)).trans (hb5.mono (by omega))
    have S5 := HS4.out.below hb45 hn34
    obtain ⟨p0, p1, p2⟩ := cel3 S5.c0
    have g0 := cel_fr S5.c0 0
    have hownE := HOWN.out.below (hb45.mono (show w4.heap.size ≤ w3.heap.size by omega))
    have hownF : OwnG layF 63 (w3.heap.size + 2) w5 A5 (x.fn + 1) c5 (x.xs ++ [⟨none, 0, [], 0⟩]) := hown5.mono (by omega)
    obtain ⟨w6, hw6⟩ : ∃ w6, w6 = w5.setCell ⟨w.heap.size, 0, none⟩ (.slice A5 (x.fn + 1) c5) := ⟨_, rfl⟩
    have S6 : St w w6 #[.slice A5 (x.fn + 1) c5, .slice A3 (x.nn + 1) c3, .slice x.kA x.kn x.kc] := by rw [hw6]; exact S5.put1 0 (.slice A5 (x.fn + 1) c5)
    have HE6 : Hid (OwnE 68 w2.heap.size w6 A3 (x.nn + 1) c3 (withE x.now t (x.fn : Int))) := by show OwnG _ _ _ _ _ _ _ _; rw [hw6]; exact hownE.away S5.c0 (by decide) (grown_set _ _ _ _)
    have HF6 : Hid (OwnG layF 63 (w3.heap.size + 2) w6 A5 (x.fn + 1) c5 (x.xs ++ [⟨none, 0, [], 0⟩])) := by show OwnG _ _ _ _ _ _ _ _; rw [hw6]; exact hownF.away S5.c0 (by decide) (grown_set _ _ _ _)
    obtain ⟨t0, t1, t2⟩ := cel3 S5.c1
    obtain ⟨f0, f1, f2⟩ := cel_frs S5.c1
    have HS6 := Lib.hid S6
    clear S5 hb45 hb5 hown5 hownE hownF S6
    go_wp2
    (try simp only [Exit.inBlock, Exit.then])
    rw [← hw6]
    clear hw6
    refine bodyPost_ret (ret_disk rfl _ _ (w.heap.size + 1) #[.slice A5 (x.fn + 1) c5, .slice A3 (x.nn + 1) c3, .slice x.kA x.kn x.kc] rfl (cel_put3 HS6.out.c1) rfl) rfl ?_
    have hW := HS6.out.out (.slice A5 (x.fn + 1) c5) (.slice A3 (x.nn + 1) c3) (.slice x.kA x.kn x.kc)
    have hg := grown_put3 w6 (w.heap.size + 1) (.slice A5 (x.fn + 1) c5) (.slice A3 (x.nn + 1) c3) (.slice x.kA x.kn x.kc)
    refine ⟨⟨A5, x.fn + 1, c5, x.xs ++ [⟨none, 0, [], 0⟩], A3, x.nn + 1, c3, withE x.now t (x.fn : Int), x.kA, x.kn, x.kc, x.kept⟩, rfl, ?_, ⟨⟨(HF6.out.away HS6.out.c1 (by decide) hg).rd, fun u hu => ?_⟩, (HE6.out.away HS6.out.c1 (by decide) hg).rd, (HR.out.k.below hW).mono hW.size⟩, hW⟩
    · unfold createdD
      rw [show x.d.now = x.now from rfl, HF.out]
      show D.mk (fsOf (x.xs ++ [⟨none, 0, [], 0⟩])) _ _ = D.mk (fsOf x.xs ++ [⟨[], 0⟩]) (withE x.now t ((fsOf x.xs).length : Nat)) x.kept
      rw [fs_app, fs_len, HL0.out]
      rfl
    · rcases List.mem_append.1 hu with hu | hu
      · exact bsu_mono ((HR.out.f.2 u hu).below hW) hW.size
      · simp at hu
        subst hu
        exact BsU.nil _ _
end Go.Proofs.YtlefpodonkdbeaaGreat.Dw
end
/- What disk.Append comes to. For all disks whose names fit, and up to a million bytes. -/
section
set_option maxRecDepth 8000
namespace Go.Proofs.YtlefpodonkdbeaaGreat.Dw
open Go.RowKit By Dk

/-! ### Mathematics -/
theorem set_last {α : Type} (l : List α) (a b : α) : (l ++ [a]).set l.length b = l ++ [b] := by
  rw [List.set_append_right _ _ (Nat.le_refl _), Nat.sub_self]
  rfl
theorem append_math {d : D} (hr : RightD d) {t : N} (hn : FairN t) (b : List UInt8) : ∃ k : Nat, findE (createdD d t).now t = some (k : Int) ∧ k < (createdD d t).fs.length ∧ Loose (createdD d t) ∧ (createdD d t).fs.length ≤ 21 ∧
    (20000 < (fileAt (createdD d t) (k : Int)).d.length + b.length ∨ 20 < (createdD d t).fs.length → appendG d t b = (d, 3)) ∧
    (¬ (20000 < (fileAt (createdD d t) (k : Int)).d.length + b.length ∨ 20 < (createdD d t).fs.length) → appendG d t b = (orderedD (setD (createdD d t) (k : Int) ⟨(fileAt (createdD d t) (k : Int)).d ++ b, (fileAt (createdD d t) (k : Int)).s⟩), 0)) := by
  cases hf : findE d.now t with
  | some f =>
    have e : createdD d t = d := by unfold createdD; rw [hf]
    rw [e]
    obtain ⟨f0, f1⟩ := find_range hr hf
    obtain ⟨k, rfl⟩ := Int.eq_ofNat_of_zero_le f0
    have h20 := hr.1
    obtain ⟨k1, k2, k3⟩ := file_ok hr hf
    have ea : appendG d t b = if 20000 < (fileAt d (k : Int)).d.length + b.length then (d, 3) else (setD d (k : Int) ⟨(fileAt d (k : Int)).d ++ b, (fileAt d (k : Int)).s⟩, 0) := by unfold appendG; rw [if_pos hn, hf]
    refine ⟨k, hf, by omega, hr.2.1, by omega, fun hc => ?_, fun hc => ?_⟩
    · rw [ea, if_pos (by omega)]
    · rw [ea, if_neg (by omega), ordered_id (set_right hr _)]
      exact ⟨by show ((fileAt d (k : Int)).d ++ b).length ≤ 20000; rw [List.length_append]; omega, k2, by show (fileAt d (k : Int)).s ≤ ((((fileAt d (k : Int)).d ++ b).length : Nat) : Int); rw [List.length_append]; omega⟩
  | none =>
    have e : createdD d t = newD d t [] := by unfold createdD; rw [hf]
    rw [e]
    have hL := new_loose hr hn hf (b := []) (by simp)
    have hm : ((t, (d.fs.length : Int)) : E) ∈ (newD d t []).now := mem_with.2 (.inl rfl)
    have hl : (newD d t []).fs.length = d.fs.length + 1 := by simp [newD]
    have h20 := hr.1
    have ea : appendG d t b = if 20 ≤ d.fs.length ∨ 20000 < b.length then (d, 3) else (orderedD (newD d t b), 0) := by unfold appendG; rw [if_pos hn, hf]
    refine ⟨d.fs.length, (find_iff hL.1.2).2 hm, by omega, hL, by omega, fun hc => ?_, fun hc => ?_⟩
    · rw [fileAt_last] at hc
      rw [ea, if_pos (by simp at hc; omega)]
    · rw [fileAt_last] at hc ⊢
      rw [ea, if_neg (by simp at hc; omega)]
      have : setD (newD d t []) (d.fs.length : Int) ⟨[] ++ b, 0⟩ = newD d t b := by
        unfold setD newD
        rw [Int.toNat_natCast, set_last]
        rfl
      simp only
      rw [this]
/-- What a disk that is right but for its order has room for. -/
theorem loose_facts {z : Dv} {U : Nat} {w : World} (h : Loose z.d) (hr : RdD U w z) (hl : z.d.fs.length ≤ 21) :
    z.fn = z.d.fs.length ∧ z.nn ≤ 21 ∧ z.kn ≤ 21 ∧ z.now.length + z.kept.length ≤ 1000 ∧ (∀ u ∈ z.xs, u.l.length ≤ 20000) ∧ (∀ f ∈ cameD z.d, 0 ≤ f ∧ f < (z.fn : Int)) := by
  have e : z.d.fs.length = z.fn := by show (fsOf z.xs).length = _; rw [fs_len, hr.f.len]
  have h1 := named_len h.1
  have h2 := named_len h.2.1
  have e1 : z.d.now = z.now := rfl
  have e2 : z.d.kept = z.kept := rfl
  have e3 := hr.n.len
  have e4 := hr.k.len
  rw [e1] at h1
  rw [e2] at h2
  refine ⟨e.symm, by omega, by omega, by omega, fun u hu => ?_, fun f hf => ?_⟩
  · exact (h.2.2 u.f (List.mem_map.2 ⟨u, hu, rfl⟩)).1
  · have := came_range h hf
    rw [e] at this
    exact this
theorem parts2b {w : World} {A B : Option Addr} {n m c d : Nat} {t : TypeId} {l k : List UInt8} (hl : Bs w A n c l) (hk : Bs w B m d k) :
    Cw.PartsAt (w.alloc (.cells #[.slice A n c, .slice B m d] t)) w.heap.size 0 [⟨A, c, l⟩, ⟨B, d, k⟩] := by
  have hcp := Cel.born w t #[.slice A n c, .slice B m d]
  intro i hi
  match i, hi with
  | 0, _ => exact ⟨by rw [hcp.cell]; show _ = some (Value.slice A l.length c); rw [hl.len]; rfl, by show Bs _ A l.length c l; rw [hl.len]; exact hl.alloc _⟩
  | 1, _ => exact ⟨by rw [hcp.cell]; show _ = some (Value.slice B k.length d); rw [hk.len]; rfl, by show Bs _ B k.length d k; rw [hk.len]; exact hk.alloc _⟩
theorem alloc_more (w : World) (o : Obj) : Below w.heap.size w (w.alloc o) := (Below.refl _ _).alloc (Nat.le_refl _) _
theorem St.valid {w w1 w2 : World} {a b c : Value} {y : Dv} (S1 : St w w1 #[a, b, c]) (hb2 : Below w1.heap.size w1 w2) (hry : RdD w.heap.size w2 y) :
    St w (((w2.setCell ⟨w.heap.size, 0, none⟩ (.slice y.fA y.fn y.fc)).setCell ⟨w.heap.size, 1, none⟩ (.slice y.nA y.nn y.nc)).setCell ⟨w.heap.size, 2, none⟩ (.slice y.kA y.kn y.kc)) y.cs ∧
    RdD w.heap.size (((w2.setCell ⟨w.heap.size, 0, none⟩ (.slice y.fA y.fn y.fc)).setCell ⟨w.heap.size, 1, none⟩ (.slice y.nA y.nn y.nc)).setCell ⟨w.heap.size, 2, none⟩ (.slice y.kA y.kn y.kc)) y :=
  ⟨(S1.below hb2 S1.s).put _ _ _, hry.below (below_put3 (Below.refl _ _) (Nat.le_refl _) _ _ _)⟩

set_option maxHeartbeats 4000000 in
theorem append_any (x : Dv) (t : N) (Ab : Option Addr) (nb cb : Nat) (b : List UInt8) (w : World) (h : RdD w.heap.size w x) (hsm : Sm x.d) (ht : t.length ≤ 9223372036854775807) (hb : Bs w Ab nb cb b) (hbn : nb ≤ 1000000) :
    Calls Tryz.prog 115 #[x.v, .string (ba t), .slice Ab nb cb] w (DE w (appendK x.d t b)) := by
  obtain ⟨w1, hw1⟩ : ∃ w1, w1 = (w.alloc (.cells x.cs 30)).alloc (.cells #[.slice none 0 0, .slice none 0 0, .slice none 0 0] 30) := ⟨_, rfl⟩
  have S1 : St w w1 x.cs := by rw [hw1]; exact St.start x w
  have HV := Lib.hid (valid_any w.heap.size x w1 (h.below S1.b) S1.b.size hsm)
  have HS1 := Lib.hid S1
  have HB := Lib.hid hb
  have HBL := Lib.hid hb.len
  have hbc := hb.cap
  have hbm := hb.max
  clear h S1 hsm hb
  go_enter Tryz.func115, Tryz.ntmps115
  go_wp2_with fail
  rw [← hw1]
  clear hw1
  refine HV.out.mono ?_
  rintro e w2 ⟨y, rfl, hy, hry, hb2⟩
  have S2 := HS1.out.below hb2 HS1.out.s
  obtain ⟨q0, q1, q2⟩ := cel3 S2.c0
  obtain ⟨f0, f1, f2⟩ := cel_frs S2.c0
  obtain ⟨S3, hr3⟩ := HS1.out.valid hb2 hry
  obtain ⟨w3, hw3⟩ : ∃ w3, w3 = (((w2.setCell ⟨w.heap.size, 0, none⟩ (.slice y.fA y.fn y.fc)).setCell ⟨w.heap.size, 1, none⟩ (.slice y.nA y.nn y.nc)).setCell ⟨w.heap.size, 2, none⟩ (.slice y.kA y.kn y.kc)) := ⟨_, rfl⟩
  rw [← hw3] at S3 hr3
  have HS3 := Lib.hid S3
  have HR3 := Lib.hid hr3
  have hrd : RightD y.d := by rw [hy]; exact good_right _
  have HY := Lib.hid hy
  have HRN := rightName_any t w3 ht
  clear hry hb2 S2 S3 hr3 hy
  by_cases hfair : FairN t
  rotate_left
  · have H : Hid (appendK x.d t b = (y.d, 1)) := by
      show appendG (goodD x.d) t b = _
      unfold appendG
      rw [if_neg hfair, HY.out]
    have hd : decide (FairN t) = false := decide_eq_false hfair
    rw [hd] at HRN
    clear hd hfair hrd
    go_wp2_with fail
    rw [← hw3]
    clear hw3
    refine HRN.mono ?_
    rintro e w4 ⟨rfl, rfl⟩
    obtain ⟨p0, p1, p2⟩ := cel3 HS3.out.c0
    obtain ⟨t0, t1, t2⟩ := cel3 HS3.out.c1
    obtain ⟨g0, g1, g2⟩ := cel_frs HS3.out.c1
    go_wp2
    (try simp only [Exit.inBlock, Exit.then])
    refine bodyPost_ret (ret_disk2 rfl _ _ (w.heap.size + 1) y.cs rfl (cel_put3 HS3.out.c1) rfl) rfl ?_
    exact ⟨y, by rw [H.out]; rfl, by rw [H.out], HS3.out.rd HR3.out (by omega) _ _ _, HS3.out.out _ _ _⟩
  have hd : decide (FairN t) = true := decide_eq_true hfair
  rw [hd] at HRN
  obtain ⟨k, hfk, hkl, hL, h21, hfull, hroom⟩ := append_math hrd hfair b
  have hyfn : y.fn ≤ 1000 ∧ y.nn ≤ 1000 := by
    have := loose_facts hrd.2.1 HR3.out (by have := hrd.1; omega)
    have := hrd.1
    omega
  have HCR := Lib.hid (created_any y t w3 (HR3.out.mono HS3.out.b.size) hyfn.2 hyfn.1)
  have HG : Hid (appendK x.d t b = appendG y.d t b) := by show appendG (goodD x.d) t b = _; rw [HY.out]
  clear hd hfair hrd hyfn
  go_wp2_with fail
  rw [← hw3]
  clear hw3
  refine HRN.mono ?_
  rintro e w4 ⟨rfl, rfl⟩
  obtain ⟨p0, p1, p2⟩ := cel3 HS3.out.c0
  clear q0 q1 q2 f0 f1 f2
  go_wp2_with fail
  refine HCR.out.mono ?_
  rintro e w4 ⟨z, rfl, hz, hrz, hb4⟩
  rw [← hz] at hfk hkl hL h21 hfull hroom
  obtain ⟨zl, zn, zk, zs, zb, zc⟩ := loose_facts hL hrz h21
  rw [← zl] at hkl h21 hfull hroom
  clear zl
  have S4 := HS3.out.below hb4 HS3.out.s
  have HR4 := Lib.hid (HR3.out.below (hb4.mono HS3.out.b.size))
  obtain ⟨w5, hw5⟩ : ∃ w5, w5 = w4.alloc (.cells z.cs 30) := ⟨_, rfl⟩
  have hal : Below w4.heap.size w4 w5 := by rw [hw5]; exact (Below.refl _ _).alloc (Nat.le_refl _) _
  have hcz : Cel w5 w4.heap.size 30 z.cs := by rw [hw5]; exact Cel.born _ _ _
  have HFO := Lib.hid (fileOf_any z t w5 ((hrz.n.below hal).mono hal.size))
  have hs45 := hal.size
  have S5 := S4.below hal S4.s
  have HR5 := Lib.hid (HR4.out.below (hal.mono (by have := S4.s; omega)))
  have HRZ := Lib.hid (hrz.below hal)
  have HS5 := Lib.hid S5
  have HCZ := Lib.hid hcz
  have hs4 := S4.s
  have HL := Lib.hid hL
  clear hz hrz hb4 S4 S5 hal hcz hL
  go_wp2_with fail
  rw [← hw5]
  clear hw5
  refine HFO.out.mono ?_
  rintro e w6 ⟨rfl, hb6⟩
  rw [show findE z.now t = some (k : Int) from hfk, foV_some]
  have HS6 := Lib.hid (HS5.out.below hb6 (by omega))
  have HR6 := Lib.hid (HR5.out.below (hb6.mono (by omega)))
  have HZ6 := Lib.hid (HRZ.out.below (hb6.mono hs45))
  have HC6 := Lib.hid (HCZ.out.below hb6 HCZ.out.lt)
  obtain ⟨bo, o, v, eA, hbo, HE, hbs, d1, d2⟩ := atF HZ6.out.f hkl
  obtain ⟨c0, c1, c2⟩ := cel3 HC6.out
  rw [eA] at c0
  have HV6 : Hid (fileAt z.d (k : Int) = v.f) := fileAt_get (by omega) (by simpa using HE.out)
  have hvl : v.l.length ≤ 20000 := zb v (List.mem_of_getElem? HE.out)
  have zfc := HZ6.out.f.cap
  have zfm := HZ6.out.f.max
  rw [HV6.out] at hfull hroom
  obtain ⟨w7, hw7⟩ : ∃ w7, w7 = w6.alloc (.cells #[.slice v.A v.l.length v.c, .int .i64 v.s] 63) := ⟨_, rfl⟩
  have hal : Below w6.heap.size w6 w7 := by rw [hw7]; exact (Below.refl _ _).alloc (Nat.le_refl _) _
  have hs67 := hal.size
  have hs56 := hb6.size
  have hs7 : w7.heap.size = w6.heap.size + 1 := by rw [hw7]; simp
  have HS7 := Lib.hid (HS6.out.below hal (by omega))
  have HR7 := Lib.hid (HR6.out.below (hal.mono (by omega)))
  have HZ7 := Lib.hid (HZ6.out.below (hal.mono (by omega)))
  have HC7 := Lib.hid (HC6.out.below hal HC6.out.lt)
  have HF7 : Hid (Cel w7 w6.heap.size 63 #[.slice v.A v.l.length v.c, .int .i64 v.s]) := by show Cel _ _ _ _; rw [hw7]; exact Cel.born _ _ _
  have HVB := Lib.hid (hbs.below (hal.mono (by omega)))
  have hk0 : (0 : Int) ≤ (k : Int) := by omega
  have HFULL := Lib.hid hfull
  have HROOM := Lib.hid hroom
  have HZB := Lib.hid zb
  have HZC := Lib.hid zc
  have HZS := Lib.hid zs
  clear hfull hroom hb6 hal hbs HE zb zc hfk zs
  have hlt45 := HCZ.out.lt
  have hne1 : w.heap.size < w6.heap.size := by omega
  have hne2 : w.heap.size + 1 < w6.heap.size := by omega
  have hne3 : w4.heap.size < w6.heap.size := by omega
  by_cases hbig : 20000 < v.l.length + nb ∨ 20 < z.fn
  · have H := Lib.hid (HG.out.trans (HFULL.out (by rw [HBL.out]; exact hbig)))
    obtain ⟨p0, p1, p2⟩ := cel3 HS6.out.c0
    obtain ⟨t0, t1, t2⟩ := cel3 HS6.out.c1
    obtain ⟨g0, g1, g2⟩ := cel_frs HS6.out.c1
    by_cases h1 : (20000 : Int) < ((v.l.length : Nat) : Int) + (nb : Nat)
    · clear hbig
      go_wp2
      (try simp only [Exit.inBlock, Exit.then])
      have hc := cel_put3 (a' := .slice y.fA y.fn y.fc) (b' := .slice y.nA y.nn y.nc) (c' := .slice y.kA y.kn y.kc) HS6.out.c1
      have hA := alloc_more ((((w6.setCell ⟨w.heap.size + 1, 0, none⟩ (.slice y.fA y.fn y.fc)).setCell ⟨w.heap.size + 1, 1, none⟩ (.slice y.nA y.nn y.nc)).setCell ⟨w.heap.size + 1, 2, none⟩ (.slice y.kA y.kn y.kc))) (.cells #[.slice v.A v.l.length v.c, .int .i64 v.s] 63)
      have hO := HS6.out.out (.slice y.fA y.fn y.fc) (.slice y.nA y.nn y.nc) (.slice y.kA y.kn y.kc)
      refine bodyPost_ret (ret_disk2 rfl _ _ (w.heap.size + 1) y.cs rfl (hc.below hA hc.lt) rfl) rfl ?_
      exact ⟨y, by rw [H.out]; rfl, by rw [H.out], ((HS6.out.rd HR6.out (by omega) _ _ _).below hA).mono hA.size, hO.trans (hA.mono hO.size)⟩
    · have h2 : (20 : Int) < (z.fn : Int) := by omega
      clear hbig
      go_wp2
      (try simp only [Exit.inBlock, Exit.then])
      have hc := cel_put3 (a' := .slice y.fA y.fn y.fc) (b' := .slice y.nA y.nn y.nc) (c' := .slice y.kA y.kn y.kc) HS6.out.c1
      have hA := alloc_more ((((w6.setCell ⟨w.heap.size + 1, 0, none⟩ (.slice y.fA y.fn y.fc)).setCell ⟨w.heap.size + 1, 1, none⟩ (.slice y.nA y.nn y.nc)).setCell ⟨w.heap.size + 1, 2, none⟩ (.slice y.kA y.kn y.kc))) (.cells #[.slice v.A v.l.length v.c, .int .i64 v.s] 63)
      have hO := HS6.out.out (.slice y.fA y.fn y.fc) (.slice y.nA y.nn y.nc) (.slice y.kA y.kn y.kc)
      refine bodyPost_ret (ret_disk2 rfl _ _ (w.heap.size + 1) y.cs rfl (hc.below hA hc.lt) rfl) rfl ?_
      exact ⟨y, by rw [H.out]; rfl, by rw [H.out], ((HS6.out.rd HR6.out (by omega) _ _ _).below hA).mono hA.size, hO.trans (hA.mono hO.size)⟩
  have H := Lib.hid (HG.out.trans (HROOM.out (by rw [HBL.out]; exact hbig)))
  have h1 : ¬ (20000 : Int) < ((v.l.length : Nat) : Int) + (nb : Nat) := by omega
  have h2 : ¬ (20 : Int) < (z.fn : Int) := by omega
  have hP := parts2b (t := 61) HVB.out.bs (HB.out.below HS7.out.b)
  have htot : Cw.totL [⟨v.A, v.c, v.l⟩, ⟨Ab, cb, b⟩] = v.l.length + nb := by simp [Cw.totL, HBL.out]
  have hcat : Cw.catL [⟨v.A, v.c, v.l⟩, ⟨Ab, cb, b⟩] = v.l ++ b := by simp [Cw.catL]
  have hcall := Cw.concat_any w7.heap.size 0 2 2 _ _ hP rfl (by omega) (by omega) (by rw [htot]; omega)
  rw [htot, hcat, hs7] at hcall
  have HCALL := Lib.hid hcall
  have hal8 := alloc_more w7 (.cells #[.slice v.A v.l.length v.c, .slice Ab nb cb] 61)
  have hs8 : (w7.alloc (.cells #[.slice v.A v.l.length v.c, .slice Ab nb cb] 61)).heap.size = w6.heap.size + 2 := by simp [hs7]
  have HAL8 := Lib.hid hal8
  clear hbig hP htot hcat hcall hal8
  go_wp2_with fail
  rw [← hw7]
  clear hw7
  refine HCALL.out.mono ?_
  rintro e w9 ⟨A9, c9, rfl, hown9, hb9⟩
  have hb79 : Below w7.heap.size w7 w9 := HAL8.out.trans (hb9.mono (by omega))
  have HF9 := Lib.hid (HF7.out.below hb79 HF7.out.lt)
  obtain ⟨k0, k1⟩ := cel2 HF9.out
  have f9 := cel_fr HF9.out 0
  have f91 := cel_fr HF9.out 1
  have HC9 := Lib.hid (HC7.out.below hb79 HC7.out.lt)
  obtain ⟨m0, m1, m2⟩ := cel3 HC9.out
  have HZ9 := Lib.hid (HZ7.out.below (hb79.mono (by omega)))
  have HS9 := Lib.hid (HS7.out.below hb79 (by omega))
  rw [eA] at m0
  obtain ⟨w10, hw10⟩ : ∃ w10, w10 = w9.setCell ⟨w6.heap.size, 0, none⟩ (.slice A9 (v.l.length + nb) c9) := ⟨_, rfl⟩
  have hb10 : Below w6.heap.size w9 w10 := by rw [hw10]; exact (Below.refl _ _).setCell (p := ⟨w6.heap.size, 0, none⟩) (Nat.le_refl _) _
  have hown10 : Own 5 w6.heap.size w10 A9 (v.l.length + nb) c9 (v.l ++ b) := by
    rw [hw10]
    exact row_away (hown9.mono (by omega)) HF9.out (by decide) (grown_set _ _ _ _)
  have hr10 := (HZ9.out.below (hb10.mono (by omega))).mono (show w4.heap.size ≤ w10.heap.size by have := hb79.size; have := hb10.size; omega)
  have hll : (v.l ++ b).length = v.l.length + nb := by rw [List.length_append, HBL.out]
  have hcall : Calls Tryz.prog 63 #[.agg #[.slice z.fA z.fn z.fc, .slice z.nA z.nn z.nc, .slice z.kA z.kn z.kc], .int .i64 (k : Int), .agg #[.slice A9 (v.l.length + nb) c9, .int .i64 v.s]] w10 (DO w10 (orderedD (setD z.d (k : Int) ⟨v.l ++ b, v.s⟩))) := by
    rw [← hll]
    exact withFile_any z k ⟨A9, c9, v.l ++ b, v.s⟩ w10 hr10 (by show BsU _ _ A9 (v.l ++ b).length c9 (v.l ++ b); rw [hll]; exact hown10.bs.upto) hkl HZC.out HZS.out (by omega) (fun u hu => by have := HZB.out u hu; omega) (by show (v.l ++ b).length ≤ _; omega)
  rw [eA] at hcall
  have HCALL2 := Lib.hid hcall
  have HS10 := Lib.hid (HS9.out.below hb10 (by omega))
  have hs10 := hb10.size
  have hs9 := hb79.size
  clear hcall hr10 hown10 hown9 hb79 hb9 hb10 hll
  go_wp2_with fail
  rw [← hw10]
  clear hw10
  refine HCALL2.out.mono ?_
  rintro e w11 ⟨z2, rfl, hz2, hoz, hb11⟩
  have S11 := HS10.out.below hb11 (by omega)
  obtain ⟨t0, t1, t2⟩ := cel3 S11.c1
  obtain ⟨g0, g1, g2⟩ := cel_frs S11.c1
  have HS11 := Lib.hid S11
  have HOZ := Lib.hid hoz
  have HZ2 := Lib.hid hz2
  clear S11 hoz hz2 hb11
  go_wp2
  (try simp only [Exit.inBlock, Exit.then])
  refine bodyPost_ret (ret_disk2 rfl _ _ (w.heap.size + 1) z2.cs rfl (cel_put3 HS11.out.c1) rfl) rfl ?_
  exact ⟨z2, by rw [H.out]; rfl, by rw [H.out]; exact HZ2.out, HS11.out.own HOZ.out _ _ _, HS11.out.out _ _ _⟩
end Go.Proofs.YtlefpodonkdbeaaGreat.Dw
end
/- What disk.Sync, Cut, Rename, Remove and SyncDir come to. For all disks whose names fit. -/
section
set_option maxRecDepth 8000
namespace Go.Proofs.YtlefpodonkdbeaaGreat.Dw
open Go.RowKit By Dk

/-! ### Mathematics -/
theorem sync_math {d : D} (hr : RightD d) {t : N} {f : Int} (hf : findE d.now t = some f) : syncG d t = (orderedD (setD d f ⟨(fileAt d f).d, ((fileAt d f).d.length : Nat)⟩), 0) := by
  have hok := file_ok hr hf
  rw [ordered_id (set_right (f := f) (x := ⟨(fileAt d f).d, ((fileAt d f).d.length : Nat)⟩) hr ⟨hok.1, by show (0 : Int) ≤ ((_ : Nat) : Int); omega, Int.le_refl _⟩)]
  unfold syncG
  rw [hf]
theorem cut_math {d : D} (hr : RightD d) {t : N} {f n : Int} (hf : findE d.now t = some f) (hn : ¬ (n < 0 ∨ (((fileAt d f).d.length : Nat) : Int) < n)) : cutG d t n = (orderedD (setD d f ⟨(fileAt d f).d.take n.toNat, n⟩), 0) := by
  have hok := file_ok hr hf
  rw [ordered_id (set_right (f := f) (x := ⟨(fileAt d f).d.take n.toNat, n⟩) hr ⟨?_, ?_, ?_⟩)]
  · unfold cutG
    rw [hf]
    simp only [if_neg hn]
  · show (List.take _ _).length ≤ _
    rw [List.length_take]
    have := hok.1
    omega
  · show 0 ≤ n
    omega
  · show n ≤ (((List.take _ _).length : Nat) : Int)
    rw [List.length_take]
    omega
theorem cut_bad {d : D} {t : N} {f n : Int} (hf : findE d.now t = some f) (hn : n < 0 ∨ (((fileAt d f).d.length : Nat) : Int) < n) : cutG d t n = (d, 1) := by
  unfold cutG
  rw [hf]
  simp only [if_pos hn]
theorem rd_strs (w : World) (e : TypeId) (ns : List N) (h : ns.length ≤ 1000) : Rd (w.alloc (.cells (strV ns).toArray e)) (some ⟨w.heap.size, 0, none⟩) ns.length ns.length (strV ns) :=
  ⟨strV_len ns, Nat.le_refl _, by unfold maxLen; omega, fun _ => ⟨w.heap.size, 0, rfl, fun i hi => by rw [(Cel.born w e _).cell, Nat.zero_add, List.getElem?_toArray, List.getElem?_eq_getElem hi]⟩⟩
theorem dropE_len (l : List E) (q : E → Bool) : (dropE l q).length ≤ l.length := List.length_filter_le _ _
theorem loose_now {d : D} (hr : RightD d) {l : List E} (hl : Named l d.fs.length) : Loose { d with now := l } := ⟨hl, hr.2.1.2.1, hr.2.1.2.2⟩

set_option maxHeartbeats 4000000 in
theorem sync_any (x : Dv) (t : N) (w : World) (h : RdD w.heap.size w x) (hsm : Sm x.d) :
    Calls Tryz.prog 35 #[x.v, .string (ba t)] w (DE w (syncK x.d t)) := by
  obtain ⟨w1, hw1⟩ : ∃ w1, w1 = (w.alloc (.cells x.cs 30)).alloc (.cells #[.slice none 0 0, .slice none 0 0, .slice none 0 0] 30) := ⟨_, rfl⟩
  have S1 : St w w1 x.cs := by rw [hw1]; exact St.start x w
  have HV := Lib.hid (valid_any w.heap.size x w1 (h.below S1.b) S1.b.size hsm)
  have HS1 := Lib.hid S1
  clear h S1 hsm
  go_enter Tryz.func35, Tryz.ntmps35
  go_wp2_with fail
  rw [← hw1]
  clear hw1
  refine HV.out.mono ?_
  rintro e w2 ⟨y, rfl, hy, hry, hb2⟩
  have S2 := HS1.out.below hb2 HS1.out.s
  obtain ⟨q0, q1, q2⟩ := cel3 S2.c0
  obtain ⟨f0, f1, f2⟩ := cel_frs S2.c0
  obtain ⟨S3, hr3⟩ := HS1.out.valid hb2 hry
  obtain ⟨w3, hw3⟩ : ∃ w3, w3 = (((w2.setCell ⟨w.heap.size, 0, none⟩ (.slice y.fA y.fn y.fc)).setCell ⟨w.heap.size, 1, none⟩ (.slice y.nA y.nn y.nc)).setCell ⟨w.heap.size, 2, none⟩ (.slice y.kA y.kn y.kc)) := ⟨_, rfl⟩
  rw [← hw3] at S3 hr3
  have HS3 := Lib.hid S3
  have HR3 := Lib.hid hr3
  have HRD : Hid (RightD y.d) := by show RightD _; rw [hy]; exact good_right _
  have HY := Lib.hid hy
  have HFO := Lib.hid (fileOf_any y t w3 (hr3.n.mono S3.b.size))
  obtain ⟨zl, zn, zk, zs, zb, zc⟩ := loose_facts HRD.out.2.1 hr3 (by have := HRD.out.1; omega)
  have h20 : y.fn ≤ 20 := by have := HRD.out.1; omega
  have HZB := Lib.hid zb
  have HZC := Lib.hid zc
  have HZS := Lib.hid zs
  have HZL := Lib.hid zl
  clear hry hb2 S2 S3 hr3 hy zb zc zs zl
  go_wp2_with fail
  rw [← hw3]
  clear hw3 q0 q1 q2 f0 f1 f2
  refine HFO.out.mono ?_
  rintro e w4 ⟨rfl, hb4⟩
  have HS4 := Lib.hid (HS3.out.below hb4 HS3.out.s)
  have HR4 := Lib.hid (HR3.out.below (hb4.mono HS3.out.b.size))
  obtain ⟨p0, p1, p2⟩ := cel3 HS4.out.c0
  clear hb4
  cases hf : findE y.now t with
  | none =>
    have H : Hid (syncK x.d t = (y.d, 5)) := by
      show _ = _
      unfold syncK syncG
      rw [← HY.out, show findE y.d.now t = none from hf]
    obtain ⟨t0, t1, t2⟩ := cel3 HS4.out.c1
    obtain ⟨g0, g1, g2⟩ := cel_frs HS4.out.c1
    clear hf
    rw [foV_none]
    go_wp2
    (try simp only [Exit.inBlock, Exit.then])
    refine bodyPost_ret (ret_disk2 rfl _ _ (w.heap.size + 1) y.cs rfl (cel_put3 HS4.out.c1) rfl) rfl ?_
    exact ⟨y, by rw [H.out]; rfl, by rw [H.out], HS4.out.rd HR4.out (by omega) _ _ _, HS4.out.out _ _ _⟩
  | some f =>
    obtain ⟨f0, f1⟩ := find_range HRD.out (show findE y.d.now t = some f from hf)
    obtain ⟨k, rfl⟩ := Int.eq_ofNat_of_zero_le f0
    have hkl : k < y.fn := by have := HZL.out; omega
    obtain ⟨bo, o, v, eA, hbo, HE, hbs, d1, d2⟩ := atF HR4.out.f hkl
    have HV4 : Hid (fileAt y.d (k : Int) = v.f) := fileAt_get (by omega) (by simpa using HE.out)
    have hvl : v.l.length ≤ 20000 := HZB.out v (List.mem_of_getElem? HE.out)
    have yfc := HR4.out.f.cap
    have yfm := HR4.out.f.max
    have p0' := p0
    rw [eA] at p0'
    have hk0 : (0 : Int) ≤ (k : Int) := by omega
    have hs4 := HS4.out.s
    have H : Hid (syncK x.d t = (orderedD (setD y.d (k : Int) ⟨v.l, (v.l.length : Nat)⟩), 0)) := by
      show _ = _
      unfold syncK
      rw [← HY.out, sync_math HRD.out (show findE y.d.now t = some (k : Int) from hf), HV4.out]
      rfl
    obtain ⟨w5, hw5⟩ : ∃ w5, w5 = w4.alloc (.cells #[.slice v.A v.l.length v.c, .int .i64 (v.l.length : Nat)] 63) := ⟨_, rfl⟩
    have hal : Below w4.heap.size w4 w5 := by rw [hw5]; exact alloc_more _ _
    have hr5 := (HR4.out.below (hal.mono (by omega))).mono (show w.heap.size ≤ w5.heap.size by have := hal.size; omega)
    have hcall : Calls Tryz.prog 63 #[.agg #[.slice y.fA y.fn y.fc, .slice y.nA y.nn y.nc, .slice y.kA y.kn y.kc], .int .i64 (k : Int), .agg #[.slice v.A v.l.length v.c, .int .i64 (v.l.length : Nat)]] w5 (DO w5 (orderedD (setD y.d (k : Int) ⟨v.l, (v.l.length : Nat)⟩))) :=
      withFile_any y k ⟨v.A, v.c, v.l, (v.l.length : Nat)⟩ w5 hr5 (bsu_mono (hbs.below (hal.mono (by omega))) (by have := hal.size; omega)) hkl HZC.out HZS.out (by omega) (fun u hu => by have := HZB.out u hu; omega) (by show v.l.length ≤ _; omega)
    rw [eA] at hcall
    have HCALL := Lib.hid hcall
    have HS5 := Lib.hid (HS4.out.below hal hs4)
    have hlt1 : w.heap.size < w4.heap.size := by omega
    have hs45 := hal.size
    clear hcall hr5 hal HE hbs hf p0
    rw [foV_some]
    go_wp2_with fail
    rw [← hw5]
    clear hw5
    refine HCALL.out.mono ?_
    rintro e w9 ⟨z2, rfl, hz2, hoz, hb9⟩
    have S9 := HS5.out.below hb9 (by omega)
    obtain ⟨t0, t1, t2⟩ := cel3 S9.c1
    obtain ⟨g0, g1, g2⟩ := cel_frs S9.c1
    have HS9 := Lib.hid S9
    have HOZ := Lib.hid hoz
    have HZ2 := Lib.hid hz2
    clear S9 hoz hz2 hb9
    go_wp2
    (try simp only [Exit.inBlock, Exit.then])
    refine bodyPost_ret (ret_disk2 rfl _ _ (w.heap.size + 1) z2.cs rfl (cel_put3 HS9.out.c1) rfl) rfl ?_
    exact ⟨z2, by rw [H.out]; rfl, by rw [H.out]; exact HZ2.out, HS9.out.own HOZ.out _ _ _, HS9.out.out _ _ _⟩
set_option maxHeartbeats 4000000 in
theorem cut_any (x : Dv) (t : N) (n : Int) (w : World) (h : RdD w.heap.size w x) (hsm : Sm x.d) :
    Calls Tryz.prog 34 #[x.v, .string (ba t), .int .i64 n] w (DE w (cutK x.d t n)) := by
  obtain ⟨w1, hw1⟩ : ∃ w1, w1 = (w.alloc (.cells x.cs 30)).alloc (.cells #[.slice none 0 0, .slice none 0 0, .slice none 0 0] 30) := ⟨_, rfl⟩
  have S1 : St w w1 x.cs := by rw [hw1]; exact St.start x w
  have HV := Lib.hid (valid_any w.heap.size x w1 (h.below S1.b) S1.b.size hsm)
  have HS1 := Lib.hid S1
  clear h S1 hsm
  go_enter Tryz.func34, Tryz.ntmps34
  go_wp2_with fail
  rw [← hw1]
  clear hw1
  refine HV.out.mono ?_
  rintro e w2 ⟨y, rfl, hy, hry, hb2⟩
  have S2 := HS1.out.below hb2 HS1.out.s
  obtain ⟨q0, q1, q2⟩ := cel3 S2.c0
  obtain ⟨f0, f1, f2⟩ := cel_frs S2.c0
  obtain ⟨S3, hr3⟩ := HS1.out.valid hb2 hry
  obtain ⟨w3, hw3⟩ : ∃ w3, w3 = (((w2.setCell ⟨w.heap.size, 0, none⟩ (.slice y.fA y.fn y.fc)).setCell ⟨w.heap.size, 1, none⟩ (.slice y.nA y.nn y.nc)).setCell ⟨w.heap.size, 2, none⟩ (.slice y.kA y.kn y.kc)) := ⟨_, rfl⟩
  rw [← hw3] at S3 hr3
  have HS3 := Lib.hid S3
  have HR3 := Lib.hid hr3
  have HRD : Hid (RightD y.d) := by show RightD _; rw [hy]; exact good_right _
  have HY := Lib.hid hy
  have HFO := Lib.hid (fileOf_any y t w3 (hr3.n.mono S3.b.size))
  obtain ⟨zl, zn, zk, zs, zb, zc⟩ := loose_facts HRD.out.2.1 hr3 (by have := HRD.out.1; omega)
  have h20 : y.fn ≤ 20 := by have := HRD.out.1; omega
  have HZB := Lib.hid zb
  have HZC := Lib.hid zc
  have HZS := Lib.hid zs
  have HZL := Lib.hid zl
  clear hry hb2 S2 S3 hr3 hy zb zc zs zl
  go_wp2_with fail
  rw [← hw3]
  clear hw3 q0 q1 q2 f0 f1 f2
  refine HFO.out.mono ?_
  rintro e w4 ⟨rfl, hb4⟩
  have HS4 := Lib.hid (HS3.out.below hb4 HS3.out.s)
  have HR4 := Lib.hid (HR3.out.below (hb4.mono HS3.out.b.size))
  obtain ⟨p0, p1, p2⟩ := cel3 HS4.out.c0
  clear hb4
  cases hf : findE y.now t with
  | none =>
    have H : Hid (cutK x.d t n = (y.d, 5)) := by
      show _ = _
      unfold cutK cutG
      rw [← HY.out, show findE y.d.now t = none from hf]
    obtain ⟨t0, t1, t2⟩ := cel3 HS4.out.c1
    obtain ⟨g0, g1, g2⟩ := cel_frs HS4.out.c1
    clear hf
    rw [foV_none]
    go_wp2
    (try simp only [Exit.inBlock, Exit.then])
    refine bodyPost_ret (ret_disk2 rfl _ _ (w.heap.size + 1) y.cs rfl (cel_put3 HS4.out.c1) rfl) rfl ?_
    exact ⟨y, by rw [H.out]; rfl, by rw [H.out], HS4.out.rd HR4.out (by omega) _ _ _, HS4.out.out _ _ _⟩
  | some f =>
    obtain ⟨f0, f1⟩ := find_range HRD.out (show findE y.d.now t = some f from hf)
    obtain ⟨k, rfl⟩ := Int.eq_ofNat_of_zero_le f0
    have hkl : k < y.fn := by have := HZL.out; omega
    obtain ⟨bo, o, v, eA, hbo, HE, hbs, d1, d2⟩ := atF HR4.out.f hkl
    have HV4 : Hid (fileAt y.d (k : Int) = v.f) := fileAt_get (by omega) (by simpa using HE.out)
    have hvl : v.l.length ≤ 20000 := HZB.out v (List.mem_of_getElem? HE.out)
    have yfc := HR4.out.f.cap
    have yfm := HR4.out.f.max
    have p0' := p0
    rw [eA] at p0'
    have hk0 : (0 : Int) ≤ (k : Int) := by omega
    have hs4 := HS4.out.s
    have hlen : (fileAt y.d (k : Int)).d.length = v.l.length := by rw [HV4.out]; rfl
    have hvc := hbs.bs.cap
    have hvm := hbs.bs.max
    by_cases hbad : n < 0 ∨ ((v.l.length : Nat) : Int) < n
    · have H : Hid (cutK x.d t n = (y.d, 1)) := by
        show _ = _
        unfold cutK
        rw [← HY.out, cut_bad (show findE y.d.now t = some (k : Int) from hf) (by rw [hlen]; exact hbad)]
      obtain ⟨t0, t1, t2⟩ := cel3 HS4.out.c1
      obtain ⟨g0, g1, g2⟩ := cel_frs HS4.out.c1
      rw [eA] at p0
      rw [foV_some]
      have eA2 := Lib.hid eA
      clear eA
      by_cases h1 : n < 0
      · clear hbad hlen hf HE hbs
        go_wp2
        (try simp only [Exit.inBlock, Exit.then])
        refine bodyPost_ret (ret_disk2 rfl _ _ (w.heap.size + 1) #[.slice (some ⟨bo, o, none⟩) y.fn y.fc, .slice y.nA y.nn y.nc, .slice y.kA y.kn y.kc] rfl (cel_put3 HS4.out.c1) rfl) rfl ?_
        exact ⟨y, by rw [H.out, eA2.out]; rfl, by rw [H.out], HS4.out.rd HR4.out (by omega) _ _ _, HS4.out.out _ _ _⟩
      · have h2 : ((v.l.length : Nat) : Int) < n := by omega
        clear hbad hlen hf HE hbs
        go_wp2
        (try simp only [Exit.inBlock, Exit.then])
        refine bodyPost_ret (ret_disk2 rfl _ _ (w.heap.size + 1) #[.slice (some ⟨bo, o, none⟩) y.fn y.fc, .slice y.nA y.nn y.nc, .slice y.kA y.kn y.kc] rfl (cel_put3 HS4.out.c1) rfl) rfl ?_
        exact ⟨y, by rw [H.out, eA2.out]; rfl, by rw [H.out], HS4.out.rd HR4.out (by omega) _ _ _, HS4.out.out _ _ _⟩
    obtain ⟨m, rfl⟩ := Int.eq_ofNat_of_zero_le (show 0 ≤ n by omega)
    have hml : m ≤ v.l.length := by omega
    obtain ⟨A2, hs2, hcut2⟩ := byP.cutU_h hbs m (m : Int) rfl hml
    have H : Hid (cutK x.d t (m : Int) = (orderedD (setD y.d (k : Int) ⟨v.l.take m, (m : Nat)⟩), 0)) := by
      show _ = _
      unfold cutK
      rw [← HY.out, cut_math HRD.out (show findE y.d.now t = some (k : Int) from hf) (by rw [hlen]; exact hbad), HV4.out]
      rfl
    have hll : (v.l.take m).length = m := by rw [List.length_take]; omega
    have hcall : Calls Tryz.prog 63 #[.agg #[.slice y.fA y.fn y.fc, .slice y.nA y.nn y.nc, .slice y.kA y.kn y.kc], .int .i64 (k : Int), .agg #[.slice A2 m v.c, .int .i64 (m : Nat)]] w4.drew (DO w4.drew (orderedD (setD y.d (k : Int) ⟨v.l.take m, (m : Nat)⟩))) := by
      have := withFile_any y k ⟨A2, v.c, v.l.take m, (m : Nat)⟩ w4.drew ((HR4.out.mono HS4.out.b.size).drew) (by show BsU _ _ A2 (v.l.take m).length v.c (v.l.take m); rw [hll]; exact bsu_mono hs2 HS4.out.b.size) hkl HZC.out HZS.out (by omega) (fun u hu => by have := HZB.out u hu; omega) (by show (v.l.take m).length ≤ _; omega)
      rw [show (⟨A2, v.c, v.l.take m, (m : Nat)⟩ : Fv).l.length = m from hll] at this
      exact this
    rw [eA] at hcall
    have HCALL := Lib.hid hcall
    have h1 : ¬ (m : Int) < 0 := by omega
    have h2 : ¬ ((v.l.length : Nat) : Int) < (m : Int) := by omega
    have hm0 : (0 : Int) ≤ (m : Int) := by omega
    clear hcall HE hbs hf p0 hs2 hbad hlen hll
    rw [foV_some]
    go_wp2_with fail
    go_region_with ((go_at_call 63; refine HCALL.out.mono ?_; rintro e w9 ⟨z2, rfl, hz2, hoz, hb9⟩; have S9 := HS4.out.below (below_undrew hb9) hs4; obtain ⟨t0, t1, t2⟩ := cel3 S9.c1; obtain ⟨g0, g1, g2⟩ := cel_frs S9.c1; have HS9 := Lib.hid S9; have HOZ := Lib.hid hoz; have HZ2 := Lib.hid hz2; clear S9 hoz hz2 hb9))
    all_goals (
      go_wp2
      (try simp only [Exit.inBlock, Exit.then])
      refine bodyPost_ret (ret_disk2 rfl _ _ (w.heap.size + 1) z2.cs rfl (cel_put3 HS9.out.c1) rfl) rfl ?_
      exact ⟨z2, by rw [H.out]; rfl, by rw [H.out]; exact HZ2.out, HS9.out.own HOZ.out _ _ _, HS9.out.out _ _ _⟩)
end Go.Proofs.YtlefpodonkdbeaaGreat.Dw
end
/- What disk.Remove, Rename and SyncDir come to. For all disks whose names fit. -/
section
set_option maxRecDepth 8000
namespace Go.Proofs.YtlefpodonkdbeaaGreat.Dw
open Go.RowKit By Dk

theorem came_all {z : Dv} {U : Nat} {w : World} (h : Loose z.d) (hr : RdD U w z) : ∀ f ∈ cameD z.d, 0 ≤ f ∧ f < (z.fn : Int) := fun f hf => by
  have e : z.d.fs.length = z.fn := by show (fsOf z.xs).length = _; rw [fs_len, hr.f.len]
  have := came_range h hf
  rw [e] at this
  exact this
theorem remove_math {d : D} {t : N} {f : Int} (hf : findE d.now t = some f) : removeG d t = (orderedD { d with now := withoutNs d.now [t] }, 0) := by
  unfold removeG
  rw [hf, without_one]
theorem rename_math {d : D} {t u : N} {f : Int} (hf : findE d.now t = some f) (hu : FairN u) : renameG d t u = (orderedD { d with now := withE (withoutNs d.now [t, u]) u f }, 0) := by
  unfold renameG
  rw [hf, without_two]
  simp only [if_pos hu]
  rfl
theorem withE_len : ∀ (l : List E) (t : N) (f : Int), (withE l t f).length = l.length + 1
  | [], _, _ => rfl
  | e :: l, t, f => by
    rw [withE]
    split
    · rfl
    · rw [List.length_cons, withE_len l t f, List.length_cons]
set_option maxHeartbeats 4000000 in
theorem remove_any (x : Dv) (t : N) (w : World) (h : RdD w.heap.size w x) (hsm : Sm x.d) :
    Calls Tryz.prog 36 #[x.v, .string (ba t)] w (DE w (removeK x.d t)) := by
  obtain ⟨w1, hw1⟩ : ∃ w1, w1 = (w.alloc (.cells x.cs 30)).alloc (.cells #[.slice none 0 0, .slice none 0 0, .slice none 0 0] 30) := ⟨_, rfl⟩
  have S1 : St w w1 x.cs := by rw [hw1]; exact St.start x w
  have HV := Lib.hid (valid_any w.heap.size x w1 (h.below S1.b) S1.b.size hsm)
  have HS1 := Lib.hid S1
  clear h S1 hsm
  go_enter Tryz.func36, Tryz.ntmps36
  go_wp2_with fail
  rw [← hw1]
  clear hw1
  refine HV.out.mono ?_
  rintro e w2 ⟨y, rfl, hy, hry, hb2⟩
  have S2 := HS1.out.below hb2 HS1.out.s
  obtain ⟨q0, q1, q2⟩ := cel3 S2.c0
  obtain ⟨f0, f1, f2⟩ := cel_frs S2.c0
  obtain ⟨S3, hr3⟩ := HS1.out.valid hb2 hry
  obtain ⟨w3, hw3⟩ : ∃ w3, w3 = (((w2.setCell ⟨w.heap.size, 0, none⟩ (.slice y.fA y.fn y.fc)).setCell ⟨w.heap.size, 1, none⟩ (.slice y.nA y.nn y.nc)).setCell ⟨w.heap.size, 2, none⟩ (.slice y.kA y.kn y.kc)) := ⟨_, rfl⟩
  rw [← hw3] at S3 hr3
  have HS3 := Lib.hid S3
  have HR3 := Lib.hid hr3
  have HRD : Hid (RightD y.d) := by show RightD _; rw [hy]; exact good_right _
  have HY := Lib.hid hy
  have HFO := Lib.hid (fileOf_any y t w3 (hr3.n.mono S3.b.size))
  obtain ⟨zl, zn, zk, zs, zb, zc⟩ := loose_facts HRD.out.2.1 hr3 (by have := HRD.out.1; omega)
  have h20 : y.fn ≤ 20 := by have := HRD.out.1; omega
  have HZB := Lib.hid zb
  have HZC := Lib.hid zc
  have HZS := Lib.hid zs
  have HZL := Lib.hid zl
  clear hry hb2 S2 S3 hr3 hy zb zc zs zl
  go_wp2_with fail
  rw [← hw3]
  clear hw3 q0 q1 q2 f0 f1 f2
  refine HFO.out.mono ?_
  rintro e w4 ⟨rfl, hb4⟩
  have HS4 := Lib.hid (HS3.out.below hb4 HS3.out.s)
  have HR4 := Lib.hid (HR3.out.below (hb4.mono HS3.out.b.size))
  obtain ⟨p0, p1, p2⟩ := cel3 HS4.out.c0
  clear hb4
  cases hf : findE y.now t with
  | none =>
    have H : Hid (removeK x.d t = (y.d, 5)) := by
      show _ = _
      unfold removeK removeG
      rw [← HY.out, show findE y.d.now t = none from hf]
    obtain ⟨t0, t1, t2⟩ := cel3 HS4.out.c1
    obtain ⟨g0, g1, g2⟩ := cel_frs HS4.out.c1
    clear hf
    rw [foV_none]
    go_wp2
    (try simp only [Exit.inBlock, Exit.then])
    refine bodyPost_ret (ret_disk2 rfl _ _ (w.heap.size + 1) y.cs rfl (cel_put3 HS4.out.c1) rfl) rfl ?_
    exact ⟨y, by rw [H.out]; rfl, by rw [H.out], HS4.out.rd HR4.out (by omega) _ _ _, HS4.out.out _ _ _⟩
  | some f =>
    have H : Hid (removeK x.d t = (orderedD { y.d with now := withoutNs y.now [t] }, 0)) := by
      show _ = _
      unfold removeK
      rw [← HY.out, remove_math (show findE y.d.now t = some f from hf)]
      rfl
    have hlit := rd_strs w4 9 [t] (by simp)
    obtain ⟨w5, hw5⟩ : ∃ w5, w5 = w4.alloc (.cells #[.string (ba t)] 9) := ⟨_, rfl⟩
    rw [show (strV [t]).toArray = #[.string (ba t)] from rfl, ← hw5] at hlit
    have hal : Below w4.heap.size w4 w5 := by rw [hw5]; exact alloc_more _ _
    have hs4 := HS4.out.s
    have hr5 := HR4.out.n.below (hal.mono (by omega))
    have hnl := HR4.out.n.len
    have HNL := Lib.hid hnl
    have HWO := Lib.hid (without_any y.nA y.nn y.nc y.now (some ⟨w4.heap.size, 0, none⟩) 1 1 [t] w5 (hr5.mono (by have := hal.size; omega)) (by omega) hlit)
    have HS5 := Lib.hid (HS4.out.below hal hs4)
    have HB45 := Lib.hid (hal.mono (show w.heap.size ≤ w4.heap.size by omega))
    have hs45 := hal.size
    have HNA := Lib.hid (named_without (n := t) HRD.out.2.1.1)
    have hy0 := HR4.out.n.cap
    have hy1 := HR4.out.n.max
    clear hlit hal hr5 hf hnl
    rw [foV_some]
    go_wp2_with fail
    rw [← hw5]
    clear hw5
    refine HWO.out.mono ?_
    rintro e w7 ⟨A7, n7, c7, rfl, hown7, hb7⟩
    have HS7 := Lib.hid (HS5.out.below hb7 (by omega))
    obtain ⟨r0, r1, r2⟩ := cel3 HS7.out.c0
    have f1 := cel_fr HS7.out.c0 1
    obtain ⟨w8, hw8⟩ : ∃ w8, w8 = w7.setCell ⟨w.heap.size, 1, none⟩ (.slice A7 n7 c7) := ⟨_, rfl⟩
    have HS8 : Hid (St w w8 #[.slice y.fA y.fn y.fc, .slice A7 n7 c7, .slice y.kA y.kn y.kc]) := by show St _ _ _; rw [hw8]; exact HS7.out.put1 1 _
    have hown8 : OwnE 68 w5.heap.size w8 A7 n7 c7 (withoutNs y.now [t]) := by rw [hw8]; exact hown7.away HS7.out.c0 (by decide) (grown_set _ _ _ _)
    have hb48 : Below w.heap.size w4 w8 := by rw [hw8]; exact (HB45.out.trans (hb7.mono (by omega))).setCell (p := ⟨w.heap.size, 1, none⟩) (Nat.le_refl _) _
    have hr8 : RdD w8.heap.size w8 ⟨y.fA, y.fn, y.fc, y.xs, A7, n7, c7, withoutNs y.now [t], y.kA, y.kn, y.kc, y.kept⟩ := ⟨(HR4.out.f.below hb48).mono HS8.out.b.size, hown8.rd, (HR4.out.k.below hb48).mono HS8.out.b.size⟩
    have hL8 : Loose (⟨y.fA, y.fn, y.fc, y.xs, A7, n7, c7, withoutNs y.now [t], y.kA, y.kn, y.kc, y.kept⟩ : Dv).d := by
      have := loose_now HRD.out HNA.out
      rw [← without_one] at this
      exact this
    have hnew : (withoutNs y.now [t]).length ≤ y.nn := by have := dropE_len y.now (namedQ [t]); rw [HNL.out] at this; exact this
    clear hown7 hb7 hb48 hown8
    have hcall := normalize_any ⟨y.fA, y.fn, y.fc, y.xs, A7, n7, c7, withoutNs y.now [t], y.kA, y.kn, y.kc, y.kept⟩ w8 hr8 (came_all hL8 hr8) (by show List.length (withoutNs y.now [t]) + y.kept.length ≤ _; have := HR4.out.k.len; omega) (fun u hu => by have := HZB.out u hu; omega)
    have HCALL8 := Lib.hid hcall
    have hs8 := HS8.out.s
    clear hcall hL8 hr8
    go_wp2_with fail
    rw [← hw8]
    clear hw8
    refine HCALL8.out.mono ?_
    rintro e w9 ⟨z2, rfl, hz2, hoz, hb9⟩
    have S9 := HS8.out.below hb9 hs8
    obtain ⟨t0, t1, t2⟩ := cel3 S9.c1
    obtain ⟨g0, g1, g2⟩ := cel_frs S9.c1
    have HS9 := Lib.hid S9
    have HOZ := Lib.hid hoz
    have HZ2 := Lib.hid hz2
    clear S9 hoz hz2 hb9
    go_wp2
    (try simp only [Exit.inBlock, Exit.then])
    refine bodyPost_ret (ret_disk2 rfl _ _ (w.heap.size + 1) z2.cs rfl (cel_put3 HS9.out.c1) rfl) rfl ?_
    exact ⟨z2, by rw [H.out]; rfl, by rw [H.out]; exact HZ2.out, HS9.out.own HOZ.out _ _ _, HS9.out.out _ _ _⟩
set_option maxHeartbeats 4000000 in
theorem rename_any (x : Dv) (t u : N) (w : World) (h : RdD w.heap.size w x) (hsm : Sm x.d) (hu : u.length ≤ 9223372036854775807) :
    Calls Tryz.prog 116 #[x.v, .string (ba t), .string (ba u)] w (DE w (renameK x.d t u)) := by
  obtain ⟨w1, hw1⟩ : ∃ w1, w1 = (w.alloc (.cells x.cs 30)).alloc (.cells #[.slice none 0 0, .slice none 0 0, .slice none 0 0] 30) := ⟨_, rfl⟩
  have S1 : St w w1 x.cs := by rw [hw1]; exact St.start x w
  have HV := Lib.hid (valid_any w.heap.size x w1 (h.below S1.b) S1.b.size hsm)
  have HS1 := Lib.hid S1
  clear h S1 hsm
  go_enter Tryz.func116, Tryz.ntmps116
  go_wp2_with fail
  rw [← hw1]
  clear hw1
  refine HV.out.mono ?_
  rintro e w2 ⟨y, rfl, hy, hry, hb2⟩
  have S2 := HS1.out.below hb2 HS1.out.s
  obtain ⟨q0, q1, q2⟩ := cel3 S2.c0
  obtain ⟨f0, f1, f2⟩ := cel_frs S2.c0
  obtain ⟨S3, hr3⟩ := HS1.out.valid hb2 hry
  obtain ⟨w3, hw3⟩ : ∃ w3, w3 = (((w2.setCell ⟨w.heap.size, 0, none⟩ (.slice y.fA y.fn y.fc)).setCell ⟨w.heap.size, 1, none⟩ (.slice y.nA y.nn y.nc)).setCell ⟨w.heap.size, 2, none⟩ (.slice y.kA y.kn y.kc)) := ⟨_, rfl⟩
  rw [← hw3] at S3 hr3
  have HS3 := Lib.hid S3
  have HR3 := Lib.hid hr3
  have HRD : Hid (RightD y.d) := by show RightD _; rw [hy]; exact good_right _
  have HY := Lib.hid hy
  have HFO := Lib.hid (fileOf_any y t w3 (hr3.n.mono S3.b.size))
  obtain ⟨zl, zn, zk, zs, zb, zc⟩ := loose_facts HRD.out.2.1 hr3 (by have := HRD.out.1; omega)
  have h20 : y.fn ≤ 20 := by have := HRD.out.1; omega
  have HZB := Lib.hid zb
  have HZC := Lib.hid zc
  have HZS := Lib.hid zs
  have HZL := Lib.hid zl
  clear hry hb2 S2 S3 hr3 hy zb zc zs zl
  go_wp2_with fail
  rw [← hw3]
  clear hw3 q0 q1 q2 f0 f1 f2
  refine HFO.out.mono ?_
  rintro e w4 ⟨rfl, hb4⟩
  have HS4 := Lib.hid (HS3.out.below hb4 HS3.out.s)
  have HR4 := Lib.hid (HR3.out.below (hb4.mono HS3.out.b.size))
  obtain ⟨p0, p1, p2⟩ := cel3 HS4.out.c0
  clear hb4
  cases hf : findE y.now t with
  | none =>
    have H : Hid (renameK x.d t u = (y.d, 5)) := by
      show _ = _
      unfold renameK renameG
      rw [← HY.out, show findE y.d.now t = none from hf]
    obtain ⟨t0, t1, t2⟩ := cel3 HS4.out.c1
    obtain ⟨g0, g1, g2⟩ := cel_frs HS4.out.c1
    clear hf
    rw [foV_none]
    go_wp2
    (try simp only [Exit.inBlock, Exit.then])
    refine bodyPost_ret (ret_disk2 rfl _ _ (w.heap.size + 1) y.cs rfl (cel_put3 HS4.out.c1) rfl) rfl ?_
    exact ⟨y, by rw [H.out]; rfl, by rw [H.out], HS4.out.rd HR4.out (by omega) _ _ _, HS4.out.out _ _ _⟩
  | some f =>
    have HRN := rightName_any u w4 hu
    by_cases hfair : FairN u
    rotate_left
    · have H : Hid (renameK x.d t u = (y.d, 1)) := by
        show _ = _
        unfold renameK renameG
        rw [← HY.out, show findE y.d.now t = some f from hf]
        simp only [if_neg hfair]
      obtain ⟨t0, t1, t2⟩ := cel3 HS4.out.c1
      obtain ⟨g0, g1, g2⟩ := cel_frs HS4.out.c1
      have hd : decide (FairN u) = false := decide_eq_false hfair
      rw [hd] at HRN
      clear hd hfair hf
      rw [foV_some]
      go_wp2_with fail
      refine HRN.mono ?_
      rintro e w5 ⟨rfl, rfl⟩
      go_wp2
      (try simp only [Exit.inBlock, Exit.then])
      refine bodyPost_ret (ret_disk2 rfl _ _ (w.heap.size + 1) y.cs rfl (cel_put3 HS4.out.c1) rfl) rfl ?_
      exact ⟨y, by rw [H.out]; rfl, by rw [H.out], HS4.out.rd HR4.out (by omega) _ _ _, HS4.out.out _ _ _⟩
    have H : Hid (renameK x.d t u = (orderedD { y.d with now := withE (withoutNs y.now [t, u]) u f }, 0)) := by
      show _ = _
      unfold renameK
      rw [← HY.out, rename_math (show findE y.d.now t = some f from hf) hfair]
      rfl
    have hd : decide (FairN u) = true := decide_eq_true hfair
    rw [hd] at HRN
    have hlit := rd_strs w4 9 [t, u] (by simp)
    obtain ⟨w5, hw5⟩ : ∃ w5, w5 = w4.alloc (.cells #[.string (ba t), .string (ba u)] 9) := ⟨_, rfl⟩
    rw [show (strV [t, u]).toArray = #[.string (ba t), .string (ba u)] from rfl, ← hw5] at hlit
    have hal : Below w4.heap.size w4 w5 := by rw [hw5]; exact alloc_more _ _
    have hs4 := HS4.out.s
    have hr5 := HR4.out.n.below (hal.mono (by omega))
    have hnl := HR4.out.n.len
    have HNL := Lib.hid hnl
    have HWO := Lib.hid (without_any y.nA y.nn y.nc y.now (some ⟨w4.heap.size, 0, none⟩) 2 2 [t, u] w5 (hr5.mono (by have := hal.size; omega)) (by omega) hlit)
    have HS5 := Lib.hid (HS4.out.below hal hs4)
    have HB45 := Lib.hid (hal.mono (show w.heap.size ≤ w4.heap.size by omega))
    have hs45 := hal.size
    have HNA : Hid (Named (withE (withoutNs y.now [t, u]) u f) y.d.fs.length) := by
      show Named _ _
      have := moved_named HRD.out (show findE y.d.now t = some f from hf) hfair
      unfold moved at this
      rw [← without_two] at this
      exact this
    have hy0 := HR4.out.n.cap
    have hy1 := HR4.out.n.max
    have hnew : (withoutNs y.now [t, u]).length ≤ y.nn := by have := dropE_len y.now (namedQ [t, u]); rw [HNL.out] at this; exact this
    clear hlit hal hr5 hf hnl hd hfair
    rw [foV_some]
    go_wp2_with fail
    refine HRN.mono ?_
    rintro e w5' ⟨rfl, rfl⟩
    go_wp2_with fail
    rw [← hw5]
    clear hw5
    refine HWO.out.mono ?_
    rintro e w6 ⟨A6, n6, c6, rfl, hown6, hb6⟩
    have hn6 : n6 ≤ 21 := by have := hown6.2; omega
    have HIN := Lib.hid (inserted_any A6 n6 c6 (withoutNs y.now [t, u]) u f w6 hown6.rd (by omega))
    have hs6 := hb6.size
    have HB46 := Lib.hid (HB45.out.trans (hb6.mono (show w.heap.size ≤ w5.heap.size by omega)))
    have HS6 := Lib.hid (HS5.out.below hb6 (by omega))
    clear hown6 hb6
    go_wp2_with fail
    refine HIN.out.mono ?_
    rintro e w7 ⟨A7, c7, rfl, hown7, hb7⟩
    have HS7 := Lib.hid (HS6.out.below hb7 (by omega))
    obtain ⟨r0, r1, r2⟩ := cel3 HS7.out.c0
    have f1 := cel_fr HS7.out.c0 1
    obtain ⟨w8, hw8⟩ : ∃ w8, w8 = w7.setCell ⟨w.heap.size, 1, none⟩ (.slice A7 (n6 + 1) c7) := ⟨_, rfl⟩
    have HS8 : Hid (St w w8 #[.slice y.fA y.fn y.fc, .slice A7 (n6 + 1) c7, .slice y.kA y.kn y.kc]) := by show St _ _ _; rw [hw8]; exact HS7.out.put1 1 _
    have hown8 : OwnE 68 w6.heap.size w8 A7 (n6 + 1) c7 (withE (withoutNs y.now [t, u]) u f) := by rw [hw8]; exact hown7.away HS7.out.c0 (by decide) (grown_set _ _ _ _)
    have hb48 : Below w.heap.size w4 w8 := by rw [hw8]; exact (HB46.out.trans (hb7.mono (by omega))).setCell (p := ⟨w.heap.size, 1, none⟩) (Nat.le_refl _) _
    have hr8 : RdD w8.heap.size w8 ⟨y.fA, y.fn, y.fc, y.xs, A7, n6 + 1, c7, withE (withoutNs y.now [t, u]) u f, y.kA, y.kn, y.kc, y.kept⟩ := ⟨(HR4.out.f.below hb48).mono HS8.out.b.size, hown8.rd, (HR4.out.k.below hb48).mono HS8.out.b.size⟩
    have hL8 : Loose (⟨y.fA, y.fn, y.fc, y.xs, A7, n6 + 1, c7, withE (withoutNs y.now [t, u]) u f, y.kA, y.kn, y.kc, y.kept⟩ : Dv).d := loose_now HRD.out HNA.out
    have hnew2 : (withE (withoutNs y.now [t, u]) u f).length ≤ y.nn + 1 := by rw [withE_len]; omega
    clear hown7 hb7 hb48 hown8
    have hcall := normalize_any ⟨y.fA, y.fn, y.fc, y.xs, A7, n6 + 1, c7, withE (withoutNs y.now [t, u]) u f, y.kA, y.kn, y.kc, y.kept⟩ w8 hr8 (came_all hL8 hr8) (by show List.length (withE (withoutNs y.now [t, u]) u f) + y.kept.length ≤ _; have := HR4.out.k.len; omega) (fun u hu => by have := HZB.out u hu; omega)
    have HCALL8 := Lib.hid hcall
    have hs8 := HS8.out.s
    clear hcall hL8 hr8
    go_wp2_with fail
    rw [← hw8]
    clear hw8
    refine HCALL8.out.mono ?_
    rintro e w9 ⟨z2, rfl, hz2, hoz, hb9⟩
    have S9 := HS8.out.below hb9 hs8
    obtain ⟨t0, t1, t2⟩ := cel3 S9.c1
    obtain ⟨g0, g1, g2⟩ := cel_frs S9.c1
    have HS9 := Lib.hid S9
    have HOZ := Lib.hid hoz
    have HZ2 := Lib.hid hz2
    clear S9 hoz hz2 hb9
    go_wp2
    (try simp only [Exit.inBlock, Exit.then])
    refine bodyPost_ret (ret_disk2 rfl _ _ (w.heap.size + 1) z2.cs rfl (cel_put3 HS9.out.c1) rfl) rfl ?_
    exact ⟨z2, by rw [H.out]; rfl, by rw [H.out]; exact HZ2.out, HS9.out.own HOZ.out _ _ _, HS9.out.out _ _ _⟩
set_option maxHeartbeats 4000000 in
theorem syncDir_any (x : Dv) (w : World) (h : RdD w.heap.size w x) (hsm : Sm x.d) :
    Calls Tryz.prog 37 #[x.v] w (DR w (fun v => v) (syncDirK x.d)) := by
  obtain ⟨w1, hw1⟩ : ∃ w1, w1 = (w.alloc (.cells x.cs 30)).alloc (.cells #[.slice none 0 0, .slice none 0 0, .slice none 0 0] 30) := ⟨_, rfl⟩
  have S1 : St w w1 x.cs := by rw [hw1]; exact St.start x w
  have HV := Lib.hid (valid_any w.heap.size x w1 (h.below S1.b) S1.b.size hsm)
  have HS1 := Lib.hid S1
  clear h S1 hsm
  go_enter Tryz.func37, Tryz.ntmps37
  go_wp2_with fail
  rw [← hw1]
  clear hw1
  refine HV.out.mono ?_
  rintro e w2 ⟨y, rfl, hy, hry, hb2⟩
  have S2 := HS1.out.below hb2 HS1.out.s
  obtain ⟨q0, q1, q2⟩ := cel3 S2.c0
  obtain ⟨f0, f1, f2⟩ := cel_frs S2.c0
  obtain ⟨S3, hr3⟩ := HS1.out.valid hb2 hry
  obtain ⟨w3, hw3⟩ : ∃ w3, w3 = (((w2.setCell ⟨w.heap.size, 0, none⟩ (.slice y.fA y.fn y.fc)).setCell ⟨w.heap.size, 1, none⟩ (.slice y.nA y.nn y.nc)).setCell ⟨w.heap.size, 2, none⟩ (.slice y.kA y.kn y.kc)) := ⟨_, rfl⟩
  rw [← hw3] at S3 hr3
  have HS3 := Lib.hid S3
  have HR3 := Lib.hid hr3
  have HRD : Hid (RightD y.d) := by show RightD _; rw [hy]; exact good_right _
  have HY := Lib.hid hy
  have H : Hid (syncDirK x.d = orderedD { y.d with kept := y.now }) := by
    show syncDirG (goodD x.d) = _
    rw [← hy]
    rfl
  obtain ⟨w4, hw4⟩ : ∃ w4, w4 = w3.setCell ⟨w.heap.size, 2, none⟩ (.slice y.nA y.nn y.nc) := ⟨_, rfl⟩
  have S4 : St w w4 #[.slice y.fA y.fn y.fc, .slice y.nA y.nn y.nc, .slice y.nA y.nn y.nc] := by rw [hw4]; exact S3.put1 2 _
  have hr4 := hr3.below (show Below w.heap.size w3 w4 by rw [hw4]; exact (Below.refl _ _).setCell (p := ⟨w.heap.size, 2, none⟩) (Nat.le_refl _) _)
  have hr5 : RdD w4.heap.size w4 ⟨y.fA, y.fn, y.fc, y.xs, y.nA, y.nn, y.nc, y.now, y.nA, y.nn, y.nc, y.now⟩ := ⟨hr4.f.mono S4.b.size, hr4.n.mono S4.b.size, hr4.n.mono S4.b.size⟩
  have hL : Loose (⟨y.fA, y.fn, y.fc, y.xs, y.nA, y.nn, y.nc, y.now, y.nA, y.nn, y.nc, y.now⟩ : Dv).d := ⟨HRD.out.2.1.1, HRD.out.2.1.1, HRD.out.2.1.2.2⟩
  obtain ⟨zl, zn, zk, zs, zb, zc⟩ := loose_facts hL hr5 (by have := HRD.out.1; exact Nat.le_trans this (by omega))
  have HNO := Lib.hid (normalize_any ⟨y.fA, y.fn, y.fc, y.xs, y.nA, y.nn, y.nc, y.now, y.nA, y.nn, y.nc, y.now⟩ w4 hr5 zc zs (fun u hu => by have := zb u hu; omega))
  have HS4 := Lib.hid S4
  have z2 := (cel3 S3.c0).2.2
  have fz2 := cel_fr S3.c0 2
  rw [hw3] at hw4 z2 fz2
  clear hry hb2 S2 S3 hr3 hy S4 hr4 hr5 hL zl zn zk zs zb zc hw3
  go_wp2_with fail
  rw [← hw4]
  clear hw4 z2 fz2 q0 q1 q2 f0 f1 f2
  refine HNO.out.mono ?_
  rintro e w9 ⟨z2, rfl, hz2, hoz, hb9⟩
  have S9 := HS4.out.below hb9 HS4.out.s
  obtain ⟨t0, t1, t2⟩ := cel3 S9.c1
  obtain ⟨g0, g1, g2⟩ := cel_frs S9.c1
  have HS9 := Lib.hid S9
  have HOZ := Lib.hid hoz
  have HZ2 := Lib.hid hz2
  clear S9 hoz hz2 hb9
  go_wp2
  (try simp only [Exit.inBlock, Exit.then])
  refine bodyPost_ret (ret_disk rfl _ _ (w.heap.size + 1) z2.cs rfl (cel_put3 HS9.out.c1) rfl) rfl ?_
  exact ⟨z2, rfl, by rw [H.out]; exact HZ2.out, HS9.out.own HOZ.out _ _ _, HS9.out.out _ _ _⟩
end Go.Proofs.YtlefpodonkdbeaaGreat.Dw
end
