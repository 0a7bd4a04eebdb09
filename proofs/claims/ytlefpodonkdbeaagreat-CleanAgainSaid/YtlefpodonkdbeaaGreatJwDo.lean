/- What a change's performed and journal's Do come to. For all disks whose names fit and all changes of the five kinds whose names and bytes fit. -/
import Derived.Test.YtlefpodonkdbeaaGreatJwChg
set_option maxRecDepth 8000
namespace Go.Proofs.YtlefpodonkdbeaaGreat.Jw
open Go.RowKit By Dk Jn
open Dw

def Kind5 (c : Cv) : Prop := 1 ≤ c.kind ∧ c.kind ≤ 5
theorem perf_any (x : Dv) (c : Cv) (w : World) (hx : RdD w.heap.size w x) (hsm : Sm x.d) (hc : OkC w.heap.size w c) (h5 : Kind5 c) : Calls Tryz.prog (perfF c.kind) #[c.v, x.v] w (DE w (oneC x.d c.ch)) := by
  obtain ⟨k, n, t, A, cc, b⟩ := c
  have h1 : 1 ≤ k := h5.1
  have h2 : k ≤ 5 := h5.2
  obtain rfl | rfl | rfl | rfl | rfl : k = 1 ∨ k = 2 ∨ k = 3 ∨ k = 4 ∨ k = 5 := by omega
  · exact appended_any x _ w hx hsm hc
  · exact synced_any x _ w hx hsm hc
  · exact renamed_any x _ w hx hsm hc
  · exact removed_any x _ w hx hsm hc
  · exact dirSynced_any x _ w hx hsm hc
theorem callP (k : Int) (h1 : 1 ≤ k) (h2 : k ≤ 5) : ∀ args W, (callFunc (perfF k) args).run Tryz.prog W = .ok (.enter (perfF k) args) W := by
  obtain rfl | rfl | rfl | rfl | rfl : k = 1 ∨ k = 2 ∨ k = 3 ∨ k = 4 ∨ k = 5 := by omega
  · exact Tryz.call86
  · exact Tryz.call87
  · exact Tryz.call88
  · exact Tryz.call89
  · exact Tryz.call90
set_option maxHeartbeats 2000000 in
theorem performed_any (x : Dv) (c : Cv) (w : World) (hx : RdD w.heap.size w x) (hsm : Sm x.d) (hc : OkC w.heap.size w c) (h5 : Kind5 c) : Calls Tryz.prog 33 #[c.v, x.v] w (DE w (oneC x.d c.ch)) := by
  obtain ⟨w1, hw1⟩ : ∃ w1, w1 = ((w.alloc (.cells c.cs 75)).alloc (.cells x.cs 30)).alloc (.cells #[.slice none 0 0, .slice none 0 0, .slice none 0 0] 30) := ⟨_, rfl⟩
  have h3 := three (w := w) c x
  rw [← hw1] at h3
  obtain ⟨hb1, hc0, hc1, hc2⟩ := h3
  have HP := Lib.hid (fun W (hW : Below w1.heap.size w1 W) => perf_any x c W (((hx.below hb1).mono hb1.size).below hW |>.mono hW.size) hsm (((hc.below hb1).mono hb1.size).below hW |>.mono hW.size) h5)
  have HE := Lib.hid (callP c.kind h5.1 h5.2)
  have HL := Lib.hid (fun W b (hM : Mp W b) => look5 hM h5.1 h5.2)
  have HB1 := Lib.hid hb1
  have HC2 := Lib.hid hc2
  have HC0 := Lib.hid hc0
  have HC1 := Lib.hid hc1
  have K : Hid (∀ W, Below w1.heap.size w1 W → W.cell? ⟨w.heap.size, 0, none⟩ = some (.int .i64 c.kind)) := fun W hW => (chg4 (hc0.below hW hc0.lt)).1
  generalize perfF c.kind = F at HP HE HL
  clear hx hsm hc hb1 hc0 hc1 hc2 h5
  go_enter Tryz.func33, Tryz.ntmps33
  go_wp2_with fail
  rw [← hw1]
  clear hw1
  go_region_held3 (fun W => W.cell? ⟨w.heap.size, 0, none⟩ = some (.int .i64 c.kind))
    (first
      | exact K.out _ (Below.refl _ _)
      | exact K.out _ (Below.refl _ _).drew
      | exact K.out _ hbu9)
    (first
      | (go_simp; go_at_call 62; (with_reducible refine (performers_any _).mono ?_); rintro ee wu ⟨rfl, hmp, hbu⟩; have hbu9 : Below w1.heap.size w1 wu := below_undrew hbu; have hlk : (Instr.lookup 103 (.map (some w1.heap.size)) (.int .i64 c.kind) true).run Tryz.prog wu = .ok (.tuple #[.func (.func F) #[] #[], .bool true]) wu := HL.out _ _ hmp))
  all_goals (
    have hk0 := HC0.out.below hbu9 HC0.out.lt
    have hk1 := HC1.out.below hbu9 HC1.out.lt
    have hk2 := Lib.hid (HC2.out.below hbu9 HC2.out.lt)
    have HBU := Lib.hid (HB1.out.trans (hbu9.mono HB1.out.size))
    have HPU := Lib.hid (HP.out wu hbu9)
    obtain ⟨p0, p1, p2, p3⟩ := chg4 hk0
    obtain ⟨d0, d1, d2⟩ := cel3 hk1
    clear hmp hbu hbu9 hlk HP HL K hk0 hk1
    go_wp2_with fail
    rw [HE.out, Oper.upon_enter]
    refine HPU.out.mono ?_
    rintro e w2 ⟨z, rfl, hz, hrz, hb2⟩
    have hk := hk2.out.below hb2 hk2.out.lt
    have HB2 := Lib.hid (HBU.out.trans (hb2.mono HBU.out.size))
    obtain ⟨q0, q1, q2⟩ := cel3 hk
    obtain ⟨f0, f1, f2⟩ := cel_frs hk
    have HK := Lib.hid hk
    have HZ := Lib.hid hrz
    clear hk hrz hb2
    go_wp2
    (try simp only [Exit.inBlock, Exit.then])
    refine bodyPost_ret (ret_disk2 rfl _ _ (w.heap.size + 2) z.cs rfl (cel_put3 HK.out) rfl) rfl ?_
    refine ⟨z, rfl, hz, ?_, below_put3 HB2.out (by omega) _ _ _⟩
    have := rdd_away HZ.out HK.out sl3 (cell_put3 w2 (w.heap.size + 2) (.slice z.fA z.fn z.fc) (.slice z.nA z.nn z.nc) (.slice z.kA z.kn z.kc))
    simpa using this)

/-! ### Do -/
theorem one_good {d : D} (h : RightD d) (c : Ch) : RightD (oneC d c).1 := by
  unfold oneC
  split
  · exact append_right (good_right d) _ _
  split
  · exact sync_right (good_right d) _
  split
  · exact rename_right (good_right d) _ _
  split
  · exact remove_right (good_right d) _
  split
  · exact syncDir_right (good_right d)
  · exact h
def DoR (w : World) (p : D × Nat) (e : Ending) (w' : World) : Prop := ∃ z : Dv, e = .returned (.tuple #[.agg #[.slice z.fA z.fn z.fc, .slice z.nA z.nn z.nc, .slice z.kA z.kn z.kc], .int .i64 (p.2 : Nat)]) ∧ z.d = p.1 ∧ RdD w'.heap.size w' z ∧ Below w.heap.size w w'
/-- Stores to the answer's place, and what reads behind them. -/
theorem st_ans {w w1 : World} {cs : Array Value} (h : St w w1 cs) {z : Dv} (hz : RdD w1.heap.size w1 z) : RdD (((w1.setCell ⟨w.heap.size + 1, 0, none⟩ (.slice z.fA z.fn z.fc)).setCell ⟨w.heap.size + 1, 1, none⟩ (.slice z.nA z.nn z.nc)).setCell ⟨w.heap.size + 1, 2, none⟩ (.slice z.kA z.kn z.kc)).heap.size (((w1.setCell ⟨w.heap.size + 1, 0, none⟩ (.slice z.fA z.fn z.fc)).setCell ⟨w.heap.size + 1, 1, none⟩ (.slice z.nA z.nn z.nc)).setCell ⟨w.heap.size + 1, 2, none⟩ (.slice z.kA z.kn z.kc)) z := by
  have := rdd_away hz h.c1 sl3 (cell_put3 w1 (w.heap.size + 1) (.slice z.fA z.fn z.fc) (.slice z.nA z.nn z.nc) (.slice z.kA z.kn z.kc))
  simpa using this
theorem go_next {fuel : Int} {xs : List Cv} {d0 d : D} {k : Nat} {c : Cv} (h : goC fuel 0 d0 (xs.map Cv.ch) = goC fuel k d ((xs.drop k).map Cv.ch)) (hk : xs[k]? = some c) :
    goC fuel 0 d0 (xs.map Cv.ch) = if fuel ≤ (k : Int) then (d, k) else if (oneC d c.ch).2 ≠ 0 then (d, k) else goC fuel (k + 1) (oneC d c.ch).1 ((xs.drop (k + 1)).map Cv.ch) := by
  rw [h]
  obtain ⟨hlt, hg⟩ := List.getElem?_eq_some_iff.1 hk
  rw [List.drop_eq_getElem_cons hlt, hg, List.map_cons, goC]
set_option maxHeartbeats 4000000 in
theorem doJ_any (x : Dv) (A : Option Addr) (n c : Nat) (xs : List Cv) (fuel : Int) (w : World) (hx : RdD w.heap.size w x) (hsm : Sm x.d) (hxs : RdC w.heap.size w A n c xs) (h5 : ∀ c ∈ xs, Kind5 c) :
    Calls Tryz.prog 19 #[x.v, .slice A n c, .int .i64 fuel] w (DoR w (doC x.d (xs.map Cv.ch) fuel)) := by
  obtain ⟨w1, hw1⟩ : ∃ w1, w1 = (w.alloc (.cells x.cs 30)).alloc (.cells #[.slice none 0 0, .slice none 0 0, .slice none 0 0] 30) := ⟨_, rfl⟩
  have S1 : St w w1 x.cs := by rw [hw1]; exact St.start x w
  have HV := Lib.hid (validJ_any w.heap.size x w1 (hx.below S1.b) S1.b.size hsm)
  have HS1 := Lib.hid S1
  have HXS := Lib.hid hxs
  have HK5 := Lib.hid h5
  have HN := Lib.hid hxs.len
  have hm := hxs.1.max
  have hcap := hxs.1.cap
  have HD : Hid (doC x.d (xs.map Cv.ch) fuel = goC fuel 0 (goodD x.d) (xs.map Cv.ch)) := rfl
  clear hx S1 hsm hxs h5
  go_enter Tryz.func19, Tryz.ntmps19
  go_wp2_with fail
  rw [← hw1]
  clear hw1
  refine HV.out.mono ?_
  rintro e w2 ⟨y, rfl, hy, hry, hb2⟩
  have hk := HS1.out.c0.below hb2 HS1.out.c0.lt
  obtain ⟨q0, q1, q2⟩ := cel3 hk
  obtain ⟨f0, f1, f2⟩ := cel_frs hk
  have h3 := St.valid HS1.out hb2 hry
  have HY : Hid (y.d = goodD x.d) := hy
  clear hk hb2 hry hy
  go_wp2
  obtain ⟨w3, hw3⟩ : ∃ w3, w3 = (((w2.setCell ⟨w.heap.size, 0, none⟩ (.slice y.fA y.fn y.fc)).setCell ⟨w.heap.size, 1, none⟩ (.slice y.nA y.nn y.nc)).setCell ⟨w.heap.size, 2, none⟩ (.slice y.kA y.kn y.kc)) := ⟨_, rfl⟩
  rw [← hw3] at h3 ⊢
  clear hw3 q0 q1 q2 f0 f1 f2
  go_loopw [16] (fun i wr => ∃ (k : Nat) (z : Dv), k ≤ n ∧ i = .int .i64 k ∧ Hid (St w wr z.cs ∧ RdD wr.heap.size wr z ∧ RightD z.d ∧ goC fuel 0 (goodD x.d) (xs.map Cv.ch) = goC fuel k z.d ((xs.drop k).map Cv.ch))) (fun i _ => n - (intOf i).toNat)
  case atStart => exact ⟨0, y, by omega, rfl, Lib.hid ⟨h3.1, h3.2.mono h3.1.b.size, by rw [HY.out]; exact good_right _, by rw [HY.out]; rfl⟩⟩
  case round =>
    obtain ⟨k, z, hk, rfl, HS⟩ := hrel
    obtain ⟨d0, d1, d2⟩ := cel3 HS.out.1.c0
    obtain ⟨q0, q1, q2⟩ := cel3 HS.out.1.c1
    obtain ⟨f0, f1, f2⟩ := cel_frs HS.out.1.c1
    by_cases hlt : k < n
    · obtain ⟨b, o, cv, rfl, hbU, HE, hok, c0, c1, c2, c3⟩ := atC (HXS.out.below HS.out.1.b) hlt
      have HGN := Lib.hid (go_next HS.out.2.2.2 HE.out)
      obtain ⟨v, hv⟩ : ∃ v, v = wr.alloc (.cells cv.cs 75) := ⟨_, rfl⟩
      have hbv : Below wr.heap.size wr v := by rw [hv]; exact alloc_more _ _
      have hs2 := HS.out.1.s
      have SV := HS.out.1.below hbv hs2
      have HSV := Lib.hid SV
      have HZV := Lib.hid ((HS.out.2.1.below hbv).mono hbv.size)
      have hkz : (k : Int) < (n : Int) := by omega
      by_cases hf : fuel ≤ (k : Int)
      · have H : Hid (doC x.d (xs.map Cv.ch) fuel = (z.d, k)) := by show _ = _; rw [HD.out, HGN.out, if_pos hf]
        obtain ⟨d0', d1', d2'⟩ := cel3 SV.c0
        obtain ⟨q0', q1', q2'⟩ := cel3 SV.c1
        obtain ⟨f0', f1', f2'⟩ := cel_frs SV.c1
        rw [hv] at d0' d1' d2' q0' q1' q2' f0' f1' f2'
        clear hbv SV HE hok HGN
        go_wp2
        (try simp only [Exit.inBlock, Exit.then])
        rw [← show v = wr.alloc (.cells #[.int .i64 cv.kind, .string (ba cv.name), .string (ba cv.tn), .slice cv.A cv.b.length cv.c] 75) from hv]
        refine bodyPost_ret (ret_disk2 rfl _ _ (w.heap.size + 1) z.cs rfl (cel_put3 HSV.out.c1) rfl) rfl ?_
        exact ⟨z, by rw [H.out]; rfl, by rw [H.out], st_ans HSV.out HZV.out, HSV.out.out _ _ _⟩
      · have hcv := Cel.born wr 75 cv.cs
        rw [← hv] at hcv
        obtain ⟨p0, p1, p2, p3⟩ := chg4 hcv
        obtain ⟨d0', d1', d2'⟩ := cel3 SV.c0
        have h5 := HK5.out cv (List.mem_of_getElem? HE.out)
        have HPF := Lib.hid (performed_any z cv v HZV.out (good_sm HS.out.2.2.1) ((hok.below (hbv.mono (Nat.le_trans (Nat.le_add_right _ _) hs2))).mono SV.b.size) h5)
        have HR1 := Lib.hid (one_good HS.out.2.2.1 cv.ch)
        have hgn := HGN.out
        rw [if_neg hf] at hgn
        have HG2 := Lib.hid hgn
        generalize oneC z.d cv.ch = p at HPF HR1 HG2
        obtain ⟨d', er⟩ := p
        rw [hv] at p0 p1 p2 p3 d0' d1' d2'
        clear hbv SV HE hok hcv h5 hgn HGN
        go_wp2_with fail
        rw [← hv]
        clear hv p0 p1 p2 p3 d0' d1' d2'
        refine HPF.out.mono ?_
        rintro e w4 ⟨z2, rfl, hz2, hrz, hb4⟩
        obtain ⟨w5, hw5⟩ : ∃ w5, w5 = w4.alloc (.cells z2.cs 30) := ⟨_, rfl⟩
        have hb5 : Below w4.heap.size w4 w5 := by rw [hw5]; exact alloc_more _ _
        have hc5 := Cel.born w4 30 z2.cs
        rw [← hw5] at hc5
        have hvs := HSV.out.s
        have S4 := HSV.out.below hb4 hvs
        have S5 := S4.below hb5 S4.s
        have HS5 := Lib.hid S5
        have HZ2 := Lib.hid ((hrz.below hb5).mono hb5.size)
        have HZ5 := Lib.hid (((HZV.out.below hb4).mono hb4.size).below hb5 |>.mono hb5.size)
        have HDZ : Hid (z2.d = d') := hz2
        obtain ⟨d0, d1, d2⟩ := cel3 S5.c0
        obtain ⟨g0, g1, g2⟩ := cel_frs S5.c0
        obtain ⟨q0, q1, q2⟩ := cel3 S5.c1
        obtain ⟨f0, f1, f2⟩ := cel_frs S5.c1
        obtain ⟨r0, r1, r2⟩ := cel3 hc5
        clear hb4 hb5 hrz S4 S5 hc5 hz2 HPF
        by_cases he : er = 0
        rotate_left
        · have H : Hid (doC x.d (xs.map Cv.ch) fuel = (z.d, k)) := by show _ = _; rw [HD.out, HG2.out, if_pos he]
          have b0 : (er != 0) = true := by simpa using he
          rw [hw5] at d0 d1 d2 q0 q1 q2 f0 f1 f2
          clear he HG2 r0 r1 r2 g0 g1 g2
          go_wp2
          (try simp only [Exit.inBlock, Exit.then])
          rw [← hw5]
          refine bodyPost_ret (ret_disk2 rfl _ _ (w.heap.size + 1) z.cs rfl (cel_put3 HS5.out.c1) rfl) rfl ?_
          exact ⟨z, by rw [H.out]; rfl, by rw [H.out], st_ans HS5.out HZ5.out, HS5.out.out _ _ _⟩
        · have HG3 := HG2.out
          rw [if_neg (fun q => q he)] at HG3
          have HG4 := Lib.hid HG3
          subst he
          rw [hw5] at d0 d1 d2 r0 r1 r2 g0 g1 g2
          clear HG3 HG2 q0 q1 q2 f0 f1 f2
          go_wp2
          rw [← hw5]
          clear hw5 d0 d1 d2 r0 r1 r2 g0 g1 g2
          go_roundw
          case rel =>
            refine ⟨k + 1, z2, by omega, by go_num, Lib.hid ⟨HS5.out.put _ _ _, ?_, by rw [HDZ.out]; exact HR1.out, by rw [HDZ.out]; exact HG4.out⟩⟩
            have := rdd_away HZ2.out HS5.out.c0 sl3 (cell_put3 w5 w.heap.size (.slice z2.fA z2.fn z2.fc) (.slice z2.nA z2.nn z2.nc) (.slice z2.kA z2.kn z2.kc))
            simpa using this
          case measure => simp [intOf]; omega
    · obtain rfl : k = n := by omega
      have H : Hid (doC x.d (xs.map Cv.ch) fuel = (z.d, k)) := by
        show _ = _
        rw [HD.out, HS.out.2.2.2, List.drop_of_length_le (by rw [HN.out]; exact Nat.le_refl _)]
        rfl
      go_wp2
      (try simp only [Exit.inBlock, Exit.then])
      refine bodyPost_ret (ret_disk2 rfl _ _ (w.heap.size + 1) z.cs rfl (cel_put3 HS.out.1.c1) rfl) rfl ?_
      exact ⟨z, by rw [H.out]; rfl, by rw [H.out], st_ans HS.out.1 HS.out.2.1, HS.out.1.out _ _ _⟩
end Go.Proofs.YtlefpodonkdbeaaGreat.Jw
