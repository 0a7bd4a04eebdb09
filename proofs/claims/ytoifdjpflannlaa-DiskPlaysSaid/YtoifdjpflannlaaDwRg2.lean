/- What the document's set comes to. For disks of up to 1000 files. -/
import Derived.Test.YtoifdjpflannlaaDwRf4
import Derived.Test.YtoifdjpflannlaaDwAs
set_option maxRecDepth 8000
namespace Go.Proofs.Ytoifdjpflannlaa.Dw
open Go.RowKit By Dk

theorem set_next {xs : List Fv} {k : Nat} {v u : Fv} (h : xs[k]? = some u) (n : Nat) : (xs.set n v).take (k + 1) = (xs.set n v).take k ++ [if k = n then v else u] := by
  have hk : k < xs.length := (List.getElem?_eq_some_iff.1 h).1
  have hk2 : k < (xs.set n v).length := by rw [List.length_set]; exact hk
  rw [List.take_succ_eq_append_getElem hk2]
  congr 2
  rw [List.getElem_set]
  by_cases e : n = k
  · rw [if_pos e, if_pos e.symm]
  · rw [if_neg e, if_neg (fun q => e q.symm)]
    exact (List.getElem?_eq_some_iff.1 h).2
def StSe (w w1 : World) (xs : List Fv) (m : Nat) (v i : Value) (wr : World) : Prop :=
  ∃ (k : Nat) (A1 : Option Addr) (c1 : Nat), k ≤ m ∧ i = .int .i64 k ∧ v = .slice A1 k c1 ∧ OwnG layF 66 (w.heap.size + 3) wr A1 k c1 (xs.take k) ∧ Below (w.heap.size + 3) w1 wr
set_option maxHeartbeats 4000000 in
theorem refSet_any (x : Dv) (n : Nat) (v : Fv) (w : World) (h : RdD w.heap.size w x) (hv : BsU w.heap.size w v.A v.l.length v.c v.l) (_ : n < x.fn) (hfn : x.fn ≤ 1000) :
    Calls Try.prog 71 #[x.v, .int .i64 (n : Int), .agg #[.slice v.A v.l.length v.c, .int .i64 v.s]] w (DR w (fun v => v) (setD x.d (n : Int) v.f)) := by
  obtain ⟨w1, hw1⟩ : ∃ w1, w1 = ((w.alloc (.cells x.cs 32)).alloc (.cells #[.slice v.A v.l.length v.c, .int .i64 v.s] 66)).alloc (.cells #[.slice none 0 0, .slice none 0 0, .slice none 0 0] 32) := ⟨_, rfl⟩
  have hb1 : Below w.heap.size w w1 := by rw [hw1]; exact ((alloc_more _ _).alloc (by simp) _).alloc (by simp; omega) _
  have hs1 : w1.heap.size = w.heap.size + 3 := by rw [hw1]; simp
  have hc0 : Cel w1 w.heap.size 32 x.cs := by rw [hw1]; exact (Cel.born w _ _).below ((alloc_more _ _).trans ((alloc_more _ _).mono (by simp))) (by simp)
  have hc1 : Cel w1 (w.heap.size + 1) 66 #[.slice v.A v.l.length v.c, .int .i64 v.s] := by
    rw [hw1]
    have := (Cel.born (w.alloc (.cells x.cs 32)) 66 #[.slice v.A v.l.length v.c, .int .i64 v.s]).below (alloc_more _ (.cells #[.slice none 0 0, .slice none 0 0, .slice none 0 0] 32)) (by simp)
    simpa using this
  have hc2 : Cel w1 (w.heap.size + 1 + 1) 32 #[.slice none 0 0, .slice none 0 0, .slice none 0 0] := by
    rw [hw1]
    have := Cel.born ((w.alloc (.cells x.cs 32)).alloc (.cells #[.slice v.A v.l.length v.c, .int .i64 v.s] 66)) 32 #[.slice none 0 0, .slice none 0 0, .slice none 0 0]
    simpa using this
  have HC0 := Lib.hid hc0
  have HC1 := Lib.hid hc1
  have HC2 := Lib.hid hc2
  have HB1 := Lib.hid hb1
  have HS1 := Lib.hid hs1
  have HR := Lib.hid h
  have HV := Lib.hid hv
  have hfc := h.f.cap
  have hfm := h.f.max
  have hle : w.heap.size + 3 ≤ w1.heap.size := by omega
  clear h hv hc0 hc1 hc2 hb1 hs1
  go_enter Try.func71, Try.ntmps71
  go_wp2
  rw [← hw1]
  clear hw1
  go_loopw [7, 8] (fun v' i wr => StSe w w1 (x.xs.set n v) x.fn v' i wr) (fun _ i _ => x.fn - (intOf i).toNat)
  case atStart => exact ⟨0, none, 0, by omega, rfl, rfl, OwnG.nil _ _ _, Below.refl _ _⟩
  case round =>
    obtain ⟨k, A1, c1, hk, rfl, rfl, hown, hbw⟩ := hrel
    have hsw := hbw.size
    have hd0 := HC0.out.below hbw (by omega)
    have hd1 := HC1.out.below hbw (by omega)
    obtain ⟨p0, p1, p2⟩ := ref_cel3 hd0
    obtain ⟨g0, g1⟩ := cel2 hd1
    by_cases hlt : k < x.fn
    · have hbr := HB1.out.trans (hbw.mono (show w.heap.size ≤ w.heap.size + 3 by omega))
      obtain ⟨b, o, u, eA, hbl, HE, hbs, r1, r2⟩ := atF (HR.out.f.below hbr) hlt
      rw [eA] at p0
      have hkz : (k : Int) < (x.fn : Int) := by omega
      by_cases he : k = n
      · have HN : Hid ((x.xs.set n v).take (k + 1) = (x.xs.set n v).take k ++ [v]) := by show _ = _; rw [set_next HE.out, if_pos he]
        have hbe : ((k : Int) == (n : Int)) = true := beq_iff_eq.2 (by omega)
        have hlit := litF 66 wr v
        have hba := alloc_more wr (.cells #[.slice v.A v.l.length v.c, .int .i64 v.s] 66)
        clear HE hbs he hd0 hd1
        go_wp2_with (at_builtin; refine wpList_appG rfilP (by decide) (by decide) (by kernel_rfl) rfl (.tmp 19) (.tmp 21) rfl rfl (hown.below hba) rfl hlit (by omega) (by simp; omega) ?_; intro A5 c5 w5 happ)
        go_roundw
        case rel => exact ⟨k + 1, A5, c5, by omega, by go_num, rfl, by rw [HN.out]; exact happ.1, (hbw.trans (hba.mono (by omega))).trans happ.2.1⟩
        case measure => simp [intOf]; omega
      · have HN : Hid ((x.xs.set n v).take (k + 1) = (x.xs.set n v).take k ++ [u]) := by show _ = _; rw [set_next HE.out, if_neg he]
        have hbe : ((k : Int) == (n : Int)) = false := beq_eq_false_iff_ne.2 (by omega)
        have hlit := litF 66 wr u
        have hba := alloc_more wr (.cells #[.slice u.A u.l.length u.c, .int .i64 u.s] 66)
        clear HE hbs he hd0 hd1
        go_wp2_with (at_builtin; refine wpList_appG rfilP (by decide) (by decide) (by kernel_rfl) rfl (.tmp 23) (.tmp 29) rfl rfl (hown.below hba) rfl hlit (by omega) (by simp; omega) ?_; intro A5 c5 w5 happ)
        go_roundw
        case rel => exact ⟨k + 1, A5, c5, by omega, by go_num, rfl, by rw [HN.out]; exact happ.1, (hbw.trans (hba.mono (by omega))).trans happ.2.1⟩
        case measure => simp [intOf]; omega
    · obtain rfl : k = x.fn := by omega
      have hlen : x.xs.length = x.fn := HR.out.f.1.1
      rw [List.take_of_length_le (by rw [List.length_set]; exact Nat.le_of_eq hlen)] at hown
      have hbr := HB1.out.trans (hbw.mono (show w.heap.size ≤ w.heap.size + 3 by omega))
      have hd2 := HC2.out.below hbw (by omega)
      obtain ⟨z0, z1, z2⟩ := ref_cel3 hd2
      obtain ⟨f0, f1, f2⟩ := cel_frs hd2
      have HD2 := Lib.hid hd2
      have HOW := Lib.hid hown
      have HBR := Lib.hid hbr
      have hgo : w.heap.size + 1 + 1 < wr.heap.size := hd2.lt
      clear hlen hown hbr hd0 hd1 hd2
      go_wp2
      (try simp only [Exit.inBlock, Exit.then])
      refine bodyPost_ret (ret_rdisk rfl _ _ (w.heap.size + 1 + 1) #[.slice A1 x.fn c1, .slice x.nA x.nn x.nc, .slice x.kA x.kn x.kc] rfl (cel_put3 HD2.out) rfl) rfl ?_
      have hbo := below_put3 HBR.out (show w.heap.size ≤ w.heap.size + 1 + 1 by omega) (.slice A1 x.fn c1) (.slice x.nA x.nn x.nc) (.slice x.kA x.kn x.kc)
      have hbx := below_put3 (Below.refl w.heap.size wr) (show w.heap.size ≤ w.heap.size + 1 + 1 by omega) (.slice A1 x.fn c1) (.slice x.nA x.nn x.nc) (.slice x.kA x.kn x.kc)
      refine ⟨⟨A1, x.fn, c1, x.xs.set n v, x.nA, x.nn, x.nc, x.now, x.kA, x.kn, x.kc, x.kept⟩, rfl, ?_, ⟨⟨?_, ?_⟩, ?_, ?_⟩, hbo⟩
      · show D.mk (fsOf (x.xs.set n v)) x.now x.kept = D.mk ((fsOf x.xs).set (n : Int).toNat v.f) x.now x.kept
        rw [fs_set, Int.toNat_natCast]
      · exact (rdg_away (fun _ => ⟨1, _, rfl, rfl⟩) HOW.out.rd HD2.out sl3 (put3_cell _ _ _ _ _)).mono (by simp)
      · have hB : Byt w.heap.size wr (x.xs.set n v) := fun u hu => by
          rcases mem_set hu with k | k
          · exact (HR.out.f.below HBR.out).2 u k
          · subst k; exact HV.out.below HBR.out
        exact (hB.below hbx).mono hbo.size
      · exact ((HR.out.n.below HBR.out).below hbx).mono hbo.size
      · exact ((HR.out.k.below HBR.out).below hbx).mono hbo.size
end Go.Proofs.Ytoifdjpflannlaa.Dw
