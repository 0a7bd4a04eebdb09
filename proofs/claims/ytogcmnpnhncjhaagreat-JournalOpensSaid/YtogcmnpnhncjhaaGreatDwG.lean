/- What the document's Without, With and set come to. For lists of up to 1000. -/
import Derived.Test.YtogcmnpnhncjhaaGreatDwF
import Derived.Test.YtogcmnpnhncjhaaGreatDwAs
import Derived.BigQuiet
import Derived.Deep.QuietTactic
import Derived.Deep.RegionLaw
section
set_option maxRecDepth 8000
namespace Go.Proofs.YtogcmnpnhncjhaaGreat.Dw
open Go.RowKit By Dk

/-! ### Mathematics -/
theorem without_no {l : List E} {k : Nat} {s t : N} {f : Int} (h : l[k]? = some (s, f)) (hne : ¬ s = t) : withoutE (l.take (k + 1)) t = withoutE (l.take k) t ++ [(s, f)] := by
  rw [take_next h, withoutE, List.filter_append, List.filter_cons_of_pos (by simpa using hne)]
  rfl
theorem without_hit {l : List E} {k : Nat} {s t : N} {f : Int} (h : l[k]? = some (s, f)) (he : s = t) : withoutE (l.take (k + 1)) t = withoutE (l.take k) t := by
  rw [take_next h, withoutE, List.filter_append, List.filter_cons_of_neg (by simpa using he)]
  exact List.append_nil _
theorem with_last : ∀ {l : List E} {t : N} {f : Int}, (∀ e ∈ l, ¬ t < e.1) → withE l t f = l ++ [(t, f)]
  | [], _, _, _ => rfl
  | e :: l, t, f, h => by
    rw [withE, if_neg (h e (.head _)), with_last fun a ha => h a (.tail _ ha)]
    rfl
theorem with_snoc : ∀ {l : List E} {t : N} {f : Int} (x : E), (∃ e ∈ l, t < e.1) → withE (l ++ [x]) t f = withE l t f ++ [x]
  | [], _, _, _, h => by obtain ⟨e, he, _⟩ := h; cases he
  | e :: l, t, f, x, h => by
    show withE (e :: (l ++ [x])) t f = _
    rw [withE, withE]
    by_cases hlt : t < e.1
    · rw [if_pos hlt, if_pos hlt]
      rfl
    · rw [if_neg hlt, if_neg hlt, with_snoc x]
      · rfl
      · obtain ⟨a, ha, hta⟩ := h
        rcases List.mem_cons.1 ha with rfl | ha
        · exact absurd hta hlt
        · exact ⟨a, ha, hta⟩
theorem with_first {l : List E} {t : N} {f : Int} {x : E} (h : ∀ e ∈ l, ¬ t < e.1) (hx : t < x.1) : withE (l ++ [x]) t f = l ++ [(t, f)] ++ [x] := by
  induction l with
  | nil =>
    show withE [x] t f = _
    rw [withE, if_pos hx]
    rfl
  | cons e l ih =>
    show withE (e :: (l ++ [x])) t f = _
    rw [withE, if_neg (h e (.head _)), ih fun a ha => h a (.tail _ ha)]
    rfl
/-- What a call that answers entries of its own leaves. -/
def EnR (w : World) (l : List E) (e : Ending) (w' : World) : Prop := ∃ A n c, e = .returned (.slice A n c) ∧ OwnG layE 64 w.heap.size w' A n c l ∧ Below w.heap.size w w'

/-! ### Without -/
def StWo (w : World) (l : List E) (t : N) (m : Nat) (v i : Value) (wr : World) : Prop :=
  ∃ (k : Nat) (A1 : Option Addr) (n1 c1 : Nat), k ≤ m ∧ i = .int .i64 k ∧ v = .slice A1 n1 c1 ∧ n1 ≤ k ∧ OwnG layE 64 w.heap.size wr A1 n1 c1 (withoutE (l.take k) t) ∧ Below w.heap.size w wr
set_option maxHeartbeats 2000000 in
theorem refWithout_any (A : Option Addr) (n c : Nat) (l : List E) (t : N) (w : World) (h : RdE w.heap.size w A n c l) (hn : n ≤ 1000) :
    Calls Tryz.prog 42 #[.slice A n c, .string (ba t)] w (EnR w (withoutE l t)) := by
  have hl := Lib.hid h.len
  have hmx := h.max
  have hcap := h.cap
  go_enter Tryz.func42, Tryz.ntmps42
  go_wp2
  go_loopw [5, 6] (fun v i wr => StWo w l t n v i wr) (fun _ i _ => n - (intOf i).toNat)
  case atStart => exact ⟨0, none, 0, 0, by omega, rfl, rfl, by omega, OwnG.nil _ _ _, Below.refl _ _⟩
  case round =>
    obtain ⟨k, A1, n1, c1, hk, rfl, rfl, hn1, hown, hbw⟩ := hrel
    have hsw := hbw.size
    by_cases hlt : k < n
    · obtain ⟨b, o, s, g, rfl, _, HE, d1, d2⟩ := atE (h.below hbw) hlt
      by_cases he : s = t
      · have H := Lib.hid (without_hit HE.out he)
        have hb := same_yes he
        clear he HE
        go_wp2
        go_roundw
        case rel => exact ⟨k + 1, A1, n1, c1, by omega, by go_num, rfl, by omega, by rw [H.out]; exact hown, hbw⟩
        case measure => simp [intOf]; omega
      · have H := Lib.hid (without_no HE.out he)
        have hb := same_no he
        have hlit := litRE 64 wr s g
        have hba := alloc_more wr (.cells #[.string (ba s), .int .i64 g] 64)
        clear he HE
        go_wp2_with (at_builtin; refine wpList_appG rentP (by decide) (by decide) (by kernel_rfl) rfl (.tmp 20) (.tmp 25) rfl rfl (hown.below hba) rfl hlit (by omega) (by simp; omega) ?_; intro A5 c5 w5 happ)
        go_roundw
        case rel => exact ⟨k + 1, A5, n1 + 1, c5, by omega, by go_num, rfl, by omega, by rw [H.out]; exact happ.1, (hbw.trans (hba.mono hsw)).trans happ.2.1⟩
        case measure => simp [intOf]; omega
    · obtain rfl : k = n := by omega
      rw [List.take_of_length_le (Nat.le_of_eq hl.out)] at hown
      go_wp2
      go_ret
      exact ⟨A1, n1, c1, rfl, hown, hbw⟩

/-! ### With -/
theorem more_is (s t : N) : (!Op.bytesLess (ba s).toList (ba t).toList && !(ba s).toList == (ba t).toList) = decide (t < s) := by
  by_cases h1 : s < t
  · rw [less_yes h1, decide_eq_false (fun k => lt_irr _ (lt_tr h1 k))]
    rfl
  · rw [less_no h1]
    by_cases h2 : s = t
    · rw [same_yes h2, decide_eq_false (by rw [h2]; exact lt_irr t)]
      rfl
    · rw [same_no h2, decide_eq_true (lt_or h1 h2)]
      rfl
theorem more_yes {s t : N} (h : t < s) : (!Op.bytesLess (ba s).toList (ba t).toList && !(ba s).toList == (ba t).toList) = true := by rw [more_is]; exact decide_eq_true h
theorem more_no {s t : N} (h : ¬ t < s) : (!Op.bytesLess (ba s).toList (ba t).toList && !(ba s).toList == (ba t).toList) = false := by rw [more_is]; exact decide_eq_false h
/-- What is there behind k entries: with the new one in it, or not yet. -/
def withK (l : List E) (t : N) (f : Int) (p : Bool) : List E := if p then withE l t f else l
def passed (l : List E) (t : N) (p : Bool) : Prop := if p then ∃ e ∈ l, t < e.1 else ∀ e ∈ l, ¬ t < e.1
def StWi (w : World) (l : List E) (t : N) (f : Int) (m : Nat) (v p i : Value) (wr : World) : Prop :=
  ∃ (k : Nat) (A1 : Option Addr) (n1 c1 : Nat) (q : Bool), k ≤ m ∧ i = .int .i64 k ∧ v = .slice A1 n1 c1 ∧ p = .bool q ∧ n1 ≤ k + 1 ∧ passed (l.take k) t q ∧ OwnG layE 64 w.heap.size wr A1 n1 c1 (withK (l.take k) t f q) ∧ Below w.heap.size w wr
end Go.Proofs.YtogcmnpnhncjhaaGreat.Dw
end
/- What the document's set comes to. For disks of up to 1000 files. -/
section
set_option maxRecDepth 8000
namespace Go.Proofs.YtogcmnpnhncjhaaGreat.Dw
open Go.RowKit By Dk

theorem set_next {xs : List Fv} {k : Nat} {v u : Fv} (h : xs[k]? = some u) (n : Nat) : (xs.set n v).take (k + 1) = (xs.set n v).take k ++ [if k = n then v else u] := by
  have hk : k < xs.length := (List.getElem?_eq_some_iff.1 h).1
  have hk2 : k < (xs.set n v).length := by rw [List.length_set]; exact hk
  rw [List.take_succ_eq_append_getElem hk2]
  congr 2
  rw [List.getElem_set]
  by_cases e : n = k
  · rw [if_pos e, if_pos e.symm]
  · rw [if_neg e, if_neg (fun q => e q.symm)]
    exact (List.getElem?_eq_some_iff.1 h).2
def StSe (w w1 : World) (xs : List Fv) (m : Nat) (v i : Value) (wr : World) : Prop :=
  ∃ (k : Nat) (A1 : Option Addr) (c1 : Nat), k ≤ m ∧ i = .int .i64 k ∧ v = .slice A1 k c1 ∧ OwnG layF 61 (w.heap.size + 3) wr A1 k c1 (xs.take k) ∧ Below (w.heap.size + 3) w1 wr
set_option maxHeartbeats 4000000 in
theorem refSet_any (x : Dv) (n : Nat) (v : Fv) (w : World) (h : RdD w.heap.size w x) (hv : BsU w.heap.size w v.A v.l.length v.c v.l) (_ : n < x.fn) (hfn : x.fn ≤ 1000) :
    Calls Tryz.prog 41 #[x.v, .int .i64 (n : Int), .agg #[.slice v.A v.l.length v.c, .int .i64 v.s]] w (DR w (fun v => v) (setD x.d (n : Int) v.f)) := by
  obtain ⟨w1, hw1⟩ : ∃ w1, w1 = ((w.alloc (.cells x.cs 34)).alloc (.cells #[.slice v.A v.l.length v.c, .int .i64 v.s] 61)).alloc (.cells #[.slice none 0 0, .slice none 0 0, .slice none 0 0] 34) := ⟨_, rfl⟩
  have hb1 : Below w.heap.size w w1 := by rw [hw1]; exact ((alloc_more _ _).alloc (by simp) _).alloc (by simp; omega) _
  have hs1 : w1.heap.size = w.heap.size + 3 := by rw [hw1]; simp
  have hc0 : Cel w1 w.heap.size 34 x.cs := by rw [hw1]; exact (Cel.born w _ _).below ((alloc_more _ _).trans ((alloc_more _ _).mono (by simp))) (by simp)
  have hc1 : Cel w1 (w.heap.size + 1) 61 #[.slice v.A v.l.length v.c, .int .i64 v.s] := by
    rw [hw1]
    have := (Cel.born (w.alloc (.cells x.cs 34)) 61 #[.slice v.A v.l.length v.c, .int .i64 v.s]).below (alloc_more _ (.cells #[.slice none 0 0, .slice none 0 0, .slice none 0 0] 34)) (by simp)
    simpa using this
  have hc2 : Cel w1 (w.heap.size + 1 + 1) 34 #[.slice none 0 0, .slice none 0 0, .slice none 0 0] := by
    rw [hw1]
    have := Cel.born ((w.alloc (.cells x.cs 34)).alloc (.cells #[.slice v.A v.l.length v.c, .int .i64 v.s] 61)) 34 #[.slice none 0 0, .slice none 0 0, .slice none 0 0]
    simpa using this
  have HC0 := Lib.hid hc0
  have HC1 := Lib.hid hc1
  have HC2 := Lib.hid hc2
  have HB1 := Lib.hid hb1
  have HS1 := Lib.hid hs1
  have HR := Lib.hid h
  have HV := Lib.hid hv
  have hfc := h.f.cap
  have hfm := h.f.max
  have hle : w.heap.size + 3 ≤ w1.heap.size := by omega
  clear h hv hc0 hc1 hc2 hb1 hs1
  go_enter Tryz.func41, Tryz.ntmps41
  go_wp2
  rw [← hw1]
  clear hw1
  go_loopw [7, 8] (fun v' i wr => StSe w w1 (x.xs.set n v) x.fn v' i wr) (fun _ i _ => x.fn - (intOf i).toNat)
  case atStart => exact ⟨0, none, 0, by omega, rfl, rfl, OwnG.nil _ _ _, Below.refl _ _⟩
  case round =>
    obtain ⟨k, A1, c1, hk, rfl, rfl, hown, hbw⟩ := hrel
    have hsw := hbw.size
    have hd0 := HC0.out.below hbw (by omega)
    have hd1 := HC1.out.below hbw (by omega)
    obtain ⟨p0, p1, p2⟩ := ref_cel3 hd0
    obtain ⟨g0, g1⟩ := cel2 hd1
    by_cases hlt : k < x.fn
    · have hbr := HB1.out.trans (hbw.mono (show w.heap.size ≤ w.heap.size + 3 by omega))
      obtain ⟨b, o, u, eA, hbl, HE, hbs, r1, r2⟩ := atF (HR.out.f.below hbr) hlt
      rw [eA] at p0
      have hkz : (k : Int) < (x.fn : Int) := by omega
      by_cases he : k = n
      · have HN : Hid ((x.xs.set n v).take (k + 1) = (x.xs.set n v).take k ++ [v]) := by show _ = _; rw [set_next HE.out, if_pos he]
        have hbe : ((k : Int) == (n : Int)) = true := beq_iff_eq.2 (by omega)
        have hlit := litF 61 wr v
        have hba := alloc_more wr (.cells #[.slice v.A v.l.length v.c, .int .i64 v.s] 61)
        clear HE hbs he hd0 hd1
        go_wp2_with (at_builtin; refine wpList_appG rfilP (by decide) (by decide) (by kernel_rfl) rfl (.tmp 19) (.tmp 21) rfl rfl (hown.below hba) rfl hlit (by omega) (by simp; omega) ?_; intro A5 c5 w5 happ)
        go_roundw
        case rel => exact ⟨k + 1, A5, c5, by omega, by go_num, rfl, by rw [HN.out]; exact happ.1, (hbw.trans (hba.mono (by omega))).trans happ.2.1⟩
        case measure => simp [intOf]; omega
      · have HN : Hid ((x.xs.set n v).take (k + 1) = (x.xs.set n v).take k ++ [u]) := by show _ = _; rw [set_next HE.out, if_neg he]
        have hbe : ((k : Int) == (n : Int)) = false := beq_eq_false_iff_ne.2 (by omega)
        have hlit := litF 61 wr u
        have hba := alloc_more wr (.cells #[.slice u.A u.l.length u.c, .int .i64 u.s] 61)
        clear HE hbs he hd0 hd1
        go_wp2_with (at_builtin; refine wpList_appG rfilP (by decide) (by decide) (by kernel_rfl) rfl (.tmp 23) (.tmp 29) rfl rfl (hown.below hba) rfl hlit (by omega) (by simp; omega) ?_; intro A5 c5 w5 happ)
        go_roundw
        case rel => exact ⟨k + 1, A5, c5, by omega, by go_num, rfl, by rw [HN.out]; exact happ.1, (hbw.trans (hba.mono (by omega))).trans happ.2.1⟩
        case measure => simp [intOf]; omega
    · obtain rfl : k = x.fn := by omega
      have hlen : x.xs.length = x.fn := HR.out.f.1.1
      rw [List.take_of_length_le (by rw [List.length_set]; exact Nat.le_of_eq hlen)] at hown
      have hbr := HB1.out.trans (hbw.mono (show w.heap.size ≤ w.heap.size + 3 by omega))
      have hd2 := HC2.out.below hbw (by omega)
      obtain ⟨z0, z1, z2⟩ := ref_cel3 hd2
      obtain ⟨f0, f1, f2⟩ := cel_frs hd2
      have HD2 := Lib.hid hd2
      have HOW := Lib.hid hown
      have HBR := Lib.hid hbr
      have hgo : w.heap.size + 1 + 1 < wr.heap.size := hd2.lt
      clear hlen hown hbr hd0 hd1 hd2
      go_wp2
      (try simp only [Exit.inBlock, Exit.then])
      refine bodyPost_ret (ret_rdisk rfl _ _ (w.heap.size + 1 + 1) #[.slice A1 x.fn c1, .slice x.nA x.nn x.nc, .slice x.kA x.kn x.kc] rfl (cel_put3 HD2.out) rfl) rfl ?_
      have hbo := below_put3 HBR.out (show w.heap.size ≤ w.heap.size + 1 + 1 by omega) (.slice A1 x.fn c1) (.slice x.nA x.nn x.nc) (.slice x.kA x.kn x.kc)
      have hbx := below_put3 (Below.refl w.heap.size wr) (show w.heap.size ≤ w.heap.size + 1 + 1 by omega) (.slice A1 x.fn c1) (.slice x.nA x.nn x.nc) (.slice x.kA x.kn x.kc)
      refine ⟨⟨A1, x.fn, c1, x.xs.set n v, x.nA, x.nn, x.nc, x.now, x.kA, x.kn, x.kc, x.kept⟩, rfl, ?_, ⟨⟨?_, ?_⟩, ?_, ?_⟩, hbo⟩
      · show D.mk (fsOf (x.xs.set n v)) x.now x.kept = D.mk ((fsOf x.xs).set (n : Int).toNat v.f) x.now x.kept
        rw [fs_set, Int.toNat_natCast]
      · exact (rdg_away (fun _ => ⟨1, _, rfl, rfl⟩) HOW.out.rd HD2.out sl3 (put3_cell _ _ _ _ _)).mono (by simp)
      · have hB : Byt w.heap.size wr (x.xs.set n v) := fun u hu => by
          rcases mem_set hu with k | k
          · exact (HR.out.f.below HBR.out).2 u k
          · subst k; exact HV.out.below HBR.out
        exact (hB.below hbx).mono hbo.size
      · exact ((HR.out.n.below HBR.out).below hbx).mono hbo.size
      · exact ((HR.out.k.below HBR.out).below hbx).mono hbo.size
end Go.Proofs.YtogcmnpnhncjhaaGreat.Dw
end
/- What the document's renumbered and Ordered come to. For disks of up to 1000 entries. -/
section
set_option maxRecDepth 8000
namespace Go.Proofs.YtogcmnpnhncjhaaGreat.Dw
open Go.RowKit By Dk

/-! ### renumbered -/
/-- What the inner loop has added behind so many files. -/
def upto (c : List Int) (s : N) (f : Int) (k : Nat) : List E := if f ∈ c.take k then [(s, idx c f)] else []
theorem upto_zero (c : List Int) (s : N) (f : Int) : upto c s f 0 = [] := by unfold upto; rw [if_neg (by simp)]
theorem upto_no {c : List Int} {s : N} {f : Int} {k : Nat} (hk : k < c.length) (h : c[k] ≠ f) : upto c s f (k + 1) = upto c s f k := by
  have e : (f ∈ c.take (k + 1)) ↔ f ∈ c.take k := by
    rw [List.take_succ_eq_append_getElem hk, List.mem_append, List.mem_singleton]
    exact ⟨fun q => q.elim id fun q => absurd q.symm h, .inl⟩
  unfold upto
  by_cases q : f ∈ c.take k
  · rw [if_pos q, if_pos (e.2 q)]
  · rw [if_neg q, if_neg (fun z => q (e.1 z))]
theorem upto_hit {c : List Int} {s : N} {f : Int} {k : Nat} (hd : c.Nodup) (hk : k < c.length) (h : c[k] = f) : upto c s f (k + 1) = upto c s f k ++ [(s, (k : Int))] := by
  have hno : f ∉ c.take k := by
    intro q
    obtain ⟨i, hi, e⟩ := List.mem_iff_getElem.1 q
    rw [List.length_take] at hi
    rw [List.getElem_take, ← h] at e
    have h1 := List.Nodup.idxOf_getElem hd i (by omega)
    have h2 := List.Nodup.idxOf_getElem hd k hk
    rw [e] at h1
    omega
  have hyes : f ∈ c.take (k + 1) := by rw [List.take_succ_eq_append_getElem hk, h]; simp
  have hi : idx c f = (k : Int) := by
    subst h
    unfold idx
    rw [List.Nodup.idxOf_getElem hd k hk]
  unfold upto
  rw [if_pos hyes, if_neg hno, hi]
  rfl
theorem upto_all {c : List Int} {s : N} {f : Int} {n : Nat} (hm : f ∈ c) (hn : c.length ≤ n) : upto c s f n = [(s, idx c f)] := by
  unfold upto
  rw [List.take_of_length_le hn, if_pos hm]
theorem renum_next {l : List E} {k : Nat} {s : N} {f : Int} (c : List Int) (h : l[k]? = some (s, f)) : renum (l.take (k + 1)) c = renum (l.take k) c ++ [(s, idx c f)] := by
  rw [take_next h, renum, List.map_append]
  rfl
theorem ints_at {w : World} {A : Option Addr} {n c : Nat} {zs : List Int} (h : Rd w A n c (intV zs)) {k : Nat} (hk : k < n) : ∃ (b o : Nat) (z : Int) (hz : k < zs.length), A = some ⟨b, o, none⟩ ∧ zs[k] = z ∧ w.cell? ⟨b, o + k, none⟩ = some (.int .i64 z) := by
  obtain ⟨b, o, e, hc⟩ := h.at_ hk
  have hl := h.len
  rw [intV_len] at hl
  have hz : k < zs.length := by omega
  refine ⟨b, o, zs[k], hz, e, rfl, ?_⟩
  rw [hc k (by rw [intV_len]; omega)]
  simp [intV]
def StRo (w : World) (l : List E) (c : List Int) (m : Nat) (v i : Value) (wr : World) : Prop :=
  ∃ (k : Nat) (A1 : Option Addr) (c1 : Nat), k ≤ m ∧ i = .int .i64 k ∧ v = .slice A1 k c1 ∧ OwnG layE 64 w.heap.size wr A1 k c1 (renum (l.take k) c) ∧ Below w.heap.size w wr
def StRi (w : World) (l : List E) (c : List Int) (p m : Nat) (s : N) (f : Int) (v i : Value) (wr : World) : Prop :=
  ∃ (k : Nat) (A1 : Option Addr) (n1 c1 : Nat), k ≤ m ∧ i = .int .i64 k ∧ v = .slice A1 n1 c1 ∧ n1 ≤ p + k ∧ OwnG layE 64 w.heap.size wr A1 n1 c1 (renum (l.take p) c ++ upto c s f k) ∧ Below w.heap.size w wr
set_option maxHeartbeats 4000000 in
theorem refRenumbered_any (A : Option Addr) (n c : Nat) (l : List E) (B : Option Addr) (m d : Nat) (zs : List Int) (w : World) (h : RdE w.heap.size w A n c l) (hz : Rd w B m d (intV zs)) (hn : n ≤ 1000) (hm : m ≤ 1000) (hd : zs.Nodup) (hin : ∀ e ∈ l, e.2 ∈ zs) :
    Calls Tryz.prog 68 #[.slice A n c, .slice B m d] w (EnR w (renum l zs)) := by
  have hl := Lib.hid h.len
  have hzl := hz.len
  rw [intV_len] at hzl
  have HZL := Lib.hid hzl
  have hmx := h.max
  have hcap := h.cap
  have hmy := hz.max
  have hcay := hz.cap
  have HD := Lib.hid hd
  have HIN := Lib.hid hin
  clear hd hin hzl
  go_enter Tryz.func68, Tryz.ntmps68
  go_wp2
  go_loopw [5, 6] (fun v i wr => StRo w l zs n v i wr) (fun _ i _ => n - (intOf i).toNat)
  case atStart => exact ⟨0, none, 0, by omega, rfl, rfl, OwnG.nil _ _ _, Below.refl _ _⟩
  case round =>
    obtain ⟨p, A1, c1, hp, rfl, rfl, hown, hbw⟩ := hrel
    by_cases hlt : p < n
    · obtain ⟨b, o, s, f, rfl, hblt, HE, d1, d2⟩ := atE h hlt
      have HM := Lib.hid (HIN.out _ (List.mem_of_getElem? HE.out))
      have HRN := Lib.hid (renum_next zs HE.out)
      have hpz : (p : Int) < (n : Int) := by omega
      have HD1 := Lib.hid d1
      have HD2 := Lib.hid d2
      obtain ⟨wo, hwo⟩ : ∃ wo, wo = wr := ⟨_, rfl⟩
      have HOW : Hid (OwnG layE 64 w.heap.size wo A1 p c1 (renum (l.take p) zs)) := by rw [hwo]; exact Lib.hid hown
      have HBO : Hid (Below w.heap.size w wo) := by rw [hwo]; exact Lib.hid hbw
      clear HE hown d1 d2 hbw
      subst hwo
      go_wp2
      go_loopw [5, 7] (fun v i wr => StRi w l zs p m s f v i wr) (fun _ i _ => m - (intOf i).toNat)
      case atStart => exact ⟨0, A1, p, c1, by omega, rfl, rfl, by omega, by rw [upto_zero, List.append_nil]; exact HOW.out, HBO.out⟩
      case round =>
        obtain ⟨k, A2, n2, c2, hk, rfl, rfl, hn2, hown, hbw⟩ := hrel
        have hsw := hbw.size
        have d1 : wr.cell? ⟨b, o + p * 2, none⟩ = some (.string (ba s)) := (hbw.cell (p := ⟨b, o + p * 2, none⟩) hblt).trans HD1.out
        have d2 : wr.cell? ⟨b, o + p * 2 + 1, none⟩ = some (.int .i64 f) := (hbw.cell (p := ⟨b, o + p * 2 + 1, none⟩) hblt).trans HD2.out
        by_cases hkm : k < m
        · obtain ⟨b2, o2, z, hzk, rfl, hze, g1⟩ := ints_at (hz.below hbw) hkm
          have hkz : (k : Int) < (m : Int) := by omega
          by_cases he : z = f
          · have H : Hid (upto zs s f (k + 1) = upto zs s f k ++ [(s, (k : Int))]) := upto_hit HD.out hzk (hze.trans he)
            have hb : (z == f) = true := by simpa using he
            clear he hze
            go_wp2_with fail
            go_quiet (fail)
            rename_i nq
            obtain ⟨wq, hwq⟩ : ∃ wq, wq = wr.drewN nq := ⟨_, rfl⟩
            have hbq : Below wr.heap.size wr wq := by rw [hwq]; exact below_drewN (Below.refl _ _) nq
            have e1 : wq.cell? ⟨b, o + p * 2, none⟩ = some (.string (ba s)) := by rw [hwq]; exact d1
            have hownq := hown.below hbq
            have hlit := litRE 64 wq s (k : Int)
            have hba := alloc_more wq (.cells #[.string (ba s), .int .i64 (k : Int)] 64)
            have hzq : w.heap.size ≤ wq.heap.size := Nat.le_trans hsw hbq.size
            rw [← hwq]
            clear hwq d1 d2 g1
            go_wp2_with (at_builtin; refine wpList_appG rentP (by decide) (by decide) (by kernel_rfl) rfl (.tmp 30) (.tmp 38) rfl rfl (hownq.below hba) rfl hlit (by omega) (by simp; omega) ?_; intro A5 c5 w5 happ)
            go_roundw
            case rel => exact ⟨k + 1, A5, n2 + 1, c5, by omega, by go_num, rfl, by omega, by rw [H.out, ← List.append_assoc]; exact happ.1, (hbw.trans (hbq.mono hsw)).trans ((hba.mono hzq).trans happ.2.1)⟩
            case measure => simp [intOf]; omega
          · have H : Hid (upto zs s f (k + 1) = upto zs s f k) := upto_no hzk (fun q => he (hze.symm.trans q))
            have hb : (z == f) = false := by simpa using he
            clear he hze
            go_wp2_with fail
            go_quiet (fail)
            go_wp2
            go_roundw
            case rel => exact ⟨k + 1, A2, n2, c2, by omega, by go_num, rfl, by omega, by rw [H.out]; exact hown, below_drewN hbw _⟩
            case measure => simp [intOf]; omega
        · obtain rfl : k = m := by omega
          have H : Hid (renum (l.take (p + 1)) zs = renum (l.take p) zs ++ upto zs s f k) := by show _ = _; rw [HRN.out, upto_all HM.out (Nat.le_of_eq HZL.out)]
          rw [← H.out] at hown
          have hnn : n2 = p + 1 := by
            have e := hown.len
            rw [renum, List.length_map, List.length_take] at e
            have := hl.out
            omega
          subst hnn
          go_wp2
          go_roundw
          case rel => exact ⟨p + 1, A2, c2, by omega, by go_num, rfl, hown, hbw⟩
          case measure => simp [intOf]; omega
    · obtain rfl : p = n := by omega
      rw [List.take_of_length_le (Nat.le_of_eq hl.out)] at hown
      go_wp2
      go_ret
      exact ⟨A1, p, c1, rfl, hown, hbw⟩
end Go.Proofs.YtogcmnpnhncjhaaGreat.Dw
end
/- What the document's Ordered comes to. For disks of up to 1000 entries. -/
section
set_option maxRecDepth 8000
namespace Go.Proofs.YtogcmnpnhncjhaaGreat.Dw
open Go.RowKit By Dk

/-- The files that numbers stand for, as they lie. -/
def pickF (xs : List Fv) (zs : List Int) : List Fv := zs.map fun z => xs.getD z.toNat ⟨none, 0, [], 0⟩
theorem pick_next {xs : List Fv} {zs : List Int} {k : Nat} {u : Fv} (hk : k < zs.length) (h : xs[(zs[k]).toNat]? = some u) : pickF xs (zs.take (k + 1)) = pickF xs (zs.take k) ++ [u] := by
  rw [List.take_succ_eq_append_getElem hk, pickF, List.map_append]
  show _ ++ [xs.getD (zs[k]).toNat _] = _
  rw [List.getD_eq_getElem?_getD, h]
  rfl
theorem pick_fs (xs : List Fv) (now kept : List E) (zs : List Int) : fsOf (pickF xs zs) = zs.map (fileAt ⟨fsOf xs, now, kept⟩) := by
  unfold pickF fsOf
  rw [List.map_map]
  apply List.map_congr_left
  intro z _
  show (xs.getD z.toNat ⟨none, 0, [], 0⟩).f = (xs.map Fv.f).getD z.toNat ⟨[], 0⟩
  rw [List.getD_eq_getElem?_getD, List.getD_eq_getElem?_getD, List.getElem?_map]
  cases xs[z.toNat]? <;> rfl
theorem pick_mem {xs : List Fv} {zs : List Int} {u : Fv} (hr : ∀ f ∈ zs, 0 ≤ f ∧ f < (xs.length : Int)) (h : u ∈ pickF xs zs) : u ∈ xs := by
  obtain ⟨z, hz, rfl⟩ := List.mem_map.1 h
  have h1 := hr z hz
  have h2 : z.toNat < xs.length := by omega
  rw [List.getD_eq_getElem?_getD, List.getElem?_eq_getElem h2]
  exact List.getElem_mem h2
theorem from_len : ∀ (l acc : List Int), (firstsFrom acc l).length ≤ acc.length + l.length
  | [], acc => by simp [firstsFrom]
  | f :: l, acc => by
    have h1 := from_len l (addF acc f)
    have h2 : (addF acc f).length ≤ acc.length + 1 := by
      unfold addF
      split
      · omega
      · simp
    rw [from_cons, List.length_cons]
    omega
theorem came_length (d : D) : (cameD d).length ≤ d.now.length + d.kept.length := by
  have h := from_len (filesOf (d.now ++ d.kept)) []
  rw [filesOf, List.length_map, List.length_append, List.length_nil, Nat.zero_add] at h
  exact h
def StOd (g : Nat) (w3 : World) (xs : List Fv) (zs : List Int) (m : Nat) (i : Value) (wr : World) : Prop :=
  ∃ (k : Nat) (A1 : Option Addr) (c1 : Nat), k ≤ m ∧ i = .int .i64 k ∧ Cel wr g 34 #[.slice A1 k c1, .slice none 0 0, .slice none 0 0] ∧ OwnG layF 61 (g + 1) wr A1 k c1 (pickF xs (zs.take k)) ∧ Below g w3 wr
set_option maxHeartbeats 20000000 in
theorem refOrdered_any (x : Dv) (w : World) (h : RdD w.heap.size w x) (hin : ∀ f ∈ cameD x.d, 0 ≤ f ∧ f < (x.fn : Int)) (hn : x.now.length + x.kept.length ≤ 1000) :
    Calls Tryz.prog 43 #[x.v] w (DR w (fun v => v) (orderedD x.d)) := by
  obtain ⟨w1, hw1⟩ : ∃ w1, w1 = (w.alloc (.cells x.cs 34)).alloc (.cells #[.slice none 0 0, .slice none 0 0, .slice none 0 0] 34) := ⟨_, rfl⟩
  have hb1 : Below w.heap.size w w1 := by rw [hw1]; exact (alloc_more _ _).alloc (by simp) _
  have hs1 : w1.heap.size = w.heap.size + 2 := by rw [hw1]; simp
  have HC0 := Lib.hid (show Cel w1 w.heap.size 34 x.cs by rw [hw1]; exact (Cel.born w _ _).below (alloc_more _ _) (by simp))
  have HR0 : Hid (Cel w1 (w.heap.size + 1) 34 #[.slice none 0 0, .slice none 0 0, .slice none 0 0]) := by
    show Cel _ _ _ _
    rw [hw1]
    have := Cel.born (w.alloc (.cells x.cs 34)) 34 #[.slice none 0 0, .slice none 0 0, .slice none 0 0]
    simpa using this
  have HCA := Lib.hid (refCame_any x w1 ((h.below hb1).mono hb1.size) hn)
  have hnl := h.n.len
  have hkl := h.k.len
  have hnn : x.nn ≤ 1000 := by omega
  have hkn : x.kn ≤ 1000 := by omega
  have hfc := h.f.cap
  have hfm := h.f.max
  have HXL : Hid (x.xs.length = x.fn) := h.f.len
  have HN : Hid ((cameD x.d).Nodup) := nodup_firsts _
  have HIN := Lib.hid hin
  have HI1 : Hid (∀ e ∈ x.now, e.2 ∈ cameD x.d) := fun e he => now_came (d := x.d) he
  have HI2 : Hid (∀ e ∈ x.kept, e.2 ∈ cameD x.d) := fun e he => kept_came (d := x.d) he
  have HO : Hid (orderedD x.d = ⟨fsOf (pickF x.xs (cameD x.d)), renum x.now (cameD x.d), renum x.kept (cameD x.d)⟩) := by
    show _ = D.mk _ _ _
    rw [pick_fs x.xs x.now x.kept]
    rfl
  have hml : (cameD x.d).length ≤ 1000 := by
    have h1 : (cameD x.d).length ≤ x.now.length + x.kept.length := came_length x.d
    omega
  have HR := Lib.hid h
  have HB1 := Lib.hid hb1
  have HS1 := Lib.hid hs1
  generalize cameD x.d = zs at HCA HN HIN HI1 HI2 HO hml hin
  clear h hb1 hs1 hin hnl hkl hn
  go_enter Tryz.func43, Tryz.ntmps43
  go_wp2_with fail
  rw [← hw1]
  clear hw1
  refine HCA.out.mono ?_
  rintro e w2 ⟨lA, ln, lc, rfl, hrl, hb2⟩
  have hln : zs.length = ln := by have := hrl.len; rw [intV_len] at this; exact this
  have hlc := hrl.cap
  have hlm := hrl.max
  have HC2 := Lib.hid (HC0.out.below hb2 HC0.out.lt)
  have HR2 := Lib.hid (HR0.out.below hb2 HR0.out.lt)
  have HB2 := Lib.hid (HB1.out.trans (hb2.mono HB1.out.size))
  have hg2 : w.heap.size + 2 ≤ w2.heap.size := by have := HS1.out; have := hb2.size; omega
  obtain ⟨w3, hw3⟩ : ∃ w3, w3 = w2.alloc (.cells #[.slice none 0 0, .slice none 0 0, .slice none 0 0] 34) := ⟨_, rfl⟩
  have hb3 : Below w2.heap.size w2 w3 := by rw [hw3]; exact alloc_more _ _
  have HG3 := Lib.hid (show Cel w3 w2.heap.size 34 #[.slice none 0 0, .slice none 0 0, .slice none 0 0] by rw [hw3]; exact Cel.born _ _ _)
  have hs3 : w3.heap.size = w2.heap.size + 1 := by rw [hw3]; simp
  have HLL := Lib.hid (hrl.below hb3)
  have HL2 := Lib.hid hrl
  have HB3 := Lib.hid hb3
  have HS3 := Lib.hid hs3
  have HLN := Lib.hid hln
  clear hb2 hrl hb3 hs3 HCA
  go_wp2
  rw [← hw3]
  clear hw3
  go_loopw [5] (fun i wr => StOd w2.heap.size w3 x.xs zs ln i wr) (fun i _ => ln - (intOf i).toNat)
  case atStart => exact ⟨0, none, 0, by omega, rfl, HG3.out, OwnG.nil _ _ _, Below.refl _ _⟩
  case round =>
    obtain ⟨k, A1, c1, hk, rfl, hco, hown, hbw⟩ := hrel
    have hsb : w3.heap.size ≤ wr.heap.size := hbw.size
    have HB23 := Lib.hid (HB3.out.trans hbw)
    have hd := HC2.out.below HB23.out HC2.out.lt
    obtain ⟨d0, d1, d2⟩ := ref_cel3 hd
    obtain ⟨o0, o1, o2⟩ := ref_cel3 hco
    have fo := cel_fr hco 0
    by_cases hlt : k < ln
    · obtain ⟨b2, o2', z, hzk, rfl, hze, g1⟩ := ints_at (HL2.out.below HB23.out) hlt
      have hz := HIN.out z (by rw [← hze]; exact List.getElem_mem hzk)
      obtain ⟨j, rfl⟩ := Int.eq_ofNat_of_zero_le hz.1
      have hj : j < x.fn := by omega
      have hbr := HB2.out.trans (HB23.out.mono HB2.out.size)
      obtain ⟨b, o, v, eA, hbl, HE, hbs, r1, r2⟩ := atF (HR.out.f.below hbr) hj
      rw [eA] at d0
      have HT := Lib.hid (pick_next (xs := x.xs) hzk (u := v) (by rw [hze, Int.toNat_natCast]; exact HE.out))
      have hkz : (k : Int) < (ln : Int) := by omega
      have hjz : (j : Int) < (x.fn : Int) := by omega
      have hlit := litF 61 wr.drew v
      have hal : Below wr.heap.size wr (wr.drew.alloc (.cells #[.slice v.A v.l.length v.c, .int .i64 v.s] 61)) := (Below.refl _ _).drew.alloc (Nat.le_refl _) _
      have HO1 := Lib.hid (hown.below hal)
      have hbr2 : b < wr.heap.size := World.block_lt_of_cell? wr _ r1
      have hbr3 : b2 < wr.heap.size := World.block_lt_of_cell? wr _ g1
      have hgo : w2.heap.size < wr.heap.size := hco.lt
      have hgd : w.heap.size < wr.heap.size := hd.lt
      have hgw : w2.heap.size + 1 ≤ wr.heap.size := by omega
      have HCO := Lib.hid hco
      have hoa : (wr.alloc (.cells #[.slice v.A v.l.length v.c, .int .i64 v.s] 61)).cell? ⟨w2.heap.size, 0, none⟩ = some (.slice A1 k c1) := ((alloc_more wr _).cell (p := ⟨w2.heap.size, 0, none⟩) hgo).trans o0
      clear HE hbs hco hd hown d1 d2 o1 o2 hz hze hzk hbl eA HB23 hbr
      go_wp2_with fail
      go_region_law (first
          | (refine step_appG rfilP (by decide) (by decide) (by kernel_rfl) (by rfl) (.tmp 15) (.tmp 24) (by rfl) (by rfl) HO1.out (by rfl) hlit (by omega) (by simp; omega) ?_; intro A3 c3 w4 happ; have hcw := (HCO.out.below hal HCO.out.lt).grown happ.2.2.1 ((HCO.out.below hal HCO.out.lt).not_row HO1.out.1 (by decide)); obtain ⟨e0, e1, e2⟩ := ref_cel3 hcw; have fe := cel_fr hcw 0))
      all_goals (
        go_wp2
        go_roundw
        case rel =>
          refine ⟨k + 1, A3, c3, by omega, by go_num, cel_put hcw 0 _, by rw [HT.out]; exact ⟨ownsRow_setCell_below happ.1.1 (Nat.lt_succ_self _) _, happ.1.2⟩, (hbw.trans ((hal.mono (by omega)).trans (happ.2.1.mono (by omega)))).setCell (p := ⟨w2.heap.size, 0, none⟩) (Nat.le_refl _) _⟩
        case measure => simp [intOf]; omega)
    · obtain rfl : k = ln := by omega
      rw [List.take_of_length_le (Nat.le_of_eq HLN.out)] at hown
      have hbr := HB2.out.trans (HB23.out.mono HB2.out.size)
      have HBR := Lib.hid hbr
      have HF := Lib.hid hown.rd
      have HCO := Lib.hid hco
      have HD := Lib.hid hd
      have hgo : w2.heap.size < wr.heap.size := hco.lt
      have HE1 := Lib.hid (refRenumbered_any x.nA x.nn x.nc x.now lA k lc zs wr ((HR.out.n.below hbr).mono hbr.size) (HL2.out.below HB23.out) hnn (by omega) HN.out HI1.out)
      clear hown hco hd hbr fo
      go_wp2_with fail
      refine HE1.out.mono ?_
      rintro e w5 ⟨A2, n2, c2, rfl, hown2, hb5⟩
      have hco5 := HCO.out.below hb5 HCO.out.lt
      have hd5 := HD.out.below hb5 HD.out.lt
      obtain ⟨s0, s1, s2⟩ := ref_cel3 hco5
      obtain ⟨t0, t1, t2⟩ := ref_cel3 hd5
      obtain ⟨f0, f1, f2⟩ := cel_frs hco5
      obtain ⟨w6, hw6⟩ : ∃ w6, w6 = w5.setCell ⟨w2.heap.size, 1, none⟩ (.slice A2 n2 c2) := ⟨_, rfl⟩
      have hb26 : Below w2.heap.size w2 w6 := by rw [hw6]; exact (HB23.out.trans (hb5.mono (by omega))).setCell (p := ⟨w2.heap.size, 1, none⟩) (Nat.le_refl _) _
      have hc6 : Cel w6 w2.heap.size 34 #[.slice A1 k c1, .slice A2 n2 c2, .slice none 0 0] := by rw [hw6]; exact cel_put hco5 1 _
      have hs6 : w6.heap.size = w5.heap.size := by rw [hw6]; simp
      have hff6 : RdG layF w6.heap.size w6 A1 k c1 (pickF x.xs zs) := by
        rw [hs6]
        have h1 := (HF.out.below hb5).mono hb5.size
        rw [hw6]
        exact rdg_away (fun _ => ⟨1, _, rfl, rfl⟩) h1 hco5 sl3 (cell_put1 _ _ _ _)
      have hee6 : RdE w6.heap.size w6 A2 n2 c2 (renum x.now zs) := by
        rw [hs6, hw6]
        exact rdg_away (fun _ => ⟨0, _, rfl, rfl⟩) hown2.rd hco5 sl3 (cell_put1 _ _ _ _)
      have hgs : w2.heap.size < w6.heap.size := hc6.lt
      have hz6 := Lib.hid hs6
      have HB26 := Lib.hid hb26
      have HC6 := Lib.hid hc6
      have HF6 := Lib.hid hff6
      have HE6 := Lib.hid hee6
      have HBR6 := Lib.hid (HB2.out.trans (hb26.mono HB2.out.size))
      have HD6 := Lib.hid (HC2.out.below hb26 HC2.out.lt)
      have HE2 := Lib.hid (refRenumbered_any x.kA x.kn x.kc x.kept lA k lc zs w6 ((HR.out.k.below HBR6.out).mono HBR6.out.size) (HL2.out.below hb26) hkn (by omega) HN.out HI2.out)
      obtain ⟨d0, d1, d2⟩ := ref_cel3 HD6.out
      rw [hw6] at d0 d1 d2
      clear hco5 hd5 hown2 hb5 hb26 hc6 hs6 hff6 hee6 HE1 HF HCO HD HBR
      go_wp2_with fail
      rw [← hw6]
      clear hw6 s0 s1 s2 t0 t1 t2 f0 f1 f2 d0 d1 d2
      refine HE2.out.mono ?_
      rintro e w7 ⟨A3, n3, c3, rfl, hown3, hb7⟩
      have hco7 := HC6.out.below hb7 HC6.out.lt
      obtain ⟨s0, s1, s2⟩ := ref_cel3 hco7
      obtain ⟨f0, f1, f2⟩ := cel_frs hco7
      obtain ⟨w8, hw8⟩ : ∃ w8, w8 = w7.setCell ⟨w2.heap.size, 2, none⟩ (.slice A3 n3 c3) := ⟨_, rfl⟩
      have hb28 : Below w2.heap.size w2 w8 := by rw [hw8]; exact (HB26.out.trans (hb7.mono (by omega))).setCell (p := ⟨w2.heap.size, 2, none⟩) (Nat.le_refl _) _
      have hc8 : Cel w8 w2.heap.size 34 #[.slice A1 k c1, .slice A2 n2 c2, .slice A3 n3 c3] := by rw [hw8]; exact cel_put hco7 2 _
      have hs8 : w8.heap.size = w7.heap.size := by rw [hw8]; simp
      have hff8 : RdG layF w8.heap.size w8 A1 k c1 (pickF x.xs zs) := by
        rw [hs8]
        have h1 := (HF6.out.below hb7).mono hb7.size
        rw [hw8]
        exact rdg_away (fun _ => ⟨1, _, rfl, rfl⟩) h1 hco7 sl3 (cell_put1 _ _ _ _)
      have hee8 : RdE w8.heap.size w8 A2 n2 c2 (renum x.now zs) := by
        rw [hs8]
        have h1 := (HE6.out.below hb7).mono hb7.size
        rw [hw8]
        exact rdg_away (fun _ => ⟨0, _, rfl, rfl⟩) h1 hco7 sl3 (cell_put1 _ _ _ _)
      have hek8 : RdE w8.heap.size w8 A3 n3 c3 (renum x.kept zs) := by
        rw [hs8, hw8]
        exact rdg_away (fun _ => ⟨0, _, rfl, rfl⟩) hown3.rd hco7 sl3 (cell_put1 _ _ _ _)
      have hr8 := HR2.out.below hb28 HR2.out.lt
      have HB28 := Lib.hid hb28
      have HC8 := Lib.hid hc8
      have HR8 := Lib.hid hr8
      have HF8 := Lib.hid hff8
      have HE8 := Lib.hid hee8
      have HK8 := Lib.hid hek8
      have HBW8 := Lib.hid (HB2.out.trans (hb28.mono HB2.out.size))
      obtain ⟨u0, u1, u2⟩ := ref_cel3 hc8
      obtain ⟨z0, z1, z2⟩ := ref_cel3 hr8
      obtain ⟨g0, g1, g2⟩ := cel_frs hr8
      rw [hw8] at u0 u1 u2 z0 z1 z2 g0 g1 g2
      clear hco7 hown3 hb7 hb28 hc8 hs8 hff8 hee8 hek8 hr8 HE2 HF6 HE6 HC6
      go_wp2
      rw [← hw8]
      clear hw8 s0 s1 s2 f0 f1 f2 u0 u1 u2 z0 z1 z2 g0 g1 g2
      (try simp only [Exit.inBlock, Exit.then])
      refine bodyPost_ret (ret_rdisk rfl _ _ (w.heap.size + 1) #[.slice A1 k c1, .slice A2 n2 c2, .slice A3 n3 c3] rfl (cel_put3 HR8.out) rfl) rfl ?_
      have hbo := below_put3 HBW8.out (show w.heap.size ≤ w.heap.size + 1 by omega) (.slice A1 k c1) (.slice A2 n2 c2) (.slice A3 n3 c3)
      have hbx := below_put3 (Below.refl w.heap.size w8) (show w.heap.size ≤ w.heap.size + 1 by omega) (.slice A1 k c1) (.slice A2 n2 c2) (.slice A3 n3 c3)
      refine ⟨⟨A1, k, c1, pickF x.xs zs, A2, n2, c2, renum x.now zs, A3, n3, c3, renum x.kept zs⟩, rfl, HO.out.symm, ⟨⟨?_, ?_⟩, ?_, ?_⟩, hbo⟩
      · exact (rdg_away (fun _ => ⟨1, _, rfl, rfl⟩) HF8.out HR8.out sl3 (put3_cell _ _ _ _ _)).mono (by simp)
      · have hB : Byt w.heap.size w8 (pickF x.xs zs) := fun u hu => (HR.out.f.below HBW8.out).2 u (pick_mem (fun f hf => by have h1 := HIN.out f hf; rw [HXL.out]; exact h1) hu)
        exact (hB.below hbx).mono hbo.size
      · exact (rdg_away (fun _ => ⟨0, _, rfl, rfl⟩) HE8.out HR8.out sl3 (put3_cell _ _ _ _ _)).mono (by simp)
      · exact (rdg_away (fun _ => ⟨0, _, rfl, rfl⟩) HK8.out HR8.out sl3 (put3_cell _ _ _ _ _)).mono (by simp)
end Go.Proofs.YtogcmnpnhncjhaaGreat.Dw
end
