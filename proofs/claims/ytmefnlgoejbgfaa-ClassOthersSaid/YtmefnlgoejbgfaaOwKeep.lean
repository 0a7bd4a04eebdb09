/- What opts.Keep and opts.Set come to, and the document's own Keep and Fair. For lists of up to 1000 options with 1000 bytes at most. -/
import Derived.Test.YtmefnlgoejbgfaaOwDel
import Derived.Laws.Rows
set_option maxRecDepth 8000
namespace Go.Proofs.Ytmefnlgoejbgfaa.Ow
open Go.RowKit Tl Ms Co By

def keepL (l : List O) (c : Int) (b : List UInt8) : List O := withoutL l c ++ [(c, b)]
def fairO (c : Int) (b : List UInt8) : Bool := decide (1 ≤ c) && (decide (c ≤ 254) && decide (b.length ≤ 600))

/-! ### fresh, and the generic function over options -/
/-- A slice of options whose array and bytes are the call's own. -/
def OwnF (B : Nat) (w : World) (A : Option Addr) (n c : Nat) (ps : List Po) : Prop := OwnC 41 B w A n c ps ∧ ∀ p ∈ ps, Own 5 B w p.A p.l.length p.c p.l
theorem OwnF.rd {B : Nat} {w : World} {A : Option Addr} {n c : Nat} {ps : List Po} (h : OwnF B w A n c ps) : RdO w A n c ps := ⟨h.1.rdc, fun p hp => (h.2 p hp).bs⟩
theorem OwnF.below {B : Nat} {w w' : World} {A : Option Addr} {n c : Nat} {ps : List Po} (h : OwnF B w A n c ps) (hb : Below w.heap.size w w') : OwnF B w' A n c ps := ⟨h.1.below hb, fun p hp => (h.2 p hp).below hb⟩
theorem OwnF.snoc {B : Nat} {w w' : World} {A A' : Option Addr} {n c c' : Nat} {ps : List Po} {q : Po} (h : OwnF B w A n c ps) (h2 : OwnC 41 B w' A' (n + 1) c' (ps ++ [q])) (hq : Own 5 B w q.A q.l.length q.c q.l) (hg : w.grownBy w' (Value.slice A n c).ownBlock) : OwnF B w' A' (n + 1) c' (ps ++ [q]) := by
  refine ⟨h2, fun p hp => ?_⟩
  have hk : ∀ p : Po, Own 5 B w p.A p.l.length p.c p.l → Own 5 B w' p.A p.l.length p.c p.l := fun p ho => World.ownsRow.kept ho hg (rows_apart2 (by decide) ho h.1)
  rcases List.mem_append.1 hp with hp | hp
  · exact hk p (h.2 p hp)
  · simp at hp
    subst hp
    exact hk p hq
def FrR (w : World) (code : Int) (l : List UInt8) (e : Ending) (w' : World) : Prop := ∃ A2 c2, e = .returned (.agg #[.int .i64 code, .slice A2 l.length c2]) ∧ Own 5 w.heap.size w' A2 l.length c2 l ∧ Below w.heap.size w w'
theorem cel_fr {w : World} {g : Nat} {t : TypeId} {cs : Array Value} (h : Cel w g t cs) (i : Nat) : w.frozen? ⟨g, i, none⟩ = false := by
  unfold Cel at h
  simp [World.frozen?, h]
theorem cel_put {w : World} {g : Nat} {t : TypeId} {cs : Array Value} (h : Cel w g t cs) (i : Nat) (v : Value) : Cel (w.setCell ⟨g, i, none⟩ v) g t (cs.setIfInBounds i v) := by
  unfold Cel at *
  rw [setCell_eq_setRow w g i cs t (0, 0) v h]
  exact setRow_heap w g cs _ t _ h
theorem ret_opt {fn : Func} {p : Tmp} (hres : fn.results = #[.cell p 41]) (tmps : Array Value) (w : World) (g : Nat) (cs : Array Value) (hp : tmps.getD p undef = .pointer (some ⟨g, 0, none⟩)) (hc : Cel w g 41 cs) (hs : cs.size = 2) :
    (results fn tmps).run Try.prog w = .ok (.agg cs) w := results_cell_row hres tmps w g _ cs (0, 0) _ hp hc Try.underlying41 rfl (by rw [hs]; kernel_rfl)
theorem own_keep {e B n c : Nat} {w : World} {A : Option Addr} {l : List UInt8} (h : Own e B w A n c l) {g : Nat} (hg : g < B) (j : Nat) (v : Value) : Own e B (w.setCell ⟨g, j, none⟩ v) A n c l := by
  refine World.ownsRow.kept h (grown_set w g j v) ?_
  by_cases k : (Value.slice A n c).ownBlock = none
  · exact .inl k
  · refine .inr fun k2 => ?_
    have := (own_blk h g k2).1
    omega
set_option maxHeartbeats 1000000 in
theorem fresh_any (code : Int) (A' : Option Addr) (c' : Nat) (l : List UInt8) (w : World) (h : Bs w A' l.length c' l) (hn : l.length ≤ 1000) :
    Calls Try.prog 33 #[.agg #[.int .i64 code, .slice A' l.length c']] w (FrR w code l) := by
  obtain ⟨w1, hw1⟩ : ∃ w1, w1 = (w.alloc (.cells #[.int .i64 code, .slice A' l.length c'] 41)).alloc (.cells #[.int .i64 0, .slice none 0 0] 41) := ⟨_, rfl⟩
  have hb1 : Below w.heap.size w w1 := by rw [hw1]; exact ((Below.refl _ _).alloc (Nat.le_refl _) _).alloc (by simp) _
  have hc1 : Cel w1 w.heap.size 41 #[.int .i64 code, .slice A' l.length c'] := by rw [hw1]; exact (Cel.born w _ _).below ((Below.refl _ _).alloc (Nat.le_refl _) _) (by simp)
  have hc2 : Cel w1 (w.heap.size + 1) 41 #[.int .i64 0, .slice none 0 0] := by
    rw [hw1]
    have := Cel.born (w.alloc (.cells #[.int .i64 code, .slice A' l.length c'] 41)) 41 #[.int .i64 0, .slice none 0 0]
    simpa using this
  have HCL := Lib.hid (Tw.clone_any A' l.length c' l w1.drew (h.below hb1).drew (by omega))
  have hs1 : w1.heap.size = w.heap.size + 2 := by rw [hw1]; simp
  go_enter Try.func33, Try.ntmps33
  go_wp2_with fail
  rw [← hw1]
  clear hw1
  have r0 : w1.cell? ⟨w.heap.size, 0, none⟩ = some (.int .i64 code) := by rw [hc1.cell]; rfl
  have r1 : w1.cell? ⟨w.heap.size, 1, none⟩ = some (.slice A' l.length c') := by rw [hc1.cell]; rfl
  go_region_with ((go_at_call 37; refine HCL.out.mono ?_; rintro e w2 ⟨A2, c2, rfl, hown, hb2⟩; have hb12 : Below w1.heap.size w1 w2 := below_undrew hb2; have k1 := hc1.below hb12 hc1.lt; have k2 := hc2.below hb12 hc2.lt; have s0 : w2.cell? ⟨w.heap.size, 0, none⟩ = some (.int .i64 code) := (by rw [k1.cell]; rfl); have s1 : w2.cell? ⟨w.heap.size + 1, 0, none⟩ = some (.int .i64 0) := (by rw [k2.cell]; rfl); have s2 : w2.cell? ⟨w.heap.size + 1, 1, none⟩ = some (.slice none 0 0) := (by rw [k2.cell]; rfl); have f1 := cel_fr k2 0; have f2 := cel_fr k2 1; have HO := Lib.hid hown; clear hown hb2))
  all_goals (
    go_wp2
    (try simp only [Exit.inBlock, Exit.then])
    refine bodyPost_ret (ret_opt rfl _ _ _ _ rfl (show Cel _ (w.heap.size + 1) 41 #[.int .i64 code, .slice A2 l.length c2] from cel_put (cel_put k2 0 _) 1 _) rfl) rfl ?_
    have hle : w.heap.size + 1 < w1.drew.heap.size := by show w.heap.size + 1 < w1.heap.size; omega
    have hb02 := hb1.trans (hb12.mono hb1.size)
    exact ⟨A2, c2, rfl, (own_keep (own_keep HO.out hle 0 _) hle 1 _).mono (by have := hb1.size; exact this), (hb02.setCell (by show w.heap.size ≤ w.heap.size + 1; omega) _).setCell (by show w.heap.size ≤ w.heap.size + 1; omega) _⟩)

def StF (l : List O) (n : Nat) (w : World) (v i : Value) (wr : World) : Prop :=
  ∃ (k : Nat) (A1 : Option Addr) (c1 : Nat) (qs : List Po), k ≤ n ∧ i = .int .i64 k ∧ v = .slice A1 k c1 ∧ OwnF w.heap.size wr A1 k c1 qs ∧ osP qs = l.take k ∧ Below w.heap.size w wr
/-- Options of the call's own. -/
def KpR (w : World) (l : List O) (f : Value → Value) (e : Ending) (w' : World) : Prop := ∃ A' m c' qs, e = .returned (f (.slice A' m c')) ∧ osP qs = l ∧ OwnF w.heap.size w' A' m c' qs ∧ Below w.heap.size w w'
set_option maxHeartbeats 1000000 in
theorem each_opts (A : Option Addr) (n c : Nat) (ps : List Po) (w : World) (h : RdO w A n c ps) (hn : n ≤ 1001) (hsm : ∀ p ∈ ps, p.l.length ≤ 1000) :
    Calls Try.prog 32 #[.slice A n c, .func (.func 33) #[] #[]] w (KpR w (osP ps) fun v => v) := by
  have hl := Lib.hid h.len
  have hm := h.max
  have hcap := h.cap
  have HSM := Lib.hid hsm
  clear hsm
  obtain ⟨i0, hi0, hz0, hz1, hz2⟩ := info_parts Tw.opP.hi
  have HI := Lib.hid hi0
  have HZ0 := Lib.hid hz0
  have HZ1 := Lib.hid hz1
  have HZ2 := Lib.hid hz2
  clear hi0 hz0 hz1 hz2
  go_enter Try.func32, Try.ntmps32
  go_wp2_with (refine wpList_make_own _ rfl _ (.tmp 9) 23 rfl w.heap.size 41 i0 _ 2 Try.underlying23 HI.out HZ0.out HZ1.out .i64 .i64 n n rfl rfl rfl (by rw [HZ2.out]; omega) (by unfold maxLen; omega) (Nat.le_refl _) ?_; intro w1 hown hgr)
  have hb1 : Below w.heap.size w w1 := (Below.refl _ _).grown hgr (Nat.le_refl _) (fun _ h => by cases h)
  clear hgr
  go_loopw [5, 13] (fun v i wr => StF (osP ps) n w v i wr) (fun _ i _ => n - (intOf i).toNat)
  case atStart => exact ⟨0, _, n, [], by omega, rfl, rfl, ⟨hown, fun p hp => by cases hp⟩, rfl, hb1⟩
  case round =>
    obtain ⟨k, A1, c1, qs, hk, rfl, rfl, hownr, hqs, hbw⟩ := hrel
    have HQ := Lib.hid hqs
    clear hqs
    by_cases hlt : k < n
    · obtain ⟨b, o, co, A', m, c', l, rfl, hcell, hcell2, hbs, HP, HO, HM, _, _, hblt⟩ := h.atU hbw hlt
      have hml := HM.out
      subst hml
      have hl1 : l.length ≤ 1000 := HSM.out _ (List.mem_of_getElem? HP.out)
      have H : Hid ((osP ps).take (k + 1) = (osP ps).take k ++ [(co, l)]) := by
        obtain ⟨h1, h2⟩ := HO.out
        show (osP ps).take (k + 1) = _
        rw [take_snocO h1, h2]
      have hba : Below wr.heap.size wr (wr.alloc (.cells #[.int .i64 co, .slice A' l.length c'] 41)) := (Below.refl _ _).alloc (Nat.le_refl _) _
      have hbs2 := hbs.bs.below hba
      have hszr := hbw.size
      clear HP HO HM hbs
      go_wp2_with fail
      refine (fresh_any co A' c' l _ hbs2 hl1).mono ?_
      rintro e w2 ⟨A2, c2, rfl, hown2, hb2⟩
      have hb02 := hba.trans (hb2.mono hba.size)
      have hb3 : Below w2.heap.size w2 (w2.alloc (.cells #[.int .i64 co, .slice A2 l.length c2] 41)) := (Below.refl _ _).alloc (Nat.le_refl _) _
      have hlit := (OwnC.lit1 41 w2 ⟨co, A2, c2, l⟩).rdc
      have HF := Lib.hid ((hownr.below hb02).below hb3)
      have HN : Hid (Own 5 w.heap.size (w2.alloc (.cells #[.int .i64 co, .slice A2 l.length c2] 41)) A2 l.length c2 l) := (hown2.mono (by simp; omega)).below hb3
      have hbw3 := (hbw.trans (hb02.mono hbw.size)).trans (hb3.mono (hbw.trans (hb02.mono hbw.size)).size)
      have hsz3 := hbw3.size
      clear hown2 hbs2 hcell hcell2
      go_wp2_with (at_builtin; refine wpList_appO Tw.opP rfl (.tmp 17) (.tmp 21) rfl rfl HF.out.1 rfl hlit (by omega) hsz3 ?_; intro A3 c3 w3 hown3 hb4 hg4)
      go_roundw
      case rel =>
        refine ⟨k + 1, A3, c3, qs ++ [⟨co, A2, c2, l⟩], by omega, by go_num, rfl, HF.out.snoc hown3 HN.out hg4, ?_, hbw3.trans hb4⟩
        rw [os_app, HQ.out, H.out]
        rfl
      case measure => simp [intOf]; omega
    · obtain rfl : k = n := by omega
      have H : Hid ((osP ps).take k = osP ps) := by show (osP ps).take k = osP ps; rw [List.take_of_length_le (by have := hl.out; rw [os_len]; omega)]
      go_wp2
      go_ret
      exact ⟨A1, k, c1, qs, rfl, by rw [HQ.out, H.out], hownr, hbw⟩
end Go.Proofs.Ytmefnlgoejbgfaa.Ow
