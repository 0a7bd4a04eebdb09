/- What the document's Joined comes to. Conditions: 1000 options, 100000 bytes of one and 1000 bytes to be joined at most. -/
import Derived.Test.YtibcpdimdjipjaaDoorTlWrite
namespace Go.Proofs.YtibcpdimdjipjaaDoor.Tw
open Go.RowKit Tl By

/-- The option's bytes lie below U, or are of the call's own. -/
def Safe (U : Nat) (w : World) (q : Po) : Prop := BsU U w q.A q.l.length q.c q.l ∨ Own 5 U w q.A q.l.length q.c q.l
theorem Safe.bs {U : Nat} {w : World} {q : Po} (h : Safe U w q) : q.bs w := by
  rcases h with h | h
  · exact h.bs
  · exact h.bs
theorem Safe.below {U : Nat} {w w' : World} {q : Po} (h : Safe U w q) (hU : U ≤ w.heap.size) (hb : Below w.heap.size w w') : Safe U w' q := by
  rcases h with h | h
  · exact .inl (h.below (hb.mono hU))
  · exact .inr (h.below hb)
theorem Safe.grown {U B n : Nat} {w w' : World} {q : Po} {v : Value} {xs : List Value} (h : Safe U w q) (ho : w.ownsRow B 45 2 v n xs) (hb : Below U w w') (hg : w.grownBy w' v.ownBlock) : Safe U w' q := by
  rcases h with h | h
  · exact .inl (h.below hb)
  · exact .inr (World.ownsRow.kept h hg (rows_apart2 (by decide) h ho))

/-- A list that reads as l. -/
def RJ (w : World) (l : List O) (en : Ending) (w' : World) : Prop := ∃ A n c qs, en = .returned (.slice A n c) ∧ osP qs = l ∧ RdO w' A n c qs ∧ Below w.heap.size w w'
/-- What Joined's loop holds. -/
def StK (w : World) (l : List O) (code : Int) (d : List UInt8) (N : Nat) (v i : Value) (wr : World) : Prop :=
  ∃ k A c qs, k ≤ N ∧ i = .int .i64 (k : Nat) ∧ v = .slice A k c ∧ OwnC 45 w.heap.size wr A k c qs ∧ (∀ q ∈ qs, Safe w.heap.size wr q) ∧ osP qs = (l.take k).map (joinO code d) ∧ Below w.heap.size w wr
theorem os_snoc {qs : List Po} {l : List O} {k : Nat} {code : Int} {d : List UInt8} (h : osP qs = (l.take k).map (joinO code d)) (hk : k < l.length) {q : Po} (hq : q.o = joinO code d l[k]) : osP (qs ++ [q]) = (l.take (k + 1)).map (joinO code d) := by
  rw [os_app, h, take_snocO hk, List.map_append]
  simp [osP, hq]
set_option maxHeartbeats 4000000 in
theorem joined_any (A : Option Addr) (n c : Nat) (ps : List Po) (code : Int) (D : Option Addr) (m dc : Nat) (d : List UInt8) (w : World) (h : RdO w A n c ps) (hd : Bs w D m dc d) (hn : n ≤ 1000) (hp : ∀ p ∈ ps, p.l.length ≤ 100000) (hm : m ≤ 1000) :
    Calls Tryd.prog 30 #[.slice A n c, .int .i64 code, .slice D m dc] w (RJ w (joinedL (osP ps) code d)) := by
  have hl := Lib.hid h.len
  have hmax := h.max
  have hcap := h.cap
  have HP := Lib.hid hp
  have hdU := hd.upto
  have HD := Lib.hid hd.len
  clear hp hd
  go_enter Tryd.func30, Tryd.ntmps30
  go_wp2
  go_loopw [7, 8] (fun v i wr => StK w (osP ps) code d n v i wr) (fun _ i _ => n - (intOf i).toNat)
  case atStart => exact ⟨0, none, 0, [], by omega, rfl, rfl, OwnC.nil _ _ _, (fun q hq => by cases hq), rfl, Below.refl _ _⟩
  case round =>
    obtain ⟨k, A7, c7, qs, hk, rfl, rfl, hown, hsafe, hos, hbw⟩ := hrel
    have HS := Lib.hid hsafe
    have HOS := Lib.hid hos
    clear hsafe hos
    have hsz := hbw.size
    by_cases hlt : k < n
    · obtain ⟨b, o, co, A', u, c', l, rfl, hcell, hcell2, hbs, HP0, HO, HM, hmc, hc63, hblt⟩ := h.atU hbw hlt
      have hu : u ≤ 100000 := by
        have h1 := HP.out _ (List.mem_of_getElem? HP0.out)
        have h2 := HM.out
        subst h2
        exact h1
      have HC : Hid (∀ W, Below w.heap.size wr W → W.cell? ⟨b, o + k * 2, none⟩ = some (.int .i64 co)) := fun W hW => (hW.cell (p := ⟨b, o + k * 2, none⟩) hblt).trans hcell
      by_cases he : co = code
      · subst he
        have hb0 : Below wr.heap.size wr (wr.alloc (Obj.cells #[] 5)) := (Below.refl _ _).alloc (Nat.le_refl _) _
        have hlit := Own.lit0 5 wr
        have hbs0 := (hbs.below (hb0.mono hsz)).bs
        have hd0 := (hdU.below hbw).below (hb0.mono hsz)
        have HLD : Hid ((l ++ d).length = u + m) := by show (l ++ d).length = u + m; rw [List.length_append, HM.out, HD.out]
        have hlit2 : ∀ (W : World) (A2 : Option Addr) (c2 : Nat), RdC (W.alloc (Obj.cells #[Value.int IntKind.i64 co, Value.slice A2 (u + m) c2] 45)) (some ⟨W.heap.size, 0, none⟩) 1 1 (cellsP [⟨co, A2, c2, l ++ d⟩]) := fun W A2 c2 => by
          have := (OwnC.lit1 45 W ⟨co, A2, c2, l ++ d⟩).rdc
          simp only [Po.dv, HLD.out] at this
          exact this
        go_wp2_with (first
          | (at_builtin; refine wpList_app byP rfl (.tmp 28) (.tmp 29) rfl rfl hlit rfl hbs0 (by omega) (by simp) ?_; intro A1 c1 w1 hown1 hb1 _ _; simp only [Nat.zero_add, List.nil_append] at hown1; have hb01 := hb0.trans hb1)
          | (at_builtin; refine wpList_app byP rfl (.tmp 30) (.tmp 31) rfl rfl hown1 rfl ((hd0.below (hb1.mono hsz)).bs) (by omega) hb01.size ?_; intro A2 c2 w2 hown2 hb2 _ _; have hb02 := hb01.trans hb2; have hcell3 := HC.out w2 (hb02.mono hsz); clear hbs0 hlit)
          | (at_builtin; refine wpList_appO opP rfl (.tmp 33) (.tmp 41) rfl rfl ((hown.below hb02).below ((Below.refl _ _).alloc (Nat.le_refl _) _)) rfl (hlit2 w2 A2 c2) (by omega) (by have := hb02.size; simp; omega) ?_; intro A3 c3 w3 hown3 hb3 hg3))
        have hbB : Below wr.heap.size wr (w2.alloc (Obj.cells #[Value.int IntKind.i64 co, Value.slice A2 (u + m) c2] 45)) := hb02.alloc hb02.size _
        have hb03 : Below w.heap.size w w3 := (hbw.trans (hbB.mono hsz)).trans hb3
        have HS3 : Hid (∀ q ∈ qs ++ [⟨co, A2, c2, l ++ d⟩], Safe w.heap.size w3 q) := fun q hq => by
          rcases List.mem_append.1 hq with hq | hq
          · exact ((HS.out q hq).below hsz hbB).grown (hown.below hbB) hb3 hg3
          · simp only [List.mem_singleton] at hq
            subst hq
            have h5 : Own 5 w.heap.size w2 A2 (l ++ d).length c2 (l ++ d) := by rw [HLD.out]; exact hown2.mono hsz
            exact (Safe.below (.inr h5) (Nat.le_trans hsz hb02.size) ((Below.refl _ _).alloc (Nat.le_refl _) _)).grown (hown.below hbB) hb3 hg3
        have HOS3 : Hid (osP (qs ++ [⟨co, A2, c2, l ++ d⟩]) = ((osP ps).take (k + 1)).map (joinO co d)) := by
          obtain ⟨g1, g2⟩ := HO.out
          refine os_snoc HOS.out g1 ?_
          rw [g2]
          simp [joinO, Po.o]
        clear hown2 hown1 hb1 hb2 hb3 hg3 hbB hb02 hb01 hb0
        go_roundw
        case rel => exact ⟨k + 1, A3, c3, qs ++ [⟨co, A2, c2, l ++ d⟩], by omega, by go_num, rfl, hown3, HS3.out, HOS3.out, hb03⟩
        case measure => simp [intOf]; omega
      · have hb : (co == code) = false := by simpa using he
        have HE := Lib.hid he
        clear he
        have hlit2 : RdC (wr.alloc (Obj.cells #[Value.int IntKind.i64 co, Value.slice A' u c'] 45)) (some ⟨wr.heap.size, 0, none⟩) 1 1 (cellsP [⟨co, A', c', l⟩]) := by
          have := (OwnC.lit1 45 wr ⟨co, A', c', l⟩).rdc
          simp only [Po.dv, HM.out] at this
          exact this
        go_wp2_with (at_builtin; refine wpList_appO opP rfl (.tmp 33) (.tmp 41) rfl rfl (hown.below ((Below.refl _ _).alloc (Nat.le_refl _) _)) rfl hlit2 (by omega) (by simp; omega) ?_; intro A3 c3 w3 hown3 hb3 hg3)
        have hbB : Below wr.heap.size wr (wr.alloc (Obj.cells #[Value.int IntKind.i64 co, Value.slice A' u c'] 45)) := (Below.refl _ _).alloc (Nat.le_refl _) _
        have hb03 : Below w.heap.size w w3 := (hbw.trans (hbB.mono hsz)).trans hb3
        have HS3 : Hid (∀ q ∈ qs ++ [⟨co, A', c', l⟩], Safe w.heap.size w3 q) := fun q hq => by
          rcases List.mem_append.1 hq with hq | hq
          · exact ((HS.out q hq).below hsz hbB).grown (hown.below hbB) hb3 hg3
          · simp only [List.mem_singleton] at hq
            subst hq
            refine .inl ?_
            show BsU w.heap.size w3 A' l.length c' l
            rw [HM.out]
            exact (hbs.below (hbB.mono hsz)).below hb3
        have HOS3 : Hid (osP (qs ++ [⟨co, A', c', l⟩]) = ((osP ps).take (k + 1)).map (joinO code d)) := by
          obtain ⟨g1, g2⟩ := HO.out
          refine os_snoc HOS.out g1 ?_
          rw [g2]
          simp [joinO, Po.o, HE.out]
        clear hb3 hg3 hbB
        go_roundw
        case rel => exact ⟨k + 1, A3, c3, qs ++ [⟨co, A', c', l⟩], by omega, by go_num, rfl, hown3, HS3.out, HOS3.out, hb03⟩
        case measure => simp [intOf]; omega
    · obtain rfl : k = n := by omega
      have e1 : (osP ps).take k = osP ps := List.take_of_length_le (by rw [os_len, hl.out]; exact Nat.le_refl _)
      have HE1 := Lib.hid e1
      clear e1
      by_cases hmem : code ∈ codesL (osP ps)
      · have hx : hasL (osP ps) code ≠ 0 := fun e => (has_zero.1 e) hmem
        have hx2 : 0 < hasL (osP ps) code := by omega
        have hle := has_le (osP ps) code
        rw [os_len, hl.out] at hle
        have HJ : Hid (osP qs = joinedL (osP ps) code d) := by
          show osP qs = _
          rw [joined_old hmem, HOS.out, HE1.out]
        clear hmem hx
        go_wp2_with fail
        refine (has_any _ _ _ _ code _ (h.below hbw)).mono ?_
        rintro e w' ⟨rfl, rfl⟩
        generalize hasL (osP ps) code = x at hx2 hle
        have hx0 : ((x : Int) == 0) = false := by simp; omega
        go_wp2
        go_ret
        exact ⟨A7, k, c7, qs, rfl, HJ.out, ⟨hown.rdc, fun q hq => (HS.out q hq).bs⟩, hbw⟩
      · have HX := Lib.hid (has_zero.2 hmem)
        have HJ : Hid (∀ A2 c2, osP (qs ++ [⟨code, A2, c2, d⟩]) = joinedL (osP ps) code d) := fun A2 c2 => by
          have e2 : (osP ps).map (joinO code d) = osP ps := by
            have e3 := joined_new hmem d
            unfold joinedL at e3
            rw [if_neg hmem] at e3
            exact List.append_cancel_right e3
          rw [joined_new hmem, os_app, HOS.out, HE1.out, e2]
          rfl
        clear hmem
        have hbB : Below wr.heap.size wr (wr.alloc (Obj.cells #[Value.int IntKind.i64 code, Value.slice D m dc] 45)) := (Below.refl _ _).alloc (Nat.le_refl _) _
        have hlit2 : RdC (wr.alloc (Obj.cells #[Value.int IntKind.i64 code, Value.slice D m dc] 45)) (some ⟨wr.heap.size, 0, none⟩) 1 1 (cellsP [⟨code, D, dc, d⟩]) := by
          have := (OwnC.lit1 45 wr ⟨code, D, dc, d⟩).rdc
          simp only [Po.dv, HD.out] at this
          exact this
        go_wp2_with fail
        refine (has_any _ _ _ _ code _ (h.below hbw)).mono ?_
        rw [HX.out]
        rintro e w' ⟨rfl, rfl⟩
        go_wp2_with (at_builtin; refine wpList_appO opP rfl (.tmp 47) (.tmp 51) rfl rfl (hown.below hbB) rfl hlit2 (by omega) (by simp; omega) ?_; intro A3 c3 w3 hown3 hb3 hg3)
        go_ret
        refine ⟨A3, k + 1, c3, _, rfl, HJ.out D dc, ⟨hown3.rdc, fun q hq => ?_⟩, (hbw.trans (hbB.mono hsz)).trans hb3⟩
        rcases List.mem_append.1 hq with hq | hq
        · exact (((HS.out q hq).below hsz hbB).grown (hown.below hbB) hb3 hg3).bs
        · simp only [List.mem_singleton] at hq
          subst hq
          show Bs w3 D d.length dc d
          rw [HD.out]
          exact (((hdU.below hbw).below (hbB.mono hsz)).below hb3).bs
end Go.Proofs.YtibcpdimdjipjaaDoor.Tw
