/- The document's Bytes (boarderref04) of a message whose head is right and whose options fit. -/
import Derived.Test.YtibcpdimdjipjaaDoorMwRef5
import Derived.Test.YtibcpdimdjipjaaDoorMwRw
set_option maxRecDepth 8000
namespace Go.Proofs.YtibcpdimdjipjaaDoor.By
open Go.RowKit
theorem Own.lit4 (e : Nat) (w : World) (x y z u : UInt8) : Own e w.heap.size (w.alloc (.cells #[.int .u8 (x.toNat : Int), .int .u8 (y.toNat : Int), .int .u8 (z.toNat : Int), .int .u8 (u.toNat : Int)] e)) (some ⟨w.heap.size, 0, none⟩) 4 4 [x, y, z, u] :=
  World.ownsRow_lit w #[.int .u8 (x.toNat : Int), .int .u8 (y.toNat : Int), .int .u8 (z.toNat : Int), .int .u8 (u.toNat : Int)] 4 (Nat.le_refl _) (by unfold maxLen; omega) rfl
end Go.Proofs.YtibcpdimdjipjaaDoor.By
namespace Go.Proofs.YtibcpdimdjipjaaDoor.Mw
open Go.RowKit Tl Ms Co By Tw

theorem wrap_byteI {v : Int} (h0 : 0 ≤ v) (h1 : v ≤ 255) : IntKind.u8.wrap v = ((byteI v).toNat : Int) := by
  rw [byteI_back h0 h1]
  show v % 256 = v
  omega
theorem put_of (v : Int) (n : Nat) (w : World) (h0 : 0 ≤ v) (h1 : v ≤ 4294967295) (hn : n ≤ 4) : Calls Tryd.prog 25 #[.int .i64 v, .int .i64 (n : Int)] w (RB 5 w n (numB v n) fun x => x) := by
  obtain ⟨v', rfl⟩ := Int.eq_ofNat_of_zero_le h0
  have := Cw.refPut_any n v' w (by omega) (by omega)
  unfold numB
  rw [Int.toNat_natCast]
  exact this
def StZ (B : Nat) (wA : World) (base : Nat) (hd : List UInt8) (v i : Value) (wr : World) : Prop :=
  ∃ (k : Nat) (A1 : Option Addr) (c1 : Nat), k ≤ 192 ∧ i = .int .i64 k ∧ v = .slice A1 (base + k) c1 ∧ Own 5 B wr A1 (base + k) c1 (hd ++ List.replicate k 0) ∧ Below B wA wr
def StP (B : Nat) (wA : World) (bd : List UInt8) (v : Value) (wr : World) : Prop :=
  ∃ (N : Nat) (A1 : Option Addr) (c1 : Nat), bd.length ≤ N ∧ (N ≤ 300 ∨ N = bd.length) ∧ v = .slice A1 N c1 ∧ Own 5 B wr A1 N c1 (bd ++ List.replicate (N - bd.length) 0) ∧ Below B wA wr
theorem rep_next (a : List UInt8) (k : Nat) : a ++ List.replicate k 0 ++ [0] = a ++ List.replicate (k + 1) 0 := by rw [List.append_assoc, List.replicate_succ']
theorem writeL_len {l : List O} (h : FitL l) : (writeL l).length ≤ 120201 := by
  have := fit_body h l.length
  rw [List.take_length] at this
  unfold writeL
  rw [List.length_append]
  simp
  omega
set_option maxHeartbeats 8000000 in
theorem refBytes_any (x : Mv) (w : World) (h : x.ok w) (hh : HeadOk x.mm) (hc : x.ch.length = 16) (hf : FitL (osP x.ps)) :
    Calls Tryd.prog 11 #[x.v] w (RX 5 w (bytesM x.mm)) := by
  obtain ⟨⟨o1, o2⟩, ⟨p1, p2⟩, ⟨l1, l2⟩, ⟨q1, q2⟩, ⟨x1, x2⟩, ⟨s1, s2⟩, ⟨f1, f2⟩, ⟨c1, c2⟩, ⟨y1, y2⟩, ⟨i1, i2⟩, ⟨g1, g2⟩⟩ := hh
  simp only [Mv.mm] at o1 o2 p1 p2 l1 l2 q1 q2 x1 x2 s1 s2 f1 f2 c1 c2 y1 y2 i1 i2 g1 g2
  have e0 := wrap_byteI o1 o2
  have e1 := wrap_byteI p1 p2
  have e2 := wrap_byteI l1 (show x.hlen ≤ 255 by omega)
  have e3 := wrap_byteI q1 q2
  have P4 := Lib.hid (fun W => put_of x.xid 4 W x1 x2 (by omega))
  have P5 := Lib.hid (fun W => put_of x.secs 2 W s1 (by omega) (by omega))
  have P6 := Lib.hid (fun W => put_of x.flags 2 W f1 (by omega) (by omega))
  have P7 := Lib.hid (fun W => put_of x.ci 4 W c1 c2 (by omega))
  have P8 := Lib.hid (fun W => put_of x.yi 4 W y1 y2 (by omega))
  have P9 := Lib.hid (fun W => put_of x.si 4 W i1 i2 (by omega))
  have P10 := Lib.hid (fun W => put_of x.gi 4 W g1 g2 (by omega))
  have HF := Lib.hid hf
  have hnle : x.n ≤ 16 := by have := h.ch.len; omega
  have hnge : 16 ≤ x.n := by have := h.ch.len; omega
  have HX := Lib.hid h
  have HC := Lib.hid hc
  clear o1 o2 p1 p2 l1 l2 q1 q2 x1 x2 s1 s2 f1 f2 c1 c2 y1 y2 i1 i2 g1 g2 hf hc h
  have hbA : Below w.heap.size w (w.alloc (.cells x.cells 32)) := (Below.refl _ _).alloc (Nat.le_refl _) _
  have hcA := Cel.born w 32 x.cells
  have hgA := hcA.lt
  have HXA := Lib.hid (HX.out.below hbA)
  have hbL : Below (w.alloc (.cells x.cells 32)).heap.size (w.alloc (.cells x.cells 32)) ((w.alloc (.cells x.cells 32)).alloc (.cells #[.int .u8 ((byteI x.op).toNat : Int), .int .u8 ((byteI x.htype).toNat : Int), .int .u8 ((byteI x.hlen).toNat : Int), .int .u8 ((byteI x.hops).toNat : Int)] 5)) := (Below.refl _ _).alloc (Nat.le_refl _) _
  have hlit := (Own.lit4 5 (w.alloc (.cells x.cells 32)) (byteI x.op) (byteI x.htype) (byteI x.hlen) (byteI x.hops)).bs
  rw [show (w.alloc (.cells x.cells 32)).heap.size = w.heap.size + 1 by simp] at hlit
  go_enter Tryd.func11, Tryd.ntmps11
  go_wp2_with (at_builtin; refine wpList_app byP rfl (.tmp 5) (.tmp 18) rfl rfl (Own.nil 5 (w.alloc (.cells x.cells 32)).heap.size _) rfl hlit (by omega) hbL.size ?_; intro A1 c1 w1 hown1 hb1 _ _; simp only [Nat.zero_add, List.nil_append] at hown1; have hb01 := hbL.trans hb1; have r4 : w1.cell? ⟨w.heap.size, 4, none⟩ = some (.int .i64 x.xid) := (by rw [(hcA.below hb01 hgA).cell]; rfl))
  clear hlit hbL hb1 e0 e1 e2 e3
  generalize w.alloc (.cells x.cells 32) = wA at *
  refine (P4.out _).mono ?_
  rintro e w2 ⟨B4, d4, rfl, hp4, hbp4⟩
  have hq4 := hown1.below hbp4
  have hz4 : wA.heap.size ≤ w2.heap.size := Nat.le_trans hb01.size hbp4.size
  have hbb4 := hb01.trans (hbp4.mono hb01.size)
  clear hown1 hbp4 r4
  go_wp2_with (at_builtin; refine wpList_app byP rfl (.tmp 20) (.tmp 23) rfl rfl hq4 rfl hp4.bs (by omega) hz4 ?_; intro A2 c2 w2' hown2 hba2 _ _; simp only [Nat.reduceAdd] at hown2; have hb02 := hbb4.trans hba2; have r5 : w2'.cell? ⟨w.heap.size, 5, none⟩ = some (.int .i64 x.secs) := (by rw [(hcA.below hb02 hgA).cell]; rfl))
  clear hq4 hp4 hz4 hbb4 hba2 hb01 P4
  refine (P5.out _).mono ?_
  rintro e w3 ⟨B5, d5, rfl, hp5, hbp5⟩
  have hq5 := hown2.below hbp5
  have hz5 : wA.heap.size ≤ w3.heap.size := Nat.le_trans hb02.size hbp5.size
  have hbb5 := hb02.trans (hbp5.mono hb02.size)
  clear hown2 hbp5 r5
  go_wp2_with (at_builtin; refine wpList_app byP rfl (.tmp 25) (.tmp 28) rfl rfl hq5 rfl hp5.bs (by omega) hz5 ?_; intro A3 c3 w3' hown3 hba3 _ _; simp only [Nat.reduceAdd] at hown3; have hb03 := hbb5.trans hba3; have r6 : w3'.cell? ⟨w.heap.size, 6, none⟩ = some (.int .i64 x.flags) := (by rw [(hcA.below hb03 hgA).cell]; rfl))
  clear hq5 hp5 hz5 hbb5 hba3 hb02 P5
  refine (P6.out _).mono ?_
  rintro e w4 ⟨B6, d6, rfl, hp6, hbp6⟩
  have hq6 := hown3.below hbp6
  have hz6 : wA.heap.size ≤ w4.heap.size := Nat.le_trans hb03.size hbp6.size
  have hbb6 := hb03.trans (hbp6.mono hb03.size)
  clear hown3 hbp6 r6
  go_wp2_with (at_builtin; refine wpList_app byP rfl (.tmp 30) (.tmp 33) rfl rfl hq6 rfl hp6.bs (by omega) hz6 ?_; intro A4 c4 w4' hown4 hba4 _ _; simp only [Nat.reduceAdd] at hown4; have hb04 := hbb6.trans hba4; have r7 : w4'.cell? ⟨w.heap.size, 7, none⟩ = some (.int .i64 x.ci) := (by rw [(hcA.below hb04 hgA).cell]; rfl))
  clear hq6 hp6 hz6 hbb6 hba4 hb03 P6
  refine (P7.out _).mono ?_
  rintro e w5 ⟨B7, d7, rfl, hp7, hbp7⟩
  have hq7 := hown4.below hbp7
  have hz7 : wA.heap.size ≤ w5.heap.size := Nat.le_trans hb04.size hbp7.size
  have hbb7 := hb04.trans (hbp7.mono hb04.size)
  clear hown4 hbp7 r7
  go_wp2_with (at_builtin; refine wpList_app byP rfl (.tmp 35) (.tmp 38) rfl rfl hq7 rfl hp7.bs (by omega) hz7 ?_; intro A5 c5 w5' hown5 hba5 _ _; simp only [Nat.reduceAdd] at hown5; have hb05 := hbb7.trans hba5; have r8 : w5'.cell? ⟨w.heap.size, 8, none⟩ = some (.int .i64 x.yi) := (by rw [(hcA.below hb05 hgA).cell]; rfl))
  clear hq7 hp7 hz7 hbb7 hba5 hb04 P7
  refine (P8.out _).mono ?_
  rintro e w6 ⟨B8, d8, rfl, hp8, hbp8⟩
  have hq8 := hown5.below hbp8
  have hz8 : wA.heap.size ≤ w6.heap.size := Nat.le_trans hb05.size hbp8.size
  have hbb8 := hb05.trans (hbp8.mono hb05.size)
  clear hown5 hbp8 r8
  go_wp2_with (at_builtin; refine wpList_app byP rfl (.tmp 40) (.tmp 43) rfl rfl hq8 rfl hp8.bs (by omega) hz8 ?_; intro A6 c6 w6' hown6 hba6 _ _; simp only [Nat.reduceAdd] at hown6; have hb06 := hbb8.trans hba6; have r9 : w6'.cell? ⟨w.heap.size, 9, none⟩ = some (.int .i64 x.si) := (by rw [(hcA.below hb06 hgA).cell]; rfl))
  clear hq8 hp8 hz8 hbb8 hba6 hb05 P8
  refine (P9.out _).mono ?_
  rintro e w7 ⟨B9, d9, rfl, hp9, hbp9⟩
  have hq9 := hown6.below hbp9
  have hz9 : wA.heap.size ≤ w7.heap.size := Nat.le_trans hb06.size hbp9.size
  have hbb9 := hb06.trans (hbp9.mono hb06.size)
  clear hown6 hbp9 r9
  go_wp2_with (at_builtin; refine wpList_app byP rfl (.tmp 45) (.tmp 48) rfl rfl hq9 rfl hp9.bs (by omega) hz9 ?_; intro A7 c7 w7' hown7 hba7 _ _; simp only [Nat.reduceAdd] at hown7; have hb07 := hbb9.trans hba7; have r10 : w7'.cell? ⟨w.heap.size, 10, none⟩ = some (.int .i64 x.gi) := (by rw [(hcA.below hb07 hgA).cell]; rfl))
  clear hq9 hp9 hz9 hbb9 hba7 hb06 P9
  refine (P10.out _).mono ?_
  rintro e w8 ⟨B10, d10, rfl, hp10, hbp10⟩
  have hq10 := hown7.below hbp10
  have hz10 : wA.heap.size ≤ w8.heap.size := Nat.le_trans hb07.size hbp10.size
  have hbb10 := hb07.trans (hbp10.mono hb07.size)
  clear hown7 hbp10 r10
  go_wp2_with (first | (at_builtin; refine wpList_app byP rfl (.tmp 55) (.tmp 57) rfl rfl hown8 rfl (HXA.out.ch.below hb08w) (by omega) hb08.size ?_; intro A9 c9 w9 hown9 hba9 _ _) | (at_builtin; refine wpList_app byP rfl (.tmp 50) (.tmp 53) rfl rfl hq10 rfl hp10.bs (by omega) hz10 ?_; intro A8 c8 w8' hown8 hba8 _ _; simp only [Nat.reduceAdd] at hown8; have hb08 := hbb10.trans hba8; have r11 : w8'.cell? ⟨w.heap.size, 11, none⟩ = some (.slice x.A x.n x.c) := (by rw [(hcA.below hb08 hgA).cell]; rfl); have hb08w := hb08))
  clear hq10 hp10 hz10 hbb10 hba8 hb07 P10
  have hb09 := hb08.trans hba9
  have HH : Hid ([byteI x.op, byteI x.htype, byteI x.hlen, byteI x.hops] ++ numB x.xid 4 ++ numB x.secs 2 ++ numB x.flags 2 ++ numB x.ci 4 ++ numB x.yi 4 ++ numB x.si 4 ++ numB x.gi 4 ++ x.ch = headL x.mm) := by
    show _ = _
    simp only [headL, Mv.mm, List.append_assoc]
  rw [HH.out] at hown9
  clear hb08 hb08w hba9 hown8 r11 HH
  go_loopw [3, 4] (fun v i wr => StZ wA.heap.size wA (28 + x.n) (headL x.mm) v i wr) (fun _ i _ => 192 - (intOf i).toNat)
  case atStart => exact ⟨0, A9, c9, by omega, rfl, rfl, by simpa using hown9, hb09⟩
  case round =>
    clear hown9 hb09
    obtain ⟨k, Ar, cr, hk, rfl, rfl, hownr, hbr⟩ := hrel
    have hz := hbr.size
    by_cases hlt : k < 192
    · have hba : Below wr.heap.size wr (wr.alloc (.cells #[.int .u8 0] 5)) := (Below.refl _ _).alloc (Nat.le_refl _) _
      have hl1 : Bs (wr.alloc (.cells #[.int .u8 0] 5)) (some ⟨wr.heap.size, 0, none⟩) 1 1 [0] := (Own.lit1 5 wr 0).bs
      go_wp2_with (at_builtin; refine wpList_app byP rfl (.tmp 63) (.tmp 64) rfl rfl (hownr.below hba) rfl hl1 (by omega) (by simp; omega) ?_; intro A3 c3 w3 hown3 hb3 _ _)
      go_roundw
      case rel => exact ⟨k + 1, A3, c3, by omega, by go_num, rfl, by rw [← rep_next]; exact hown3, (hbr.trans (hba.mono hz)).trans hb3⟩
      case measure => simp [intOf]; omega
    · obtain rfl : k = 192 := by omega
      have hbC : Below wr.heap.size wr (wr.alloc (.cells #[.int .u8 99, .int .u8 130, .int .u8 83, .int .u8 99] 5)) := (Below.refl _ _).alloc (Nat.le_refl _) _
      have hlc : Bs (wr.alloc (.cells #[.int .u8 99, .int .u8 130, .int .u8 83, .int .u8 99] 5)) (some ⟨wr.heap.size, 0, none⟩) 4 4 cookieL := (Own.lit4 5 wr 99 130 83 99).bs
      have hqr := hownr.below hbC
      have hbrC := hbr.trans (hbC.mono hz)
      clear hownr
      go_wp2_with (at_builtin; refine wpList_app byP rfl (.tmp 66) (.tmp 67) rfl rfl hqr rfl hlc (by omega) hbrC.size ?_; intro A3 c3 w3 hown3 hb3 _ _; have hb03 := hbrC.trans hb3; have r12 : w3.cell? ⟨w.heap.size, 12, none⟩ = some (.slice x.B x.m x.d) := (by rw [(hcA.below hb03 hgA).cell]; rfl))
      refine (refWrite_fit x.B x.m x.d x.ps w3 (HXA.out.os.below hb03) HF.out).mono ?_
      rintro e w4 ⟨A4, n4, c4, rfl, hown4, hb4⟩
      have hn4 : n4 ≤ 120201 := by have e1 := hown4.bs.len; have e2 := writeL_len HF.out; omega
      have hq3 := hown3.below hb4
      have hb04 := hb03.trans (hb4.mono hb03.size)
      clear hqr hlc hbC hbrC hb3 r12 hown3 hbr
      go_wp2_with (at_builtin; refine wpList_app byP rfl (.tmp 69) (.tmp 72) rfl rfl hq3 rfl hown4.bs (by omega) hb04.size ?_; intro A5 c5 w5 hown5 hb5 _ _)
      have hb05 := hb04.trans hb5
      have HB : Hid (headL x.mm ++ List.replicate 192 0 ++ cookieL ++ writeL (osP x.ps) = bodyM x.mm) := by
        show _ = _
        simp only [bodyM, List.append_assoc]
        rfl
      rw [HB.out] at hown5
      have HBL : Hid ((bodyM x.mm).length = 28 + x.n + 192 + 4 + n4) := hown5.bs.len
      clear hown4 hb4 hq3 hb5
      go_loopw [3] (fun v wr => StP wA.heap.size wA (bodyM x.mm) v wr) (fun v _ => 300 - lenV v)
      case atStart => exact ⟨_, A5, c5, Nat.le_of_eq HBL.out, .inr HBL.out.symm, rfl, by rw [HBL.out, Nat.sub_self]; simpa using hown5, hb05⟩
      case round =>
        clear hown5 hb05 hb04 hb03
        obtain ⟨N, A6, c6, hN1, hN2, rfl, hown6, hb6⟩ := hrel
        have HN1 := Lib.hid hN1
        have HN2 := Lib.hid hN2
        clear hN1 hN2
        have hz6 := hb6.size
        have hc6 := hown6.bs.cap
        have hm6 := hown6.bs.max
        by_cases hlt : N < 300
        · have hba : Below wr.heap.size wr (wr.alloc (.cells #[.int .u8 0] 5)) := (Below.refl _ _).alloc (Nat.le_refl _) _
          have hl1 : Bs (wr.alloc (.cells #[.int .u8 0] 5)) (some ⟨wr.heap.size, 0, none⟩) 1 1 [0] := (Own.lit1 5 wr 0).bs
          have hq6 := hown6.below hba
          have hb6a := hb6.trans (hba.mono hz6)
          clear hown6
          go_wp2_with (at_builtin; refine wpList_app byP rfl (.tmp 77) (.tmp 78) rfl rfl hq6 rfl hl1 (by omega) hb6a.size ?_; intro A7 c7 w7 hown7 hb7 _ _)
          go_roundw
          case rel =>
            have e1 := HN1.out
            refine ⟨N + 1, A7, c7, by omega, .inl (by omega), rfl, ?_, hb6a.trans hb7⟩
            rw [show N + 1 - (bodyM x.mm).length = (N - (bodyM x.mm).length) + 1 by omega, ← rep_next]
            exact hown7
          case measure => simp [lenV]; omega
        · go_wp2
          go_ret
          refine ⟨A6, N, c6, rfl, ?_, hbA.trans (hb6.mono hbA.size)⟩
          have e1 := HN1.out
          have e2 := HN2.out
          unfold bytesM padL
          rw [show 300 - (bodyM x.mm).length = N - (bodyM x.mm).length by omega]
          exact hown6.mono hbA.size
end Go.Proofs.YtibcpdimdjipjaaDoor.Mw
