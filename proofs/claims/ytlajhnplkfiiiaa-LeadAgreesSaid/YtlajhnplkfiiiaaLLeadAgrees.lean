/- LeadAgrees is true: whatever leaders under unlike ballots and voters tell each other, in whatever order, some of it lost: no two values are chosen at one place. No condition. -/
import Derived.Test.YtlajhnplkfiiiaaLgM
import Derived.Test.YtlajhnplkfiiiaaOpSt
import Derived.Test.YtlajhnplkfiiiaaSpeaks12
import Derived.Deep.LoopGhost
import Derived.IntWalk
namespace Go.Proofs.Ytlajhnplkfiiiaa.leadAgrees
open Go.ChangeShapes Go.WideShapes Go.ChangeAt Go.RowKit Go.Maps

theorem low_bits (k : Int) (m : Nat) (hm : m ≤ 65535) : ∃ q : Nat, bits .and .i64 k (m : Int) = (q : Int) ∧ q ≤ m := by
  have e : (BitVec.ofInt 64 (m : Int)).toNat = m := by rw [BitVec.ofInt_natCast, BitVec.toNat_ofNat]; omega
  have hq : (BitVec.ofInt 64 k &&& BitVec.ofInt 64 (m : Int)).toNat ≤ m := by
    rw [BitVec.toNat_and]
    have := Nat.and_le_right (n := (BitVec.ofInt 64 k).toNat) (m := (BitVec.ofInt 64 (m : Int)).toNat)
    omega
  refine ⟨(BitVec.ofInt 64 k &&& BitVec.ofInt 64 (m : Int)).toNat, ?_, hq⟩
  show IntKind.i64.wrap (((BitVec.ofInt 64 k &&& BitVec.ofInt 64 (m : Int)).toNat : Nat) : Int) = _
  generalize (BitVec.ofInt 64 k &&& BitVec.ofInt 64 (m : Int)).toNat = q at *
  exact IntWalk.i64_in _ (by omega)
theorem vals_tri (xs : List ItU) : valsU xs = vtsI (xs.map tri) := by
  induction xs with
  | nil => rfl
  | cons x t ih =>
    show valcU x ++ valsU t = (vtcI (tri x)).toList ++ vtsI (t.map tri)
    rw [ih]
    rfl
theorem prom_ok {w : World} {B g gt p : Nat} {O : Nat → Prop} {xs : List ItU} (h : VoU w B g gt O p xs) : ((geL ltI 0 xs).map tri).length ≤ 64 ∧ ∀ v ∈ (geL ltI 0 xs).map tri, wf64 v.1 := by
  refine ⟨?_, fun v hv => ?_⟩
  · rw [List.length_map]
    unfold geL
    exact Nat.le_trans (List.length_filter_le ..) h.len
  · obtain ⟨u, hu, rfl⟩ := List.mem_map.1 hv
    have hu' : u ∈ xs := by
      unfold geL at hu
      exact (List.mem_filter.1 hu).1
    have := h.ok u hu'
    exact wf64_of (by show _ ≤ u.2.slot ∧ u.2.slot ≤ _; omega)

set_option maxRecDepth 100000 in
set_option maxHeartbeats 8000000 in
theorem walk (W : World) (z : Int) (As : Option Addr) (cs : Nat) (l : List Stp3) (hr : Rd W As (spsc l)) :
    Calls Try.prog 3 #[.int .i64 z, .slice As l.length cs] W fun e W' => e = .returned (.bool true) ∧ Fr NoBlk W W' := by
  have HS := Lib.hid (speaks_any W)
  have HR := Lib.hid hr
  obtain ⟨q, hq, hq7⟩ := low_bits z 3 (by omega)
  have hqq : bits .and .i64 z 3 = (q : Int) := hq
  have hwn : IntKind.i64.wrap (1 + (q : Int)) = ((q + 1 : Nat) : Int) := by rw [IntWalk.i64_in _ (by omega)]; omega
  obtain ⟨N, hN⟩ : ∃ N, N = l.length := ⟨_, rfl⟩
  have HNL := Lib.hid hN
  rw [← hN]
  clear hq hr hN
  go_enter Try.func3, Try.ntmps3
  go_wp2_with fail
  refine HS.out.mono ?_
  clear HS
  rintro e w1 ⟨rfl, hf1⟩
  have HF1 := Lib.hid hf1
  clear hf1
  by_cases h300 : (300 : Int) < (N : Int)
  · go_wp2_with fail
    go_ret
    exact ⟨rfl, HF1.out⟩
  have HN3 : Hid (N ≤ 300) := by show N ≤ 300; omega
  obtain ⟨n, hn⟩ : ∃ n, n = q + 1 := ⟨_, rfl⟩
  rw [← hn] at hwn
  have HN : Hid (1 ≤ n ∧ n ≤ 4) := by show _ ∧ _; omega
  have hmm := @run_makeMap Try.prog
  obtain ⟨w2, hw2⟩ : ∃ w2, w2 = ((w1.alloc (.cells #[] 27)).alloc (.cells #[] 29)).alloc (.map #[] 0) := ⟨_, rfl⟩
  obtain ⟨cm, hcm⟩ : ∃ cm, cm = w1.heap.size + 1 + 1 := ⟨_, rfl⟩
  have HJ0 : Hid (JA W w2 0 0 [] [] (fun _ => newI (n : Int) 0) (some ⟨w1.heap.size, 0, none⟩) 0 (some ⟨w1.heap.size + 1, 0, none⟩) 0 cm 0 (fun _ => none)) := by
    have f1 : Fr NoBlk w1 (w1.alloc (.cells #[] 27)) := (Fr.refl _ _).alloc _
    have s1 : (w1.alloc (.cells #[] 27)).heap.size = w1.heap.size + 1 := World.size_alloc _ _
    have f2 : Fr NoBlk (w1.alloc (.cells #[] 27)) ((w1.alloc (.cells #[] 27)).alloc (.cells #[] 29)) := (Fr.refl _ _).alloc _
    have s2 : ((w1.alloc (.cells #[] 27)).alloc (.cells #[] 29)).heap.size = w1.heap.size + 1 + 1 := by rw [World.size_alloc, s1]
    have f3 : Fr NoBlk ((w1.alloc (.cells #[] 27)).alloc (.cells #[] 29)) w2 := by rw [hw2]; exact (Fr.refl _ _).alloc _
    have s3 : w2.heap.size = w1.heap.size + 1 + 1 + 1 := by rw [hw2, World.size_alloc, s2]
    have r1 : w2.ownsRow W.heap.size 27 1 (.slice (some ⟨w1.heap.size, 0, none⟩) 0 0) 0 [] := own_fr (own_base (World.ownsRow_made w1 #[] 0 (Nat.le_refl _) (by decide) rfl) HF1.out.size) (f2.trans f3) (fun _ _ e => e)
    have r2 : w2.ownsRow W.heap.size 29 1 (.slice (some ⟨w1.heap.size + 1, 0, none⟩) 0 0) 0 [] := by
      have h := World.ownsRow_made (e := 29) (size := 1) (w1.alloc (.cells #[] 27)) #[] 0 (Nat.le_refl _) (by decide) rfl
      rw [s1] at h
      exact own_fr (own_base h (by have := HF1.out.size; omega)) f3 (fun _ _ e => e)
    have kk : Km Try.prog 3 w2 cm 0 (fun _ => none) := by
      have h := Km.new (P := Try.prog) (k := 3) ((w1.alloc (.cells #[] 27)).alloc (.cells #[] 29))
      rw [s2] at h
      rw [hw2, hcm]
      exact h
    have o1 : ∀ k, (Value.slice (some ⟨w1.heap.size, 0, none⟩) 0 0).ownBlock = some k → k = w1.heap.size := fun k hk => by injection hk with hk; exact hk.symm
    have o2 : ∀ k, (Value.slice (some ⟨w1.heap.size + 1, 0, none⟩) 0 0).ownBlock = some k → k = w1.heap.size + 1 := fun k hk => by injection hk with hk; exact hk.symm
    refine ⟨⟨GrpU.nil _ (((HF1.out.trans f1).trans f2).trans f3), (fun j a e => by cases e), (fun i j a b e => by cases e), fun k hk => ⟨?_, ?_⟩⟩, r1, r2, kk, fun k hk e => ?_, fun k hk => ?_, fun k hk => ?_, ?_, rfl, rfl⟩
    · rcases hk with hk | hk | hk
      · have := o1 k hk; omega
      · have := o2 k hk; omega
      · omega
    · rintro ⟨j, a, e, _⟩
      cases e
    · have := o1 k hk
      have := o2 k e
      omega
    · have := o1 k hk; omega
    · have := o2 k hk; omega
    · have := HF1.out.size; omega
  have HW2 := Lib.hid hw2
  have HCM := Lib.hid hcm
  clear hn hq7 hw2 hcm
  go_upto_region 7 with fail
  rw [← HW2.out, ← HCM.out]
  clear HW2 HCM hmm HF1 h300
  go_wp2_with fail
  clear hqq hwn
  go_loopw [6, 9] (fun sl i wr => ∃ (k : Nat) (vs : List ViU) (A : Option Addr) (c : Nat), k ≤ n ∧ sl = .slice A k c ∧ i = .int .i64 (k : Int) ∧ Hid (JA W wr k 0 vs [] (fun _ => newI (n : Int) 0) A c (some ⟨w1.heap.size + 1, 0, none⟩) 0 cm 0 (fun _ => none)) ∧ Hid (∀ (j : Nat) v, vs[j]? = some v → v.p = 0 ∧ v.xs = [])) (fun _ i _ => (n - intOf i).toNat)
  case atStart => exact ⟨0, [], _, 0, by omega, rfl, rfl, HJ0.out, fun j v e => by cases e⟩
  case round => as_aux_lemma =>
    clear HJ0
    obtain ⟨k, vs, A, c, hk, rfl, rfl, HJ, HZ⟩ := hrel
    have hwk : IntKind.i64.wrap ((k : Int) + 1) = (k : Int) + 1 := by rw [IntWalk.i64_in _ (by have := HN.out; omega)]
    by_cases hlt : k < n
    · have hki : (k : Int) < (n : Int) := by omega
      have hk8 : k < 8 := by have := HN.out; omega
      obtain ⟨i0, hi, hz0, hz1, hz2⟩ := info_parts ptrV
      go_wp2_with fail
      refine (vnewU_any wr).mono ?_
      rintro e w5 ⟨g, gt, O, rfl, hv5, hf5⟩
      have HV5 := Lib.hid hv5
      have HF5 := Lib.hid hf5
      clear hv5 hf5
      have HO5 : Hid ((w5.alloc (.cells #[.pointer (some ⟨g, 0, none⟩)] 27)).ownsRow W.heap.size 27 1 (.slice A k c) k (vs.map vptr)) := own_fr HJ.out.rv (HF5.out.alloc _) (fun _ _ e => e)
      go_wp2_with (at_builtin; refine wpList_appO rfl _ _ 24 rfl W.heap.size 27 i0 _ 1 8 Try.underlying24 hi hz0 hz1 hz2 rfl (by decide) (.slice A k c) k (vs.map vptr) rfl HO5.out ⟨w5.heap.size, 0, none⟩ 1 1 [.pointer (some ⟨g, 0, none⟩)] rfl rfl (Rd.of_cells (Bk.new w5 _ #[.pointer (some ⟨g, 0, none⟩)])) ?c1 ?c2 ?c3 ?c4 ?_)
      case c1 => intro y hy; rw [List.mem_singleton.1 hy]; rfl
      case c2 => unfold maxLen; omega
      case c3 => omega
      case c4 => exact Nat.le_trans HJ.out.ag.fr.size (HF5.out.alloc _).size
      intro v6 w6 ho6 hg6 hb6
      obtain ⟨A6, c6, rfl, _, _⟩ := own_form ho6
      have HJ6 : Hid (JA W w6 (k + 1) 0 (vs ++ [⟨g, gt, O, 0, []⟩]) [] (fun _ => newI (n : Int) 0) A6 c6 (some ⟨w1.heap.size + 1, 0, none⟩) 0 cm 0 (fun _ => none)) := HJ.out.pushV (u := ⟨g, gt, O, 0, []⟩) HV5.out HF5.out ((Fr.refl _ _).alloc _) ho6 hg6 (by rw [World.size_alloc]; exact hb6)
      have HZ6 : Hid (∀ (j : Nat) v, (vs ++ [(⟨g, gt, O, 0, []⟩ : ViU)])[j]? = some v → v.p = 0 ∧ v.xs = []) := fun j v hj => by
        by_cases e : j < vs.length
        · rw [List.getElem?_append_left e] at hj
          exact HZ.out j v hj
        · rw [List.getElem?_append_right (by omega)] at hj
          have := (List.getElem?_eq_some_iff.1 hj).1
          rw [List.length_singleton] at this
          rw [show j - vs.length = 0 by omega] at hj
          injection hj with hj
          subst hj
          exact ⟨rfl, rfl⟩
      clear ho6 hg6 hb6 HO5 HV5 HF5 HJ HZ
      go_wp2_with fail
      go_roundw
      case rel => exact ⟨k + 1, _, A6, c6, by omega, rfl, by go_num, HJ6, HZ6⟩
      case measure => simp [intOf]; omega
    · have hkn : k = n := by omega
      subst hkn
      have hki : ¬ (k : Int) < (k : Int) := by omega
      clear hk hlt hwk
      go_wp2_with fail
      go_loopw [7, 11] (fun sl i wr => ∃ (j : Nat) (ls : List LqJ) (B : Option Addr) (d : Nat), j ≤ 4 ∧ sl = .slice B j d ∧ i = .int .i64 (j : Int) ∧ Hid (JA W wr k j vs ls (fun _ => newI (k : Int) 0) A c B d cm 0 (fun _ => none))) (fun _ i _ => (4 - intOf i).toNat)
      case atStart => exact ⟨0, [], _, 0, by omega, rfl, rfl, HJ.out⟩
      case round => as_aux_lemma =>
        clear HJ
        obtain ⟨j, ls, B, d, hj, rfl, rfl, HJ⟩ := hrel
        have hwj : IntKind.i64.wrap ((j : Int) + 1) = (j : Int) + 1 := by rw [IntWalk.i64_in _ (by omega)]
        have hwj2 : IntKind.u64.wrap ((j : Int) + 1) = (j : Int) + 1 := by
          simp only [IntKind.wrap, IntKind.bits, IntKind.signed]
          simp
          omega
        by_cases hlt : j < 4
        · have hji : (j : Int) < 4 := by omega
          obtain ⟨i0, hi, hz0, hz1, hz2⟩ := info_parts ptrL
          have HNW : Hid (Calls Try.prog 7 #[.int .u64 ((j : Int) + 1), .int .i64 (k : Int), .int .i64 0] wr fun e w' => ∃ a : LqJ, e = .returned (.tuple #[.pointer (some ⟨a.g, 0, none⟩), .int .i64 0]) ∧ LdJ w' wr.heap.size a (newI (k : Int) 0) ∧ Fr NoBlk wr w') := (newI_any wr ((j : Int) + 1) (k : Int) 0).mono fun e w' hq => by
            rcases hq with ⟨hf, ⟨_, _, _, _, g, bp, bt, bv, he, hl⟩ | ⟨hno, _⟩⟩
            · exact ⟨⟨g, bp, bt, bv⟩, he, hl, hf⟩
            · exact absurd ⟨by have := HN.out; omega, by have := HN.out; omega, by omega, by omega⟩ hno
          go_wp2_with fail
          refine HNW.out.mono ?_
          rintro e w5 ⟨a, rfl, hl5, hf5⟩
          have HL5 := Lib.hid hl5
          have HF5 := Lib.hid hf5
          clear hl5 hf5 HNW
          have HO5 : Hid ((w5.alloc (.cells #[.pointer (some ⟨a.g, 0, none⟩)] 29)).ownsRow W.heap.size 29 1 (.slice B j d) j (ls.map lptr)) := own_fr HJ.out.rl (HF5.out.alloc _) (fun _ _ e => e)
          go_wp2_with (at_builtin; refine wpList_appO rfl _ _ 25 rfl W.heap.size 29 i0 _ 1 8 Try.underlying25 hi hz0 hz1 hz2 rfl (by decide) (.slice B j d) j (ls.map lptr) rfl HO5.out ⟨w5.heap.size, 0, none⟩ 1 1 [.pointer (some ⟨a.g, 0, none⟩)] rfl rfl (Rd.of_cells (Bk.new w5 _ #[.pointer (some ⟨a.g, 0, none⟩)])) ?c1 ?c2 ?c3 ?c4 ?_)
          case c1 => intro y hy; rw [List.mem_singleton.1 hy]; rfl
          case c2 => unfold maxLen; omega
          case c3 => omega
          case c4 => exact Nat.le_trans HJ.out.ag.fr.size (HF5.out.alloc _).size
          intro v6 w6 ho6 hg6 hb6
          obtain ⟨B6, d6, rfl, _, _⟩ := own_form ho6
          have HJ6 : Hid (JA W w6 k (j + 1) vs (ls ++ [a]) (fun _ => newI (k : Int) 0) A c B6 d6 cm 0 (fun _ => none)) := by
            have h := HJ.out.pushL (a := a) HL5.out HF5.out ((Fr.refl _ _).alloc _) ho6 hg6 (by rw [World.size_alloc]; exact hb6)
            rw [setN_id _ _ rfl] at h
            exact h
          clear ho6 hg6 hb6 HO5 HL5 HF5 HJ
          go_wp2_with fail
          go_roundw
          case rel => exact ⟨j + 1, _, B6, d6, by omega, rfl, by go_num, HJ6⟩
          case measure => simp [intOf]; omega
        · have hj4 : j = 4 := by omega
          subst hj4
          rw [show ((4 : Nat) : Int) = 4 from rfl]
          have HX0 : Hid (JX k 0 vs (fun _ => newI (k : Int) 0) (fun _ => none) 0) := by
            have e1 : pvF vs = fun _ => 0 := by
              funext i
              unfold pvF
              cases hv : vs[i]? with
              | none => rfl
              | some v => exact (HZ.out i v hv).1
            have e2 : xvF vs = fun _ => [] := by
              funext i
              unfold xvF
              cases hv : vs[i]? with
              | none => rfl
              | some v => exact (HZ.out i v hv).2
            refine ⟨⟨_, _, by rw [e1, e2]; exact Px.new k⟩, fun b hb => Nat.zero_le _, Nat.zero_le _⟩
          clear hj hlt hwj hwj2
          go_wp2_with fail
          go_loopw [72] (fun i wr => ∃ (t : Nat) (vs : List ViU) (LI : Nat → LdrI) (nch : Nat) (ch : Int → Option Int), t ≤ N ∧ i = .int .i64 (t : Int) ∧ Hid (JA W wr k 4 vs ls LI A c B d cm nch ch) ∧ Hid (JX k t vs LI ch nch)) (fun i _ => (N - intOf i).toNat)
          case atStart => exact ⟨0, vs, _, 0, _, by omega, rfl, HJ.out, HX0.out⟩
          case round => as_aux_lemma =>
            clear HJ HX0 HZ
            obtain ⟨t, vs, LI, nch, ch, ht, rfl, HJ, HX⟩ := hrel
            have hwt : IntKind.i64.wrap ((t : Int) + 1) = (t : Int) + 1 := by rw [IntWalk.i64_in _ (by have := HN3.out; omega)]
            by_cases hlt : t < N
            · have hti : (t : Int) < (N : Int) := by omega
              have HT3 : Hid (t < 300) := by have := HN3.out; show _ < _; omega
              obtain ⟨x, hx⟩ : ∃ x, l[t]? = some x := ⟨_, List.getElem?_eq_getElem (by rw [← HNL.out]; exact hlt)⟩
              obtain ⟨bb, o, hAs, u0, u1, u2⟩ := (HR.out.nofr HJ.out.ag.fr).stp hx
              subst hAs
              obtain ⟨kd, ld, vt⟩ := x
              dsimp only at u0 u1 u2
              obtain ⟨ob, hob⟩ : ∃ ob, ob = wr.heap.size := ⟨_, rfl⟩
              obtain ⟨w4, hw4⟩ : ∃ w4, w4 = wr.alloc (.cells #[.int .i64 kd, .int .i64 ld, .int .i64 vt] 35) := ⟨_, rfl⟩
              have HB4 : Hid (Bk w4 ob 35 #[.int .i64 kd, .int .i64 ld, .int .i64 vt]) := by show Bk _ _ _ _; rw [hw4, hob]; exact Bk.new _ _ _
              have HJ4 : Hid (JA W w4 k 4 vs ls LI A c B d cm nch ch) := by show JA _ _ _ _ _ _ _ _ _ _ _ _ _ _; rw [hw4]; exact HJ.out.nofr ((Fr.refl _ _).alloc _)
              clear hx HJ
              go_upto_region 24 with fail
              rw [← hw4, ← hob]
              clear hw4 hob u0 u1 u2
              obtain ⟨b, hb, hb3⟩ := low_bits ld 3 (by omega)
              have hbb : bits .and .i64 ld 3 = (b : Int) := hb
              obtain ⟨r, hr, hr3⟩ := low_bits vt 1023 (by omega)
              have hrr : bits .and .i64 vt 1023 = (r : Int) := hr
              obtain ⟨kq, hkq, hkq3⟩ := low_bits kd 3 (by omega)
              have HKQ : Hid (bits .and .i64 kd 3 = (kq : Int) ∧ kq ≤ 3) := ⟨hkq, hkq3⟩
              obtain ⟨who, hwho⟩ : ∃ who, who = r % k := ⟨_, rfl⟩
              have hn0 : ¬ (k : Int) = 0 := by have := HN.out; omega
              have hn1 : ¬ k = 0 := by have := HN.out; omega
              have hmod : (r : Int) % (k : Int) = (who : Int) := by rw [hwho]; exact (Int.natCast_emod r k).symm
              have htm : Int.tmod (r : Int) (k : Int) = (who : Int) := by rw [hwho]; exact (Int.ofNat_tmod r k).symm
              have HWH : Hid (who < k ∧ b ≤ 3) := ⟨by rw [hwho]; exact Nat.mod_lt _ (by omega), hb3⟩
              have x1 : w4.cell? ⟨ob, 1, none⟩ = some (.int .i64 ld) := HB4.out.cell 1
              have x2 : w4.cell? ⟨ob, 2, none⟩ = some (.int .i64 vt) := HB4.out.cell 2
              have hwr : IntKind.i64.wrap (who : Int) = (who : Int) := by rw [IntWalk.i64_in _ (by have := HWH.out; have := HN.out; omega)]
              clear hb hr hkq hkq3 hwho hb3
              go_quiet (fail)
              obtain ⟨w5, hw5⟩ : ∃ w5, w5 = w4.drewN nq := ⟨_, rfl⟩
              have hf5 : Fr NoBlk w4 w5 := by rw [hw5]; exact (Fr.refl _ _).drewN _
              have HB5 := Lib.hid (HB4.out.fr hf5 (fun e => e))
              have HJ5 := Lib.hid (HJ4.out.nofr hf5)
              rw [← hw5]
              clear hw5 hf5 HB4 HJ4 x1 x2 hbb hrr hmod htm hwr hn0 hn1
              obtain ⟨v, hv⟩ : ∃ v, vs[who]? = some v := ⟨_, List.getElem?_eq_getElem (by rw [HJ5.out.lv]; exact HWH.out.1)⟩
              obtain ⟨a, ha⟩ : ∃ a, ls[b]? = some a := ⟨_, List.getElem?_eq_getElem (by rw [HJ5.out.ll]; have := HWH.out.2; omega)⟩
              obtain ⟨bA, oA, hA, cA⟩ := HJ5.out.vat hv
              obtain ⟨bB, oB, hB, cB⟩ := HJ5.out.lat ha
              have HV := Lib.hid hv
              have HA := Lib.hid ha
              subst hA hB
              have g1 : b < 4 := by have := HWH.out.2; omega
              have g2 : (b : Int) < 4 := by omega
              have g3 : who < k := HWH.out.1
              have g4 : (who : Int) < (k : Int) := by omega
              clear hv ha
              go_upto_region 25 with fail
              go_quiet (fail)
              obtain ⟨w6, hw6⟩ : ∃ w6, w6 = w5.drewN nq := ⟨_, rfl⟩
              have hf6 : Fr NoBlk w5 w6 := by rw [hw6]; exact (Fr.refl _ _).drewN _
              have x0 : w6.cell? ⟨ob, 0, none⟩ = some (.int .i64 kd) := (HB5.out.fr hf6 (fun e => e)).cell 0
              have HJ6 := Lib.hid (HJ5.out.nofr hf6)
              have HVO := Lib.hid (HJ6.out.ag.grp.each v (List.mem_of_getElem? HV.out))
              have HLO := Lib.hid (HJ6.out.ag.ld b a HA.out)
              have HPV : Hid (pvF vs who = v.p ∧ xvF vs who = v.xs) := ⟨pvF_at HV.out, xvF_at HV.out⟩
              rw [← hw6]
              clear hw6 hf6 HB5 HJ5 cA cB g2 g4
              have hwb : IntKind.i64.wrap ((b : Int) + 1) = (b : Int) + 1 := by rw [IntWalk.i64_in _ (by omega)]
              have hwb2 : IntKind.u64.wrap ((b : Int) + 1) = (b : Int) + 1 := by
                simp only [IntKind.wrap, IntKind.bits, IntKind.signed]
                simp
                omega
              obtain ⟨hkq, hkq3⟩ := HKQ.out
              by_cases hk0 : kq = 0
              · have hkz : bits .and .i64 kd 3 = 0 := by rw [hkq, hk0]; rfl
                clear hkq hkq3 hk0
                by_cases hp : b + 1 < v.p
                · have HPR : Hid (Calls Try.prog 8 #[.pointer (some ⟨v.g, 0, none⟩), .int .u64 ((b : Int) + 1), .int .i64 0] w6 fun e w' => e = .returned (.tuple #[.slice none 0 0, .bool false]) ∧ Fr NoBlk w6 w') := (vpromiseU_any w6 W.heap.size v.g v.gt v.O v.p v.xs HVO.out (b + 1) 0).mono fun e w' hq => by
                    unfold PromPostU at hq
                    rw [if_pos hp] at hq
                    exact hq
                  clear hp
                  go_wp2_with fail
                  refine HPR.out.mono ?_
                  rintro e w7 ⟨rfl, hf7⟩
                  have HJ7 := Lib.hid (HJ6.out.nofr hf7)
                  have HX7 := Lib.hid HX.out.succ
                  clear hf7 HPR HJ6 HX
                  go_wp2_with fail
                  go_roundw
                  case rel => exact ⟨t + 1, vs, LI, nch, ch, by omega, by go_num, HJ7, HX7⟩
                  case measure => simp [intOf]; omega
                · obtain ⟨us, hus⟩ : ∃ us, us = (geL ltI 0 v.xs).map tri := ⟨_, rfl⟩
                  obtain ⟨nu, hnu⟩ : ∃ nu, nu = us.length := ⟨_, rfl⟩
                  have HUS : Hid (nu = us.length ∧ nu ≤ 64 ∧ ∀ x ∈ us, wf64 x.1) := by
                    have h := prom_ok HVO.out
                    rw [← hus] at h
                    exact ⟨hnu, by rw [hnu]; exact h.1, h.2⟩
                  have HPR : Hid (Calls Try.prog 8 #[.pointer (some ⟨v.g, 0, none⟩), .int .u64 ((b : Int) + 1), .int .i64 0] w6 fun e w' => ∃ A c, e = .returned (.tuple #[.slice A nu c, .bool true]) ∧ (∀ r, ablk A r → w6.heap.size ≤ r) ∧ Rd w' A (vtsI us) ∧ VoU w' W.heap.size v.g v.gt v.O (b + 1) v.xs ∧ Fr (fun r => r = v.g) w6 w') := (vpromiseU_any w6 W.heap.size v.g v.gt v.O v.p v.xs HVO.out (b + 1) 0).mono fun e w' hq => by
                    unfold PromPostU at hq
                    rw [if_neg hp] at hq
                    obtain ⟨A, c, h1, h2, h3, h4⟩ := hq
                    have hl : (geL ltI 0 v.xs).length = nu := by rw [hnu, hus, List.length_map]
                    rw [vals_tri, ← hus, hl] at h2
                    rw [hl] at h1
                    exact ⟨A, c, h1, own_from h2, (own_cells h2).1, h3, h4⟩
                  have HXP : Hid (∃ Vt P, Px k (setN (pvF vs) who (b + 1)) (xvF vs) (setN LI b (promI (LI b) (who : Int) us)) Vt P ch) := by
                    obtain ⟨Vt, P, hx⟩ := HX.out.px
                    have h := hx.prom (i := who) (b := b) HWH.out.1 (by have := HWH.out.2; omega) (by rw [HPV.out.1]; exact hp)
                    rw [HPV.out.2, ← hus] at h
                    exact ⟨Vt, P, h⟩
                  clear hus hnu hp
                  go_wp2_with fail
                  refine HPR.out.mono ?_
                  rintro e w7 ⟨A7, c7, rfl, hab, hr7, hv7, hf7⟩
                  have HJ7 : Hid (JA W w7 k 4 (vs.set who ⟨v.g, v.gt, v.O, b + 1, v.xs⟩) ls LI (some ⟨bA, oA, none⟩) c (some ⟨bB, oB, none⟩) d cm nch ch) := HJ6.out.vturn HV.out (u := ⟨v.g, v.gt, v.O, b + 1, v.xs⟩) rfl hv7 (hf7.mono fun _ _ e => .inl e) (fun r hr => .inl hr)
                  have HPM : Hid (Calls Try.prog 9 #[.pointer (some ⟨a.g, 0, none⟩), .int .i64 (who : Int), .slice A7 nu c7] w7 fun e w' => e = .returned (.tuple #[]) ∧ LdJ w' W.heap.size a (promI (LI b) (who : Int) us) ∧ Fr a.bl w7 w') := by
                    have hbd := HX.out.bounds (b := b) (by have := HWH.out.2; omega)
                    have hnv := HX.out.nv b (by have := HWH.out.2; omega)
                    have hT := HT3.out
                    have hn4 := HN.out.2
                    rw [HUS.out.1]
                    exact (promI_any w7 _ _ _ _ _ (LI b) (HJ7.out.ag.ld b a HA.out) (by omega) (who : Int) (wf64_of (by have := HWH.out.1; omega)) A7 c7 us (by have := HUS.out.2.1; have := HUS.out.1; omega) hr7 HUS.out.2.2 (fun r hr e => by
                      have h1 := hab r hr
                      have h2 := LdJ.lt (HJ6.out.ag.ld b a HA.out) (k := r) (by rcases e with e | e | e; exact .inl e; exact .inr (.inl e); exact .inr (.inr (.inr e)))
                      omega)).mono fun e w' ⟨h1, h2, h3⟩ => ⟨h1, h2, h3.mono fun r _ e => by rcases e with e | e | e; exact .inl e; exact .inr (.inl e); exact .inr (.inr (.inr e))⟩
                  clear hab hr7 hv7 hf7 HPR HJ6
                  go_wp2_with fail
                  refine HPM.out.mono ?_
                  rintro e w8 ⟨rfl, hl8, hf8⟩
                  have HJ8 := Lib.hid (HJ7.out.lturn HA.out hl8 hf8)
                  have HX8 : Hid (JX k (t + 1) (vs.set who ⟨v.g, v.gt, v.O, b + 1, v.xs⟩) (setN LI b (promI (LI b) (who : Int) us)) ch nch) := by
                    refine ⟨?_, fun b' hb' => ?_, by have := HX.out.nc; omega⟩
                    · obtain ⟨Vt, P, hx⟩ := HXP.out
                      refine ⟨Vt, P, ?_⟩
                      rw [pvF_set HV.out, xvF_set HV.out, setN_id (xvF vs) who (a := v.xs) HPV.out.2]
                      exact hx
                    · by_cases e : b' = b
                      · subst e
                        rw [setN_same]
                        have h1 := promI_nv (LI b') (who : Int) us
                        have h2 := HX.out.nv b' hb'
                        have h3 := HUS.out
                        omega
                      · rw [setN_other _ _ e]
                        have := HX.out.nv b' hb'
                        omega
                  clear hl8 hf8 HPM HJ7 HX HXP
                  go_wp2_with fail
                  go_roundw
                  case rel => exact ⟨t + 1, _, _, nch, ch, by omega, by go_num, HJ8, HX8⟩
                  case measure => simp [intOf]; omega
              by_cases hk1 : kq = 1
              · have hkz : bits .and .i64 kd 3 = 1 := by rw [hkq, hk1]; rfl
                clear hkq hkq3 hk0 hk1
                have hw1 : IntKind.i64.wrap (1000 * (b : Int)) = 1000 * (b : Int) := by rw [IntWalk.i64_in _ (by omega)]
                have hw2 : IntKind.i64.wrap (1000 * (b : Int) + (t : Int)) = 1000 * (b : Int) + (t : Int) := by rw [IntWalk.i64_in _ (by have := HT3.out; omega)]
                obtain ⟨val, hval⟩ : ∃ val : Int, val = 1000 * (b : Int) + (t : Int) := ⟨_, rfl⟩
                have HOF : Hid (Calls Try.prog 10 #[.pointer (some ⟨a.g, 0, none⟩), .int .i64 (1000 * (b : Int) + (t : Int))] w6 fun e w' => e = .returned (.bool (offBI (LI b))) ∧ LdJ w' W.heap.size a (offI (LI b) val) ∧ Fr a.bl w6 w') := by
                  rw [← hval]
                  exact (offerI_any w6 _ _ _ _ _ (LI b) HLO.out (by have := HX.out.nv b g1; have := HT3.out; omega) val).mono fun e w' ⟨h1, h2, h3⟩ => ⟨h1, h2, h3.mono fun r _ e => .inr (.inr (.inr e))⟩
                clear hval
                go_wp2_with fail
                refine HOF.out.mono ?_
                rintro e w7 ⟨rfl, hl7, hf7⟩
                have HJ7 := Lib.hid (HJ6.out.lturn HA.out hl7 hf7)
                have HX7 : Hid (JX k (t + 1) vs (setN LI b (offI (LI b) val)) ch nch) := by
                  refine ⟨?_, fun b' hb' => ?_, by have := HX.out.nc; omega⟩
                  · obtain ⟨Vt, P, hx⟩ := HX.out.px
                    exact ⟨Vt, P, hx.offer (by have := HWH.out.2; omega) val⟩
                  · by_cases e : b' = b
                    · subst e
                      rw [setN_same]
                      have h1 := offI_nv (LI b') val
                      have h2 := HX.out.nv b' hb'
                      omega
                    · rw [setN_other _ _ e]
                      have := HX.out.nv b' hb'
                      omega
                clear hl7 hf7 HOF HJ6 HX
                go_wp2_with fail
                go_roundw
                case rel => exact ⟨t + 1, vs, _, nch, ch, by omega, by go_num, HJ7, HX7⟩
                case measure => simp [intOf]; omega
              · have e0 : (bits .and .i64 kd 3 == 0) = false := by rw [hkq]; exact beq_eq_false_iff_ne.2 (by omega)
                have e1 : (bits .and .i64 kd 3 == 1) = false := by rw [hkq]; exact beq_eq_false_iff_ne.2 (by omega)
                have e2 : ¬ bits .and .i64 kd 3 = 0 := by rw [hkq]; omega
                have e3 : ¬ bits .and .i64 kd 3 = 1 := by rw [hkq]; omega
                clear hkq hkq3 hk0 hk1
                obtain ⟨sl, hsl⟩ : ∃ sl, sl = (LI b).slot := ⟨_, rfl⟩
                have HSL : Hid (sl = (LI b).slot ∧ sl ≤ 64) := ⟨hsl, by rw [hsl]; exact HLO.out.sl⟩
                have HSC := Lib.hid (slotI_any w6 _ _ _ _ _ (LI b) HLO.out)
                rw [← hsl] at HSC
                clear hsl
                go_wp2_with fail
                refine HSC.out.mono ?_
                rintro e w7 ⟨rfl, rfl⟩
                have HVC := Lib.hid (valueI_any w6 _ _ _ _ _ (LI b) HLO.out)
                clear HSC
                cases hvo : valOI (LI b) with
                | none =>
                  have HVN : Hid (Calls Try.prog 12 #[.pointer (some ⟨a.g, 0, none⟩)] w6 fun e w' => e = .returned (.tuple #[.int .i64 0, .bool false]) ∧ Fr NoBlk w6 w') := HVC.out.mono fun e w' ⟨h1, h2⟩ => ⟨by rw [h1, hvo]; rfl, h2⟩
                  clear hvo HVC
                  go_wp2_with fail
                  refine HVN.out.mono ?_
                  rintro e w7 ⟨rfl, hf7⟩
                  have HJ7 := Lib.hid (HJ6.out.nofr hf7)
                  have HX7 := Lib.hid HX.out.succ
                  clear hf7 HVN HJ6 HX
                  go_wp2_with fail
                  go_roundw
                  case rel => exact ⟨t + 1, vs, LI, nch, ch, by omega, by go_num, HJ7, HX7⟩
                  case measure => simp [intOf]; omega
                | some x =>
                  have HVN : Hid (Calls Try.prog 12 #[.pointer (some ⟨a.g, 0, none⟩)] w6 fun e w' => e = .returned (.tuple #[.int .i64 x, .bool true]) ∧ Fr NoBlk w6 w') := HVC.out.mono fun e w' ⟨h1, h2⟩ => ⟨by rw [h1, hvo]; rfl, h2⟩
                  have HVX := Lib.hid hvo
                  clear hvo HVC
                  go_wp2_with fail
                  refine HVN.out.mono ?_
                  rintro e w7 ⟨rfl, hf7⟩
                  have HJ7 := Lib.hid (HJ6.out.nofr hf7)
                  have HVO7 := Lib.hid (HVO.out.nofr hf7)
                  clear hf7 HVN HJ6 HVO HLO
                  by_cases htk : takesU v.p ⟨(sl : Int), b + 1, x⟩ = true
                  · have HAC : Hid (Calls Try.prog 13 #[.pointer (some ⟨v.g, 0, none⟩), .agg #[.int .i64 (sl : Int), .int .u64 ((b : Int) + 1), .int .i64 x]] w7 fun e w' => e = .returned (.bool true) ∧ ∃ O', VoU w' W.heap.size v.g v.gt O' (b + 1) (putL ltI (sl : Int) ⟨(sl : Int), b + 1, x⟩ v.xs) ∧ (∀ r, O' r → v.O r ∨ w7.heap.size ≤ r) ∧ Fr (fun r => r = v.g ∨ v.O r) w7 w') := (vacceptU_any w7 W.heap.size v.g v.gt v.O v.p v.xs HVO7.out ⟨(sl : Int), b + 1, x⟩).mono fun e w' hq => by
                      obtain ⟨h1, O', h2, h3, h4⟩ := hq
                      rw [htk] at h1 h2
                      exact ⟨h1, O', h2, h3, h4⟩
                    have HXA : Hid (∃ Vt P, Px k (setN (pvF vs) who (b + 1)) (setN (xvF vs) who (putL ltI (sl : Int) ⟨(sl : Int), b + 1, x⟩ v.xs)) LI Vt P ch ∧ Vt who (b + 1) (sl : Int) ∧ P (b + 1) (sl : Int) = some x) := by
                      obtain ⟨Vt, P, hx⟩ := HX.out.px
                      obtain ⟨Vt', P', k1, k2, k3⟩ := hx.acc (i := who) (b := b) HWH.out.1 (by have := HWH.out.2; omega) HVX.out (by rw [HPV.out.1, ← HSL.out.1]; exact htk)
                      rw [HPV.out.2, ← HSL.out.1] at k1
                      rw [← HSL.out.1] at k2 k3
                      exact ⟨Vt', P', k1, k2, k3⟩
                    clear htk
                    go_wp2_with fail
                    refine HAC.out.mono ?_
                    rintro e w8 ⟨rfl, O', hv8, hO8, hf8⟩
                    have HJ8 : Hid (JA W w8 k 4 (vs.set who ⟨v.g, v.gt, O', b + 1, putL ltI (sl : Int) ⟨(sl : Int), b + 1, x⟩ v.xs⟩) ls LI (some ⟨bA, oA, none⟩) c (some ⟨bB, oB, none⟩) d cm nch ch) := HJ7.out.vturn HV.out (u := ⟨v.g, v.gt, O', b + 1, putL ltI (sl : Int) ⟨(sl : Int), b + 1, x⟩ v.xs⟩) rfl hv8 hf8 (fun r hr => by
                      rcases hr with hr | hr
                      · exact .inl (.inl hr)
                      · exact (hO8 r hr).imp (fun x => .inr x) id)
                    have HLO8 := Lib.hid (HJ8.out.ag.ld b a HA.out)
                    obtain ⟨us, hus⟩ : ∃ us, us = vs.set who ⟨v.g, v.gt, O', b + 1, putL ltI (sl : Int) ⟨(sl : Int), b + 1, x⟩ v.xs⟩ := ⟨_, rfl⟩
                    have HUS : Hid (pvF us = setN (pvF vs) who (b + 1) ∧ xvF us = setN (xvF vs) who (putL ltI (sl : Int) ⟨(sl : Int), b + 1, x⟩ v.xs)) := by rw [hus]; exact ⟨pvF_set HV.out, xvF_set HV.out⟩
                    rw [← hus] at HJ8
                    obtain ⟨rr, hrr⟩ : ∃ rr, rr = takenI (LI b) (who : Int) (sl : Int) := ⟨_, rfl⟩
                    have HRR := Lib.hid hrr
                    have HTA := Lib.hid (takenI_any w8 _ _ _ _ _ (LI b) HLO8.out (by have := (HX.out.bounds g1).2; have := HN.out.2; omega) (who : Int) (sl : Int) (wf64_of (by have := HWH.out.1; have := HN.out.2; omega)))
                    rw [← hrr] at HTA
                    have HPT : Hid ((rr.2 = none ∧ JX k (t + 1) us (setN LI b rr.1) ch nch) ∨ (rr.2 = some x ∧ (∀ y, ch (sl : Int) = some y → y = x) ∧ ∀ nch', nch' ≤ nch + 1 → JX k (t + 1) us (setN LI b rr.1) (updK ch (sl : Int) (some x)) nch')) := by
                      obtain ⟨Vt, P, k1, k2, k3⟩ := HXA.out
                      rw [← HUS.out.1, ← HUS.out.2] at k1
                      have hnv : ∀ b', b' < 4 → (setN LI b rr.1 b').nv ≤ 65 * (t + 1) := fun b' hb' => by
                        by_cases e : b' = b
                        · subst e
                          rw [setN_same, HRR.out]
                          have h1 := takenI_nv (LI b') (who : Int) (sl : Int)
                          have h2 := HX.out.nv b' hb'
                          omega
                        · rw [setN_other _ _ e]
                          have := HX.out.nv b' hb'
                          omega
                      have hnc := HX.out.nc
                      have h := k1.taken (i := who) (b := b) (x := x) HWH.out.1 (by have := HWH.out.2; omega) HVX.out (by rw [← HSL.out.1]; exact k2) (by rw [← HSL.out.1]; exact k3)
                      rw [← HSL.out.1, ← HRR.out] at h
                      rcases h with ⟨h1, h2⟩ | ⟨h1, h2, h3⟩
                      · exact .inl ⟨h1, ⟨Vt, P, h2⟩, hnv, by omega⟩
                      · exact .inr ⟨h1, h2, fun nch' hn => ⟨⟨Vt, P, h3⟩, hnv, by omega⟩⟩
                    clear hv8 hO8 hf8 HAC HJ7 HVO7 HXA hus hrr HX
                    rcases HPT.out with ⟨h1, h2⟩ | ⟨h1, h2, h3⟩
                    · have HTN : Hid (Calls Try.prog 14 #[.pointer (some ⟨a.g, 0, none⟩), .int .i64 (who : Int), .int .i64 (sl : Int)] w8 fun e w' => e = .returned (.tuple #[.int .i64 0, .bool false]) ∧ LdJ w' W.heap.size a rr.1 ∧ Fr a.bl w8 w') := HTA.out.mono fun e w' ⟨k1, k2, k3⟩ => ⟨by rw [k1, h1]; rfl, k2, k3.mono fun r _ e => by rcases e with e | e | e; exact .inl e; exact .inr (.inr (.inl e)); exact .inr (.inr (.inr e))⟩
                      have HX9 := Lib.hid h2
                      clear h1 h2 HTA HPT
                      go_wp2_with fail
                      refine HTN.out.mono ?_
                      rintro e w9 ⟨rfl, hl9, hf9⟩
                      have HJ9 := Lib.hid (HJ8.out.lturn HA.out hl9 hf9)
                      clear hl9 hf9 HTN HJ8
                      go_wp2_with fail
                      go_roundw
                      case rel => exact ⟨t + 1, us, _, nch, ch, by omega, by go_num, HJ9, HX9⟩
                      case measure => simp [intOf]; omega
                    · have HTN : Hid (Calls Try.prog 14 #[.pointer (some ⟨a.g, 0, none⟩), .int .i64 (who : Int), .int .i64 (sl : Int)] w8 fun e w' => e = .returned (.tuple #[.int .i64 x, .bool true]) ∧ LdJ w' W.heap.size a rr.1 ∧ Fr a.bl w8 w') := HTA.out.mono fun e w' ⟨k1, k2, k3⟩ => ⟨by rw [k1, h1]; rfl, k2, k3.mono fun r _ e => by rcases e with e | e | e; exact .inl e; exact .inr (.inr (.inl e)); exact .inr (.inr (.inr e))⟩
                      have HX9 := Lib.hid h3
                      have HCX := Lib.hid h2
                      clear h1 h2 h3 HTA HPT
                      go_wp2_with fail
                      refine HTN.out.mono ?_
                      rintro e w9 ⟨rfl, hl9, hf9⟩
                      have HJ9 := Lib.hid (HJ8.out.lturn HA.out hl9 hf9)
                      have hwf : wf64 (sl : Int) := wf64_of (by have := HSL.out.2; omega)
                      have hlook := HJ9.out.km.look Try.underlying3 Try.underlying26 (z := (Value.int .i64 0)) (by kernel_rfl) hwf
                      obtain ⟨wx, hput, hkm, hfx⟩ := HJ9.out.km.put Try.underlying3 Try.underlying26 (by have := HX9.out nch (Nat.le_succ _); have := this.nc; have := HT3.out; unfold maxLen; omega) hwf (evI x)
                      have HJX := Lib.hid (HJ9.out.kput hkm hfx)
                      have HXX := Lib.hid (HX9.out (if ((fun s => (ch s).map evI) (sl : Int)).isSome then nch else nch + 1) (by split <;> omega))
                      have hxx : (x != x) = false := by simp
                      unfold evI at hput
                      clear hl9 hf9 HTN HJ8 HX9 hkm hfx hwf HJ9
                      cases hch : ch (sl : Int) with
                      | none =>
                        rw [show ((ch (sl : Int)).map evI) = none from by rw [hch]; rfl] at hlook
                        clear HCX
                        go_wp2_with fail
                        go_roundw
                        case rel => exact ⟨t + 1, us, _, _, _, by omega, by go_num, HJX, HXX⟩
                        case measure => simp [intOf]; omega
                      | some y =>
                        obtain rfl : y = x := HCX.out y hch
                        rw [show ((ch (sl : Int)).map evI) = some (.int .i64 y) from by rw [hch]; rfl] at hlook
                        clear HCX
                        go_wp2_with fail
                        go_roundw
                        case rel => exact ⟨t + 1, us, _, _, _, by omega, by go_num, HJX, HXX⟩
                        case measure => simp [intOf]; omega
                  · have htf : takesU v.p ⟨(sl : Int), b + 1, x⟩ = false := Bool.eq_false_iff.2 htk
                    have HAC : Hid (Calls Try.prog 13 #[.pointer (some ⟨v.g, 0, none⟩), .agg #[.int .i64 (sl : Int), .int .u64 ((b : Int) + 1), .int .i64 x]] w7 fun e w' => e = .returned (.bool false) ∧ ∃ O', VoU w' W.heap.size v.g v.gt O' v.p v.xs ∧ (∀ r, O' r → v.O r ∨ w7.heap.size ≤ r) ∧ Fr (fun r => r = v.g ∨ v.O r) w7 w') := (vacceptU_any w7 W.heap.size v.g v.gt v.O v.p v.xs HVO7.out ⟨(sl : Int), b + 1, x⟩).mono fun e w' hq => by
                      obtain ⟨h1, O', h2, h3, h4⟩ := hq
                      rw [htf] at h1 h2
                      exact ⟨h1, O', h2, h3, h4⟩
                    clear htk htf
                    go_wp2_with fail
                    refine HAC.out.mono ?_
                    rintro e w8 ⟨rfl, O', hv8, hO8, hf8⟩
                    have HJ8 : Hid (JA W w8 k 4 (vs.set who ⟨v.g, v.gt, O', v.p, v.xs⟩) ls LI (some ⟨bA, oA, none⟩) c (some ⟨bB, oB, none⟩) d cm nch ch) := HJ7.out.vturn HV.out (u := ⟨v.g, v.gt, O', v.p, v.xs⟩) rfl hv8 hf8 (fun r hr => by
                      rcases hr with hr | hr
                      · exact .inl (.inl hr)
                      · exact (hO8 r hr).imp (fun x => .inr x) id)
                    have HX8 : Hid (JX k (t + 1) (vs.set who ⟨v.g, v.gt, O', v.p, v.xs⟩) LI ch nch) := by
                      obtain ⟨Vt, P, hx⟩ := HX.out.succ.px
                      refine ⟨⟨Vt, P, ?_⟩, HX.out.succ.nv, HX.out.succ.nc⟩
                      rw [pvF_set HV.out, xvF_set HV.out, setN_id (pvF vs) who (a := v.p) HPV.out.1, setN_id (xvF vs) who (a := v.xs) HPV.out.2]
                      exact hx
                    clear hv8 hO8 hf8 HAC HJ7 HX
                    go_wp2_with fail
                    go_roundw
                    case rel => exact ⟨t + 1, _, LI, nch, ch, by omega, by go_num, HJ8, HX8⟩
                    case measure => simp [intOf]; omega
            · have hti : ¬ (t : Int) < (N : Int) := by omega
              go_wp2_with fail
              go_ret
              exact ⟨rfl, HJ.out.ag.fr⟩

theorem paramsOk : ∀ t ∈ Try.f3.params.toList, Try.prog.readableRec t = true ∧ t < Try.prog.types.size := fun t ht => by
  have h := List.all_eq_true.1 (show (Try.f3.params.toList.all fun t => Try.prog.readableRec t && decide (t < Try.prog.types.size)) = true by kernel_rfl) t ht
  simpa using h

set_option maxRecDepth 100000 in
theorem lifted (os : Os) (started : os.Started) (H : Type) (enc : TypeId × Value → H) :
    ReturnsInHanded {} Try.checked os 3 .any (Rows.leadAgreesSpec.pre6 enc Try.prog Try.f3 Rows.leadAgreesRow.domain false) (Rows.leadAgreesSpec.post enc Try.prog Try.f3 false true false false) := by
  refine returnsInHanded_of_change (C := Try.checked) own started (by kernel_rfl) Try.func3
    (ChangeSpec.witness6 (enc := enc) (C := Try.checked) false ⟨#[], #[.int .i64 0, .slice none 0 0], []⟩ 8 (by kernel_rfl) (by kernel_rfl) (by kernel_rfl) (by kernel_rfl)) ?_
  intro W base args ds gs before hval0 hW _ _
  have hval : ∀ (j : Nat) t v, Try.f3.params[j]? = some t → args[j]? = some v → Value.okWide Try.prog W .any base t v := hval0
  have hW' := hW
  obtain ⟨p, q, hA0, hV, rfl, _, _⟩ := hW
  have hA : DataW.TrodAll enc Try.prog W 0 (fun _ => true) true Try.f3.params.toList args.toList ds p := hA0
  rw [Try.params3] at hA hval
  obtain ⟨v0, vs0, d0, ds0, p0, q0, hargs, rfl, rfl, h0, r0⟩ := trodAll_cons hA
  obtain ⟨v1, vs1, d1, ds1, p1, q1, rfl, rfl, rfl, h1, r1⟩ := trodAll_cons r0
  obtain ⟨rfl, rfl, rfl⟩ := trodAll_nil r1
  obtain rfl : args = #[v0, v1] := by cases args; simp_all
  obtain ⟨rfl, rfl⟩ := trodVars_none hV
  obtain ⟨z0, rfl, rfl, rfl, w0⟩ := open_int Try.underlying3 (hval 0 _ v0 rfl rfl) h0
  obtain ⟨As, cs, l, rfl, hr, _, _, _⟩ := open_stps (hval 1 _ v1 rfl rfl) h1
  have walk := walk W z0 As cs l hr
  clear hA0 hval0
  refine walk.mono fun e W' ⟨he, hf⟩ => ?_
  subst he
  exact ⟨_, rfl, law_post laidOut paramsOk rfl rfl Try.underlying4 hW' rfl rfl rfl hf⟩

theorem said : Rows.LeadAgreesSaid :=
  OpenClaim.holds_of_wide 3 Try.f3 rfl rfl rfl rfl rfl rfl rfl ⟨rfl, rfl, rfl, rfl, rfl⟩ rfl rfl rfl rfl rfl (by kernel_rfl) Try.func3 (by kernel_rfl)
    (of_decide_eq_true (by kernel_rfl)) (by unfold Func.isWrapper; first | (rw [if_pos (by decide +kernel)]; kernel_rfl) | (rw [if_neg (by decide +kernel)]; exact ⟨rfl, rfl⟩))
    (fun os started H enc _ => lifted os started H enc)
end Go.Proofs.Ytlajhnplkfiiiaa.leadAgrees
