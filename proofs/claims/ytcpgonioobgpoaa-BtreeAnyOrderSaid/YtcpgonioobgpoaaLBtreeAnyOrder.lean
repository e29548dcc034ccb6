/- BtreeAnyOrder is true: in whatever order keys are put in, the tree has them in their order, with the value that each got last. No condition. -/
import Derived.Test.YtcpgonioobgpoaaAnyP
import Derived.Test.YtcpgonioobgpoaaGreat2
import Derived.Deep.RegionHeld3
namespace Go.Proofs.Ytcpgonioobgpoaa.btreeAnyOrder
open Go.ChangeShapes Go.WideShapes Go.ChangeAt Go.RowKit

theorem low_bits (k : Int) (m : Nat) (hm : m ≤ 65535) : ∃ q : Nat, bits .and .i64 k (m : Int) = (q : Int) ∧ q ≤ m := by
  have e : (BitVec.ofInt 64 (m : Int)).toNat = m := by rw [BitVec.ofInt_natCast, BitVec.toNat_ofNat]; omega
  have hq : (BitVec.ofInt 64 k &&& BitVec.ofInt 64 (m : Int)).toNat ≤ m := by
    rw [BitVec.toNat_and]
    have := Nat.and_le_right (n := (BitVec.ofInt 64 k).toNat) (m := (BitVec.ofInt 64 (m : Int)).toNat)
    omega
  refine ⟨(BitVec.ofInt 64 k &&& BitVec.ofInt 64 (m : Int)).toNat, ?_, hq⟩
  show IntKind.i64.wrap (((BitVec.ofInt 64 k &&& BitVec.ofInt 64 (m : Int)).toNat : Nat) : Int) = _
  generalize (BitVec.ofInt 64 k &&& BitVec.ofInt 64 (m : Int)).toNat = q at *
  exact IntWalk.i64_in _ (by omega)
abbrev SM (w : World) (b s : Nat) (f : Bs → Option Value) : Prop := Kg Try.prog 9 (fun l : Bs => Lit.string l) (fun l : Bs => l.length ≤ maxLen) w b s f
theorem skey : KeyT Try.prog 9 (fun l : Bs => Value.string ⟨l.toArray⟩) (fun l : Bs => Lit.string l) (fun l : Bs => l.length ≤ maxLen) := strKeyT Try.underlying9
theorem zeroI (w : World) : (zeroValue 3).run Try.prog w = .ok (.int .i64 0) w := by kernel_rfl
theorem sInfo : (Try.prog.info? 9).map (fun i => (i.zero, i.size, i.bytes)) = some (some (.string ByteArray.empty), 1, 16) := by kernel_rfl
theorem info_partsA {o : Option TypeInfo} {z : Value} {n b : Nat} (h : o.map (fun i => (i.zero, i.size, i.bytes)) = some (some z, n, b)) : ∃ i, o = some i ∧ i.zero = some z ∧ i.size = n ∧ i.bytes = b := by
  cases o with
  | none => cases h
  | some i =>
    simp only [Option.map_some, Option.some.injEq, Prod.mk.injEq] at h
    exact ⟨i, rfl, h.1, h.2.1, h.2.2⟩
/-- both trees and the map in memory. -/
structure Mem4 (W : World) (ga gb bm : Nat) (Oa Ob : Nat → Prop) (xs zs : List ItS) (s : Nat) (f : Bs → Option Value) (wr : World) : Prop where
  ta : TreeS wr ga Oa xs
  tb : TreeS wr gb Ob zs
  dj : Dj Oa Ob
  oa : ∀ b, Oa b → W.heap.size ≤ b
  ob : ∀ b, Ob b → W.heap.size ≤ b
  mp : SM wr bm s f
  mb : W.heap.size ≤ bm ∧ ¬ Oa bm ∧ ¬ Ob bm
  fr : Fr NoBlk W wr
section
variable {W wr w' : World} {ga gb bm s s' : Nat} {Oa Ob O' : Nat → Prop} {xs zs ys : List ItS} {f f' : Bs → Option Value} {C : Nat → Prop}
theorem Mem4.frC (h : Mem4 W ga gb bm Oa Ob xs zs s f wr) (hf : Fr C wr w') (ha : ∀ b, Oa b → ¬ C b) (hb : ∀ b, Ob b → ¬ C b) (hm : ¬ C bm) (hC : ∀ b, C b → W.heap.size ≤ b) : Mem4 W ga gb bm Oa Ob xs zs s f w' :=
  ⟨h.ta.fr hf ha, h.tb.fr hf hb, h.dj, h.oa, h.ob, h.mp.fr hf hm, h.mb, h.fr.step hf fun b hl e => by have := hC b e; omega⟩
theorem Mem4.nofr (h : Mem4 W ga gb bm Oa Ob xs zs s f wr) (hf : Fr NoBlk wr w') : Mem4 W ga gb bm Oa Ob xs zs s f w' := h.frC hf (fun _ _ e => e) (fun _ _ e => e) (fun e => e) fun _ e => e.elim
theorem Mem4.putA (h : Mem4 W ga gb bm Oa Ob xs zs s f wr) (ht : TreeS w' ga O' ys) (hs : Stp wr w' Oa O') : Mem4 W ga gb bm O' Ob ys zs s f w' := by
  have hn := Stp.no h.fr hs h.oa
  refine ⟨ht, h.tb.fr hs.fr fun b hb e => h.dj b e hb, fun b x y => ?_, hn.2, h.ob, h.mp.fr hs.fr h.mb.2.1, ⟨h.mb.1, fun e => ?_, h.mb.2.2⟩, hn.1⟩
  · rcases hs.new b x with x | x
    · exact h.dj b x y
    · have := h.tb.lt y; omega
  · rcases hs.new bm e with e | e
    · exact h.mb.2.1 e
    · have := h.mp.lt; omega
theorem Mem4.putB (h : Mem4 W ga gb bm Oa Ob xs zs s f wr) (ht : TreeS w' gb O' ys) (hs : Stp wr w' Ob O') : Mem4 W ga gb bm Oa O' xs ys s f w' := by
  have hn := Stp.no h.fr hs h.ob
  refine ⟨h.ta.fr hs.fr fun b hb e => h.dj b hb e, ht, fun b x y => ?_, h.oa, hn.2, h.mp.fr hs.fr h.mb.2.2, ⟨h.mb.1, h.mb.2.1, fun e => ?_⟩, hn.1⟩
  · rcases hs.new b y with y | y
    · exact h.dj b x y
    · have := h.ta.lt x; omega
  · rcases hs.new bm e with e | e
    · exact h.mb.2.2 e
    · have := h.mp.lt; omega
theorem Mem4.map (h : Mem4 W ga gb bm Oa Ob xs zs s f wr) (hm : SM w' bm s' f') (hf : Fr (fun j => j = bm) wr w') : Mem4 W ga gb bm Oa Ob xs zs s' f' w' :=
  ⟨h.ta.fr hf fun b hb e => h.mb.2.1 (e ▸ hb), h.tb.fr hf fun b hb e => h.mb.2.2 (e ▸ hb), h.dj, h.oa, h.ob, hm, h.mb, h.fr.step hf fun b hl e => by have := h.mb.1; have : b = bm := e; omega⟩
theorem SM.get (h : SM wr bm s f) {key : Bs} {v : Int} (hk : key.length ≤ maxLen) (hf : f key = some (.int .i64 v)) : (Instr.lookup 57 (.map (some bm)) (.string (bstr key)) false).run Try.prog wr = .ok (.int .i64 v) wr := by
  have := Kg.look1 h skey Try.underlying57 (zeroI wr) (x := key) hk
  rw [hf] at this
  exact this
end

set_option maxRecDepth 100000 in
set_option maxHeartbeats 2000000 in
theorem walk (W : World) (A : Option Addr) (c : Nat) (l : List Opn) (hr : Rd W A (opsc l)) (hx : ∀ x ∈ l, OpIn x) (hm : l.length ≤ maxLen) (P2 : Option Addr) (pc : Nat) (ps : List Int) (hp : Rd W P2 (ps.map fun z => .int .i64 z)) (hpm : ps.length ≤ maxLen) :
    Calls Try.prog 7 #[.slice A l.length c, .slice P2 ps.length pc] W fun e W' => e = .returned (.bool true) ∧ Fr NoBlk W W' := by
  have HS := Lib.hid (speaks_any W)
  have HR := Lib.hid hr
  have HX := Lib.hid hx
  have HM := Lib.hid hm
  have HP := Lib.hid hp
  obtain ⟨n, hn⟩ : ∃ n, n = l.length := ⟨_, rfl⟩
  have HN := Lib.hid hn
  obtain ⟨np, hnp⟩ : ∃ n, n = ps.length := ⟨_, rfl⟩
  have HNP := Lib.hid hnp
  rw [← hnp]
  unfold maxLen at hpm
  have hpm' : np ≤ 9223372036854775807 := by rw [hnp]; exact hpm
  clear hr hx hm hp hnp hpm
  go_enter Try.func7, Try.ntmps7
  go_wp2_with fail
  refine HS.out.mono ?_
  clear HS
  rintro e w1 ⟨rfl, hf1⟩
  have HF1 := Lib.hid hf1
  clear hf1
  go_wp2_with fail
  refine (great_any w1 A c l (HR.out.nofr HF1.out) HX.out HM.out).mono ?_
  rintro e w1' ⟨⟨b, rfl, hb⟩, rfl⟩
  cases b with
  | true =>
    go_wp2_with fail
    go_ret
    exact ⟨rfl, HF1.out⟩
  | false =>
    have HN2 : Hid (n ≤ 2000) := by show n ≤ 2000; rw [hn]; exact hb rfl
    rw [← hn]
    clear hb hn
    by_cases hp5 : (500 : Int) < (np : Int)
    · go_wp2_with fail
      go_ret
      exact ⟨rfl, HF1.out⟩
    have HNW := Lib.hid (newS_any w1)
    go_wp2_with fail
    refine HNW.out.mono ?_
    clear HNW
    rintro e w2 ⟨ga, Oa0, rfl, hta, hOa, hf2⟩
    have HTA := Lib.hid (And.intro hta (And.intro hOa hf2))
    have HNW := Lib.hid (newS_any w2)
    clear hta hOa hf2
    go_wp2_with fail
    refine HNW.out.mono ?_
    clear HNW
    rintro e w3 ⟨gb, Ob0, rfl, htb, hOb, hf3⟩
    obtain ⟨bm, hbm⟩ : ∃ bm, bm = w3.heap.size := ⟨_, rfl⟩
    obtain ⟨w4, hw4⟩ : ∃ w4, w4 = w3.alloc (.map #[] 0) := ⟨_, rfl⟩
    have HI0 : Hid (Mem4 W ga gb bm Oa0 Ob0 [] [] 0 (fun _ => none) w4) := by
      obtain ⟨hta, hOa, hf2⟩ := HTA.out
      have hfa : Fr NoBlk w3 w4 := by rw [hw4]; exact (Fr.refl _ _).alloc _
      have hta3 := hta.nofr hf3
      refine ⟨hta3.nofr hfa, htb.nofr hfa, fun b x y => by have := hta.lt x; have := hOb b y; omega, fun b hb => Nat.le_trans HF1.out.size (hOa b hb), fun b hb => Nat.le_trans HF1.out.size (Nat.le_trans hf2.size (hOb b hb)), ?_, ⟨?_, fun e => by have := hta3.lt e; omega, fun e => by have := htb.lt e; omega⟩, ((HF1.out.trans hf2).trans hf3).trans hfa⟩
      · rw [hw4, hbm]; exact Kg.new w3
      · rw [hbm]; exact ((HF1.out.trans hf2).trans hf3).size
    clear htb hOb hf3 HTA
    have hmm := @run_makeMap Try.prog
    go_wp2_with fail
    clear hmm
    rw [← hw4, ← hbm]
    clear hw4 hbm
    go_loopw [40] (fun i wr => ∃ (k : Nat) (Oa : Nat → Prop) (xs : List ItS) (f : Bs → Option Value), i = .int .i64 (k : Int) ∧ k ≤ n ∧ Hid (Mem4 W ga gb bm Oa Ob0 xs [] xs.length f wr ∧ Rel f xs ∧ xs.length ≤ k ∧ ∀ p ∈ xs, p.1.length ≤ maxLen)) (fun i _ => (n - intOf i).toNat)
    case atStart => exact ⟨0, Oa0, [], _, rfl, Nat.zero_le _, HI0.out, (fun key => ⟨fun v h => (by cases h), fun u h => (by cases h)⟩), Nat.le_refl _, fun _ h => by cases h⟩
    case round =>
      clear HI0
      obtain ⟨k, Oa, xs, f, rfl, hk, HI⟩ := hrel
      by_cases hkn : k < n
      · have hki : (k : Int) < (n : Int) := by omega
        obtain ⟨x, hx⟩ : ∃ x, l[k]? = some x := ⟨_, List.getElem?_eq_getElem (by rw [← HN.out]; exact hkn)⟩
        have HKL : Hid (x.key.length ≤ maxLen) := by show _ ≤ maxLen; unfold maxLen; exact HX.out x (List.mem_of_getElem? hx)
        obtain ⟨kind, key, v⟩ := x
        dsimp only at HKL
        obtain ⟨b, o, hA, d0, d1, d2⟩ := (HR.out.nofr HI.out.1.fr).opn hx
        subst hA
        dsimp only at d0 d1 d2
        have hwr : IntKind.i64.wrap ((k : Int) + 1) = (k : Int) + 1 := by have := HN2.out; exact IntWalk.i64_in _ (by omega)
        obtain ⟨ob, hob⟩ : ∃ ob, ob = wr.heap.size := ⟨_, rfl⟩
        obtain ⟨w5, hw5⟩ : ∃ w5, w5 = wr.alloc (.cells #[.int .i64 kind, .string (bstr key), .int .i64 v] 32) := ⟨_, rfl⟩
        have hf5 : Fr NoBlk wr w5 := by rw [hw5]; exact (Fr.refl _ _).alloc _
        have HB5 : Hid (Bk w5 ob 32 #[.int .i64 kind, .string (bstr key), .int .i64 v] ∧ ¬ Oa ob) := by
          refine ⟨by rw [hw5, hob]; exact Bk.new _ _ _, fun e => ?_⟩
          have := HI.out.1.ta.lt e
          omega
        have H5 := Lib.hid (HI.out.1.nofr hf5)
        have HC := Lib.hid (treePutS_any w5 ga Oa xs H5.out.ta (by have := HI.out.2.2.1; have := HN2.out; omega) key v)
        have HY := Lib.hid HI.out.2
        have HUP := Lib.hid H5.out.ta.up
        have HW5 := Lib.hid hw5
        have HOB := Lib.hid hob
        clear hx hw5 hob HI hf5
        go_wp2_with fail
        rw [← HW5.out, ← HOB.out]
        clear HW5 HOB d0 d1 d2
        refine HC.out.mono ?_
        clear HC
        rintro e w6 ⟨old, had, O6, rfl, _, ht6, hs6⟩
        have H6 := Lib.hid (H5.out.putA ht6 hs6)
        have HB6 := Lib.hid (HB5.out.1.fr hs6.fr HB5.out.2)
        have e1 : w6.cell? ⟨ob, 1, none⟩ = some (.string (bstr key)) := HB6.out.cell 1
        have e2 : w6.cell? ⟨ob, 2, none⟩ = some (.int .i64 v) := HB6.out.cell 2
        obtain ⟨w7, hrun, hkg, hf7⟩ := Kg.put H6.out.mp skey Try.underlying57 (by have := HY.out.2.1; have := HN2.out; unfold maxLen; omega) (x := key) HKL.out (.int .i64 v)
        have hrun' : (Instr.mapUpdate 57 (.map (some bm)) (.string (bstr key)) (.int .i64 v)).run Try.prog w6 = .ok () w7 := hrun
        have H7 : Hid (Mem4 W ga gb bm O6 Ob0 (putL Op.bytesLess key v xs) [] (putL Op.bytesLess key v xs).length (updG f key (some (.int .i64 v))) w7) := by
          show Mem4 _ _ _ _ _ _ _ _ _ _ _
          rw [← HY.out.1.size HUP.out key v]
          exact H6.out.map hkg hf7
        have HLE : Hid ((putL Op.bytesLess key v xs).length ≤ k + 1) := by
          show _ ≤ _
          rw [← HY.out.1.size HUP.out key v]
          have := HY.out.2.1
          split <;> omega
        clear hrun hkg hf7 ht6 hs6 HB5 HB6 H5 H6
        go_wp2_with fail
        go_roundw
        case rel =>
          refine ⟨k + 1, O6, _, _, by push_cast; rfl, by omega, H7.out, HY.out.1.put key v, HLE.out, fun p hp => ?_⟩
          rcases (mem_putG linS).1 hp with rfl | hp
          · exact HKL.out
          · exact HY.out.2.2 p hp.1
        case measure => simp [intOf]; omega
      · have hki : ¬ (k : Int) < (n : Int) := by omega
        obtain ⟨m, hm⟩ : ∃ m, m = xs.length := ⟨_, rfl⟩
        have HMX := Lib.hid hm
        have HML : Hid (m ≤ 2000) := by show m ≤ _; rw [hm]; have := HI.out.2.2.1; have := HN2.out; omega
        have H0 : Hid (Mem4 W ga gb bm Oa Ob0 xs [] m f wr) := by show Mem4 _ _ _ _ _ _ _ _ _ _ _; rw [hm]; exact HI.out.1
        have HREL := Lib.hid HI.out.2.1
        have HOK := Lib.hid HI.out.2.2.2
        have HUX := Lib.hid H0.out.ta.up
        have HK := Lib.hid (treeKeysS_any wr ga Oa xs H0.out.ta (by rw [← hm]; have := HML.out; omega))
        rw [← hm] at HK
        clear hk hkn HI hm
        go_wp2_with fail
        refine HK.out.mono ?_
        clear HK
        rintro e w5 ⟨A5, c5, rfl, ho5, hf5⟩
        have HI2 : Hid (Mem4 W ga gb bm Oa Ob0 xs [] m f w5 ∧ Part xs [] (xs.map Prod.fst) ∧ UpI Op.bytesLess ([] : List ItS) ∧ ([] : List ItS).length = 0 ∧ 0 + (xs.map Prod.fst).length = m ∧ RowW w5 wr.heap.size 9 1 (.slice A5 m c5) m ((xs.map Prod.fst).map kst) ∧ ∀ b, ablk A5 b → ¬ Oa b ∧ ¬ Ob0 b ∧ b ≠ bm) := by
          refine ⟨H0.out.nofr hf5, Part.start HUX.out, List.Pairwise.nil, rfl, by rw [List.length_map, Nat.zero_add, HMX.out], ?_, fun b hb => ?_⟩
          · have h := RowW.ofOwn ho5 (fun u hu => by obtain ⟨p, _, rfl⟩ := List.mem_map.1 hu; rfl)
            rw [List.map_map]
            exact h
          · have h1 := (ho5.lt b (ablk_own hb)).1
            refine ⟨fun e => ?_, fun e => ?_, fun e => ?_⟩
            · have := H0.out.ta.lt e; omega
            · have := H0.out.tb.lt e; omega
            · have := H0.out.mp.lt; omega
        have HLK : Hid ((xs.map Prod.fst).length = m) := by show _ = _; rw [List.length_map, HMX.out]
        have HBW : Hid (W.heap.size ≤ wr.heap.size) := H0.out.fr.size
        clear ho5 hf5 H0
        obtain ⟨wk, hwk⟩ : ∃ wk, wk = wr.heap.size := ⟨_, rfl⟩
        rw [← hwk] at HI2 HBW
        clear hwk
        go_wp2_with fail
        go_loopw [10, 11] (fun r i wr' => ∃ (j nk : Nat) (Ob : Nat → Prop) (zs : List ItS) (ks : List Bs) (Ar : Option Addr) (cr : Nat), r = .slice Ar nk cr ∧ i = .int .i64 (j : Int) ∧ Hid (Mem4 W ga gb bm Oa Ob xs zs m f wr' ∧ Part xs zs ks ∧ UpI Op.bytesLess zs ∧ nk = ks.length ∧ j + ks.length = m ∧ RowW wr' wk 9 1 (.slice Ar nk cr) nk (ks.map kst) ∧ (∀ b, ablk Ar b → ¬ Oa b ∧ ¬ Ob b ∧ b ≠ bm) ∧ zs.length ≤ j)) (fun _ i _ => (m - intOf i).toNat)
        case atStart => exact ⟨0, _, Ob0, [], _, A5, c5, rfl, rfl, HI2.out.1, HI2.out.2.1, HI2.out.2.2.1, HLK.out.symm, HI2.out.2.2.2.2.1, HI2.out.2.2.2.2.2.1, HI2.out.2.2.2.2.2.2, Nat.le_refl _⟩
        case round =>
          clear HI2
          obtain ⟨j, nk, Ob, zs, ks, Ar, cr, rfl, rfl, HI⟩ := hrel
          have hjm : j + nk = m := by have := HI.out.2.2.2.2.1; have := HI.out.2.2.2.1; omega
          have hwr : IntKind.i64.wrap ((j : Int) + 1) = (j : Int) + 1 := by have := HML.out; exact IntWalk.i64_in _ (by omega)
          by_cases hnk : 0 < nk
          · have hnki : (0 : Int) < (nk : Int) := by omega
            obtain ⟨rb, hAr⟩ := HI.out.2.2.2.2.2.1.addr hnk
            subst hAr
            obtain ⟨i0, hi, hz0, hz1, hz2⟩ := info_partsA sInfo
            by_cases hjnp : j < np
            · have hjp : (j : Int) < (np : Int) := by omega
              obtain ⟨z, hz⟩ : ∃ z, ps[j]? = some z := ⟨_, List.getElem?_eq_getElem (by rw [← HNP.out]; omega)⟩
              obtain ⟨pb, po, hP2, p1⟩ := (HP.out.nofr HI.out.1.fr).at_ (k := j) (v := .int .i64 z) (by rw [List.getElem?_map, hz]; rfl)
              subst hP2
              obtain ⟨q, hq, hq2⟩ := low_bits z 65535 (Nat.le_refl _)
              have hq' : bits .and .i64 z 65535 = (q : Int) := hq
              obtain ⟨k, hkq⟩ : ∃ k, k = q % nk := ⟨_, rfl⟩
              have hkk : k < nk := by rw [hkq]; exact Nat.mod_lt _ hnk
              have hnz : ((nk : Int) == 0) = false := beq_eq_false_iff_ne.2 (by omega)
              have hrem : IntKind.i64.wrap (Int.tmod (q : Int) (nk : Int)) = (k : Int) := by
                rw [hkq]
                have h1 : Int.tmod (q : Int) (nk : Int) = ((q % nk : Nat) : Int) := by simp [Int.tmod]
                rw [h1, ← hkq]
                have := HML.out
                exact IntWalk.i64_in _ (by omega)
              have hrem2 : Int.tmod (q : Int) (nk : Int) = (k : Int) := by rw [hkq]; simp [Int.tmod]
              clear hz hq hq2 hkq
              obtain ⟨key, hkey⟩ : ∃ key, ks[k]? = some key := ⟨_, List.getElem?_eq_getElem (by rw [← HI.out.2.2.2.1]; exact hkk)⟩
              have hkm := List.mem_of_getElem? hkey
              obtain ⟨v, hv⟩ := (HI.out.2.1.out key hkm).1
              have HKV := Lib.hid hv
              have HKO := Lib.hid (HI.out.2.1.out key hkm).2
              have hfk : f key = some (.int .i64 v) := (HREL.out key).1 v hv
              have HRW := Lib.hid HI.out.2.2.2.2.2.1
              have HKK := Lib.hid hkey
              have HSD : Hid (∀ W', Fr NoBlk wr W' → W'.cell? ⟨rb, k, none⟩ = some (.string (bstr key)) ∧ (Instr.lookup 57 (.map (some bm)) (.string (bstr key)) false).run Try.prog W' = .ok (.int .i64 v) W') := fun W' hW' =>
                ⟨(HRW.out.fr hW' fun _ _ e => e).at_ (by rw [List.getElem?_map, HKK.out]; rfl), SM.get (HI.out.1.mp.fr hW' fun e => e) (HOK.out _ hv) hfk⟩
              have HC := Lib.hid (treePutS_any wr.drew gb Ob zs (HI.out.1.tb.nofr (Fr.refl NoBlk wr).drew) (by have := HI.out.2.2.2.2.2.2.2; have := HML.out; omega) key v)
              have hki : (k : Int) < (nk : Int) := by omega
              have hkc : nk ≤ cr := by
                obtain ⟨A', c', e, h2, _⟩ := HRW.out.form
                injection e with _ _ e3
                omega
              clear hkey hkm hv hfk
              go_wp2_with fail
              refine wp_region_held_drew (S := fun w' => w'.cell? ⟨rb, k, none⟩ = some (.string (bstr key)) ∧ (Instr.lookup 57 (.map (some bm)) (.string (bstr key)) false).run Try.prog w' = .ok (.int .i64 v) w') (by kernel_rfl) (HSD.out _ (Fr.refl _ _).drew) (fun hHeld => ?_)
              refine wpAnyH_take (i := 0) (oi := ⟨some 76, _, _, _, _, _⟩) (v := ?_) rfl (by kernel_rfl) (by kernel_rfl) (by kernel_rfl) (fun _ _ _ h => h) (Or.inl ⟨by rfl, ?_⟩) (by assumption) ?_
              rotate_left 1
              · (intro w hSw; (try dsimp only at hSw); obtain ⟨hS1, hS2⟩ := hSw; go_simp) <;> (with_reducible rfl)
              try simp only [Act.put, List.setIfInBounds_toArray, List.set_cons_zero, List.set_cons_succ]
              refine wpAnyH_take (i := 1) (oi := ⟨some 77, _, _, _, _, _⟩) (v := ?_) rfl (by kernel_rfl) (by kernel_rfl) (by kernel_rfl) (fun _ _ _ h => h) (Or.inl ⟨by rfl, ?_⟩) (by assumption) ?_
              rotate_left 1
              · (intro w hSw; (try dsimp only at hSw); obtain ⟨hS1, hS2⟩ := hSw; go_simp) <;> (with_reducible rfl)
              try simp only [Act.put, List.setIfInBounds_toArray, List.set_cons_zero, List.set_cons_succ]
              refine wpAnyH_take (i := 2) (oi := ⟨some 78, _, _, _, _, _⟩) (v := ?_) rfl (by kernel_rfl) (by kernel_rfl) (by kernel_rfl) (fun _ _ _ h => h) (Or.inl ⟨by rfl, ?_⟩) (by assumption) ?_
              rotate_left 1
              · (intro w hSw; (try dsimp only at hSw); obtain ⟨hS1, hS2⟩ := hSw; go_simp) <;> (with_reducible rfl)
              try simp only [Act.put, List.setIfInBounds_toArray, List.set_cons_zero, List.set_cons_succ]
              refine wpAnyH_take (i := 3) (oi := ⟨some 79, _, _, _, _, _⟩) (v := ?_) rfl (by kernel_rfl) (by kernel_rfl) (by kernel_rfl) (fun _ _ _ h => h) (Or.inl ⟨by rfl, ?_⟩) (by assumption) ?_
              rotate_left 1
              · (intro w hSw; (try dsimp only at hSw); obtain ⟨hS1, hS2⟩ := hSw; go_simp) <;> (with_reducible rfl)
              try simp only [Act.put, List.setIfInBounds_toArray, List.set_cons_zero, List.set_cons_succ]
              refine wpAnyH_take (i := 4) (oi := ⟨some 80, _, _, _, _, _⟩) (v := ?_) rfl (by kernel_rfl) (by kernel_rfl) (by kernel_rfl) (fun _ _ _ h => h) (Or.inl ⟨by rfl, ?_⟩) (by assumption) ?_
              rotate_left 1
              · (intro w hSw; (try dsimp only at hSw); obtain ⟨hS1, hS2⟩ := hSw; go_simp) <;> (with_reducible rfl)
              try simp only [Act.put, List.setIfInBounds_toArray, List.set_cons_zero, List.set_cons_succ]
              refine wpAnyH_take (i := 5) (oi := ⟨some 81, _, _, _, _, _⟩) (v := ?_) rfl (by kernel_rfl) (by kernel_rfl) (by kernel_rfl) (fun _ _ _ h => h) (Or.inl ⟨by rfl, ?_⟩) (by assumption) ?_
              rotate_left 1
              · (intro w hSw; (try dsimp only at hSw); obtain ⟨hS1, hS2⟩ := hSw; go_simp) <;> (with_reducible rfl)
              try simp only [Act.put, List.setIfInBounds_toArray, List.set_cons_zero, List.set_cons_succ]
              refine wpAnyH_take (i := 6) (oi := ⟨some 82, _, _, _, _, _⟩) (v := ?_) rfl (by kernel_rfl) (by kernel_rfl) (by kernel_rfl) (fun _ _ _ h => h) (Or.inl ⟨by rfl, ?_⟩) (by assumption) ?_
              rotate_left 1
              · (intro w hSw; (try dsimp only at hSw); obtain ⟨hS1, hS2⟩ := hSw; go_simp) <;> (with_reducible rfl)
              try simp only [Act.put, List.setIfInBounds_toArray, List.set_cons_zero, List.set_cons_succ]
              refine wpAnyH_take (i := 7) (oi := ⟨some 83, _, _, _, _, _⟩) (v := ?_) rfl (by kernel_rfl) (by kernel_rfl) (by kernel_rfl) (fun _ _ _ h => h) (Or.inl ⟨by rfl, ?_⟩) (by assumption) ?_
              rotate_left 1
              · (intro w hSw; (try dsimp only at hSw); obtain ⟨hS1, hS2⟩ := hSw; go_simp) <;> (with_reducible rfl)
              try simp only [Act.put, List.setIfInBounds_toArray, List.set_cons_zero, List.set_cons_succ]
              refine wpAnyH_take (i := 8) (oi := ⟨some 84, _, _, _, _, _⟩) (v := ?_) rfl (by kernel_rfl) (by kernel_rfl) (by kernel_rfl) (fun _ _ _ h => h) (Or.inl ⟨by rfl, ?_⟩) (by assumption) ?_
              rotate_left 1
              · (intro w hSw; (try dsimp only at hSw); obtain ⟨hS1, hS2⟩ := hSw; go_simp) <;> (with_reducible rfl)
              try simp only [Act.put, List.setIfInBounds_toArray, List.set_cons_zero, List.set_cons_succ]
              refine wpAnyH_take (i := 9) (oi := ⟨some 85, _, _, _, _, _⟩) (v := ?_) rfl (by kernel_rfl) (by kernel_rfl) (by kernel_rfl) (fun _ _ _ h => h) (Or.inl ⟨by rfl, ?_⟩) (by assumption) ?_
              rotate_left 1
              · (intro w hSw; (try dsimp only at hSw); obtain ⟨hS1, hS2⟩ := hSw; go_simp) <;> (with_reducible rfl)
              try simp only [Act.put, List.setIfInBounds_toArray, List.set_cons_zero, List.set_cons_succ]
              refine wpAnyH_take (i := 10) (oi := ⟨some 86, _, _, _, _, _⟩) (v := ?_) rfl (by kernel_rfl) (by kernel_rfl) (by kernel_rfl) (fun _ _ _ h => h) (Or.inl ⟨by rfl, ?_⟩) (by assumption) ?_
              rotate_left 1
              · (intro w hSw; (try dsimp only at hSw); obtain ⟨hS1, hS2⟩ := hSw; go_simp) <;> (with_reducible rfl)
              try simp only [Act.put, List.setIfInBounds_toArray, List.set_cons_zero, List.set_cons_succ]
              refine wpAnyH_ready (rs := [11]) (by kernel_rfl) (by simp) ?_
              refine AllReadyH.cons (o := ⟨some 87, _, _, _, _, _⟩) rfl (fun K hK => ?_) AllReadyH.nil
              go_simp
              go_at_call 16
              refine HC.out.mono ?_
              rintro e w6 ⟨old, had, O6, rfl, hlk, ht6, hs6⟩
              obtain rfl : had = false := by
                rcases hlk with ⟨_, h⟩ | ⟨h, _⟩
                · exact absurd h (HKO.out _)
                · exact h
              have H6 := Lib.hid ((HI.out.1.nofr (Fr.refl NoBlk wr).drew).putB ht6 hs6)
              have HR6 : Hid (RowW w6 wk 9 1 (.slice (some ⟨rb, 0, none⟩) nk cr) nk (ks.map kst)) := (HRW.out.fr (Fr.refl NoBlk wr).drew fun _ _ e => e).fr hs6.fr fun b hb => (HI.out.2.2.2.2.2.2.1 b (own_ablk hb)).2.1
              have HD6 : Hid (¬ Oa rb ∧ ¬ O6 rb ∧ rb ≠ bm ∧ rb < w6.heap.size) := by
                have h1 := HI.out.2.2.2.2.2.2.1 rb ⟨_, rfl, rfl⟩
                have h2 := (HRW.out.lt (k := rb) rfl).2
                refine ⟨h1.1, fun e => ?_, h1.2.2, Nat.lt_of_lt_of_le h2 hs6.fr.size⟩
                rcases hs6.new rb e with e | e
                · exact h1.2.1 e
                · have : wr.heap.size ≤ rb := e; omega
              have HS6 : Hid (w6.cell? ⟨rb, k, none⟩ = some (.string (bstr key)) ∧ (Instr.lookup 57 (.map (some bm)) (.string (bstr key)) false).run Try.prog w6 = .ok (.int .i64 v) w6) :=
                ⟨HR6.out.at_ (by rw [List.getElem?_map, HKK.out]; rfl), SM.get H6.out.mp (HOK.out _ HKV.out) ((HREL.out key).1 v HKV.out)⟩
              have HUZ : Hid (UpI Op.bytesLess (putL Op.bytesLess key v zs) ∧ (putL Op.bytesLess key v zs).length ≤ j + 1) := ⟨HI.out.2.2.1.put linS, by
                rw [putL_len_no linS fun u hu => HKO.out u hu]
                have := HI.out.2.2.2.2.2.2.2
                omega⟩
              have HPT := Lib.hid (HI.out.2.1.next HKK.out HKV.out HUX.out)
              clear hlk ht6 hs6 HC hHeld
              refine hK.out _ _ ?_ (fun hHeld => ?_)
              · exact HS6.out
              clear hK K
              try simp only [Act.put, List.setIfInBounds_toArray, List.set_cons_zero, List.set_cons_succ]
              refine wpAnyH_take (i := 12) (oi := ⟨some 75, _, _, _, _, _⟩) (v := ?_) rfl (by kernel_rfl) (by kernel_rfl) (by kernel_rfl) (fun _ _ _ h => h) (Or.inl ⟨by rfl, ?_⟩) (by assumption) ?_
              rotate_left 1
              · (intro w hSw; (try dsimp only at hSw); obtain ⟨hS1, hS2⟩ := hSw; go_simp) <;> (with_reducible rfl)
              try simp only [Act.put, List.setIfInBounds_toArray, List.set_cons_zero, List.set_cons_succ]
              refine wpAnyH_take (i := 13) (oi := ⟨some 88, _, _, _, _, _⟩) (v := ?_) rfl (by kernel_rfl) (by kernel_rfl) (by kernel_rfl) (fun _ _ _ h => h) (Or.inl ⟨by rfl, ?_⟩) (by assumption) ?_
              rotate_left 1
              · (intro w hSw; (try dsimp only at hSw); obtain ⟨hS1, hS2⟩ := hSw; go_simp) <;> (with_reducible rfl)
              try simp only [Act.put, List.setIfInBounds_toArray, List.set_cons_zero, List.set_cons_succ]
              refine wpAnyH_take (i := 14) (oi := ⟨some 89, _, _, _, _, _⟩) (v := ?_) rfl (by kernel_rfl) (by kernel_rfl) (by kernel_rfl) (fun _ _ _ h => h) (Or.inl ⟨by rfl, ?_⟩) (by assumption) ?_
              rotate_left 1
              · (intro w hSw; (try dsimp only at hSw); obtain ⟨hS1, hS2⟩ := hSw; go_simp) <;> (with_reducible rfl)
              try simp only [Act.put, List.setIfInBounds_toArray, List.set_cons_zero, List.set_cons_succ]
              refine wpAnyH_take (i := 15) (oi := ⟨some 13, _, _, _, _, _⟩) (v := ?_) rfl (by kernel_rfl) (by kernel_rfl) (by kernel_rfl) (fun _ _ _ h => h) (Or.inl ⟨by rfl, ?_⟩) (by assumption) ?_
              rotate_left 1
              · (intro w hSw; (try dsimp only at hSw); obtain ⟨hS1, hS2⟩ := hSw; go_simp) <;> (with_reducible rfl)
              try simp only [Act.put, List.setIfInBounds_toArray, List.set_cons_zero, List.set_cons_succ]
              refine wpAnyH_take (i := 16) (oi := ⟨some 14, _, _, _, _, _⟩) (v := ?_) rfl (by kernel_rfl) (by kernel_rfl) (by kernel_rfl) (fun _ _ _ h => h) (Or.inl ⟨by rfl, ?_⟩) (by assumption) ?_
              rotate_left 1
              · (intro w hSw; (try dsimp only at hSw); obtain ⟨hS1, hS2⟩ := hSw; go_simp) <;> (with_reducible rfl)
              try simp only [Act.put, List.setIfInBounds_toArray, List.set_cons_zero, List.set_cons_succ]
              refine wpAnyH_done (by kernel_rfl) ?_ _
              have HNL : Hid (nk = ks.length ∧ j + ks.length = m) := ⟨HI.out.2.2.2.1, HI.out.2.2.2.2.1⟩
              have hwk : IntKind.i64.wrap ((k : Int) + 1) = (k : Int) + 1 := by have := HML.out; exact IntWalk.i64_in _ (by omega)
              have hS0 : (0 : Int) ≤ (k : Int) + 1 := by omega
              have hS1 : (k : Int) + 1 ≤ (nk : Int) := by omega
              have hS2 : (k : Int) ≤ (cr : Int) := by omega
              have hS3 : (k : Int) ≤ (k : Int) + 1 := by omega
              have hkcr : k ≤ cr := by omega
              have HLL : Hid (((ks.map kst).drop (k + 1)).length = (nk - (k + 1)) * 1) := by show _ = _; rw [List.length_drop, List.length_map, Nat.mul_one, ← HNL.out.1]
              clear HSD HS6 HRW HI
              by_cases hcr : cr = k + 1
              · have HRX : Hid (Rd w6.drew (some ⟨rb, 0, none⟩) ((ks.map kst).drop (k + 1))) := fun h => by rw [HLL.out] at h; omega
                go_wp2_with fail
                refine wp_region_held_drew (S := fun _ => True) (by kernel_rfl) trivial (fun hHeld => ?_)
                refine wpAnyH_take (i := 0) (oi := ⟨some 91, _, _, _, _, _⟩) (v := ?_) rfl (by kernel_rfl) (by kernel_rfl) (by kernel_rfl) (fun _ _ _ h => h) (Or.inl ⟨by rfl, ?_⟩) (by assumption) ?_
                rotate_left 1
                · (intro w hSw; (try dsimp only at hSw); go_simp) <;> (with_reducible rfl)
                try simp only [Act.put, List.setIfInBounds_toArray, List.set_cons_zero, List.set_cons_succ]
                refine wpAnyH_take (i := 1) (oi := ⟨some 92, _, _, _, _, _⟩) (v := ?_) rfl (by kernel_rfl) (by kernel_rfl) (by kernel_rfl) (fun _ _ _ h => h) (Or.inl ⟨by rfl, ?_⟩) (by assumption) ?_
                rotate_left 1
                · (intro w hSw; (try dsimp only at hSw); go_simp) <;> (with_reducible rfl)
                try simp only [Act.put, List.setIfInBounds_toArray, List.set_cons_zero, List.set_cons_succ]
                refine wpAnyH_take (i := 2) (oi := ⟨some 93, _, _, _, _, _⟩) (v := ?_) rfl (by kernel_rfl) (by kernel_rfl) (by kernel_rfl) (fun _ _ _ h => h) (Or.inl ⟨by rfl, ?_⟩) (by assumption) ?_
                rotate_left 1
                · (intro w hSw; (try dsimp only at hSw); go_simp) <;> (with_reducible rfl)
                try simp only [Act.put, List.setIfInBounds_toArray, List.set_cons_zero, List.set_cons_succ]
                refine wpAnyH_take (i := 3) (oi := ⟨some 94, _, _, _, _, _⟩) (v := ?_) rfl (by kernel_rfl) (by kernel_rfl) (by kernel_rfl) (fun _ _ _ h => h) (Or.inl ⟨by rfl, ?_⟩) (by assumption) ?_
                rotate_left 1
                · (intro w hSw; (try dsimp only at hSw); go_simp) <;> (with_reducible rfl)
                try simp only [Act.put, List.setIfInBounds_toArray, List.set_cons_zero, List.set_cons_succ]
                refine wpAnyH_take (i := 4) (oi := ⟨some 95, _, _, _, _, _⟩) (v := ?_) rfl (by kernel_rfl) (by kernel_rfl) (by kernel_rfl) (fun _ _ _ h => h) (Or.inl ⟨by rfl, ?_⟩) (by assumption) ?_
                rotate_left 1
                · (intro w hSw; (try dsimp only at hSw); go_simp) <;> (with_reducible rfl)
                try simp only [Act.put, List.setIfInBounds_toArray, List.set_cons_zero, List.set_cons_succ]
                refine wpAnyH_take (i := 5) (oi := ⟨some 96, _, _, _, _, _⟩) (v := ?_) rfl (by kernel_rfl) (by kernel_rfl) (by kernel_rfl) (fun _ _ _ h => h) (Or.inl ⟨by rfl, ?_⟩) (by assumption) ?_
                rotate_left 1
                · (intro w hSw; (try dsimp only at hSw); go_simp) <;> (with_reducible rfl)
                try simp only [Act.put, List.setIfInBounds_toArray, List.set_cons_zero, List.set_cons_succ]
                refine wpAnyH_take (i := 6) (oi := ⟨some 97, _, _, _, _, _⟩) (v := ?_) rfl (by kernel_rfl) (by kernel_rfl) (by kernel_rfl) (fun _ _ _ h => h) (Or.inl ⟨by rfl, ?_⟩) (by assumption) ?_
                rotate_left 1
                · (intro w hSw; (try dsimp only at hSw); go_simp) <;> (with_reducible rfl)
                try simp only [Act.put, List.setIfInBounds_toArray, List.set_cons_zero, List.set_cons_succ]
                refine wpAnyH_take (i := 7) (oi := ⟨some 98, _, _, _, _, _⟩) (v := ?_) rfl (by kernel_rfl) (by kernel_rfl) (by kernel_rfl) (fun _ _ _ h => h) (Or.inl ⟨by rfl, ?_⟩) (by assumption) ?_
                rotate_left 1
                · (intro w hSw; (try dsimp only at hSw); go_simp) <;> (with_reducible rfl)
                try simp only [Act.put, List.setIfInBounds_toArray, List.set_cons_zero, List.set_cons_succ]
                refine wpAnyH_ready (rs := [8]) (by kernel_rfl) (by simp) ?_
                refine AllReadyH.cons (o := ⟨some 99, _, _, _, _, _⟩) rfl (fun K hK => ?_) AllReadyH.nil
                refine step_appRow rfl _ _ 45 rfl wk 9 i0 _ 1 16 Try.underlying45 hi hz0 hz1 hz2 rfl (by decide) (.slice (some ⟨rb, 0, none⟩) k k) k ((ks.map kst).take k) rfl ((HR6.out.fr (Fr.refl NoBlk w6).drew fun _ _ e => e).cutc hkk) (some ⟨rb, 0, none⟩) 0 (nk - (k + 1)) ((ks.map kst).drop (k + 1)) rfl HLL.out HRX.out (fun u hu => kst_one ks u (List.mem_of_mem_drop hu)) (fun e => by cases e) (by unfold maxLen; have := HML.out; omega) (by have := HML.out; omega) (Nat.le_of_lt (Nat.lt_of_le_of_lt (HR6.out.lt (k := rb) rfl).1 (HR6.out.lt (k := rb) rfl).2)) ?_
                intro v7 w7 ho7 hf7 hb7
                obtain ⟨A7, c7, rfl, _, _⟩ := ho7.form
                have hC : ∀ b, (Value.slice (some (⟨rb, 0, none⟩ : Addr)) k k).ownBlock = some b → b = rb := fun b e => by simpa [Value.ownBlock] using e.symm
                have hwkW : ∀ b, (Value.slice (some (⟨rb, 0, none⟩ : Addr)) k k).ownBlock = some b → W.heap.size ≤ b := fun b e => by
                  have := (HR6.out.lt (k := rb) rfl).1
                  have := hC b e
                  have := HBW.out
                  omega
                have H7 := Lib.hid ((H6.out.nofr (Fr.refl NoBlk w6).drew).frC hf7 (fun b hb e => HD6.out.1 (hC b e ▸ hb)) (fun b hb e => HD6.out.2.1 (hC b e ▸ hb)) (fun e => HD6.out.2.2.1 (hC _ e).symm) hwkW)
                have HR7 : Hid (RowW w7 wk 9 1 (.slice A7 (k + (nk - (k + 1))) c7) (k + (nk - (k + 1))) ((ks.take k ++ ks.drop (k + 1)).map kst)) := by
                  show RowW _ _ _ _ _ _ _
                  rw [List.map_append, List.map_take, List.map_drop]
                  exact ho7
                have HD7 : Hid (∀ b, ablk A7 b → ¬ Oa b ∧ ¬ O6 b ∧ b ≠ bm) := fun b hb => by
                  have h1 := ablk_own (n := k + (nk - (k + 1))) (c := c7) hb
                  rcases hb7 with e | e
                  · rw [e] at h1
                    obtain rfl := hC b h1
                    exact ⟨HD6.out.1, HD6.out.2.1, HD6.out.2.2.1⟩
                  · rw [e] at h1
                    injection h1 with h1
                    refine ⟨fun x => ?_, fun x => ?_, fun x => ?_⟩
                    · have := H6.out.ta.lt x; have : w6.heap.size = b := h1; omega
                    · have := H6.out.tb.lt x; have : w6.heap.size = b := h1; omega
                    · have := H6.out.mp.lt; have : w6.heap.size = b := h1; omega
                clear ho7 hf7 hb7 hHeld
                refine hK.out _ _ ?_ (fun hHeld => ?_)
                · trivial
                clear hK K
                try simp only [Act.put, List.setIfInBounds_toArray, List.set_cons_zero, List.set_cons_succ]
                refine wpAnyH_take (i := 9) (oi := ⟨some 10, _, _, _, _, _⟩) (v := ?_) rfl (by kernel_rfl) (by kernel_rfl) (by kernel_rfl) (fun _ _ _ h => h) (Or.inl ⟨by rfl, ?_⟩) (by assumption) ?_
                rotate_left 1
                · (intro w hSw; (try dsimp only at hSw); go_simp) <;> (with_reducible rfl)
                try simp only [Act.put, List.setIfInBounds_toArray, List.set_cons_zero, List.set_cons_succ]
                refine wpAnyH_done (by kernel_rfl) ?_ _
                go_wp2_with fail
                go_roundw
                case rel =>
                  refine ⟨j + 1, k + (nk - (k + 1)), O6, _, ks.take k ++ ks.drop (k + 1), A7, c7, rfl, by push_cast; rfl, H7.out, HPT.out, HUZ.out.1, ?_, ?_, HR7.out, HD7.out, HUZ.out.2⟩
                  · rw [List.length_append, List.length_take, List.length_drop]
                    have := HNL.out
                    omega
                  · rw [List.length_append, List.length_take, List.length_drop]
                    have := HNL.out
                    omega
                case measure => simp [intOf]; omega
              · have HRX : Hid (Rd w6.drew (some ⟨rb, k + 1, none⟩) ((ks.map kst).drop (k + 1))) := (HR6.out.rd.nofr (Fr.refl NoBlk w6).drew).off (k + 1)
                go_wp2_with fail
                refine wp_region_held_drew (S := fun _ => True) (by kernel_rfl) trivial (fun hHeld => ?_)
                refine wpAnyH_take (i := 0) (oi := ⟨some 91, _, _, _, _, _⟩) (v := ?_) rfl (by kernel_rfl) (by kernel_rfl) (by kernel_rfl) (fun _ _ _ h => h) (Or.inl ⟨by rfl, ?_⟩) (by assumption) ?_
                rotate_left 1
                · (intro w hSw; (try dsimp only at hSw); go_simp) <;> (with_reducible rfl)
                try simp only [Act.put, List.setIfInBounds_toArray, List.set_cons_zero, List.set_cons_succ]
                refine wpAnyH_take (i := 1) (oi := ⟨some 92, _, _, _, _, _⟩) (v := ?_) rfl (by kernel_rfl) (by kernel_rfl) (by kernel_rfl) (fun _ _ _ h => h) (Or.inl ⟨by rfl, ?_⟩) (by assumption) ?_
                rotate_left 1
                · (intro w hSw; (try dsimp only at hSw); go_simp) <;> (with_reducible rfl)
                try simp only [Act.put, List.setIfInBounds_toArray, List.set_cons_zero, List.set_cons_succ]
                refine wpAnyH_take (i := 2) (oi := ⟨some 93, _, _, _, _, _⟩) (v := ?_) rfl (by kernel_rfl) (by kernel_rfl) (by kernel_rfl) (fun _ _ _ h => h) (Or.inl ⟨by rfl, ?_⟩) (by assumption) ?_
                rotate_left 1
                · (intro w hSw; (try dsimp only at hSw); go_simp) <;> (with_reducible rfl)
                try simp only [Act.put, List.setIfInBounds_toArray, List.set_cons_zero, List.set_cons_succ]
                refine wpAnyH_take (i := 3) (oi := ⟨some 94, _, _, _, _, _⟩) (v := ?_) rfl (by kernel_rfl) (by kernel_rfl) (by kernel_rfl) (fun _ _ _ h => h) (Or.inl ⟨by rfl, ?_⟩) (by assumption) ?_
                rotate_left 1
                · (intro w hSw; (try dsimp only at hSw); go_simp) <;> (with_reducible rfl)
                try simp only [Act.put, List.setIfInBounds_toArray, List.set_cons_zero, List.set_cons_succ]
                refine wpAnyH_take (i := 4) (oi := ⟨some 95, _, _, _, _, _⟩) (v := ?_) rfl (by kernel_rfl) (by kernel_rfl) (by kernel_rfl) (fun _ _ _ h => h) (Or.inl ⟨by rfl, ?_⟩) (by assumption) ?_
                rotate_left 1
                · (intro w hSw; (try dsimp only at hSw); go_simp) <;> (with_reducible rfl)
                try simp only [Act.put, List.setIfInBounds_toArray, List.set_cons_zero, List.set_cons_succ]
                refine wpAnyH_take (i := 5) (oi := ⟨some 96, _, _, _, _, _⟩) (v := ?_) rfl (by kernel_rfl) (by kernel_rfl) (by kernel_rfl) (fun _ _ _ h => h) (Or.inl ⟨by rfl, ?_⟩) (by assumption) ?_
                rotate_left 1
                · (intro w hSw; (try dsimp only at hSw); go_simp) <;> (with_reducible rfl)
                try simp only [Act.put, List.setIfInBounds_toArray, List.set_cons_zero, List.set_cons_succ]
                refine wpAnyH_take (i := 6) (oi := ⟨some 97, _, _, _, _, _⟩) (v := ?_) rfl (by kernel_rfl) (by kernel_rfl) (by kernel_rfl) (fun _ _ _ h => h) (Or.inl ⟨by rfl, ?_⟩) (by assumption) ?_
                rotate_left 1
                · (intro w hSw; (try dsimp only at hSw); go_simp) <;> (with_reducible rfl)
                try simp only [Act.put, List.setIfInBounds_toArray, List.set_cons_zero, List.set_cons_succ]
                refine wpAnyH_take (i := 7) (oi := ⟨some 98, _, _, _, _, _⟩) (v := ?_) rfl (by kernel_rfl) (by kernel_rfl) (by kernel_rfl) (fun _ _ _ h => h) (Or.inl ⟨by rfl, ?_⟩) (by assumption) ?_
                rotate_left 1
                · (intro w hSw; (try dsimp only at hSw); go_simp) <;> (with_reducible rfl)
                try simp only [Act.put, List.setIfInBounds_toArray, List.set_cons_zero, List.set_cons_succ]
                refine wpAnyH_ready (rs := [8]) (by kernel_rfl) (by simp) ?_
                refine AllReadyH.cons (o := ⟨some 99, _, _, _, _, _⟩) rfl (fun K hK => ?_) AllReadyH.nil
                refine step_appRow rfl _ _ 45 rfl wk 9 i0 _ 1 16 Try.underlying45 hi hz0 hz1 hz2 rfl (by decide) (.slice (some ⟨rb, 0, none⟩) k k) k ((ks.map kst).take k) rfl ((HR6.out.fr (Fr.refl NoBlk w6).drew fun _ _ e => e).cutc hkk) (some ⟨rb, k + 1, none⟩) (cr - (k + 1)) (nk - (k + 1)) ((ks.map kst).drop (k + 1)) rfl HLL.out HRX.out (fun u hu => kst_one ks u (List.mem_of_mem_drop hu)) (fun e => by cases e) (by unfold maxLen; have := HML.out; omega) (by have := HML.out; omega) (Nat.le_of_lt (Nat.lt_of_le_of_lt (HR6.out.lt (k := rb) rfl).1 (HR6.out.lt (k := rb) rfl).2)) ?_
                intro v7 w7 ho7 hf7 hb7
                obtain ⟨A7, c7, rfl, _, _⟩ := ho7.form
                have hC : ∀ b, (Value.slice (some (⟨rb, 0, none⟩ : Addr)) k k).ownBlock = some b → b = rb := fun b e => by simpa [Value.ownBlock] using e.symm
                have hwkW : ∀ b, (Value.slice (some (⟨rb, 0, none⟩ : Addr)) k k).ownBlock = some b → W.heap.size ≤ b := fun b e => by
                  have := (HR6.out.lt (k := rb) rfl).1
                  have := hC b e
                  have := HBW.out
                  omega
                have H7 := Lib.hid ((H6.out.nofr (Fr.refl NoBlk w6).drew).frC hf7 (fun b hb e => HD6.out.1 (hC b e ▸ hb)) (fun b hb e => HD6.out.2.1 (hC b e ▸ hb)) (fun e => HD6.out.2.2.1 (hC _ e).symm) hwkW)
                have HR7 : Hid (RowW w7 wk 9 1 (.slice A7 (k + (nk - (k + 1))) c7) (k + (nk - (k + 1))) ((ks.take k ++ ks.drop (k + 1)).map kst)) := by
                  show RowW _ _ _ _ _ _ _
                  rw [List.map_append, List.map_take, List.map_drop]
                  exact ho7
                have HD7 : Hid (∀ b, ablk A7 b → ¬ Oa b ∧ ¬ O6 b ∧ b ≠ bm) := fun b hb => by
                  have h1 := ablk_own (n := k + (nk - (k + 1))) (c := c7) hb
                  rcases hb7 with e | e
                  · rw [e] at h1
                    obtain rfl := hC b h1
                    exact ⟨HD6.out.1, HD6.out.2.1, HD6.out.2.2.1⟩
                  · rw [e] at h1
                    injection h1 with h1
                    refine ⟨fun x => ?_, fun x => ?_, fun x => ?_⟩
                    · have := H6.out.ta.lt x; have : w6.heap.size = b := h1; omega
                    · have := H6.out.tb.lt x; have : w6.heap.size = b := h1; omega
                    · have := H6.out.mp.lt; have : w6.heap.size = b := h1; omega
                clear ho7 hf7 hb7 hHeld
                refine hK.out _ _ ?_ (fun hHeld => ?_)
                · trivial
                clear hK K
                try simp only [Act.put, List.setIfInBounds_toArray, List.set_cons_zero, List.set_cons_succ]
                refine wpAnyH_take (i := 9) (oi := ⟨some 10, _, _, _, _, _⟩) (v := ?_) rfl (by kernel_rfl) (by kernel_rfl) (by kernel_rfl) (fun _ _ _ h => h) (Or.inl ⟨by rfl, ?_⟩) (by assumption) ?_
                rotate_left 1
                · (intro w hSw; (try dsimp only at hSw); go_simp) <;> (with_reducible rfl)
                try simp only [Act.put, List.setIfInBounds_toArray, List.set_cons_zero, List.set_cons_succ]
                refine wpAnyH_done (by kernel_rfl) ?_ _
                go_wp2_with fail
                go_roundw
                case rel =>
                  refine ⟨j + 1, k + (nk - (k + 1)), O6, _, ks.take k ++ ks.drop (k + 1), A7, c7, rfl, by push_cast; rfl, H7.out, HPT.out, HUZ.out.1, ?_, ?_, HR7.out, HD7.out, HUZ.out.2⟩
                  · rw [List.length_append, List.length_take, List.length_drop]
                    have := HNL.out
                    omega
                  · rw [List.length_append, List.length_take, List.length_drop]
                    have := HNL.out
                    omega
                case measure => simp [intOf]; omega
            · have hjp : ¬ (j : Int) < (np : Int) := by omega
              have hkk : 0 < nk := hnk
              obtain ⟨key, hkey⟩ : ∃ key, ks[0]? = some key := ⟨_, List.getElem?_eq_getElem (by rw [← HI.out.2.2.2.1]; exact hkk)⟩
              have hkm := List.mem_of_getElem? hkey
              obtain ⟨v, hv⟩ := (HI.out.2.1.out key hkm).1
              have HKV := Lib.hid hv
              have HKO := Lib.hid (HI.out.2.1.out key hkm).2
              have hfk : f key = some (.int .i64 v) := (HREL.out key).1 v hv
              have HRW := Lib.hid HI.out.2.2.2.2.2.1
              have HKK := Lib.hid hkey
              have HSD : Hid (∀ W', Fr NoBlk wr W' → W'.cell? ⟨rb, 0, none⟩ = some (.string (bstr key)) ∧ (Instr.lookup 57 (.map (some bm)) (.string (bstr key)) false).run Try.prog W' = .ok (.int .i64 v) W') := fun W' hW' =>
                ⟨(HRW.out.fr hW' fun _ _ e => e).at_ (by rw [List.getElem?_map, HKK.out]; rfl), SM.get (HI.out.1.mp.fr hW' fun e => e) (HOK.out _ hv) hfk⟩
              have HC := Lib.hid (treePutS_any wr.drew gb Ob zs (HI.out.1.tb.nofr (Fr.refl NoBlk wr).drew) (by have := HI.out.2.2.2.2.2.2.2; have := HML.out; omega) key v)
              have hki : (0 : Int) < (nk : Int) := by omega
              have hkc : nk ≤ cr := by
                obtain ⟨A', c', e, h2, _⟩ := HRW.out.form
                injection e with _ _ e3
                omega
              clear hkey hkm hv hfk
              go_wp2_with fail
              refine wp_region_held_drew (S := fun w' => w'.cell? ⟨rb, 0, none⟩ = some (.string (bstr key)) ∧ (Instr.lookup 57 (.map (some bm)) (.string (bstr key)) false).run Try.prog w' = .ok (.int .i64 v) w') (by kernel_rfl) (HSD.out _ (Fr.refl _ _).drew) (fun hHeld => ?_)
              refine wpAnyH_take (i := 0) (oi := ⟨some 76, _, _, _, _, _⟩) (v := ?_) rfl (by kernel_rfl) (by kernel_rfl) (by kernel_rfl) (fun _ _ _ h => h) (Or.inl ⟨by rfl, ?_⟩) (by assumption) ?_
              rotate_left 1
              · (intro w hSw; (try dsimp only at hSw); obtain ⟨hS1, hS2⟩ := hSw; go_simp) <;> (with_reducible rfl)
              try simp only [Act.put, List.setIfInBounds_toArray, List.set_cons_zero, List.set_cons_succ]
              refine wpAnyH_take (i := 1) (oi := ⟨some 77, _, _, _, _, _⟩) (v := ?_) rfl (by kernel_rfl) (by kernel_rfl) (by kernel_rfl) (fun _ _ _ h => h) (Or.inl ⟨by rfl, ?_⟩) (by assumption) ?_
              rotate_left 1
              · (intro w hSw; (try dsimp only at hSw); obtain ⟨hS1, hS2⟩ := hSw; go_simp) <;> (with_reducible rfl)
              try simp only [Act.put, List.setIfInBounds_toArray, List.set_cons_zero, List.set_cons_succ]
              refine wpAnyH_take (i := 2) (oi := ⟨some 78, _, _, _, _, _⟩) (v := ?_) rfl (by kernel_rfl) (by kernel_rfl) (by kernel_rfl) (fun _ _ _ h => h) (Or.inl ⟨by rfl, ?_⟩) (by assumption) ?_
              rotate_left 1
              · (intro w hSw; (try dsimp only at hSw); obtain ⟨hS1, hS2⟩ := hSw; go_simp) <;> (with_reducible rfl)
              try simp only [Act.put, List.setIfInBounds_toArray, List.set_cons_zero, List.set_cons_succ]
              refine wpAnyH_take (i := 3) (oi := ⟨some 79, _, _, _, _, _⟩) (v := ?_) rfl (by kernel_rfl) (by kernel_rfl) (by kernel_rfl) (fun _ _ _ h => h) (Or.inl ⟨by rfl, ?_⟩) (by assumption) ?_
              rotate_left 1
              · (intro w hSw; (try dsimp only at hSw); obtain ⟨hS1, hS2⟩ := hSw; go_simp) <;> (with_reducible rfl)
              try simp only [Act.put, List.setIfInBounds_toArray, List.set_cons_zero, List.set_cons_succ]
              refine wpAnyH_take (i := 4) (oi := ⟨some 80, _, _, _, _, _⟩) (v := ?_) rfl (by kernel_rfl) (by kernel_rfl) (by kernel_rfl) (fun _ _ _ h => h) (Or.inl ⟨by rfl, ?_⟩) (by assumption) ?_
              rotate_left 1
              · (intro w hSw; (try dsimp only at hSw); obtain ⟨hS1, hS2⟩ := hSw; go_simp) <;> (with_reducible rfl)
              try simp only [Act.put, List.setIfInBounds_toArray, List.set_cons_zero, List.set_cons_succ]
              refine wpAnyH_take (i := 5) (oi := ⟨some 81, _, _, _, _, _⟩) (v := ?_) rfl (by kernel_rfl) (by kernel_rfl) (by kernel_rfl) (fun _ _ _ h => h) (Or.inl ⟨by rfl, ?_⟩) (by assumption) ?_
              rotate_left 1
              · (intro w hSw; (try dsimp only at hSw); obtain ⟨hS1, hS2⟩ := hSw; go_simp) <;> (with_reducible rfl)
              try simp only [Act.put, List.setIfInBounds_toArray, List.set_cons_zero, List.set_cons_succ]
              refine wpAnyH_take (i := 6) (oi := ⟨some 82, _, _, _, _, _⟩) (v := ?_) rfl (by kernel_rfl) (by kernel_rfl) (by kernel_rfl) (fun _ _ _ h => h) (Or.inl ⟨by rfl, ?_⟩) (by assumption) ?_
              rotate_left 1
              · (intro w hSw; (try dsimp only at hSw); obtain ⟨hS1, hS2⟩ := hSw; go_simp) <;> (with_reducible rfl)
              try simp only [Act.put, List.setIfInBounds_toArray, List.set_cons_zero, List.set_cons_succ]
              refine wpAnyH_take (i := 7) (oi := ⟨some 83, _, _, _, _, _⟩) (v := ?_) rfl (by kernel_rfl) (by kernel_rfl) (by kernel_rfl) (fun _ _ _ h => h) (Or.inl ⟨by rfl, ?_⟩) (by assumption) ?_
              rotate_left 1
              · (intro w hSw; (try dsimp only at hSw); obtain ⟨hS1, hS2⟩ := hSw; go_simp) <;> (with_reducible rfl)
              try simp only [Act.put, List.setIfInBounds_toArray, List.set_cons_zero, List.set_cons_succ]
              refine wpAnyH_take (i := 8) (oi := ⟨some 84, _, _, _, _, _⟩) (v := ?_) rfl (by kernel_rfl) (by kernel_rfl) (by kernel_rfl) (fun _ _ _ h => h) (Or.inl ⟨by rfl, ?_⟩) (by assumption) ?_
              rotate_left 1
              · (intro w hSw; (try dsimp only at hSw); obtain ⟨hS1, hS2⟩ := hSw; go_simp) <;> (with_reducible rfl)
              try simp only [Act.put, List.setIfInBounds_toArray, List.set_cons_zero, List.set_cons_succ]
              refine wpAnyH_take (i := 9) (oi := ⟨some 85, _, _, _, _, _⟩) (v := ?_) rfl (by kernel_rfl) (by kernel_rfl) (by kernel_rfl) (fun _ _ _ h => h) (Or.inl ⟨by rfl, ?_⟩) (by assumption) ?_
              rotate_left 1
              · (intro w hSw; (try dsimp only at hSw); obtain ⟨hS1, hS2⟩ := hSw; go_simp) <;> (with_reducible rfl)
              try simp only [Act.put, List.setIfInBounds_toArray, List.set_cons_zero, List.set_cons_succ]
              refine wpAnyH_take (i := 10) (oi := ⟨some 86, _, _, _, _, _⟩) (v := ?_) rfl (by kernel_rfl) (by kernel_rfl) (by kernel_rfl) (fun _ _ _ h => h) (Or.inl ⟨by rfl, ?_⟩) (by assumption) ?_
              rotate_left 1
              · (intro w hSw; (try dsimp only at hSw); obtain ⟨hS1, hS2⟩ := hSw; go_simp) <;> (with_reducible rfl)
              try simp only [Act.put, List.setIfInBounds_toArray, List.set_cons_zero, List.set_cons_succ]
              refine wpAnyH_ready (rs := [11]) (by kernel_rfl) (by simp) ?_
              refine AllReadyH.cons (o := ⟨some 87, _, _, _, _, _⟩) rfl (fun K hK => ?_) AllReadyH.nil
              go_simp
              go_at_call 16
              refine HC.out.mono ?_
              rintro e w6 ⟨old, had, O6, rfl, hlk, ht6, hs6⟩
              obtain rfl : had = false := by
                rcases hlk with ⟨_, h⟩ | ⟨h, _⟩
                · exact absurd h (HKO.out _)
                · exact h
              have H6 := Lib.hid ((HI.out.1.nofr (Fr.refl NoBlk wr).drew).putB ht6 hs6)
              have HR6 : Hid (RowW w6 wk 9 1 (.slice (some ⟨rb, 0, none⟩) nk cr) nk (ks.map kst)) := (HRW.out.fr (Fr.refl NoBlk wr).drew fun _ _ e => e).fr hs6.fr fun b hb => (HI.out.2.2.2.2.2.2.1 b (own_ablk hb)).2.1
              have HD6 : Hid (¬ Oa rb ∧ ¬ O6 rb ∧ rb ≠ bm ∧ rb < w6.heap.size) := by
                have h1 := HI.out.2.2.2.2.2.2.1 rb ⟨_, rfl, rfl⟩
                have h2 := (HRW.out.lt (k := rb) rfl).2
                refine ⟨h1.1, fun e => ?_, h1.2.2, Nat.lt_of_lt_of_le h2 hs6.fr.size⟩
                rcases hs6.new rb e with e | e
                · exact h1.2.1 e
                · have : wr.heap.size ≤ rb := e; omega
              have HS6 : Hid (w6.cell? ⟨rb, 0, none⟩ = some (.string (bstr key)) ∧ (Instr.lookup 57 (.map (some bm)) (.string (bstr key)) false).run Try.prog w6 = .ok (.int .i64 v) w6) :=
                ⟨HR6.out.at_ (by rw [List.getElem?_map, HKK.out]; rfl), SM.get H6.out.mp (HOK.out _ HKV.out) ((HREL.out key).1 v HKV.out)⟩
              have HUZ : Hid (UpI Op.bytesLess (putL Op.bytesLess key v zs) ∧ (putL Op.bytesLess key v zs).length ≤ j + 1) := ⟨HI.out.2.2.1.put linS, by
                rw [putL_len_no linS fun u hu => HKO.out u hu]
                have := HI.out.2.2.2.2.2.2.2
                omega⟩
              have HPT := Lib.hid (HI.out.2.1.next HKK.out HKV.out HUX.out)
              clear hlk ht6 hs6 HC hHeld
              refine hK.out _ _ ?_ (fun hHeld => ?_)
              · exact HS6.out
              clear hK K
              try simp only [Act.put, List.setIfInBounds_toArray, List.set_cons_zero, List.set_cons_succ]
              refine wpAnyH_take (i := 12) (oi := ⟨some 75, _, _, _, _, _⟩) (v := ?_) rfl (by kernel_rfl) (by kernel_rfl) (by kernel_rfl) (fun _ _ _ h => h) (Or.inl ⟨by rfl, ?_⟩) (by assumption) ?_
              rotate_left 1
              · (intro w hSw; (try dsimp only at hSw); obtain ⟨hS1, hS2⟩ := hSw; go_simp) <;> (with_reducible rfl)
              try simp only [Act.put, List.setIfInBounds_toArray, List.set_cons_zero, List.set_cons_succ]
              refine wpAnyH_take (i := 13) (oi := ⟨some 88, _, _, _, _, _⟩) (v := ?_) rfl (by kernel_rfl) (by kernel_rfl) (by kernel_rfl) (fun _ _ _ h => h) (Or.inl ⟨by rfl, ?_⟩) (by assumption) ?_
              rotate_left 1
              · (intro w hSw; (try dsimp only at hSw); obtain ⟨hS1, hS2⟩ := hSw; go_simp) <;> (with_reducible rfl)
              try simp only [Act.put, List.setIfInBounds_toArray, List.set_cons_zero, List.set_cons_succ]
              refine wpAnyH_take (i := 14) (oi := ⟨some 89, _, _, _, _, _⟩) (v := ?_) rfl (by kernel_rfl) (by kernel_rfl) (by kernel_rfl) (fun _ _ _ h => h) (Or.inl ⟨by rfl, ?_⟩) (by assumption) ?_
              rotate_left 1
              · (intro w hSw; (try dsimp only at hSw); obtain ⟨hS1, hS2⟩ := hSw; go_simp) <;> (with_reducible rfl)
              try simp only [Act.put, List.setIfInBounds_toArray, List.set_cons_zero, List.set_cons_succ]
              refine wpAnyH_take (i := 15) (oi := ⟨some 13, _, _, _, _, _⟩) (v := ?_) rfl (by kernel_rfl) (by kernel_rfl) (by kernel_rfl) (fun _ _ _ h => h) (Or.inl ⟨by rfl, ?_⟩) (by assumption) ?_
              rotate_left 1
              · (intro w hSw; (try dsimp only at hSw); obtain ⟨hS1, hS2⟩ := hSw; go_simp) <;> (with_reducible rfl)
              try simp only [Act.put, List.setIfInBounds_toArray, List.set_cons_zero, List.set_cons_succ]
              refine wpAnyH_take (i := 16) (oi := ⟨some 14, _, _, _, _, _⟩) (v := ?_) rfl (by kernel_rfl) (by kernel_rfl) (by kernel_rfl) (fun _ _ _ h => h) (Or.inl ⟨by rfl, ?_⟩) (by assumption) ?_
              rotate_left 1
              · (intro w hSw; (try dsimp only at hSw); obtain ⟨hS1, hS2⟩ := hSw; go_simp) <;> (with_reducible rfl)
              try simp only [Act.put, List.setIfInBounds_toArray, List.set_cons_zero, List.set_cons_succ]
              refine wpAnyH_done (by kernel_rfl) ?_ _
              have HNL : Hid (nk = ks.length ∧ j + ks.length = m) := ⟨HI.out.2.2.2.1, HI.out.2.2.2.2.1⟩
              have hwk : IntKind.i64.wrap 1 = 1 := IntWalk.i64_in _ (by omega)
              have hS0 : (0 : Int) ≤ (1 : Int) := by omega
              have hS1 : (1 : Int) ≤ (nk : Int) := by omega
              have hS2 : (0 : Int) ≤ (cr : Int) := by omega
              have hS3 : (0 : Int) ≤ (1 : Int) := by omega
              have HLL : Hid (((ks.map kst).drop 1).length = (nk - 1) * 1) := by show _ = _; rw [List.length_drop, List.length_map, Nat.mul_one, ← HNL.out.1]
              clear HSD HS6 HRW HI
              by_cases hcr : cr = 1
              · have HRX : Hid (Rd w6.drew (some ⟨rb, 0, none⟩) ((ks.map kst).drop 1)) := fun h => by rw [HLL.out] at h; omega
                go_wp2_with fail
                refine wp_region_held_drew (S := fun _ => True) (by kernel_rfl) trivial (fun hHeld => ?_)
                refine wpAnyH_take (i := 0) (oi := ⟨some 91, _, _, _, _, _⟩) (v := ?_) rfl (by kernel_rfl) (by kernel_rfl) (by kernel_rfl) (fun _ _ _ h => h) (Or.inl ⟨by rfl, ?_⟩) (by assumption) ?_
                rotate_left 1
                · (intro w hSw; (try dsimp only at hSw); go_simp) <;> (with_reducible rfl)
                try simp only [Act.put, List.setIfInBounds_toArray, List.set_cons_zero, List.set_cons_succ]
                refine wpAnyH_take (i := 1) (oi := ⟨some 92, _, _, _, _, _⟩) (v := ?_) rfl (by kernel_rfl) (by kernel_rfl) (by kernel_rfl) (fun _ _ _ h => h) (Or.inl ⟨by rfl, ?_⟩) (by assumption) ?_
                rotate_left 1
                · (intro w hSw; (try dsimp only at hSw); go_simp) <;> (with_reducible rfl)
                try simp only [Act.put, List.setIfInBounds_toArray, List.set_cons_zero, List.set_cons_succ]
                refine wpAnyH_take (i := 2) (oi := ⟨some 93, _, _, _, _, _⟩) (v := ?_) rfl (by kernel_rfl) (by kernel_rfl) (by kernel_rfl) (fun _ _ _ h => h) (Or.inl ⟨by rfl, ?_⟩) (by assumption) ?_
                rotate_left 1
                · (intro w hSw; (try dsimp only at hSw); go_simp) <;> (with_reducible rfl)
                try simp only [Act.put, List.setIfInBounds_toArray, List.set_cons_zero, List.set_cons_succ]
                refine wpAnyH_take (i := 3) (oi := ⟨some 94, _, _, _, _, _⟩) (v := ?_) rfl (by kernel_rfl) (by kernel_rfl) (by kernel_rfl) (fun _ _ _ h => h) (Or.inl ⟨by rfl, ?_⟩) (by assumption) ?_
                rotate_left 1
                · (intro w hSw; (try dsimp only at hSw); go_simp) <;> (with_reducible rfl)
                try simp only [Act.put, List.setIfInBounds_toArray, List.set_cons_zero, List.set_cons_succ]
                refine wpAnyH_take (i := 4) (oi := ⟨some 95, _, _, _, _, _⟩) (v := ?_) rfl (by kernel_rfl) (by kernel_rfl) (by kernel_rfl) (fun _ _ _ h => h) (Or.inl ⟨by rfl, ?_⟩) (by assumption) ?_
                rotate_left 1
                · (intro w hSw; (try dsimp only at hSw); go_simp) <;> (with_reducible rfl)
                try simp only [Act.put, List.setIfInBounds_toArray, List.set_cons_zero, List.set_cons_succ]
                refine wpAnyH_take (i := 5) (oi := ⟨some 96, _, _, _, _, _⟩) (v := ?_) rfl (by kernel_rfl) (by kernel_rfl) (by kernel_rfl) (fun _ _ _ h => h) (Or.inl ⟨by rfl, ?_⟩) (by assumption) ?_
                rotate_left 1
                · (intro w hSw; (try dsimp only at hSw); go_simp) <;> (with_reducible rfl)
                try simp only [Act.put, List.setIfInBounds_toArray, List.set_cons_zero, List.set_cons_succ]
                refine wpAnyH_take (i := 6) (oi := ⟨some 97, _, _, _, _, _⟩) (v := ?_) rfl (by kernel_rfl) (by kernel_rfl) (by kernel_rfl) (fun _ _ _ h => h) (Or.inl ⟨by rfl, ?_⟩) (by assumption) ?_
                rotate_left 1
                · (intro w hSw; (try dsimp only at hSw); go_simp) <;> (with_reducible rfl)
                try simp only [Act.put, List.setIfInBounds_toArray, List.set_cons_zero, List.set_cons_succ]
                refine wpAnyH_take (i := 7) (oi := ⟨some 98, _, _, _, _, _⟩) (v := ?_) rfl (by kernel_rfl) (by kernel_rfl) (by kernel_rfl) (fun _ _ _ h => h) (Or.inl ⟨by rfl, ?_⟩) (by assumption) ?_
                rotate_left 1
                · (intro w hSw; (try dsimp only at hSw); go_simp) <;> (with_reducible rfl)
                try simp only [Act.put, List.setIfInBounds_toArray, List.set_cons_zero, List.set_cons_succ]
                refine wpAnyH_ready (rs := [8]) (by kernel_rfl) (by simp) ?_
                refine AllReadyH.cons (o := ⟨some 99, _, _, _, _, _⟩) rfl (fun K hK => ?_) AllReadyH.nil
                refine step_appRow rfl _ _ 45 rfl wk 9 i0 _ 1 16 Try.underlying45 hi hz0 hz1 hz2 rfl (by decide) (.slice (some ⟨rb, 0, none⟩) 0 0) 0 ((ks.map kst).take 0) rfl ((HR6.out.fr (Fr.refl NoBlk w6).drew fun _ _ e => e).cutc hkk) (some ⟨rb, 0, none⟩) 0 (nk - 1) ((ks.map kst).drop 1) rfl HLL.out HRX.out (fun u hu => kst_one ks u (List.mem_of_mem_drop hu)) (fun e => by cases e) (by unfold maxLen; have := HML.out; omega) (by have := HML.out; omega) (Nat.le_of_lt (Nat.lt_of_le_of_lt (HR6.out.lt (k := rb) rfl).1 (HR6.out.lt (k := rb) rfl).2)) ?_
                intro v7 w7 ho7 hf7 hb7
                rw [Nat.zero_add] at ho7; obtain ⟨A7, c7, rfl, _, _⟩ := ho7.form
                have hC : ∀ b, (Value.slice (some (⟨rb, 0, none⟩ : Addr)) 0 0).ownBlock = some b → b = rb := fun b e => by simpa [Value.ownBlock] using e.symm
                have hwkW : ∀ b, (Value.slice (some (⟨rb, 0, none⟩ : Addr)) 0 0).ownBlock = some b → W.heap.size ≤ b := fun b e => by
                  have := (HR6.out.lt (k := rb) rfl).1
                  have := hC b e
                  have := HBW.out
                  omega
                have H7 := Lib.hid ((H6.out.nofr (Fr.refl NoBlk w6).drew).frC hf7 (fun b hb e => HD6.out.1 (hC b e ▸ hb)) (fun b hb e => HD6.out.2.1 (hC b e ▸ hb)) (fun e => HD6.out.2.2.1 (hC _ e).symm) hwkW)
                have HR7 : Hid (RowW w7 wk 9 1 (.slice A7 (nk - 1) c7) (nk - 1) ((ks.take 0 ++ ks.drop 1).map kst)) := by
                  show RowW _ _ _ _ _ _ _
                  rw [List.map_append, List.map_take, List.map_drop]
                  exact ho7
                have HD7 : Hid (∀ b, ablk A7 b → ¬ Oa b ∧ ¬ O6 b ∧ b ≠ bm) := fun b hb => by
                  have h1 := ablk_own (n := (nk - 1)) (c := c7) hb
                  rcases hb7 with e | e
                  · rw [e] at h1
                    obtain rfl := hC b h1
                    exact ⟨HD6.out.1, HD6.out.2.1, HD6.out.2.2.1⟩
                  · rw [e] at h1
                    injection h1 with h1
                    refine ⟨fun x => ?_, fun x => ?_, fun x => ?_⟩
                    · have := H6.out.ta.lt x; have : w6.heap.size = b := h1; omega
                    · have := H6.out.tb.lt x; have : w6.heap.size = b := h1; omega
                    · have := H6.out.mp.lt; have : w6.heap.size = b := h1; omega
                clear ho7 hf7 hb7 hHeld
                refine hK.out _ _ ?_ (fun hHeld => ?_)
                · trivial
                clear hK K
                try simp only [Act.put, List.setIfInBounds_toArray, List.set_cons_zero, List.set_cons_succ]
                refine wpAnyH_take (i := 9) (oi := ⟨some 10, _, _, _, _, _⟩) (v := ?_) rfl (by kernel_rfl) (by kernel_rfl) (by kernel_rfl) (fun _ _ _ h => h) (Or.inl ⟨by rfl, ?_⟩) (by assumption) ?_
                rotate_left 1
                · (intro w hSw; (try dsimp only at hSw); go_simp) <;> (with_reducible rfl)
                try simp only [Act.put, List.setIfInBounds_toArray, List.set_cons_zero, List.set_cons_succ]
                refine wpAnyH_done (by kernel_rfl) ?_ _
                go_wp2_with fail
                go_roundw
                case rel =>
                  refine ⟨j + 1, (nk - 1), O6, _, ks.take 0 ++ ks.drop 1, A7, c7, rfl, by push_cast; rfl, H7.out, HPT.out, HUZ.out.1, ?_, ?_, HR7.out, HD7.out, HUZ.out.2⟩
                  · rw [List.length_append, List.length_take, List.length_drop]
                    have := HNL.out
                    omega
                  · rw [List.length_append, List.length_take, List.length_drop]
                    have := HNL.out
                    omega
                case measure => simp [intOf]; omega
              · have HRX : Hid (Rd w6.drew (some ⟨rb, 1, none⟩) ((ks.map kst).drop 1)) := (HR6.out.rd.nofr (Fr.refl NoBlk w6).drew).off 1
                go_wp2_with fail
                refine wp_region_held_drew (S := fun _ => True) (by kernel_rfl) trivial (fun hHeld => ?_)
                refine wpAnyH_take (i := 0) (oi := ⟨some 91, _, _, _, _, _⟩) (v := ?_) rfl (by kernel_rfl) (by kernel_rfl) (by kernel_rfl) (fun _ _ _ h => h) (Or.inl ⟨by rfl, ?_⟩) (by assumption) ?_
                rotate_left 1
                · (intro w hSw; (try dsimp only at hSw); go_simp) <;> (with_reducible rfl)
                try simp only [Act.put, List.setIfInBounds_toArray, List.set_cons_zero, List.set_cons_succ]
                refine wpAnyH_take (i := 1) (oi := ⟨some 92, _, _, _, _, _⟩) (v := ?_) rfl (by kernel_rfl) (by kernel_rfl) (by kernel_rfl) (fun _ _ _ h => h) (Or.inl ⟨by rfl, ?_⟩) (by assumption) ?_
                rotate_left 1
                · (intro w hSw; (try dsimp only at hSw); go_simp) <;> (with_reducible rfl)
                try simp only [Act.put, List.setIfInBounds_toArray, List.set_cons_zero, List.set_cons_succ]
                refine wpAnyH_take (i := 2) (oi := ⟨some 93, _, _, _, _, _⟩) (v := ?_) rfl (by kernel_rfl) (by kernel_rfl) (by kernel_rfl) (fun _ _ _ h => h) (Or.inl ⟨by rfl, ?_⟩) (by assumption) ?_
                rotate_left 1
                · (intro w hSw; (try dsimp only at hSw); go_simp) <;> (with_reducible rfl)
                try simp only [Act.put, List.setIfInBounds_toArray, List.set_cons_zero, List.set_cons_succ]
                refine wpAnyH_take (i := 3) (oi := ⟨some 94, _, _, _, _, _⟩) (v := ?_) rfl (by kernel_rfl) (by kernel_rfl) (by kernel_rfl) (fun _ _ _ h => h) (Or.inl ⟨by rfl, ?_⟩) (by assumption) ?_
                rotate_left 1
                · (intro w hSw; (try dsimp only at hSw); go_simp) <;> (with_reducible rfl)
                try simp only [Act.put, List.setIfInBounds_toArray, List.set_cons_zero, List.set_cons_succ]
                refine wpAnyH_take (i := 4) (oi := ⟨some 95, _, _, _, _, _⟩) (v := ?_) rfl (by kernel_rfl) (by kernel_rfl) (by kernel_rfl) (fun _ _ _ h => h) (Or.inl ⟨by rfl, ?_⟩) (by assumption) ?_
                rotate_left 1
                · (intro w hSw; (try dsimp only at hSw); go_simp) <;> (with_reducible rfl)
                try simp only [Act.put, List.setIfInBounds_toArray, List.set_cons_zero, List.set_cons_succ]
                refine wpAnyH_take (i := 5) (oi := ⟨some 96, _, _, _, _, _⟩) (v := ?_) rfl (by kernel_rfl) (by kernel_rfl) (by kernel_rfl) (fun _ _ _ h => h) (Or.inl ⟨by rfl, ?_⟩) (by assumption) ?_
                rotate_left 1
                · (intro w hSw; (try dsimp only at hSw); go_simp) <;> (with_reducible rfl)
                try simp only [Act.put, List.setIfInBounds_toArray, List.set_cons_zero, List.set_cons_succ]
                refine wpAnyH_take (i := 6) (oi := ⟨some 97, _, _, _, _, _⟩) (v := ?_) rfl (by kernel_rfl) (by kernel_rfl) (by kernel_rfl) (fun _ _ _ h => h) (Or.inl ⟨by rfl, ?_⟩) (by assumption) ?_
                rotate_left 1
                · (intro w hSw; (try dsimp only at hSw); go_simp) <;> (with_reducible rfl)
                try simp only [Act.put, List.setIfInBounds_toArray, List.set_cons_zero, List.set_cons_succ]
                refine wpAnyH_take (i := 7) (oi := ⟨some 98, _, _, _, _, _⟩) (v := ?_) rfl (by kernel_rfl) (by kernel_rfl) (by kernel_rfl) (fun _ _ _ h => h) (Or.inl ⟨by rfl, ?_⟩) (by assumption) ?_
                rotate_left 1
                · (intro w hSw; (try dsimp only at hSw); go_simp) <;> (with_reducible rfl)
                try simp only [Act.put, List.setIfInBounds_toArray, List.set_cons_zero, List.set_cons_succ]
                refine wpAnyH_ready (rs := [8]) (by kernel_rfl) (by simp) ?_
                refine AllReadyH.cons (o := ⟨some 99, _, _, _, _, _⟩) rfl (fun K hK => ?_) AllReadyH.nil
                refine step_appRow rfl _ _ 45 rfl wk 9 i0 _ 1 16 Try.underlying45 hi hz0 hz1 hz2 rfl (by decide) (.slice (some ⟨rb, 0, none⟩) 0 0) 0 ((ks.map kst).take 0) rfl ((HR6.out.fr (Fr.refl NoBlk w6).drew fun _ _ e => e).cutc hkk) (some ⟨rb, 1, none⟩) (cr - 1) (nk - 1) ((ks.map kst).drop 1) rfl HLL.out HRX.out (fun u hu => kst_one ks u (List.mem_of_mem_drop hu)) (fun e => by cases e) (by unfold maxLen; have := HML.out; omega) (by have := HML.out; omega) (Nat.le_of_lt (Nat.lt_of_le_of_lt (HR6.out.lt (k := rb) rfl).1 (HR6.out.lt (k := rb) rfl).2)) ?_
                intro v7 w7 ho7 hf7 hb7
                rw [Nat.zero_add] at ho7; obtain ⟨A7, c7, rfl, _, _⟩ := ho7.form
                have hC : ∀ b, (Value.slice (some (⟨rb, 0, none⟩ : Addr)) 0 0).ownBlock = some b → b = rb := fun b e => by simpa [Value.ownBlock] using e.symm
                have hwkW : ∀ b, (Value.slice (some (⟨rb, 0, none⟩ : Addr)) 0 0).ownBlock = some b → W.heap.size ≤ b := fun b e => by
                  have := (HR6.out.lt (k := rb) rfl).1
                  have := hC b e
                  have := HBW.out
                  omega
                have H7 := Lib.hid ((H6.out.nofr (Fr.refl NoBlk w6).drew).frC hf7 (fun b hb e => HD6.out.1 (hC b e ▸ hb)) (fun b hb e => HD6.out.2.1 (hC b e ▸ hb)) (fun e => HD6.out.2.2.1 (hC _ e).symm) hwkW)
                have HR7 : Hid (RowW w7 wk 9 1 (.slice A7 (nk - 1) c7) (nk - 1) ((ks.take 0 ++ ks.drop 1).map kst)) := by
                  show RowW _ _ _ _ _ _ _
                  rw [List.map_append, List.map_take, List.map_drop]
                  exact ho7
                have HD7 : Hid (∀ b, ablk A7 b → ¬ Oa b ∧ ¬ O6 b ∧ b ≠ bm) := fun b hb => by
                  have h1 := ablk_own (n := (nk - 1)) (c := c7) hb
                  rcases hb7 with e | e
                  · rw [e] at h1
                    obtain rfl := hC b h1
                    exact ⟨HD6.out.1, HD6.out.2.1, HD6.out.2.2.1⟩
                  · rw [e] at h1
                    injection h1 with h1
                    refine ⟨fun x => ?_, fun x => ?_, fun x => ?_⟩
                    · have := H6.out.ta.lt x; have : w6.heap.size = b := h1; omega
                    · have := H6.out.tb.lt x; have : w6.heap.size = b := h1; omega
                    · have := H6.out.mp.lt; have : w6.heap.size = b := h1; omega
                clear ho7 hf7 hb7 hHeld
                refine hK.out _ _ ?_ (fun hHeld => ?_)
                · trivial
                clear hK K
                try simp only [Act.put, List.setIfInBounds_toArray, List.set_cons_zero, List.set_cons_succ]
                refine wpAnyH_take (i := 9) (oi := ⟨some 10, _, _, _, _, _⟩) (v := ?_) rfl (by kernel_rfl) (by kernel_rfl) (by kernel_rfl) (fun _ _ _ h => h) (Or.inl ⟨by rfl, ?_⟩) (by assumption) ?_
                rotate_left 1
                · (intro w hSw; (try dsimp only at hSw); go_simp) <;> (with_reducible rfl)
                try simp only [Act.put, List.setIfInBounds_toArray, List.set_cons_zero, List.set_cons_succ]
                refine wpAnyH_done (by kernel_rfl) ?_ _
                go_wp2_with fail
                go_roundw
                case rel =>
                  refine ⟨j + 1, (nk - 1), O6, _, ks.take 0 ++ ks.drop 1, A7, c7, rfl, by push_cast; rfl, H7.out, HPT.out, HUZ.out.1, ?_, ?_, HR7.out, HD7.out, HUZ.out.2⟩
                  · rw [List.length_append, List.length_take, List.length_drop]
                    have := HNL.out
                    omega
                  · rw [List.length_append, List.length_take, List.length_drop]
                    have := HNL.out
                    omega
                case measure => simp [intOf]; omega
          · obtain rfl : nk = 0 := by omega
            have HZX : Hid (zs = xs) := by
              have hk : ks = [] := List.eq_nil_of_length_eq_zero (by have := HI.out.2.2.2.1; omega)
              have h := HI.out.2.1
              rw [hk] at h
              exact h.done HUX.out HI.out.2.2.1
            have H4 : Hid (Mem4 W ga gb bm Oa Ob xs xs m f wr) := by
              have h := HI.out.1
              rw [HZX.out] at h
              exact h
            have HLM : Hid (xs.length ≤ 100000) := by show _ ≤ _; have := HML.out; have := HMX.out; omega
            have HK1 := Lib.hid (treeKeysS_any wr ga Oa xs H4.out.ta HLM.out)
            rw [← HMX.out] at HK1
            clear HI HZX hjm
            go_wp2_with fail
            refine HK1.out.mono ?_
            clear HK1
            rintro e w6 ⟨A6, c6, rfl, ho6, hf6⟩
            have HR6 : Hid (Rd w6 A6 (xs.map keycS)) := Rd.of_own ho6
            have HF6 := Lib.hid hf6
            have HK2 := Lib.hid (treeKeysS_any w6 gb Ob xs (H4.out.tb.nofr hf6) HLM.out)
            rw [← HMX.out] at HK2
            clear ho6 hf6
            go_wp2_with fail
            refine HK2.out.mono ?_
            clear HK2
            rintro e w7 ⟨A7, c7, rfl, ho7, hf7⟩
            have HR7 : Hid (Rd w7 A7 (xs.map keycS)) := Rd.of_own ho7
            have HF7 := Lib.hid hf7
            have HK3 := Lib.hid (treeValuesS_any w7 ga Oa xs ((H4.out.ta.nofr HF6.out).nofr hf7) HLM.out)
            rw [← HMX.out] at HK3
            clear ho7 hf7
            go_wp2_with fail
            refine HK3.out.mono ?_
            clear HK3
            rintro e w8 ⟨A8, c8, rfl, ho8, hf8⟩
            have HR8 : Hid (Rd w8 A8 (xs.map valcS)) := Rd.of_own ho8
            have HF8 := Lib.hid hf8
            have HK4 := Lib.hid (treeValuesS_any w8 gb Ob xs (((H4.out.tb.nofr HF6.out).nofr HF7.out).nofr hf8) HLM.out)
            rw [← HMX.out] at HK4
            clear ho8 hf8
            go_wp2_with fail
            refine HK4.out.mono ?_
            clear HK4
            rintro e w9 ⟨A9, c9, rfl, ho9, hf9⟩
            have HR9 : Hid (Rd w9 A9 (xs.map valcS)) := Rd.of_own ho9
            have HF79 : Hid (Fr NoBlk w7 w9) := HF8.out.trans hf9
            have HF69 : Hid (Fr NoBlk w6 w9) := HF7.out.trans HF79.out
            have HQ6 := Lib.hid (HR6.out.nofr HF69.out)
            have HQ7 := Lib.hid (HR7.out.nofr HF79.out)
            have HQ8 := Lib.hid (HR8.out.nofr hf9)
            have H9 := Lib.hid (H4.out.nofr (HF6.out.trans HF69.out))
            have hlen : ∀ ty, (Builtin.len_ #[57] ty #[.map (some bm)]).run Try.prog w9 = .ok (.int .i64 (m : Int)) w9 := fun ty => Kg.len H9.out.mp Try.underlying57 ty
            clear ho9 hf9 HR6 HR7 HR8 HF6 HF7 HF8 HF79 HF69 H4
            go_wp2_with fail
            clear hlen
            go_loopw [136] (fun i wr' => ∃ t : Nat, i = .int .i64 (t : Int) ∧ t ≤ m ∧ Hid (Fr NoBlk w9 wr')) (fun i _ => (m - intOf i).toNat)
            case atStart => exact ⟨0, rfl, Nat.zero_le _, Fr.refl _ _⟩
            case round =>
              obtain ⟨t, rfl, ht, HT9⟩ := hrel
              by_cases htm : t < m
              · have hti : (t : Int) < (m : Int) := by omega
                obtain ⟨x, hx⟩ : ∃ x, xs[t]? = some x := ⟨_, List.getElem?_eq_getElem (by rw [← HMX.out]; exact htm)⟩
                obtain ⟨xk, xv⟩ := x
                obtain ⟨ba, oa, hA, p1⟩ := (HQ6.out.nofr HT9.out).at_ (k := t) (v := .string (bstr xk)) (by rw [List.getElem?_map, hx]; rfl)
                obtain ⟨bb, ob, hB, p2⟩ := (HQ7.out.nofr HT9.out).at_ (k := t) (v := .string (bstr xk)) (by rw [List.getElem?_map, hx]; rfl)
                obtain ⟨bc, oc, hC, p3⟩ := (HQ8.out.nofr HT9.out).at_ (k := t) (v := .int .i64 xv) (by rw [List.getElem?_map, hx]; rfl)
                obtain ⟨bd, od, hD, p4⟩ := (HR9.out.nofr HT9.out).at_ (k := t) (v := .int .i64 xv) (by rw [List.getElem?_map, hx]; rfl)
                have e4 := bstr_toList xk
                have hxm := List.mem_of_getElem? hx
                have hlk : ∀ q : Nat, (Instr.lookup 57 (.map (some bm)) (.string (bstr xk)) false).run Try.prog (wr.drewN q) = .ok (.int .i64 xv) (wr.drewN q) := fun q => SM.get (H9.out.mp.fr (HT9.out.drewN q) fun e => e) (HOK.out _ hxm) ((HREL.out xk).1 xv hxm)
                have hwt : IntKind.i64.wrap ((t : Int) + 1) = (t : Int) + 1 := by have := HML.out; exact IntWalk.i64_in _ (by omega)
                clear hxm
                by_cases ht0 : t = 0
                · subst ht0
                  subst hA hB hC hD
                  rw [Nat.add_zero] at p1 p2 p3 p4
                  clear hx
                  go_wp2_with fail
                  go_quiet (fail)
                  go_wp2_with fail
                  go_roundw
                  case rel => exact ⟨1, rfl, by omega, HT9.out.drewN _⟩
                  case measure => simp [intOf]; omega
                · have ht1 : (0 : Int) < (t : Int) := by omega
                  obtain ⟨y, hy⟩ : ∃ y, xs[t - 1]? = some y := ⟨_, List.getElem?_eq_getElem (by rw [← HMX.out]; omega)⟩
                  obtain ⟨yk, yv⟩ := y
                  obtain ⟨b0, o0, hA0, p0⟩ := (HQ6.out.nofr HT9.out).at_ (k := t - 1) (v := .string (bstr yk)) (by rw [List.getElem?_map, hy]; rfl)
                  have hlt : Op.bytesLess yk xk = true := HUX.out.get (show t - 1 < t by omega) hy hx
                  subst hA hB hC hD
                  injection hA0 with hA0
                  injection hA0 with z1 z2 z3
                  subst z1 z2
                  have e5 := bstr_toList yk
                  have hws : IntKind.i64.wrap ((t : Int) - 1) = ((t - 1 : Nat) : Int) := by have := HML.out; rw [IntWalk.i64_in _ (by omega)]; omega
                  have htm1 : ((t - 1 : Nat) : Int) < (m : Int) := by omega
                  have ht2 : 0 < t := by omega
                  have hdj : decide (0 < t) = true := decide_eq_true ht2
                  clear hx hy
                  go_wp2_with fail
                  go_quiet (fail)
                  go_wp2_with fail
                  go_roundw
                  case rel => exact ⟨t + 1, by push_cast; rfl, by omega, HT9.out.drewN _⟩
                  case measure => simp [intOf]; omega
              · have hti : ¬ (t : Int) < (m : Int) := by omega
                go_wp2_with fail
                go_ret
                exact ⟨rfl, H9.out.fr.trans HT9.out⟩

theorem paramsOk : ∀ t ∈ Try.f7.params.toList, Try.prog.readableRec t = true ∧ t < Try.prog.types.size := fun t ht => by
  have h := List.all_eq_true.1 (show (Try.f7.params.toList.all fun t => Try.prog.readableRec t && decide (t < Try.prog.types.size)) = true by kernel_rfl) t ht
  simpa using h

set_option maxRecDepth 100000 in
theorem lifted (os : Os) (started : os.Started) (H : Type) (enc : TypeId × Value → H) :
    ReturnsInHanded {} Try.checked os 7 .any (Rows.btreeAnyOrderSpec.pre6 enc Try.prog Try.f7 Rows.btreeAnyOrderRow.domain false) (Rows.btreeAnyOrderSpec.post enc Try.prog Try.f7 false true false false) := by
  refine returnsInHanded_of_change (C := Try.checked) own started (by kernel_rfl) Try.func7
    (ChangeSpec.witness6 (enc := enc) (C := Try.checked) false ⟨#[], #[.slice none 0 0, .slice none 0 0], []⟩ 8 (by kernel_rfl) (by kernel_rfl) (by kernel_rfl) (by kernel_rfl)) ?_
  intro W base args ds gs before hval0 hW _ _
  have hval : ∀ (j : Nat) t v, Try.f7.params[j]? = some t → args[j]? = some v → Value.okWide Try.prog W .any base t v := hval0
  have hW' := hW
  obtain ⟨p, q, hA0, hV, rfl, _, _⟩ := hW
  have hA : DataW.TrodAll enc Try.prog W 0 (fun _ => true) true Try.f7.params.toList args.toList ds p := hA0
  rw [Try.params7] at hA hval
  obtain ⟨v0, vs0, d0, ds0, p0, q0, hargs, rfl, rfl, h0, r0⟩ := trodAll_cons hA
  obtain ⟨v1, vs1, d1, ds1, p1, q1, rfl, rfl, rfl, h1, r1⟩ := trodAll_cons r0
  obtain ⟨rfl, rfl, rfl⟩ := trodAll_nil r1
  obtain rfl : args = #[v0, v1] := by cases args; simp_all
  obtain ⟨rfl, rfl⟩ := trodVars_none hV
  obtain ⟨A, c, l, rfl, hr, hx, hn, hm⟩ := open_opns (hval 0 _ v0 rfl rfl) h0
  obtain ⟨P2, pc, ps, rfl, hp, _, hn2, hm2⟩ := open_ints1 (hval 1 _ v1 rfl rfl) h1
  have walk := walk W A c l hr hx (Nat.le_trans hn hm) P2 pc ps hp (Nat.le_trans hn2 hm2)
  clear hA0 hval0
  refine walk.mono fun e W' ⟨he, hf⟩ => ?_
  subst he
  exact ⟨_, rfl, law_post laidOut paramsOk rfl rfl Try.underlying4 hW' rfl rfl rfl hf⟩

theorem said : Rows.BtreeAnyOrderSaid :=
  OpenClaim.holds_of_wide 7 Try.f7 rfl rfl rfl rfl rfl rfl rfl ⟨rfl, rfl, rfl, rfl, rfl⟩ rfl rfl rfl rfl rfl (by kernel_rfl) Try.func7 (by kernel_rfl)
    (of_decide_eq_true (by kernel_rfl)) (by unfold Func.isWrapper; first | (rw [if_pos (by decide +kernel)]; kernel_rfl) | (rw [if_neg (by decide +kernel)]; exact ⟨rfl, rfl⟩))
    (fun os started H enc _ => lifted os started H enc)
end Go.Proofs.Ytcpgonioobgpoaa.btreeAnyOrder
