/- NetPlays is true: every call of any script on a net answers exactly as a list of parcels does. No condition. -/
import Derived.Test.YtdfmoijomnjdiaaPl
import Derived.IntWalk
namespace Go.Proofs.Ytdfmoijomnjdiaa.netPlays
open Go.ChangeShapes Go.WideShapes Go.ChangeAt Go.RowKit Go.Maps Go.ChangeMaps Go.MapKept

theorem low_bits (k : Int) (m : Nat) (hm : m ≤ 65535) : ∃ q : Nat, bits .and .i64 k (m : Int) = (q : Int) ∧ q ≤ m := by
  have e : (BitVec.ofInt 64 (m : Int)).toNat = m := by rw [BitVec.ofInt_natCast, BitVec.toNat_ofNat]; omega
  have hq : (BitVec.ofInt 64 k &&& BitVec.ofInt 64 (m : Int)).toNat ≤ m := by
    rw [BitVec.toNat_and]
    have := Nat.and_le_right (n := (BitVec.ofInt 64 k).toNat) (m := (BitVec.ofInt 64 (m : Int)).toNat)
    omega
  refine ⟨(BitVec.ofInt 64 k &&& BitVec.ofInt 64 (m : Int)).toNat, ?_, hq⟩
  show IntKind.i64.wrap (((BitVec.ofInt 64 k &&& BitVec.ofInt 64 (m : Int)).toNat : Nat) : Int) = _
  generalize (BitVec.ofInt 64 k &&& BitVec.ofInt 64 (m : Int)).toNat = q at *
  exact IntWalk.i64_in _ (by omega)
def noa (x : Nop) : Array Value := #[.int .i64 x.kind, .int .i64 x.k, .int .i64 x.p.src, .int .i64 x.p.dst, .int .u64 x.p.ep, .int .u64 x.p.pe, .int .u64 x.p.sq, .int .u64 x.p.ak, .slice x.p.d.1 x.p.d.2.2.length x.p.d.2.1]
def zv : Vl := (0, 0, 0, 0, 0, 0, [])
def tk (vs : List Vl) (k : Int) : List Vl := if hasB vs.length k = true then vs.eraseIdx k.toNat else vs
def tv (vs : List Vl) (k : Int) : Vl := if hasB vs.length k = true then vs.getD k.toNat zv else zv
def cpB (vs : List Vl) (k : Int) : Bool := hasB vs.length k && decide (vs.length < 4000)
def cpL (vs : List Vl) (k : Int) : List Vl := if cpB vs k = true then vs ++ [vs.getD k.toNat zv] else vs
section
variable {w W : World} {E : Nat → Prop} {g m : Nat} {vs us : List Vl} (h : Pl w W E g m vs us)
include h
theorem pl_take2 (k : Int) : Calls Try.prog 8 #[.pointer (some ⟨g, 0, none⟩), .int .i64 k] W fun e W' => Fr (Out w E) W W' ∧
    ∃ p, e = .returned (.tuple #[.agg #[.int .i64 p.src, .int .i64 p.dst, .int .u64 p.ep, .int .u64 p.pe, .int .u64 p.sq, .int .u64 p.ak, .slice p.d.1 p.d.2.2.length p.d.2.1], .bool (hasB vs.length k)]) ∧ pvl p = tv vs k ∧ Rd W' p.d.1 (cb p.d.2.2) ∧ Pl w W' E g m (tk vs k) us := by
  refine (pl_take h k).mono ?_
  rintro e W' ⟨hf, ⟨hb, p, hp, rfl, hr, hn⟩ | ⟨hb, rfl, hn⟩⟩
  · exact ⟨hf, p, by rw [hb], by rw [tv, if_pos hb, List.getD_eq_getElem?_getD, hp]; rfl, hr, by rw [tk, if_pos hb]; exact hn⟩
  · exact ⟨hf, ⟨0, 0, 0, 0, 0, 0, none, 0, []⟩, by rw [hb]; rfl, by rw [tv, if_neg (by simp [hb])]; rfl, Rd.none_ _ _, by rw [tk, if_neg (by simp [hb])]; exact hn⟩
theorem pr_take2 (k : Int) : Calls Try.prog 9 #[.pointer (some ⟨m, 0, none⟩), .int .i64 k] W fun e W' => Fr (fun k => k = m) W W' ∧
    ∃ q, e = .returned (.tuple #[.agg #[.int .i64 q.src, .int .i64 q.dst, .int .u64 q.ep, .int .u64 q.pe, .int .u64 q.sq, .int .u64 q.ak, .slice q.d.1 q.d.2.2.length q.d.2.1], .bool (hasB us.length k)]) ∧ pvl q = tv us k ∧ PcIn w q ∧ Pl w W' E g m vs (tk us k) := by
  refine (pr_take h k).mono ?_
  rintro e W' ⟨hf, ⟨hb, q, hq, rfl, hr, hn⟩ | ⟨hb, rfl, hn⟩⟩
  · exact ⟨hf, q, by rw [hb], by rw [tv, if_pos hb, List.getD_eq_getElem?_getD, hq]; rfl, hr, by rw [tk, if_pos hb]; exact hn⟩
  · exact ⟨hf, ⟨0, 0, 0, 0, 0, 0, none, 0, []⟩, by rw [hb]; rfl, by rw [tv, if_neg (by simp [hb])]; rfl, ⟨Rd.none_ _ _, fun _ => rfl, by simp⟩, by rw [tk, if_neg (by simp [hb])]; exact hn⟩
theorem pl_copy2 (k : Int) : Calls Try.prog 14 #[.pointer (some ⟨g, 0, none⟩), .int .i64 k] W fun e W' => e = .returned (.bool (cpB vs k)) ∧ Fr (Out w E) W W' ∧ Pl w W' E g m (cpL vs k) us := by
  refine (pl_copy h k).mono ?_
  rintro e W' ⟨hf, ⟨hb, h4, rfl, v, hv, hn⟩ | ⟨hb, rfl, hn⟩⟩
  · have hc : cpB vs k = true := by simp [cpB, hb, h4]
    exact ⟨by rw [hc], hf, by rw [cpL, if_pos hc, List.getD_eq_getElem?_getD, hv]; exact hn⟩
  · have hc : cpB vs k = false := by
      unfold cpB
      cases h1 : hasB vs.length k with
      | false => rfl
      | true => simp only [Bool.true_and, decide_eq_false_iff_not]; exact fun h => hb ⟨h1, h⟩
    exact ⟨by rw [hc], hf, by rw [cpL, if_neg (by simp [hc])]; exact hn⟩
end
theorem pl_new {w w2 : World} {g : Nat} (hn : NK w w2 (fun _ => False) g []) (hf : Fr NoBlk w w2) : Pl w (w2.alloc (.cells #[.slice none 0 0] 29)) (fun _ => False) g w2.heap.size [] [] := by
  have hsz := hf.size
  exact ⟨⟨fun k => k = w2.heap.size, none, 0, [], (hn.sub (S' := fun k => k = w2.heap.size ∨ False) fun k hk => by rcases hk with hk | hk; exact .inr (by omega); exact hk.elim).nofr ((Fr.refl _ _).alloc _), ⟨Bk.new _ _ _, World.ownsRow_nil _ _ _ _, (fun _ h => by cases h), rfl, (fun _ h => by cases h), (fun k hk => by subst hk; simp), Nat.zero_le _, hf.alloc _⟩, rfl, fun k hk => ⟨by omega, fun e => e⟩⟩, fun _ e => e.elim⟩
theorem nop_at {w : World} {A : Option Addr} {xs : List Nop} (h : Rd w A (nosc xs)) {k : Nat} {x : Nop} (hx : xs[k]? = some x) :
    ∃ b o, A = some ⟨b, o, none⟩ ∧ ∀ j v, (noc x)[j]? = some v → w.cell? ⟨b, o + k * 9 + j, none⟩ = some v := Rd.cat noc 9 noc_len h (by omega) hx

set_option maxRecDepth 100000 in
set_option maxHeartbeats 16000000 in
theorem walk (w : World) (A : Option Addr) (c : Nat) (xs : List Nop) (hr : Rd w A (nosc xs)) (hx : ∀ x ∈ xs, PcIn w x.p) :
    Calls Try.prog 3 #[.slice A xs.length c] w fun e w' => e = .returned (.bool true) ∧ Fr NoBlk w w' := by
  have HR : Hid (Rd w A (nosc xs)) := hr
  have HXS : Hid (∀ x ∈ xs, PcIn w x.p) := hx
  clear hr hx
  go_enter Try.func3, Try.ntmps3
  go_wp2_with fail
  refine (speaks_any w).mono ?_
  rintro e w1 ⟨rfl, hf1⟩
  have HF1 := Lib.hid hf1
  clear hf1
  by_cases hb1 : 200 < xs.length
  · have hb1' : (200 : Int) < (xs.length : Int) := by omega
    go_wp2_with fail
    go_ret
    exact ⟨rfl, HF1.out⟩
  have hb1' : ¬ (200 : Int) < (xs.length : Int) := by omega
  have hx200 : xs.length ≤ 200 := by omega
  clear hb1
  go_wp2_with fail
  refine (nk_new w w1 (fun _ => False) HF1.out (noS w1)).mono ?_
  rintro e w2 ⟨g, rfl, hn, hf2⟩
  have HPN := Lib.hid (pl_new hn (HF1.out.trans hf2))
  clear hn hf2 HF1 hb1'
  go_upto_region 9 with fail
  obtain ⟨w3, hw3⟩ : ∃ w3, w3 = w2.alloc (.cells #[.slice none 0 0] 29) := ⟨_, rfl⟩
  rw [← hw3] at HPN ⊢
  clear hw3
  generalize w2.heap.size = m at *
  go_loopw [28] (fun s wr => ∃ (j : Nat) (vs : List Vl), j ≤ xs.length ∧ s = .int .i64 (j : Int) ∧ Hid (Pl w wr (fun _ => False) g m vs vs)) (fun s _ => xs.length - (intOf s).toNat)
  case atStart => exact ⟨0, [], by omega, rfl, HPN⟩
  case round =>
    obtain ⟨j, vs, hj, rfl, HJ⟩ := hrel
    by_cases hlt : j < xs.length
    · obtain ⟨x, hx⟩ : ∃ x, xs[j]? = some x := ⟨_, List.getElem?_eq_getElem hlt⟩
      have HXI := Lib.hid (HXS.out x (List.mem_of_getElem? hx))
      obtain ⟨b, o, hA, hc⟩ := nop_at (HR.out.nofr HJ.out.fr) hx
      have u0 := hc 0 _ rfl
      have u1 := hc 1 _ rfl
      have u2 := hc 2 _ rfl
      have u3 := hc 3 _ rfl
      have u4 := hc 4 _ rfl
      have u5 := hc 5 _ rfl
      have u6 := hc 6 _ rfl
      have u7 := hc 7 _ rfl
      have u8 := hc 8 _ rfl
      unfold sl at u8
      simp only [Nat.add_zero] at u0
      rw [hA]
      clear hA hc hx
      obtain ⟨wb, hwb⟩ : ∃ wb, wb = wr.alloc (.cells (noa x) 37) := ⟨_, rfl⟩
      obtain ⟨bo, hbo⟩ : ∃ bo, bo = wr.heap.size := ⟨_, rfl⟩
      have HBO : Hid (Bk wb bo 37 (noa x)) := by show Bk _ _ _ _; rw [hwb, hbo]; exact Bk.new _ _ _
      have hfb : Fr NoBlk wr wb := by rw [hwb]; exact (Fr.refl _ _).alloc _
      have HP1 : Hid (Pl w wb (fun k => k = bo) g m vs vs) := HJ.out.sub (fun k hk => .inr (by rw [hk, hbo]; exact Nat.le_refl _)) hfb (fun k hk => by rw [hk]; exact HBO.out.lt)
      unfold noa at hwb
      clear hfb HJ
      by_cases h500 : 500 < x.p.d.2.2.length
      · have h500' : (500 : Int) < (x.p.d.2.2.length : Int) := by omega
        have HFE := Lib.hid HP1.out.fr
        rw [hwb] at HFE
        go_wp2_with fail
        go_ret
        exact ⟨rfl, HFE.out⟩
      have h500' : ¬ (500 : Int) < (x.p.d.2.2.length : Int) := by omega
      have H500 : Hid (x.p.d.2.2.length ≤ 1000000) := by show _ ≤ _; omega
      clear h500
      go_upto_region 13 with fail
      rw [← hwb, ← hbo]
      clear hwb hbo u0 u1 u2 u3 u4 u5 u6 u7 u8 h500'
      have k0 : wb.cell? ⟨bo, 0, none⟩ = some (.int .i64 x.kind) := HBO.out.cell 0
      have k1 : wb.cell? ⟨bo, 1, none⟩ = some (.int .i64 x.k) := HBO.out.cell 1
      have HSO : Hid (∀ w' : World, Bk w' bo 37 (noa x) → w'.cell? ⟨bo, 1, none⟩ = some (.int .i64 x.k) ∧ True) := fun w' h => ⟨h.cell 1, trivial⟩
      obtain ⟨q, hq, hq7⟩ := low_bits x.kind 7 (by omega)
      have hqq : bits .and .i64 x.kind 7 = (q : Int) := hq
      clear hq
      have hqs : q = 0 ∨ q = 1 ∨ q = 2 ∨ q = 3 ∨ 4 ≤ q := by omega
      rcases hqs with hqe | hqe | hqe | hqe | hqe
      · have hqn : bits .and .i64 x.kind 7 = 0 := by rw [hqq, hqe]; rfl
        clear hqq hqe hq7
        have HTK := Lib.hid (pl_take2 HP1.out x.k)
        clear HP1
        go_wp2_with fail
        refine HTK.out.mono ?_
        rintro e w4 ⟨hf, p, rfl, hpv, hpr, hpl⟩
        obtain ⟨w5, hw5⟩ : ∃ w5, w5 = w4.alloc (.cells (pca p) 35) := ⟨_, rfl⟩
        have HP5 : Hid (Pl w w5 (fun k => k = bo) g m (tk vs x.k) vs) := by show Pl _ _ _ _ _ _ _; rw [hw5]; exact hpl.nofr ((Fr.refl _ _).alloc _)
        have HBA : Hid (Bk w5 w4.heap.size 35 (pca p)) := by show Bk _ _ _ _; rw [hw5]; exact Bk.new _ _ _
        have HBO5 : Hid (Bk w5 bo 37 (noa x)) := by show Bk _ _ _ _; rw [hw5]; exact (HBO.out.fr hf (Out.keep hf (.inl rfl))).alloc _
        have HPR5 : Hid (Rd w5 p.d.1 (cb p.d.2.2)) := by show Rd _ _ _; rw [hw5]; exact hpr.alloc _
        have HPV := Lib.hid hpv
        have HM4 : Hid (m < w4.heap.size) := hpl.m_.2.2
        have k5 : w5.cell? ⟨bo, 1, none⟩ = some (.int .i64 x.k) := HBO5.out.cell 1
        unfold pca at hw5
        clear hf hpv hpr hpl HTK k0 k1
        go_upto_region 26 with fail
        rw [← hw5]
        clear hw5
        have HRT := Lib.hid (pr_take2 HP5.out x.k)
        go_wp2_with fail
        refine HRT.out.mono ?_
        rintro e w6 ⟨hf6, q, rfl, hqv, hqi, hpl6⟩
        obtain ⟨w7, hw7⟩ : ∃ w7, w7 = w6.alloc (.cells (pca q) 35) := ⟨_, rfl⟩
        have HP7 : Hid (Pl w w7 (fun k => k = bo) g m (tk vs x.k) (tk vs x.k)) := by show Pl _ _ _ _ _ _ _; rw [hw7]; exact hpl6.nofr ((Fr.refl _ _).alloc _)
        have HPR7 : Hid (Rd w7 p.d.1 (cb p.d.2.2)) := by show Rd _ _ _; rw [hw7]; exact (HP5.out.bytes hf6 _ _ HPR5.out).alloc _
        have hba : Bk w7 w4.heap.size 35 (pca p) := by rw [hw7]; exact (HBA.out.fr hf6 (fun e => by have := HM4.out; omega)).alloc _
        have hbb : Bk w7 w6.heap.size 35 (pca q) := by rw [hw7]; exact Bk.new _ _ _
        have HSM := Lib.hid (same_any w7 p q HPR7.out (hqi.rd.nofr HP7.out.fr))
        have HQV : Hid (pvl p = pvl q) := HPV.out.trans hqv.symm
        have a0 := hba.cell 0
        have a1 := hba.cell 1
        have a2 := hba.cell 2
        have a3 := hba.cell 3
        have a4 := hba.cell 4
        have a5 := hba.cell 5
        have a6 := hba.cell 6
        unfold pca at a0 a1 a2 a3 a4 a5 a6
        simp only [List.getElem?_toArray, List.getElem?_cons_zero, List.getElem?_cons_succ] at a0 a1 a2 a3 a4 a5 a6
        have b0 := hbb.cell 0
        have b1 := hbb.cell 1
        have b2 := hbb.cell 2
        have b3 := hbb.cell 3
        have b4 := hbb.cell 4
        have b5 := hbb.cell 5
        have b6 := hbb.cell 6
        unfold pca at b0 b1 b2 b3 b4 b5 b6
        simp only [List.getElem?_toArray, List.getElem?_cons_zero, List.getElem?_cons_succ] at b0 b1 b2 b3 b4 b5 b6
        obtain ⟨bb, hbb'⟩ : ∃ bb, bb = hasB vs.length x.k := ⟨_, rfl⟩
        rw [← hbb']
        have hbn : (bb != bb) = false := by simp
        unfold pca at hw7
        clear hbb' hba hbb hf6 hqv hqi hpl6 k5 HRT HP5 HPR5 HBA
        go_upto_region 27 with fail
        rw [← hw7]
        clear hw7
        go_wp2_with fail
        refine HSM.out.mono ?_
        rintro e w8 ⟨⟨d8, rfl, hd8⟩, hf8⟩
        obtain rfl : d8 = true := hd8.2 HQV.out
        have HPZ : Hid (Pl w w8 (fun k => k = bo) g m (tk vs x.k) (tk vs x.k)) := HP7.out.nofr hf8
        clear hd8 hf8 HSM HQV HP7 a0 b0 a1 b1 a2 b2 a3 b3 a4 b4 a5 b5 a6 b6
        obtain ⟨am, cm, qm, hqm, hdm, hcm⟩ := HPZ.out.list
        have HCM := Lib.hid hcm
        have HLN : Hid (∀ w', Fr NoBlk w8 w' → Calls Try.prog 16 #[.pointer (some ⟨g, 0, none⟩)] w' fun e W' => e = .returned (.int .i64 ((tk vs x.k).length : Int)) ∧ w' = W') := fun w' hf => pl_len (HPZ.out.nofr hf)
        clear hqm hdm hcm
        go_upto_region 37 with fail
        refine wp_region_held_drew (S := fun w' => Fr NoBlk w8 w') (by kernel_rfl) (by exact (Fr.refl NoBlk w8).drew) (fun hHeld => ?_)
        refine wpAnyH_take (i := 0) (oi := ⟨some 138, _, _, _, _, _⟩) (v := ?_) rfl (by kernel_rfl) (by kernel_rfl) (by kernel_rfl) (fun _ _ _ h => h) (Or.inl ⟨by rfl, ?_⟩) (by assumption) ?_
        rotate_left 1
        · (intro w hSw; (try dsimp only at hSw); have oM := (HCM.out _ hSw).1; go_simp) <;> (with_reducible rfl)
        try simp only [Act.put, List.setIfInBounds_toArray, List.set_cons_zero, List.set_cons_succ]
        refine wpAnyH_take (i := 2) (oi := ⟨some 140, _, _, _, _, _⟩) (v := ?_) rfl (by kernel_rfl) (by kernel_rfl) (by kernel_rfl) (fun _ _ _ h => h) (Or.inl ⟨by rfl, ?_⟩) (by assumption) ?_
        rotate_left 1
        · (intro w hSw; (try dsimp only at hSw); have oM := (HCM.out _ hSw).1; go_simp) <;> (with_reducible rfl)
        try simp only [Act.put, List.setIfInBounds_toArray, List.set_cons_zero, List.set_cons_succ]
        refine wpAnyH_take (i := 3) (oi := ⟨some 141, _, _, _, _, _⟩) (v := ?_) rfl (by kernel_rfl) (by kernel_rfl) (by kernel_rfl) (fun _ _ _ h => h) (Or.inl ⟨by rfl, ?_⟩) (by assumption) ?_
        rotate_left 1
        · (intro w hSw; (try dsimp only at hSw); have oM := (HCM.out _ hSw).1; go_simp) <;> (with_reducible rfl)
        try simp only [Act.put, List.setIfInBounds_toArray, List.set_cons_zero, List.set_cons_succ]
        refine wpAnyH_take (i := 4) (oi := ⟨some 142, _, _, _, _, _⟩) (v := ?_) rfl (by kernel_rfl) (by kernel_rfl) (by kernel_rfl) (fun _ _ _ h => h) (Or.inl ⟨by rfl, ?_⟩) (by assumption) ?_
        rotate_left 1
        · (intro w hSw; (try dsimp only at hSw); have oM := (HCM.out _ hSw).1; go_simp) <;> (with_reducible rfl)
        try simp only [Act.put, List.setIfInBounds_toArray, List.set_cons_zero, List.set_cons_succ]
        refine wpAnyH_take (i := 5) (oi := ⟨some 143, _, _, _, _, _⟩) (v := ?_) rfl (by kernel_rfl) (by kernel_rfl) (by kernel_rfl) (fun _ _ _ h => h) (Or.inl ⟨by rfl, ?_⟩) (by assumption) ?_
        rotate_left 1
        · (intro w hSw; (try dsimp only at hSw); have oM := (HCM.out _ hSw).1; go_simp) <;> (with_reducible rfl)
        try simp only [Act.put, List.setIfInBounds_toArray, List.set_cons_zero, List.set_cons_succ]
        refine wpAnyH_take (i := 6) (oi := ⟨some 144, _, _, _, _, _⟩) (v := ?_) rfl (by kernel_rfl) (by kernel_rfl) (by kernel_rfl) (fun _ _ _ h => h) (Or.inl ⟨by rfl, ?_⟩) (by assumption) ?_
        rotate_left 1
        · (intro w hSw; (try dsimp only at hSw); have oM := (HCM.out _ hSw).1; go_simp) <;> (with_reducible rfl)
        try simp only [Act.put, List.setIfInBounds_toArray, List.set_cons_zero, List.set_cons_succ]
        refine wpAnyH_ready (rs := [1]) (by kernel_rfl) (by simp) ?_
        refine AllReadyH.cons (o := ⟨some 139, _, _, _, _, _⟩) rfl (fun K hK => ?_) AllReadyH.nil
        have hSw := hHeld
        go_simp
        go_at_call 16
        refine (HLN.out _ hSw).mono ?_
        rintro e w' ⟨rfl, rfl⟩
        refine hK.out _ _ ?_ (fun hHeld => ?_)
        · assumption
        clear hK K
        try simp only [Act.put, List.setIfInBounds_toArray, List.set_cons_zero, List.set_cons_succ]
        refine wpAnyH_take (i := 7) (oi := ⟨some 145, _, _, _, _, _⟩) (v := ?_) rfl (by kernel_rfl) (by kernel_rfl) (by kernel_rfl) (fun _ _ _ h => h) (Or.inl ⟨by rfl, ?_⟩) (by assumption) ?_
        rotate_left 1
        · (intro w hSw; (try dsimp only at hSw); have oM := (HCM.out _ hSw).1; go_simp) <;> (with_reducible rfl)
        try simp only [Act.put, List.setIfInBounds_toArray, List.set_cons_zero, List.set_cons_succ]
        refine wpAnyH_done (by kernel_rfl) ?_ _
        have HPF : Hid (Pl w w8.drew (fun _ => False) g m (tk vs x.k) (tk vs x.k)) := HPZ.out.sub (fun _ e => e.elim) (Fr.refl NoBlk _).drew (fun _ e => e.elim)
        clear hHeld HLN HCM
        go_wp2_with fail
        go_roundw
        case rel => exact ⟨j + 1, tk vs x.k, by omega, by go_num, HPF⟩
        case measure => simp [intOf]; omega
      · have hqn : bits .and .i64 x.kind 7 = 1 := by rw [hqq, hqe]; rfl
        clear hqq hqe hq7
        have HTK := Lib.hid (pl_take2 HP1.out x.k)
        clear HP1
        go_wp2_with fail
        refine HTK.out.mono ?_
        rintro e w4 ⟨hf, p, rfl, hpv, hpr, hpl⟩
        obtain ⟨w5, hw5⟩ : ∃ w5, w5 = w4.alloc (.cells (pca p) 35) := ⟨_, rfl⟩
        have HP5 : Hid (Pl w w5 (fun k => k = bo) g m (tk vs x.k) vs) := by show Pl _ _ _ _ _ _ _; rw [hw5]; exact hpl.nofr ((Fr.refl _ _).alloc _)
        have HBA : Hid (Bk w5 w4.heap.size 35 (pca p)) := by show Bk _ _ _ _; rw [hw5]; exact Bk.new _ _ _
        have HBO5 : Hid (Bk w5 bo 37 (noa x)) := by show Bk _ _ _ _; rw [hw5]; exact (HBO.out.fr hf (Out.keep hf (.inl rfl))).alloc _
        have HPR5 : Hid (Rd w5 p.d.1 (cb p.d.2.2)) := by show Rd _ _ _; rw [hw5]; exact hpr.alloc _
        have HPV := Lib.hid hpv
        have HM4 : Hid (m < w4.heap.size) := hpl.m_.2.2
        have k5 : w5.cell? ⟨bo, 1, none⟩ = some (.int .i64 x.k) := HBO5.out.cell 1
        unfold pca at hw5
        clear hf hpv hpr hpl HTK k0 k1
        go_upto_region 26 with fail
        rw [← hw5]
        clear hw5
        have HRT := Lib.hid (pr_take2 HP5.out x.k)
        go_wp2_with fail
        refine HRT.out.mono ?_
        rintro e w6 ⟨hf6, q, rfl, hqv, hqi, hpl6⟩
        obtain ⟨w7, hw7⟩ : ∃ w7, w7 = w6.alloc (.cells (pca q) 35) := ⟨_, rfl⟩
        have HP7 : Hid (Pl w w7 (fun k => k = bo) g m (tk vs x.k) (tk vs x.k)) := by show Pl _ _ _ _ _ _ _; rw [hw7]; exact hpl6.nofr ((Fr.refl _ _).alloc _)
        have HPR7 : Hid (Rd w7 p.d.1 (cb p.d.2.2)) := by show Rd _ _ _; rw [hw7]; exact (HP5.out.bytes hf6 _ _ HPR5.out).alloc _
        have hba : Bk w7 w4.heap.size 35 (pca p) := by rw [hw7]; exact (HBA.out.fr hf6 (fun e => by have := HM4.out; omega)).alloc _
        have hbb : Bk w7 w6.heap.size 35 (pca q) := by rw [hw7]; exact Bk.new _ _ _
        have HSM := Lib.hid (same_any w7 p q HPR7.out (hqi.rd.nofr HP7.out.fr))
        have HQV : Hid (pvl p = pvl q) := HPV.out.trans hqv.symm
        have a0 := hba.cell 0
        have a1 := hba.cell 1
        have a2 := hba.cell 2
        have a3 := hba.cell 3
        have a4 := hba.cell 4
        have a5 := hba.cell 5
        have a6 := hba.cell 6
        unfold pca at a0 a1 a2 a3 a4 a5 a6
        simp only [List.getElem?_toArray, List.getElem?_cons_zero, List.getElem?_cons_succ] at a0 a1 a2 a3 a4 a5 a6
        have b0 := hbb.cell 0
        have b1 := hbb.cell 1
        have b2 := hbb.cell 2
        have b3 := hbb.cell 3
        have b4 := hbb.cell 4
        have b5 := hbb.cell 5
        have b6 := hbb.cell 6
        unfold pca at b0 b1 b2 b3 b4 b5 b6
        simp only [List.getElem?_toArray, List.getElem?_cons_zero, List.getElem?_cons_succ] at b0 b1 b2 b3 b4 b5 b6
        obtain ⟨bb, hbb'⟩ : ∃ bb, bb = hasB vs.length x.k := ⟨_, rfl⟩
        rw [← hbb']
        have hbn : (bb != bb) = false := by simp
        unfold pca at hw7
        clear hbb' hba hbb hf6 hqv hqi hpl6 k5 HRT HP5 HPR5 HBA
        go_upto_region 27 with fail
        rw [← hw7]
        clear hw7
        go_wp2_with fail
        refine HSM.out.mono ?_
        rintro e w8 ⟨⟨d8, rfl, hd8⟩, hf8⟩
        obtain rfl : d8 = true := hd8.2 HQV.out
        have HPZ : Hid (Pl w w8 (fun k => k = bo) g m (tk vs x.k) (tk vs x.k)) := HP7.out.nofr hf8
        clear hd8 hf8 HSM HQV HP7 a0 b0 a1 b1 a2 b2 a3 b3 a4 b4 a5 b5 a6 b6
        obtain ⟨am, cm, qm, hqm, hdm, hcm⟩ := HPZ.out.list
        have HCM := Lib.hid hcm
        have HLN : Hid (∀ w', Fr NoBlk w8 w' → Calls Try.prog 16 #[.pointer (some ⟨g, 0, none⟩)] w' fun e W' => e = .returned (.int .i64 ((tk vs x.k).length : Int)) ∧ w' = W') := fun w' hf => pl_len (HPZ.out.nofr hf)
        clear hqm hdm hcm
        go_upto_region 37 with fail
        refine wp_region_held_drew (S := fun w' => Fr NoBlk w8 w') (by kernel_rfl) (by exact (Fr.refl NoBlk w8).drew) (fun hHeld => ?_)
        refine wpAnyH_take (i := 0) (oi := ⟨some 138, _, _, _, _, _⟩) (v := ?_) rfl (by kernel_rfl) (by kernel_rfl) (by kernel_rfl) (fun _ _ _ h => h) (Or.inl ⟨by rfl, ?_⟩) (by assumption) ?_
        rotate_left 1
        · (intro w hSw; (try dsimp only at hSw); have oM := (HCM.out _ hSw).1; go_simp) <;> (with_reducible rfl)
        try simp only [Act.put, List.setIfInBounds_toArray, List.set_cons_zero, List.set_cons_succ]
        refine wpAnyH_take (i := 2) (oi := ⟨some 140, _, _, _, _, _⟩) (v := ?_) rfl (by kernel_rfl) (by kernel_rfl) (by kernel_rfl) (fun _ _ _ h => h) (Or.inl ⟨by rfl, ?_⟩) (by assumption) ?_
        rotate_left 1
        · (intro w hSw; (try dsimp only at hSw); have oM := (HCM.out _ hSw).1; go_simp) <;> (with_reducible rfl)
        try simp only [Act.put, List.setIfInBounds_toArray, List.set_cons_zero, List.set_cons_succ]
        refine wpAnyH_take (i := 3) (oi := ⟨some 141, _, _, _, _, _⟩) (v := ?_) rfl (by kernel_rfl) (by kernel_rfl) (by kernel_rfl) (fun _ _ _ h => h) (Or.inl ⟨by rfl, ?_⟩) (by assumption) ?_
        rotate_left 1
        · (intro w hSw; (try dsimp only at hSw); have oM := (HCM.out _ hSw).1; go_simp) <;> (with_reducible rfl)
        try simp only [Act.put, List.setIfInBounds_toArray, List.set_cons_zero, List.set_cons_succ]
        refine wpAnyH_take (i := 4) (oi := ⟨some 142, _, _, _, _, _⟩) (v := ?_) rfl (by kernel_rfl) (by kernel_rfl) (by kernel_rfl) (fun _ _ _ h => h) (Or.inl ⟨by rfl, ?_⟩) (by assumption) ?_
        rotate_left 1
        · (intro w hSw; (try dsimp only at hSw); have oM := (HCM.out _ hSw).1; go_simp) <;> (with_reducible rfl)
        try simp only [Act.put, List.setIfInBounds_toArray, List.set_cons_zero, List.set_cons_succ]
        refine wpAnyH_take (i := 5) (oi := ⟨some 143, _, _, _, _, _⟩) (v := ?_) rfl (by kernel_rfl) (by kernel_rfl) (by kernel_rfl) (fun _ _ _ h => h) (Or.inl ⟨by rfl, ?_⟩) (by assumption) ?_
        rotate_left 1
        · (intro w hSw; (try dsimp only at hSw); have oM := (HCM.out _ hSw).1; go_simp) <;> (with_reducible rfl)
        try simp only [Act.put, List.setIfInBounds_toArray, List.set_cons_zero, List.set_cons_succ]
        refine wpAnyH_take (i := 6) (oi := ⟨some 144, _, _, _, _, _⟩) (v := ?_) rfl (by kernel_rfl) (by kernel_rfl) (by kernel_rfl) (fun _ _ _ h => h) (Or.inl ⟨by rfl, ?_⟩) (by assumption) ?_
        rotate_left 1
        · (intro w hSw; (try dsimp only at hSw); have oM := (HCM.out _ hSw).1; go_simp) <;> (with_reducible rfl)
        try simp only [Act.put, List.setIfInBounds_toArray, List.set_cons_zero, List.set_cons_succ]
        refine wpAnyH_ready (rs := [1]) (by kernel_rfl) (by simp) ?_
        refine AllReadyH.cons (o := ⟨some 139, _, _, _, _, _⟩) rfl (fun K hK => ?_) AllReadyH.nil
        have hSw := hHeld
        go_simp
        go_at_call 16
        refine (HLN.out _ hSw).mono ?_
        rintro e w' ⟨rfl, rfl⟩
        refine hK.out _ _ ?_ (fun hHeld => ?_)
        · assumption
        clear hK K
        try simp only [Act.put, List.setIfInBounds_toArray, List.set_cons_zero, List.set_cons_succ]
        refine wpAnyH_take (i := 7) (oi := ⟨some 145, _, _, _, _, _⟩) (v := ?_) rfl (by kernel_rfl) (by kernel_rfl) (by kernel_rfl) (fun _ _ _ h => h) (Or.inl ⟨by rfl, ?_⟩) (by assumption) ?_
        rotate_left 1
        · (intro w hSw; (try dsimp only at hSw); have oM := (HCM.out _ hSw).1; go_simp) <;> (with_reducible rfl)
        try simp only [Act.put, List.setIfInBounds_toArray, List.set_cons_zero, List.set_cons_succ]
        refine wpAnyH_done (by kernel_rfl) ?_ _
        have HPF : Hid (Pl w w8.drew (fun _ => False) g m (tk vs x.k) (tk vs x.k)) := HPZ.out.sub (fun _ e => e.elim) (Fr.refl NoBlk _).drew (fun _ e => e.elim)
        clear hHeld HLN HCM
        go_wp2_with fail
        go_roundw
        case rel => exact ⟨j + 1, tk vs x.k, by omega, by go_num, HPF⟩
        case measure => simp [intOf]; omega
      · have hqn : bits .and .i64 x.kind 7 = 2 := by rw [hqq, hqe]; rfl
        clear hqq hqe hq7
        have HRT := Lib.hid (pr_take2 HP1.out x.k)
        have HM4 := Lib.hid HP1.out.m_
        clear HP1
        go_wp2_with fail
        refine HRT.out.mono ?_
        rintro e w4 ⟨hf, q, rfl, hqv, hqi, hpl⟩
        obtain ⟨w5, hw5⟩ : ∃ w5, w5 = w4.alloc (.cells (pca q) 35) := ⟨_, rfl⟩
        have HP5 : Hid (Pl w w5 (fun k => k = bo) g m vs (tk vs x.k)) := by show Pl _ _ _ _ _ _ _; rw [hw5]; exact hpl.nofr ((Fr.refl _ _).alloc _)
        have HBO5 : Hid (Bk w5 bo 37 (noa x)) := by show Bk _ _ _ _; rw [hw5]; exact (HBO.out.fr hf (fun e => HM4.out.1 e.symm)).alloc _
        have k5 : w5.cell? ⟨bo, 1, none⟩ = some (.int .i64 x.k) := HBO5.out.cell 1
        unfold pca at hw5
        clear hf hqv hqi hpl HRT k0 k1
        go_upto_region 31 with fail
        rw [← hw5]
        clear hw5
        have HDR := Lib.hid (pl_drop HP5.out x.k)
        obtain ⟨bb, hbb'⟩ : ∃ bb, bb = hasB vs.length x.k := ⟨_, rfl⟩
        rw [← hbb'] at HDR ⊢
        have hbn : (bb != bb) = false := by simp
        have HBB := Lib.hid hbb'
        clear hbb' HP5
        go_wp2_with fail
        refine HDR.out.mono ?_
        rintro e w8 ⟨rfl, hf8, hpl8⟩
        have HPZ : Hid (Pl w w8 (fun k => k = bo) g m (tk vs x.k) (tk vs x.k)) := by
          show Pl _ _ _ _ _ _ _
          rw [HBB.out] at hpl8
          exact hpl8
        clear hf8 hpl8 HDR HBB k5
        obtain ⟨am, cm, qm, hqm, hdm, hcm⟩ := HPZ.out.list
        have HCM := Lib.hid hcm
        have HLN : Hid (∀ w', Fr NoBlk w8 w' → Calls Try.prog 16 #[.pointer (some ⟨g, 0, none⟩)] w' fun e W' => e = .returned (.int .i64 ((tk vs x.k).length : Int)) ∧ w' = W') := fun w' hf => pl_len (HPZ.out.nofr hf)
        clear hqm hdm hcm
        go_upto_region 37 with fail
        refine wp_region_held_drew (S := fun w' => Fr NoBlk w8 w') (by kernel_rfl) (by exact (Fr.refl NoBlk w8).drew) (fun hHeld => ?_)
        refine wpAnyH_take (i := 0) (oi := ⟨some 138, _, _, _, _, _⟩) (v := ?_) rfl (by kernel_rfl) (by kernel_rfl) (by kernel_rfl) (fun _ _ _ h => h) (Or.inl ⟨by rfl, ?_⟩) (by assumption) ?_
        rotate_left 1
        · (intro w hSw; (try dsimp only at hSw); have oM := (HCM.out _ hSw).1; go_simp) <;> (with_reducible rfl)
        try simp only [Act.put, List.setIfInBounds_toArray, List.set_cons_zero, List.set_cons_succ]
        refine wpAnyH_take (i := 2) (oi := ⟨some 140, _, _, _, _, _⟩) (v := ?_) rfl (by kernel_rfl) (by kernel_rfl) (by kernel_rfl) (fun _ _ _ h => h) (Or.inl ⟨by rfl, ?_⟩) (by assumption) ?_
        rotate_left 1
        · (intro w hSw; (try dsimp only at hSw); have oM := (HCM.out _ hSw).1; go_simp) <;> (with_reducible rfl)
        try simp only [Act.put, List.setIfInBounds_toArray, List.set_cons_zero, List.set_cons_succ]
        refine wpAnyH_take (i := 3) (oi := ⟨some 141, _, _, _, _, _⟩) (v := ?_) rfl (by kernel_rfl) (by kernel_rfl) (by kernel_rfl) (fun _ _ _ h => h) (Or.inl ⟨by rfl, ?_⟩) (by assumption) ?_
        rotate_left 1
        · (intro w hSw; (try dsimp only at hSw); have oM := (HCM.out _ hSw).1; go_simp) <;> (with_reducible rfl)
        try simp only [Act.put, List.setIfInBounds_toArray, List.set_cons_zero, List.set_cons_succ]
        refine wpAnyH_take (i := 4) (oi := ⟨some 142, _, _, _, _, _⟩) (v := ?_) rfl (by kernel_rfl) (by kernel_rfl) (by kernel_rfl) (fun _ _ _ h => h) (Or.inl ⟨by rfl, ?_⟩) (by assumption) ?_
        rotate_left 1
        · (intro w hSw; (try dsimp only at hSw); have oM := (HCM.out _ hSw).1; go_simp) <;> (with_reducible rfl)
        try simp only [Act.put, List.setIfInBounds_toArray, List.set_cons_zero, List.set_cons_succ]
        refine wpAnyH_take (i := 5) (oi := ⟨some 143, _, _, _, _, _⟩) (v := ?_) rfl (by kernel_rfl) (by kernel_rfl) (by kernel_rfl) (fun _ _ _ h => h) (Or.inl ⟨by rfl, ?_⟩) (by assumption) ?_
        rotate_left 1
        · (intro w hSw; (try dsimp only at hSw); have oM := (HCM.out _ hSw).1; go_simp) <;> (with_reducible rfl)
        try simp only [Act.put, List.setIfInBounds_toArray, List.set_cons_zero, List.set_cons_succ]
        refine wpAnyH_take (i := 6) (oi := ⟨some 144, _, _, _, _, _⟩) (v := ?_) rfl (by kernel_rfl) (by kernel_rfl) (by kernel_rfl) (fun _ _ _ h => h) (Or.inl ⟨by rfl, ?_⟩) (by assumption) ?_
        rotate_left 1
        · (intro w hSw; (try dsimp only at hSw); have oM := (HCM.out _ hSw).1; go_simp) <;> (with_reducible rfl)
        try simp only [Act.put, List.setIfInBounds_toArray, List.set_cons_zero, List.set_cons_succ]
        refine wpAnyH_ready (rs := [1]) (by kernel_rfl) (by simp) ?_
        refine AllReadyH.cons (o := ⟨some 139, _, _, _, _, _⟩) rfl (fun K hK => ?_) AllReadyH.nil
        have hSw := hHeld
        go_simp
        go_at_call 16
        refine (HLN.out _ hSw).mono ?_
        rintro e w' ⟨rfl, rfl⟩
        refine hK.out _ _ ?_ (fun hHeld => ?_)
        · assumption
        clear hK K
        try simp only [Act.put, List.setIfInBounds_toArray, List.set_cons_zero, List.set_cons_succ]
        refine wpAnyH_take (i := 7) (oi := ⟨some 145, _, _, _, _, _⟩) (v := ?_) rfl (by kernel_rfl) (by kernel_rfl) (by kernel_rfl) (fun _ _ _ h => h) (Or.inl ⟨by rfl, ?_⟩) (by assumption) ?_
        rotate_left 1
        · (intro w hSw; (try dsimp only at hSw); have oM := (HCM.out _ hSw).1; go_simp) <;> (with_reducible rfl)
        try simp only [Act.put, List.setIfInBounds_toArray, List.set_cons_zero, List.set_cons_succ]
        refine wpAnyH_done (by kernel_rfl) ?_ _
        have HPF : Hid (Pl w w8.drew (fun _ => False) g m (tk vs x.k) (tk vs x.k)) := HPZ.out.sub (fun _ e => e.elim) (Fr.refl NoBlk _).drew (fun _ e => e.elim)
        clear hHeld HLN HCM
        go_wp2_with fail
        go_roundw
        case rel => exact ⟨j + 1, tk vs x.k, by omega, by go_num, HPF⟩
        case measure => simp [intOf]; omega
      · have hqn : bits .and .i64 x.kind 7 = 3 := by rw [hqq, hqe]; rfl
        clear hqq hqe hq7
        by_cases hhb : hasB vs.length x.k = true
        · obtain ⟨i, hxk, hi'⟩ := hasB_true hhb
          have HXK := Lib.hid hxk
          have HSI : Hid (∀ w' : World, Bk w' bo 37 (noa x) → w'.cell? ⟨bo, 1, none⟩ = some (.int .i64 (i : Int)) ∧ True) := fun w' h => by rw [← HXK.out]; exact HSO.out w' h
          have hhi : hasB vs.length (i : Int) = true := by rw [← hxk]; exact hhb
          have hix : (i : Int) < (vs.length : Int) := by omega
          clear hxk
          by_cases h4 : vs.length < 4000
          · have HCB : Hid (cpB vs x.k = true) := by show _ = _; simp [cpB, hhb, h4]
            clear hhb
            go_upto_region 34 with fail
            refine wp_region_held_drew (S := fun w' => Bk w' bo 37 (noa x)) (by kernel_rfl) (by exact HBO.out.fr (Fr.refl NoBlk wb).drew (fun h => h)) (fun hHeld => ?_)
            obtain ⟨w6, hw6⟩ : ∃ w6, w6 = wb.drew := ⟨_, rfl⟩
            have HP2 : Hid (Pl w w6 (fun k => k = bo) g m vs vs) := by show Pl _ _ _ _ _ _ _; rw [hw6]; exact HP1.out.nofr (Fr.refl NoBlk _).drew
            rw [← hw6] at hHeld ⊢
            clear hw6 HP1 k0 k1
            obtain ⟨am, cm, qm, hqm, hdm, hcl⟩ := HP2.out.list
            have HCL := Lib.hid hcl
            obtain ⟨qk, hqk⟩ : ∃ qk, qm[i]? = some qk := ⟨_, List.getElem?_eq_getElem (by have : qm.length = vs.length := by rw [← hqm, List.length_map]
                                                                                          omega)⟩
            have HQK : Hid (vs[i]? = some (pvl qk) ∧ PcIn w qk) := ⟨by rw [← hqm, List.getElem?_map, hqk]; rfl, hdm qk (List.mem_of_getElem? hqk)⟩
            obtain ⟨ba, oa, ham, _⟩ := Rd.cat pcc 7 pcc_len (hcl w6 (Fr.refl _ _)).2 (by omega) hqk
            subst ham
            obtain ⟨ba', oa', hae, hcell⟩ := Rd.cat pcc 7 pcc_len (hcl w6 (Fr.refl _ _)).2 (by omega) hqk
            injection hae with hae
            injection hae with e1 e2
            subst e1 e2
            have HCE := Lib.hid hcell
            clear hcl hqm hdm hqk hcell
            refine wpAnyH_take (i := 0) (oi := ⟨some 116, _, _, _, _, _⟩) (v := ?_) rfl (by kernel_rfl) (by kernel_rfl) (by kernel_rfl) (fun _ _ _ h => h) (Or.inl ⟨by rfl, ?_⟩) (by assumption) ?_
            rotate_left 1
            · (intro w hSw; (try dsimp only at hSw); have k1 := (HSI.out _ hSw).1; go_simp) <;> (with_reducible rfl)
            try simp only [Act.put, List.setIfInBounds_toArray, List.set_cons_zero, List.set_cons_succ]
            refine wpAnyH_take (i := 1) (oi := ⟨some 117, _, _, _, _, _⟩) (v := ?_) rfl (by kernel_rfl) (by kernel_rfl) (by kernel_rfl) (fun _ _ _ h => h) (Or.inl ⟨by rfl, ?_⟩) (by assumption) ?_
            rotate_left 1
            · (intro w hSw; (try dsimp only at hSw); have k1 := (HSI.out _ hSw).1; go_simp) <;> (with_reducible rfl)
            try simp only [Act.put, List.setIfInBounds_toArray, List.set_cons_zero, List.set_cons_succ]
            refine wpAnyH_take (i := 2) (oi := ⟨some 118, _, _, _, _, _⟩) (v := ?_) rfl (by kernel_rfl) (by kernel_rfl) (by kernel_rfl) (fun _ _ _ h => h) (Or.inl ⟨by rfl, ?_⟩) (by assumption) ?_
            rotate_left 1
            · (intro w hSw; (try dsimp only at hSw); have k1 := (HSI.out _ hSw).1; go_simp) <;> (with_reducible rfl)
            try simp only [Act.put, List.setIfInBounds_toArray, List.set_cons_zero, List.set_cons_succ]
            refine wpAnyH_ready (rs := [3]) (by kernel_rfl) (by simp) ?_
            refine AllReadyH.cons (o := ⟨some 119, _, _, _, _, _⟩) rfl (fun K hK => ?_) AllReadyH.nil
            have hSw := hHeld
            go_simp
            go_at_call 12
            refine (pr_has HP2.out (i : Int)).mono ?_
            rintro e w' ⟨rfl, rfl⟩
            rw [hhi]
            refine hK.out _ _ ?_ (fun hHeld => ?_)
            · exact hSw
            clear hK K
            try simp only [Act.put, List.setIfInBounds_toArray, List.set_cons_zero, List.set_cons_succ]
            refine wpAnyH_take (i := 4) (oi := ⟨some 120, _, _, _, _, _⟩) (v := ?_) rfl (by kernel_rfl) (by kernel_rfl) (by kernel_rfl) (fun _ _ _ h => h) (Or.inl ⟨by rfl, ?_⟩) (by assumption) ?_
            rotate_left 1
            · (intro w hSw; (try dsimp only at hSw); have k1 := (HSI.out _ hSw).1; go_simp) <;> (with_reducible rfl)
            try simp only [Act.put, List.setIfInBounds_toArray, List.set_cons_zero, List.set_cons_succ]
            refine wpAnyH_take (i := 5) (oi := ⟨some 121, _, _, _, _, _⟩) (v := ?_) rfl (by kernel_rfl) (by kernel_rfl) (by kernel_rfl) (fun _ _ _ h => h) (Or.inl ⟨by rfl, ?_⟩) (by assumption) ?_
            rotate_left 1
            · (intro w hSw; (try dsimp only at hSw); have k1 := (HSI.out _ hSw).1; go_simp) <;> (with_reducible rfl)
            try simp only [Act.put, List.setIfInBounds_toArray, List.set_cons_zero, List.set_cons_succ]
            refine wpAnyH_take (i := 6) (oi := ⟨some 122, _, _, _, _, _⟩) (v := ?_) rfl (by kernel_rfl) (by kernel_rfl) (by kernel_rfl) (fun _ _ _ h => h) (Or.inl ⟨by rfl, ?_⟩) (by assumption) ?_
            rotate_left 1
            · (intro w hSw; (try dsimp only at hSw); have k1 := (HSI.out _ hSw).1; go_simp) <;> (with_reducible rfl)
            try simp only [Act.put, List.setIfInBounds_toArray, List.set_cons_zero, List.set_cons_succ]
            refine wpAnyH_take (i := 7) (oi := ⟨some 123, _, _, _, _, _⟩) (v := ?_) rfl (by kernel_rfl) (by kernel_rfl) (by kernel_rfl) (fun _ _ _ h => h) (Or.inl ⟨by rfl, ?_⟩) (by assumption) ?_
            rotate_left 1
            · (intro w hSw; (try dsimp only at hSw); have k1 := (HSI.out _ hSw).1; go_simp) <;> (with_reducible rfl)
            try simp only [Act.put, List.setIfInBounds_toArray, List.set_cons_zero, List.set_cons_succ]
            refine wpAnyH_take (i := 8) (oi := ⟨some 124, _, _, _, _, _⟩) (v := ?_) rfl (by kernel_rfl) (by kernel_rfl) (by kernel_rfl) (fun _ _ _ h => h) (Or.inl ⟨by rfl, ?_⟩) (by assumption) ?_
            rotate_left 1
            · (intro w hSw; (try dsimp only at hSw); have k1 := (HSI.out _ hSw).1; go_simp) <;> (with_reducible rfl)
            try simp only [Act.put, List.setIfInBounds_toArray, List.set_cons_zero, List.set_cons_succ]
            refine wpAnyH_take (i := 10) (oi := ⟨some 126, _, _, _, _, _⟩) (v := ?_) rfl (by kernel_rfl) (by kernel_rfl) (by kernel_rfl) (fun _ _ _ h => h) (Or.inl ⟨by rfl, ?_⟩) (by assumption) ?_
            rotate_left 1
            · (intro w hSw; (try dsimp only at hSw); have k1 := (HSI.out _ hSw).1; go_simp) <;> (with_reducible rfl)
            try simp only [Act.put, List.setIfInBounds_toArray, List.set_cons_zero, List.set_cons_succ]
            refine wpAnyH_take (i := 11) (oi := ⟨some 127, _, _, _, _, _⟩) (v := ?_) rfl (by kernel_rfl) (by kernel_rfl) (by kernel_rfl) (fun _ _ _ h => h) (Or.inl ⟨by rfl, ?_⟩) (by assumption) ?_
            rotate_left 1
            · (intro w hSw; (try dsimp only at hSw); have k1 := (HSI.out _ hSw).1; go_simp) <;> (with_reducible rfl)
            try simp only [Act.put, List.setIfInBounds_toArray, List.set_cons_zero, List.set_cons_succ]
            refine wpAnyH_ready (rs := [9]) (by kernel_rfl) (by simp) ?_
            refine AllReadyH.cons (o := ⟨some 125, _, _, _, _, _⟩) rfl (fun K hK => ?_) AllReadyH.nil
            have oM := (HCL.out w6 (Fr.refl NoBlk w6)).1
            go_simp
            clear oM
            refine hK.out _ _ ?_ (fun hHeld => ?_)
            · assumption
            clear hK K
            try simp only [Act.put, List.setIfInBounds_toArray, List.set_cons_zero, List.set_cons_succ]
            refine wpAnyH_take (i := 12) (oi := ⟨some 128, _, _, _, _, _⟩) (v := ?_) rfl (by kernel_rfl) (by kernel_rfl) (by kernel_rfl) (fun _ _ _ h => h) (Or.inl ⟨by rfl, ?_⟩) (by assumption) ?_
            rotate_left 1
            · (intro w hSw; (try dsimp only at hSw); have k1 := (HSI.out _ hSw).1; go_simp) <;> (with_reducible rfl)
            try simp only [Act.put, List.setIfInBounds_toArray, List.set_cons_zero, List.set_cons_succ]
            refine wpAnyH_ready (rs := [13]) (by kernel_rfl) (by simp) ?_
            refine AllReadyH.cons (o := ⟨some 129, _, _, _, _, _⟩) rfl (fun K hK => ?_) AllReadyH.nil
            have c0 := HCE.out 0 _ rfl
            have c1 := HCE.out 1 _ rfl
            have c2 := HCE.out 2 _ rfl
            have c3 := HCE.out 3 _ rfl
            have c4 := HCE.out 4 _ rfl
            have c5 := HCE.out 5 _ rfl
            have c6 := HCE.out 6 _ rfl
            unfold sl at c6
            simp only [Nat.add_zero] at c0
            go_simp
            clear c0 c1 c2 c3 c4 c5 c6
            refine hK.out _ _ ?_ (fun hHeld => ?_)
            · assumption
            clear hK K
            try simp only [Act.put, List.setIfInBounds_toArray, List.set_cons_zero, List.set_cons_succ]
            refine wpAnyH_ready (rs := [14]) (by kernel_rfl) (by simp) ?_
            refine AllReadyH.cons (o := ⟨some 130, _, _, _, _, _⟩) rfl (fun K hK => ?_) AllReadyH.nil
            have hSw := hHeld
            go_simp
            go_at_call 13
            refine (pr_send HP2.out qk HQK.out.2).mono ?_
            rintro e w7 ⟨hf7, ⟨h4, _⟩ | ⟨_, rfl, hpl7⟩⟩
            · omega
            have hB7 : Bk w7 bo 37 (noa x) := Bk.fr hSw hf7 (fun e => HP2.out.m_.1 e.symm)
            have HP6 : Hid (Pl w w7 (fun k => k = bo) g m vs (cpL vs x.k)) := by
              show Pl _ _ _ _ _ _ _
              rw [cpL, HCB.out, if_pos rfl, HXK.out, Int.toNat_natCast, List.getD_eq_getElem?_getD, HQK.out.1]
              exact hpl7
            clear hf7 hpl7
            refine hK.out _ _ ?_ (fun hHeld => ?_)
            · exact hB7
            clear hK K
            try simp only [Act.put, List.setIfInBounds_toArray, List.set_cons_zero, List.set_cons_succ]
            refine wpAnyH_take (i := 15) (oi := ⟨some 131, _, _, _, _, _⟩) (v := ?_) rfl (by kernel_rfl) (by kernel_rfl) (by kernel_rfl) (fun _ _ _ h => h) (Or.inl ⟨by rfl, ?_⟩) (by assumption) ?_
            rotate_left 1
            · (intro w hSw; (try dsimp only at hSw); have k1 := (HSI.out _ hSw).1; go_simp) <;> (with_reducible rfl)
            try simp only [Act.put, List.setIfInBounds_toArray, List.set_cons_zero, List.set_cons_succ]
            refine wpAnyH_take (i := 16) (oi := ⟨some 13, _, _, _, _, _⟩) (v := ?_) rfl (by kernel_rfl) (by kernel_rfl) (by kernel_rfl) (fun _ _ _ h => h) (Or.inl ⟨by rfl, ?_⟩) (by assumption) ?_
            rotate_left 1
            · (intro w hSw; (try dsimp only at hSw); have k1 := (HSI.out _ hSw).1; go_simp) <;> (with_reducible rfl)
            try simp only [Act.put, List.setIfInBounds_toArray, List.set_cons_zero, List.set_cons_succ]
            refine wpAnyH_done (by kernel_rfl) ?_ _
            have HBO6 : Hid (Bk w7 bo 37 (noa x)) := hHeld
            clear hHeld HP2
            have HBW : Hid (Bk w7 bo 37 (noa x)) := HBO6.out
            have k6 : w7.cell? ⟨bo, 1, none⟩ = some (.int .i64 x.k) := HBW.out.cell 1
            have HCP := Lib.hid (pl_copy2 HP6.out x.k)
            rw [HCB.out] at HCP
            clear HP6 HBO6
            go_wp2_with fail
            refine HCP.out.mono ?_
            rintro e w8 ⟨rfl, hf8, hpl8⟩
            have HPZ : Hid (Pl w w8 (fun k => k = bo) g m (cpL vs x.k) (cpL vs x.k)) := hpl8
            clear hf8 hpl8 HCP k6 HBW
            obtain ⟨am, cm, qm, hqm, hdm, hcm⟩ := HPZ.out.list
            have HCM := Lib.hid hcm
            have HLN : Hid (∀ w', Fr NoBlk w8 w' → Calls Try.prog 16 #[.pointer (some ⟨g, 0, none⟩)] w' fun e W' => e = .returned (.int .i64 ((cpL vs x.k).length : Int)) ∧ w' = W') := fun w' hf => pl_len (HPZ.out.nofr hf)
            clear hqm hdm hcm
            go_upto_region 37 with fail
            refine wp_region_held_drew (S := fun w' => Fr NoBlk w8 w') (by kernel_rfl) (by exact (Fr.refl NoBlk w8).drew) (fun hHeld => ?_)
            refine wpAnyH_take (i := 0) (oi := ⟨some 138, _, _, _, _, _⟩) (v := ?_) rfl (by kernel_rfl) (by kernel_rfl) (by kernel_rfl) (fun _ _ _ h => h) (Or.inl ⟨by rfl, ?_⟩) (by assumption) ?_
            rotate_left 1
            · (intro w hSw; (try dsimp only at hSw); have oM := (HCM.out _ hSw).1; go_simp) <;> (with_reducible rfl)
            try simp only [Act.put, List.setIfInBounds_toArray, List.set_cons_zero, List.set_cons_succ]
            refine wpAnyH_take (i := 2) (oi := ⟨some 140, _, _, _, _, _⟩) (v := ?_) rfl (by kernel_rfl) (by kernel_rfl) (by kernel_rfl) (fun _ _ _ h => h) (Or.inl ⟨by rfl, ?_⟩) (by assumption) ?_
            rotate_left 1
            · (intro w hSw; (try dsimp only at hSw); have oM := (HCM.out _ hSw).1; go_simp) <;> (with_reducible rfl)
            try simp only [Act.put, List.setIfInBounds_toArray, List.set_cons_zero, List.set_cons_succ]
            refine wpAnyH_take (i := 3) (oi := ⟨some 141, _, _, _, _, _⟩) (v := ?_) rfl (by kernel_rfl) (by kernel_rfl) (by kernel_rfl) (fun _ _ _ h => h) (Or.inl ⟨by rfl, ?_⟩) (by assumption) ?_
            rotate_left 1
            · (intro w hSw; (try dsimp only at hSw); have oM := (HCM.out _ hSw).1; go_simp) <;> (with_reducible rfl)
            try simp only [Act.put, List.setIfInBounds_toArray, List.set_cons_zero, List.set_cons_succ]
            refine wpAnyH_take (i := 4) (oi := ⟨some 142, _, _, _, _, _⟩) (v := ?_) rfl (by kernel_rfl) (by kernel_rfl) (by kernel_rfl) (fun _ _ _ h => h) (Or.inl ⟨by rfl, ?_⟩) (by assumption) ?_
            rotate_left 1
            · (intro w hSw; (try dsimp only at hSw); have oM := (HCM.out _ hSw).1; go_simp) <;> (with_reducible rfl)
            try simp only [Act.put, List.setIfInBounds_toArray, List.set_cons_zero, List.set_cons_succ]
            refine wpAnyH_take (i := 5) (oi := ⟨some 143, _, _, _, _, _⟩) (v := ?_) rfl (by kernel_rfl) (by kernel_rfl) (by kernel_rfl) (fun _ _ _ h => h) (Or.inl ⟨by rfl, ?_⟩) (by assumption) ?_
            rotate_left 1
            · (intro w hSw; (try dsimp only at hSw); have oM := (HCM.out _ hSw).1; go_simp) <;> (with_reducible rfl)
            try simp only [Act.put, List.setIfInBounds_toArray, List.set_cons_zero, List.set_cons_succ]
            refine wpAnyH_take (i := 6) (oi := ⟨some 144, _, _, _, _, _⟩) (v := ?_) rfl (by kernel_rfl) (by kernel_rfl) (by kernel_rfl) (fun _ _ _ h => h) (Or.inl ⟨by rfl, ?_⟩) (by assumption) ?_
            rotate_left 1
            · (intro w hSw; (try dsimp only at hSw); have oM := (HCM.out _ hSw).1; go_simp) <;> (with_reducible rfl)
            try simp only [Act.put, List.setIfInBounds_toArray, List.set_cons_zero, List.set_cons_succ]
            refine wpAnyH_ready (rs := [1]) (by kernel_rfl) (by simp) ?_
            refine AllReadyH.cons (o := ⟨some 139, _, _, _, _, _⟩) rfl (fun K hK => ?_) AllReadyH.nil
            have hSw := hHeld
            go_simp
            go_at_call 16
            refine (HLN.out _ hSw).mono ?_
            rintro e w' ⟨rfl, rfl⟩
            refine hK.out _ _ ?_ (fun hHeld => ?_)
            · assumption
            clear hK K
            try simp only [Act.put, List.setIfInBounds_toArray, List.set_cons_zero, List.set_cons_succ]
            refine wpAnyH_take (i := 7) (oi := ⟨some 145, _, _, _, _, _⟩) (v := ?_) rfl (by kernel_rfl) (by kernel_rfl) (by kernel_rfl) (fun _ _ _ h => h) (Or.inl ⟨by rfl, ?_⟩) (by assumption) ?_
            rotate_left 1
            · (intro w hSw; (try dsimp only at hSw); have oM := (HCM.out _ hSw).1; go_simp) <;> (with_reducible rfl)
            try simp only [Act.put, List.setIfInBounds_toArray, List.set_cons_zero, List.set_cons_succ]
            refine wpAnyH_done (by kernel_rfl) ?_ _
            have HPF : Hid (Pl w w8.drew (fun _ => False) g m (cpL vs x.k) (cpL vs x.k)) := HPZ.out.sub (fun _ e => e.elim) (Fr.refl NoBlk _).drew (fun _ e => e.elim)
            clear hHeld HLN HCM
            go_wp2_with fail
            go_roundw
            case rel => exact ⟨j + 1, cpL vs x.k, by omega, by go_num, HPF⟩
            case measure => simp [intOf]; omega
          · have HCB : Hid (cpB vs x.k = false) := by show _ = _; simp [cpB, h4]
            clear hhb
            go_upto_region 34 with fail
            refine wp_region_held_drew (S := fun w' => Bk w' bo 37 (noa x)) (by kernel_rfl) (by exact HBO.out.fr (Fr.refl NoBlk wb).drew (fun h => h)) (fun hHeld => ?_)
            obtain ⟨w6, hw6⟩ : ∃ w6, w6 = wb.drew := ⟨_, rfl⟩
            have HP2 : Hid (Pl w w6 (fun k => k = bo) g m vs vs) := by show Pl _ _ _ _ _ _ _; rw [hw6]; exact HP1.out.nofr (Fr.refl NoBlk _).drew
            rw [← hw6] at hHeld ⊢
            clear hw6 HP1 k0 k1
            obtain ⟨am, cm, qm, hqm, hdm, hcl⟩ := HP2.out.list
            have HCL := Lib.hid hcl
            obtain ⟨qk, hqk⟩ : ∃ qk, qm[i]? = some qk := ⟨_, List.getElem?_eq_getElem (by have : qm.length = vs.length := by rw [← hqm, List.length_map]
                                                                                          omega)⟩
            have HQK : Hid (vs[i]? = some (pvl qk) ∧ PcIn w qk) := ⟨by rw [← hqm, List.getElem?_map, hqk]; rfl, hdm qk (List.mem_of_getElem? hqk)⟩
            obtain ⟨ba, oa, ham, _⟩ := Rd.cat pcc 7 pcc_len (hcl w6 (Fr.refl _ _)).2 (by omega) hqk
            subst ham
            obtain ⟨ba', oa', hae, hcell⟩ := Rd.cat pcc 7 pcc_len (hcl w6 (Fr.refl _ _)).2 (by omega) hqk
            injection hae with hae
            injection hae with e1 e2
            subst e1 e2
            have HCE := Lib.hid hcell
            clear hcl hqm hdm hqk hcell
            refine wpAnyH_take (i := 0) (oi := ⟨some 116, _, _, _, _, _⟩) (v := ?_) rfl (by kernel_rfl) (by kernel_rfl) (by kernel_rfl) (fun _ _ _ h => h) (Or.inl ⟨by rfl, ?_⟩) (by assumption) ?_
            rotate_left 1
            · (intro w hSw; (try dsimp only at hSw); have k1 := (HSI.out _ hSw).1; go_simp) <;> (with_reducible rfl)
            try simp only [Act.put, List.setIfInBounds_toArray, List.set_cons_zero, List.set_cons_succ]
            refine wpAnyH_take (i := 1) (oi := ⟨some 117, _, _, _, _, _⟩) (v := ?_) rfl (by kernel_rfl) (by kernel_rfl) (by kernel_rfl) (fun _ _ _ h => h) (Or.inl ⟨by rfl, ?_⟩) (by assumption) ?_
            rotate_left 1
            · (intro w hSw; (try dsimp only at hSw); have k1 := (HSI.out _ hSw).1; go_simp) <;> (with_reducible rfl)
            try simp only [Act.put, List.setIfInBounds_toArray, List.set_cons_zero, List.set_cons_succ]
            refine wpAnyH_take (i := 2) (oi := ⟨some 118, _, _, _, _, _⟩) (v := ?_) rfl (by kernel_rfl) (by kernel_rfl) (by kernel_rfl) (fun _ _ _ h => h) (Or.inl ⟨by rfl, ?_⟩) (by assumption) ?_
            rotate_left 1
            · (intro w hSw; (try dsimp only at hSw); have k1 := (HSI.out _ hSw).1; go_simp) <;> (with_reducible rfl)
            try simp only [Act.put, List.setIfInBounds_toArray, List.set_cons_zero, List.set_cons_succ]
            refine wpAnyH_ready (rs := [3]) (by kernel_rfl) (by simp) ?_
            refine AllReadyH.cons (o := ⟨some 119, _, _, _, _, _⟩) rfl (fun K hK => ?_) AllReadyH.nil
            have hSw := hHeld
            go_simp
            go_at_call 12
            refine (pr_has HP2.out (i : Int)).mono ?_
            rintro e w' ⟨rfl, rfl⟩
            rw [hhi]
            refine hK.out _ _ ?_ (fun hHeld => ?_)
            · exact hSw
            clear hK K
            try simp only [Act.put, List.setIfInBounds_toArray, List.set_cons_zero, List.set_cons_succ]
            refine wpAnyH_take (i := 4) (oi := ⟨some 120, _, _, _, _, _⟩) (v := ?_) rfl (by kernel_rfl) (by kernel_rfl) (by kernel_rfl) (fun _ _ _ h => h) (Or.inl ⟨by rfl, ?_⟩) (by assumption) ?_
            rotate_left 1
            · (intro w hSw; (try dsimp only at hSw); have k1 := (HSI.out _ hSw).1; go_simp) <;> (with_reducible rfl)
            try simp only [Act.put, List.setIfInBounds_toArray, List.set_cons_zero, List.set_cons_succ]
            refine wpAnyH_take (i := 5) (oi := ⟨some 121, _, _, _, _, _⟩) (v := ?_) rfl (by kernel_rfl) (by kernel_rfl) (by kernel_rfl) (fun _ _ _ h => h) (Or.inl ⟨by rfl, ?_⟩) (by assumption) ?_
            rotate_left 1
            · (intro w hSw; (try dsimp only at hSw); have k1 := (HSI.out _ hSw).1; go_simp) <;> (with_reducible rfl)
            try simp only [Act.put, List.setIfInBounds_toArray, List.set_cons_zero, List.set_cons_succ]
            refine wpAnyH_take (i := 6) (oi := ⟨some 122, _, _, _, _, _⟩) (v := ?_) rfl (by kernel_rfl) (by kernel_rfl) (by kernel_rfl) (fun _ _ _ h => h) (Or.inl ⟨by rfl, ?_⟩) (by assumption) ?_
            rotate_left 1
            · (intro w hSw; (try dsimp only at hSw); have k1 := (HSI.out _ hSw).1; go_simp) <;> (with_reducible rfl)
            try simp only [Act.put, List.setIfInBounds_toArray, List.set_cons_zero, List.set_cons_succ]
            refine wpAnyH_take (i := 7) (oi := ⟨some 123, _, _, _, _, _⟩) (v := ?_) rfl (by kernel_rfl) (by kernel_rfl) (by kernel_rfl) (fun _ _ _ h => h) (Or.inl ⟨by rfl, ?_⟩) (by assumption) ?_
            rotate_left 1
            · (intro w hSw; (try dsimp only at hSw); have k1 := (HSI.out _ hSw).1; go_simp) <;> (with_reducible rfl)
            try simp only [Act.put, List.setIfInBounds_toArray, List.set_cons_zero, List.set_cons_succ]
            refine wpAnyH_take (i := 8) (oi := ⟨some 124, _, _, _, _, _⟩) (v := ?_) rfl (by kernel_rfl) (by kernel_rfl) (by kernel_rfl) (fun _ _ _ h => h) (Or.inl ⟨by rfl, ?_⟩) (by assumption) ?_
            rotate_left 1
            · (intro w hSw; (try dsimp only at hSw); have k1 := (HSI.out _ hSw).1; go_simp) <;> (with_reducible rfl)
            try simp only [Act.put, List.setIfInBounds_toArray, List.set_cons_zero, List.set_cons_succ]
            refine wpAnyH_take (i := 10) (oi := ⟨some 126, _, _, _, _, _⟩) (v := ?_) rfl (by kernel_rfl) (by kernel_rfl) (by kernel_rfl) (fun _ _ _ h => h) (Or.inl ⟨by rfl, ?_⟩) (by assumption) ?_
            rotate_left 1
            · (intro w hSw; (try dsimp only at hSw); have k1 := (HSI.out _ hSw).1; go_simp) <;> (with_reducible rfl)
            try simp only [Act.put, List.setIfInBounds_toArray, List.set_cons_zero, List.set_cons_succ]
            refine wpAnyH_take (i := 11) (oi := ⟨some 127, _, _, _, _, _⟩) (v := ?_) rfl (by kernel_rfl) (by kernel_rfl) (by kernel_rfl) (fun _ _ _ h => h) (Or.inl ⟨by rfl, ?_⟩) (by assumption) ?_
            rotate_left 1
            · (intro w hSw; (try dsimp only at hSw); have k1 := (HSI.out _ hSw).1; go_simp) <;> (with_reducible rfl)
            try simp only [Act.put, List.setIfInBounds_toArray, List.set_cons_zero, List.set_cons_succ]
            refine wpAnyH_ready (rs := [9]) (by kernel_rfl) (by simp) ?_
            refine AllReadyH.cons (o := ⟨some 125, _, _, _, _, _⟩) rfl (fun K hK => ?_) AllReadyH.nil
            have oM := (HCL.out w6 (Fr.refl NoBlk w6)).1
            go_simp
            clear oM
            refine hK.out _ _ ?_ (fun hHeld => ?_)
            · assumption
            clear hK K
            try simp only [Act.put, List.setIfInBounds_toArray, List.set_cons_zero, List.set_cons_succ]
            refine wpAnyH_take (i := 12) (oi := ⟨some 128, _, _, _, _, _⟩) (v := ?_) rfl (by kernel_rfl) (by kernel_rfl) (by kernel_rfl) (fun _ _ _ h => h) (Or.inl ⟨by rfl, ?_⟩) (by assumption) ?_
            rotate_left 1
            · (intro w hSw; (try dsimp only at hSw); have k1 := (HSI.out _ hSw).1; go_simp) <;> (with_reducible rfl)
            try simp only [Act.put, List.setIfInBounds_toArray, List.set_cons_zero, List.set_cons_succ]
            refine wpAnyH_ready (rs := [13]) (by kernel_rfl) (by simp) ?_
            refine AllReadyH.cons (o := ⟨some 129, _, _, _, _, _⟩) rfl (fun K hK => ?_) AllReadyH.nil
            have c0 := HCE.out 0 _ rfl
            have c1 := HCE.out 1 _ rfl
            have c2 := HCE.out 2 _ rfl
            have c3 := HCE.out 3 _ rfl
            have c4 := HCE.out 4 _ rfl
            have c5 := HCE.out 5 _ rfl
            have c6 := HCE.out 6 _ rfl
            unfold sl at c6
            simp only [Nat.add_zero] at c0
            go_simp
            clear c0 c1 c2 c3 c4 c5 c6
            refine hK.out _ _ ?_ (fun hHeld => ?_)
            · assumption
            clear hK K
            try simp only [Act.put, List.setIfInBounds_toArray, List.set_cons_zero, List.set_cons_succ]
            refine wpAnyH_ready (rs := [14]) (by kernel_rfl) (by simp) ?_
            refine AllReadyH.cons (o := ⟨some 130, _, _, _, _, _⟩) rfl (fun K hK => ?_) AllReadyH.nil
            have hSw := hHeld
            go_simp
            go_at_call 13
            refine (pr_send HP2.out qk HQK.out.2).mono ?_
            rintro e w7 ⟨hf7, ⟨_, rfl, hpl7⟩ | ⟨h4, _⟩⟩
            rotate_left
            · omega
            have hB7 : Bk w7 bo 37 (noa x) := Bk.fr hSw hf7 (fun e => HP2.out.m_.1 e.symm)
            have HP6 : Hid (Pl w w7 (fun k => k = bo) g m vs (cpL vs x.k)) := by show Pl _ _ _ _ _ _ _; rw [cpL, HCB.out, if_neg (by simp)]; exact hpl7
            clear hf7 hpl7
            refine hK.out _ _ ?_ (fun hHeld => ?_)
            · exact hB7
            clear hK K
            try simp only [Act.put, List.setIfInBounds_toArray, List.set_cons_zero, List.set_cons_succ]
            refine wpAnyH_take (i := 15) (oi := ⟨some 131, _, _, _, _, _⟩) (v := ?_) rfl (by kernel_rfl) (by kernel_rfl) (by kernel_rfl) (fun _ _ _ h => h) (Or.inl ⟨by rfl, ?_⟩) (by assumption) ?_
            rotate_left 1
            · (intro w hSw; (try dsimp only at hSw); have k1 := (HSI.out _ hSw).1; go_simp) <;> (with_reducible rfl)
            try simp only [Act.put, List.setIfInBounds_toArray, List.set_cons_zero, List.set_cons_succ]
            refine wpAnyH_take (i := 16) (oi := ⟨some 13, _, _, _, _, _⟩) (v := ?_) rfl (by kernel_rfl) (by kernel_rfl) (by kernel_rfl) (fun _ _ _ h => h) (Or.inl ⟨by rfl, ?_⟩) (by assumption) ?_
            rotate_left 1
            · (intro w hSw; (try dsimp only at hSw); have k1 := (HSI.out _ hSw).1; go_simp) <;> (with_reducible rfl)
            try simp only [Act.put, List.setIfInBounds_toArray, List.set_cons_zero, List.set_cons_succ]
            refine wpAnyH_done (by kernel_rfl) ?_ _
            have HBO6 : Hid (Bk w7 bo 37 (noa x)) := hHeld
            clear hHeld HP2
            have HBW : Hid (Bk w7 bo 37 (noa x)) := HBO6.out
            have k6 : w7.cell? ⟨bo, 1, none⟩ = some (.int .i64 x.k) := HBW.out.cell 1
            have HCP := Lib.hid (pl_copy2 HP6.out x.k)
            rw [HCB.out] at HCP
            clear HP6 HBO6
            go_wp2_with fail
            refine HCP.out.mono ?_
            rintro e w8 ⟨rfl, hf8, hpl8⟩
            have HPZ : Hid (Pl w w8 (fun k => k = bo) g m (cpL vs x.k) (cpL vs x.k)) := hpl8
            clear hf8 hpl8 HCP k6 HBW
            obtain ⟨am, cm, qm, hqm, hdm, hcm⟩ := HPZ.out.list
            have HCM := Lib.hid hcm
            have HLN : Hid (∀ w', Fr NoBlk w8 w' → Calls Try.prog 16 #[.pointer (some ⟨g, 0, none⟩)] w' fun e W' => e = .returned (.int .i64 ((cpL vs x.k).length : Int)) ∧ w' = W') := fun w' hf => pl_len (HPZ.out.nofr hf)
            clear hqm hdm hcm
            go_upto_region 37 with fail
            refine wp_region_held_drew (S := fun w' => Fr NoBlk w8 w') (by kernel_rfl) (by exact (Fr.refl NoBlk w8).drew) (fun hHeld => ?_)
            refine wpAnyH_take (i := 0) (oi := ⟨some 138, _, _, _, _, _⟩) (v := ?_) rfl (by kernel_rfl) (by kernel_rfl) (by kernel_rfl) (fun _ _ _ h => h) (Or.inl ⟨by rfl, ?_⟩) (by assumption) ?_
            rotate_left 1
            · (intro w hSw; (try dsimp only at hSw); have oM := (HCM.out _ hSw).1; go_simp) <;> (with_reducible rfl)
            try simp only [Act.put, List.setIfInBounds_toArray, List.set_cons_zero, List.set_cons_succ]
            refine wpAnyH_take (i := 2) (oi := ⟨some 140, _, _, _, _, _⟩) (v := ?_) rfl (by kernel_rfl) (by kernel_rfl) (by kernel_rfl) (fun _ _ _ h => h) (Or.inl ⟨by rfl, ?_⟩) (by assumption) ?_
            rotate_left 1
            · (intro w hSw; (try dsimp only at hSw); have oM := (HCM.out _ hSw).1; go_simp) <;> (with_reducible rfl)
            try simp only [Act.put, List.setIfInBounds_toArray, List.set_cons_zero, List.set_cons_succ]
            refine wpAnyH_take (i := 3) (oi := ⟨some 141, _, _, _, _, _⟩) (v := ?_) rfl (by kernel_rfl) (by kernel_rfl) (by kernel_rfl) (fun _ _ _ h => h) (Or.inl ⟨by rfl, ?_⟩) (by assumption) ?_
            rotate_left 1
            · (intro w hSw; (try dsimp only at hSw); have oM := (HCM.out _ hSw).1; go_simp) <;> (with_reducible rfl)
            try simp only [Act.put, List.setIfInBounds_toArray, List.set_cons_zero, List.set_cons_succ]
            refine wpAnyH_take (i := 4) (oi := ⟨some 142, _, _, _, _, _⟩) (v := ?_) rfl (by kernel_rfl) (by kernel_rfl) (by kernel_rfl) (fun _ _ _ h => h) (Or.inl ⟨by rfl, ?_⟩) (by assumption) ?_
            rotate_left 1
            · (intro w hSw; (try dsimp only at hSw); have oM := (HCM.out _ hSw).1; go_simp) <;> (with_reducible rfl)
            try simp only [Act.put, List.setIfInBounds_toArray, List.set_cons_zero, List.set_cons_succ]
            refine wpAnyH_take (i := 5) (oi := ⟨some 143, _, _, _, _, _⟩) (v := ?_) rfl (by kernel_rfl) (by kernel_rfl) (by kernel_rfl) (fun _ _ _ h => h) (Or.inl ⟨by rfl, ?_⟩) (by assumption) ?_
            rotate_left 1
            · (intro w hSw; (try dsimp only at hSw); have oM := (HCM.out _ hSw).1; go_simp) <;> (with_reducible rfl)
            try simp only [Act.put, List.setIfInBounds_toArray, List.set_cons_zero, List.set_cons_succ]
            refine wpAnyH_take (i := 6) (oi := ⟨some 144, _, _, _, _, _⟩) (v := ?_) rfl (by kernel_rfl) (by kernel_rfl) (by kernel_rfl) (fun _ _ _ h => h) (Or.inl ⟨by rfl, ?_⟩) (by assumption) ?_
            rotate_left 1
            · (intro w hSw; (try dsimp only at hSw); have oM := (HCM.out _ hSw).1; go_simp) <;> (with_reducible rfl)
            try simp only [Act.put, List.setIfInBounds_toArray, List.set_cons_zero, List.set_cons_succ]
            refine wpAnyH_ready (rs := [1]) (by kernel_rfl) (by simp) ?_
            refine AllReadyH.cons (o := ⟨some 139, _, _, _, _, _⟩) rfl (fun K hK => ?_) AllReadyH.nil
            have hSw := hHeld
            go_simp
            go_at_call 16
            refine (HLN.out _ hSw).mono ?_
            rintro e w' ⟨rfl, rfl⟩
            refine hK.out _ _ ?_ (fun hHeld => ?_)
            · assumption
            clear hK K
            try simp only [Act.put, List.setIfInBounds_toArray, List.set_cons_zero, List.set_cons_succ]
            refine wpAnyH_take (i := 7) (oi := ⟨some 145, _, _, _, _, _⟩) (v := ?_) rfl (by kernel_rfl) (by kernel_rfl) (by kernel_rfl) (fun _ _ _ h => h) (Or.inl ⟨by rfl, ?_⟩) (by assumption) ?_
            rotate_left 1
            · (intro w hSw; (try dsimp only at hSw); have oM := (HCM.out _ hSw).1; go_simp) <;> (with_reducible rfl)
            try simp only [Act.put, List.setIfInBounds_toArray, List.set_cons_zero, List.set_cons_succ]
            refine wpAnyH_done (by kernel_rfl) ?_ _
            have HPF : Hid (Pl w w8.drew (fun _ => False) g m (cpL vs x.k) (cpL vs x.k)) := HPZ.out.sub (fun _ e => e.elim) (Fr.refl NoBlk _).drew (fun _ e => e.elim)
            clear hHeld HLN HCM
            go_wp2_with fail
            go_roundw
            case rel => exact ⟨j + 1, cpL vs x.k, by omega, by go_num, HPF⟩
            case measure => simp [intOf]; omega
        · have HCB : Hid (cpB vs x.k = false) := by show _ = _; simp [cpB, hhb]
          have hhb : hasB vs.length x.k = false := by simpa using hhb
          go_upto_region 34 with fail
          refine wp_region_held_drew (S := fun w' => Bk w' bo 37 (noa x)) (by kernel_rfl) (by exact HBO.out.fr (Fr.refl NoBlk wb).drew (fun h => h)) (fun hHeld => ?_)
          obtain ⟨w6, hw6⟩ : ∃ w6, w6 = wb.drew := ⟨_, rfl⟩
          have HP2 : Hid (Pl w w6 (fun k => k = bo) g m vs vs) := by show Pl _ _ _ _ _ _ _; rw [hw6]; exact HP1.out.nofr (Fr.refl NoBlk _).drew
          rw [← hw6] at hHeld ⊢
          clear hw6 HP1 k0 k1
          refine wpAnyH_take (i := 0) (oi := ⟨some 116, _, _, _, _, _⟩) (v := ?_) rfl (by kernel_rfl) (by kernel_rfl) (by kernel_rfl) (fun _ _ _ h => h) (Or.inl ⟨by rfl, ?_⟩) (by assumption) ?_
          rotate_left 1
          · (intro w hSw; (try dsimp only at hSw); have k1 := (HSO.out _ hSw).1; go_simp) <;> (with_reducible rfl)
          try simp only [Act.put, List.setIfInBounds_toArray, List.set_cons_zero, List.set_cons_succ]
          refine wpAnyH_take (i := 1) (oi := ⟨some 117, _, _, _, _, _⟩) (v := ?_) rfl (by kernel_rfl) (by kernel_rfl) (by kernel_rfl) (fun _ _ _ h => h) (Or.inl ⟨by rfl, ?_⟩) (by assumption) ?_
          rotate_left 1
          · (intro w hSw; (try dsimp only at hSw); have k1 := (HSO.out _ hSw).1; go_simp) <;> (with_reducible rfl)
          try simp only [Act.put, List.setIfInBounds_toArray, List.set_cons_zero, List.set_cons_succ]
          refine wpAnyH_take (i := 2) (oi := ⟨some 118, _, _, _, _, _⟩) (v := ?_) rfl (by kernel_rfl) (by kernel_rfl) (by kernel_rfl) (fun _ _ _ h => h) (Or.inl ⟨by rfl, ?_⟩) (by assumption) ?_
          rotate_left 1
          · (intro w hSw; (try dsimp only at hSw); have k1 := (HSO.out _ hSw).1; go_simp) <;> (with_reducible rfl)
          try simp only [Act.put, List.setIfInBounds_toArray, List.set_cons_zero, List.set_cons_succ]
          refine wpAnyH_ready (rs := [3]) (by kernel_rfl) (by simp) ?_
          refine AllReadyH.cons (o := ⟨some 119, _, _, _, _, _⟩) rfl (fun K hK => ?_) AllReadyH.nil
          have hSw := hHeld
          go_simp
          go_at_call 12
          refine (pr_has HP2.out x.k).mono ?_
          rintro e w' ⟨rfl, rfl⟩
          rw [hhb]
          refine hK.out _ _ ?_ (fun hHeld => ?_)
          · exact hSw
          clear hK K
          try simp only [Act.put, List.setIfInBounds_toArray, List.set_cons_zero, List.set_cons_succ]
          refine wpAnyH_take (i := 4) (oi := ⟨some 120, _, _, _, _, _⟩) (v := ?_) rfl (by kernel_rfl) (by kernel_rfl) (by kernel_rfl) (fun _ _ _ h => h) (Or.inl ⟨by rfl, ?_⟩) (by assumption) ?_
          rotate_left 1
          · (intro w hSw; (try dsimp only at hSw); have k1 := (HSO.out _ hSw).1; go_simp) <;> (with_reducible rfl)
          try simp only [Act.put, List.setIfInBounds_toArray, List.set_cons_zero, List.set_cons_succ]
          refine wpAnyH_take (i := 5) (oi := ⟨some 121, _, _, _, _, _⟩) (v := undef) rfl (by kernel_rfl) (by kernel_rfl) (by kernel_rfl) (fun _ _ _ h => h) (Or.inr ⟨by rfl, rfl⟩) (by assumption) ?_
          try simp only [Act.put, List.setIfInBounds_toArray, List.set_cons_zero, List.set_cons_succ]
          refine wpAnyH_take (i := 6) (oi := ⟨some 122, _, _, _, _, _⟩) (v := undef) rfl (by kernel_rfl) (by kernel_rfl) (by kernel_rfl) (fun _ _ _ h => h) (Or.inr ⟨by rfl, rfl⟩) (by assumption) ?_
          try simp only [Act.put, List.setIfInBounds_toArray, List.set_cons_zero, List.set_cons_succ]
          refine wpAnyH_take (i := 7) (oi := ⟨some 123, _, _, _, _, _⟩) (v := undef) rfl (by kernel_rfl) (by kernel_rfl) (by kernel_rfl) (fun _ _ _ h => h) (Or.inr ⟨by rfl, rfl⟩) (by assumption) ?_
          try simp only [Act.put, List.setIfInBounds_toArray, List.set_cons_zero, List.set_cons_succ]
          refine wpAnyH_take (i := 8) (oi := ⟨some 124, _, _, _, _, _⟩) (v := undef) rfl (by kernel_rfl) (by kernel_rfl) (by kernel_rfl) (fun _ _ _ h => h) (Or.inr ⟨by rfl, rfl⟩) (by assumption) ?_
          try simp only [Act.put, List.setIfInBounds_toArray, List.set_cons_zero, List.set_cons_succ]
          refine wpAnyH_take (i := 9) (oi := ⟨some 125, _, _, _, _, _⟩) (v := undef) rfl (by kernel_rfl) (by kernel_rfl) (by kernel_rfl) (fun _ _ _ h => h) (Or.inr ⟨by rfl, rfl⟩) (by assumption) ?_
          try simp only [Act.put, List.setIfInBounds_toArray, List.set_cons_zero, List.set_cons_succ]
          refine wpAnyH_take (i := 10) (oi := ⟨some 126, _, _, _, _, _⟩) (v := undef) rfl (by kernel_rfl) (by kernel_rfl) (by kernel_rfl) (fun _ _ _ h => h) (Or.inr ⟨by rfl, rfl⟩) (by assumption) ?_
          try simp only [Act.put, List.setIfInBounds_toArray, List.set_cons_zero, List.set_cons_succ]
          refine wpAnyH_take (i := 11) (oi := ⟨some 127, _, _, _, _, _⟩) (v := undef) rfl (by kernel_rfl) (by kernel_rfl) (by kernel_rfl) (fun _ _ _ h => h) (Or.inr ⟨by rfl, rfl⟩) (by assumption) ?_
          try simp only [Act.put, List.setIfInBounds_toArray, List.set_cons_zero, List.set_cons_succ]
          refine wpAnyH_take (i := 12) (oi := ⟨some 128, _, _, _, _, _⟩) (v := undef) rfl (by kernel_rfl) (by kernel_rfl) (by kernel_rfl) (fun _ _ _ h => h) (Or.inr ⟨by rfl, rfl⟩) (by assumption) ?_
          try simp only [Act.put, List.setIfInBounds_toArray, List.set_cons_zero, List.set_cons_succ]
          refine wpAnyH_take (i := 13) (oi := ⟨some 129, _, _, _, _, _⟩) (v := undef) rfl (by kernel_rfl) (by kernel_rfl) (by kernel_rfl) (fun _ _ _ h => h) (Or.inr ⟨by rfl, rfl⟩) (by assumption) ?_
          try simp only [Act.put, List.setIfInBounds_toArray, List.set_cons_zero, List.set_cons_succ]
          refine wpAnyH_take (i := 14) (oi := ⟨some 130, _, _, _, _, _⟩) (v := undef) rfl (by kernel_rfl) (by kernel_rfl) (by kernel_rfl) (fun _ _ _ h => h) (Or.inr ⟨by rfl, rfl⟩) (by assumption) ?_
          try simp only [Act.put, List.setIfInBounds_toArray, List.set_cons_zero, List.set_cons_succ]
          refine wpAnyH_take (i := 15) (oi := ⟨some 131, _, _, _, _, _⟩) (v := ?_) rfl (by kernel_rfl) (by kernel_rfl) (by kernel_rfl) (fun _ _ _ h => h) (Or.inl ⟨by rfl, ?_⟩) (by assumption) ?_
          rotate_left 1
          · (intro w hSw; (try dsimp only at hSw); have k1 := (HSO.out _ hSw).1; go_simp) <;> (with_reducible rfl)
          try simp only [Act.put, List.setIfInBounds_toArray, List.set_cons_zero, List.set_cons_succ]
          refine wpAnyH_take (i := 16) (oi := ⟨some 13, _, _, _, _, _⟩) (v := ?_) rfl (by kernel_rfl) (by kernel_rfl) (by kernel_rfl) (fun _ _ _ h => h) (Or.inl ⟨by rfl, ?_⟩) (by assumption) ?_
          rotate_left 1
          · (intro w hSw; (try dsimp only at hSw); have k1 := (HSO.out _ hSw).1; go_simp) <;> (with_reducible rfl)
          try simp only [Act.put, List.setIfInBounds_toArray, List.set_cons_zero, List.set_cons_succ]
          refine wpAnyH_done (by kernel_rfl) ?_ _
          have HP6 : Hid (Pl w w6 (fun k => k = bo) g m vs (cpL vs x.k)) := by show Pl _ _ _ _ _ _ _; rw [cpL, HCB.out, if_neg (by simp)]; exact HP2.out
          have HBO6 : Hid (Bk w6 bo 37 (noa x)) := hHeld
          clear hHeld HP2
          have HBW : Hid (Bk w6 bo 37 (noa x)) := HBO6.out
          have k6 : w6.cell? ⟨bo, 1, none⟩ = some (.int .i64 x.k) := HBW.out.cell 1
          have HCP := Lib.hid (pl_copy2 HP6.out x.k)
          rw [HCB.out] at HCP
          clear HP6 HBO6
          go_wp2_with fail
          refine HCP.out.mono ?_
          rintro e w8 ⟨rfl, hf8, hpl8⟩
          have HPZ : Hid (Pl w w8 (fun k => k = bo) g m (cpL vs x.k) (cpL vs x.k)) := hpl8
          clear hf8 hpl8 HCP k6 HBW
          obtain ⟨am, cm, qm, hqm, hdm, hcm⟩ := HPZ.out.list
          have HCM := Lib.hid hcm
          have HLN : Hid (∀ w', Fr NoBlk w8 w' → Calls Try.prog 16 #[.pointer (some ⟨g, 0, none⟩)] w' fun e W' => e = .returned (.int .i64 ((cpL vs x.k).length : Int)) ∧ w' = W') := fun w' hf => pl_len (HPZ.out.nofr hf)
          clear hqm hdm hcm
          go_upto_region 37 with fail
          refine wp_region_held_drew (S := fun w' => Fr NoBlk w8 w') (by kernel_rfl) (by exact (Fr.refl NoBlk w8).drew) (fun hHeld => ?_)
          refine wpAnyH_take (i := 0) (oi := ⟨some 138, _, _, _, _, _⟩) (v := ?_) rfl (by kernel_rfl) (by kernel_rfl) (by kernel_rfl) (fun _ _ _ h => h) (Or.inl ⟨by rfl, ?_⟩) (by assumption) ?_
          rotate_left 1
          · (intro w hSw; (try dsimp only at hSw); have oM := (HCM.out _ hSw).1; go_simp) <;> (with_reducible rfl)
          try simp only [Act.put, List.setIfInBounds_toArray, List.set_cons_zero, List.set_cons_succ]
          refine wpAnyH_take (i := 2) (oi := ⟨some 140, _, _, _, _, _⟩) (v := ?_) rfl (by kernel_rfl) (by kernel_rfl) (by kernel_rfl) (fun _ _ _ h => h) (Or.inl ⟨by rfl, ?_⟩) (by assumption) ?_
          rotate_left 1
          · (intro w hSw; (try dsimp only at hSw); have oM := (HCM.out _ hSw).1; go_simp) <;> (with_reducible rfl)
          try simp only [Act.put, List.setIfInBounds_toArray, List.set_cons_zero, List.set_cons_succ]
          refine wpAnyH_take (i := 3) (oi := ⟨some 141, _, _, _, _, _⟩) (v := ?_) rfl (by kernel_rfl) (by kernel_rfl) (by kernel_rfl) (fun _ _ _ h => h) (Or.inl ⟨by rfl, ?_⟩) (by assumption) ?_
          rotate_left 1
          · (intro w hSw; (try dsimp only at hSw); have oM := (HCM.out _ hSw).1; go_simp) <;> (with_reducible rfl)
          try simp only [Act.put, List.setIfInBounds_toArray, List.set_cons_zero, List.set_cons_succ]
          refine wpAnyH_take (i := 4) (oi := ⟨some 142, _, _, _, _, _⟩) (v := ?_) rfl (by kernel_rfl) (by kernel_rfl) (by kernel_rfl) (fun _ _ _ h => h) (Or.inl ⟨by rfl, ?_⟩) (by assumption) ?_
          rotate_left 1
          · (intro w hSw; (try dsimp only at hSw); have oM := (HCM.out _ hSw).1; go_simp) <;> (with_reducible rfl)
          try simp only [Act.put, List.setIfInBounds_toArray, List.set_cons_zero, List.set_cons_succ]
          refine wpAnyH_take (i := 5) (oi := ⟨some 143, _, _, _, _, _⟩) (v := ?_) rfl (by kernel_rfl) (by kernel_rfl) (by kernel_rfl) (fun _ _ _ h => h) (Or.inl ⟨by rfl, ?_⟩) (by assumption) ?_
          rotate_left 1
          · (intro w hSw; (try dsimp only at hSw); have oM := (HCM.out _ hSw).1; go_simp) <;> (with_reducible rfl)
          try simp only [Act.put, List.setIfInBounds_toArray, List.set_cons_zero, List.set_cons_succ]
          refine wpAnyH_take (i := 6) (oi := ⟨some 144, _, _, _, _, _⟩) (v := ?_) rfl (by kernel_rfl) (by kernel_rfl) (by kernel_rfl) (fun _ _ _ h => h) (Or.inl ⟨by rfl, ?_⟩) (by assumption) ?_
          rotate_left 1
          · (intro w hSw; (try dsimp only at hSw); have oM := (HCM.out _ hSw).1; go_simp) <;> (with_reducible rfl)
          try simp only [Act.put, List.setIfInBounds_toArray, List.set_cons_zero, List.set_cons_succ]
          refine wpAnyH_ready (rs := [1]) (by kernel_rfl) (by simp) ?_
          refine AllReadyH.cons (o := ⟨some 139, _, _, _, _, _⟩) rfl (fun K hK => ?_) AllReadyH.nil
          have hSw := hHeld
          go_simp
          go_at_call 16
          refine (HLN.out _ hSw).mono ?_
          rintro e w' ⟨rfl, rfl⟩
          refine hK.out _ _ ?_ (fun hHeld => ?_)
          · assumption
          clear hK K
          try simp only [Act.put, List.setIfInBounds_toArray, List.set_cons_zero, List.set_cons_succ]
          refine wpAnyH_take (i := 7) (oi := ⟨some 145, _, _, _, _, _⟩) (v := ?_) rfl (by kernel_rfl) (by kernel_rfl) (by kernel_rfl) (fun _ _ _ h => h) (Or.inl ⟨by rfl, ?_⟩) (by assumption) ?_
          rotate_left 1
          · (intro w hSw; (try dsimp only at hSw); have oM := (HCM.out _ hSw).1; go_simp) <;> (with_reducible rfl)
          try simp only [Act.put, List.setIfInBounds_toArray, List.set_cons_zero, List.set_cons_succ]
          refine wpAnyH_done (by kernel_rfl) ?_ _
          have HPF : Hid (Pl w w8.drew (fun _ => False) g m (cpL vs x.k) (cpL vs x.k)) := HPZ.out.sub (fun _ e => e.elim) (Fr.refl NoBlk _).drew (fun _ e => e.elim)
          clear hHeld HLN HCM
          go_wp2_with fail
          go_roundw
          case rel => exact ⟨j + 1, cpL vs x.k, by omega, by go_num, HPF⟩
          case measure => simp [intOf]; omega
      · have g0 : ((q : Int) == 0) = false := beq_eq_false_iff_ne.2 (by omega)
        have g1 : ((q : Int) == 1) = false := beq_eq_false_iff_ne.2 (by omega)
        have g2 : ((q : Int) == 2) = false := beq_eq_false_iff_ne.2 (by omega)
        have g3 : ((q : Int) == 3) = false := beq_eq_false_iff_ne.2 (by omega)
        have n0 : ¬ q = 0 := by omega
        have n1 : ¬ q = 1 := by omega
        have n2 : ¬ q = 2 := by omega
        have n3 : ¬ q = 3 := by omega
        clear hqe hq7 HSO
        have HWB : Hid (w.heap.size ≤ wb.heap.size) := HP1.out.fr.size
        have h6 : wb.cell? ⟨bo, 8, none⟩ = some (.slice x.p.d.1 x.p.d.2.2.length x.p.d.2.1) := HBO.out.cell 8
        have h0 : wb.cell? ⟨bo, 2, none⟩ = some (.int .i64 x.p.src) := HBO.out.cell 2
        have h1 : wb.cell? ⟨bo, 3, none⟩ = some (.int .i64 x.p.dst) := HBO.out.cell 3
        have h2 : wb.cell? ⟨bo, 4, none⟩ = some (.int .u64 x.p.ep) := HBO.out.cell 4
        have h3 : wb.cell? ⟨bo, 5, none⟩ = some (.int .u64 x.p.pe) := HBO.out.cell 5
        have h4 : wb.cell? ⟨bo, 6, none⟩ = some (.int .u64 x.p.sq) := HBO.out.cell 6
        have h5 : wb.cell? ⟨bo, 7, none⟩ = some (.int .u64 x.p.ak) := HBO.out.cell 7
        obtain ⟨i0, hi, hz0, hz1, hz2⟩ := info_parts byteInfo
        obtain ⟨w2, hw2⟩ : ∃ w2, w2 = wb.alloc (.cells (pca x.p) 35) := ⟨_, rfl⟩
        obtain ⟨b14, hb14⟩ : ∃ b14, b14 = wb.heap.size := ⟨_, rfl⟩
        have HF2 : Hid (Fr NoBlk wb w2) := by show Fr _ _ _; rw [hw2]; exact (Fr.refl _ _).alloc _
        have HB2 : Hid (Bk w2 b14 35 (pca x.p)) := by show Bk _ _ _ _; rw [hw2, hb14]; exact Bk.new _ _ _
        have h6' : w2.cell? ⟨bo, 8, none⟩ = some (.slice x.p.d.1 x.p.d.2.2.length x.p.d.2.1) := (HBO.out.fr HF2.out (fun h => h)).cell 8
        have HB14 := Lib.hid hb14
        unfold pca at hw2
        go_upto_region 15 with fail
        rw [← hw2, ← hb14]
        clear hw2 hb14 h0 h1 h2 h3 h4 h5 h6 k0 k1
        have e6 := HB2.out.cell 6
        have f6 := HB2.out.free 6
        unfold pca at e6
        simp only [List.getElem?_toArray, List.getElem?_cons_zero, List.getElem?_cons_succ] at e6
        have e6' : (w2.alloc (.cells #[] 5)).cell? ⟨bo, 8, none⟩ = some (.slice x.p.d.1 x.p.d.2.2.length x.p.d.2.1) := ((HBO.out.fr HF2.out (fun h => h)).alloc _).cell 8
        go_wp2_with (at_builtin; refine wpList_app rfl _ _ 31 rfl w2.heap.size 5 i0 (.int .u8 0) 1 Try.underlying31 hi hz0 hz1 hz2 rfl _ 0 [] rfl (World.ownsRow_made w2 #[] 0 (Nat.le_refl _) (by decide) rfl) x.p.d.1 x.p.d.2.1 x.p.d.2.2.length (cb x.p.d.2.2) rfl (cb_length _) ?c1 (cb_one _) ?c2 ?c3 ?c4 ?c5 ?_)
        case c1 => exact (HXI.out.rd.nofr (HP1.out.fr.trans HF2.out)).alloc _
        case c2 => exact HXI.out.nil
        case c3 => have := H500.out; unfold maxLen; omega
        case c4 => have := H500.out; omega
        case c5 => simp
        intro v3 w3 ho3 hg3 _ hb3
        obtain ⟨A2, c2, rfl, _, _⟩ := own_form ho3
        have hf3 : Fr NoBlk w2 w3 := ((Fr.refl _ _).alloc _).grown hg3 (fun k hk hlt => by simp [Value.ownBlock] at hk; omega)
        have ho3' : w3.ownsRow w2.heap.size 5 1 (.slice A2 x.p.d.2.2.length c2) x.p.d.2.2.length (cb x.p.d.2.2) := by simpa using ho3
        have hb3' := HB2.out.fr hf3 (fun h => h)
        obtain ⟨w5, hw5⟩ : ∃ w5, w5 = w3.setCell ⟨b14, 6, none⟩ (.slice A2 x.p.d.2.2.length c2) := ⟨_, rfl⟩
        have hf5 : Fr NoBlk wb w5 := by rw [hw5]; exact (HF2.out.trans hf3).setCell (fun h => by have := HB14.out; simp only at h; omega) _
        have HB5 : Hid (Bk w5 b14 35 #[.int .i64 x.p.src, .int .i64 x.p.dst, .int .u64 x.p.ep, .int .u64 x.p.pe, .int .u64 x.p.sq, .int .u64 x.p.ak, .slice A2 x.p.d.2.2.length c2]) := by show Bk _ _ _ _; rw [hw5]; exact hb3'.put 6 _
        have HBO5 : Hid (Bk w5 bo 37 (noa x)) := HBO.out.fr hf5 (fun h => h)
        have HD5 : Hid (w5.ownsRow wb.heap.size 5 1 (.slice A2 x.p.d.2.2.length c2) x.p.d.2.2.length (cb x.p.d.2.2)) := by show World.ownsRow _ _ _ _ _ _ _; rw [hw5]; exact own_set (own_base ho3' HF2.out.size) hb3' (by decide)
        have HP5 : Hid (Pl w w5 (fun k => k = bo ∨ k = b14 ∨ (Value.slice A2 x.p.d.2.2.length c2).ownBlock = some k) g m vs vs) := HP1.out.sub (fun k hk => by
          rcases hk with hk | hk | hk
          · exact .inl hk
          · exact .inr (by rw [hk, HB14.out]; exact Nat.le_refl _)
          · exact .inr (Nat.le_trans HF2.out.size (own_blk ho3' hk).1)) hf5 (fun k hk => by
          rcases hk with hk | hk | hk
          · rw [hk]; exact HBO5.out.lt
          · rw [hk]; exact HB5.out.lt
          · exact (own_blk HD5.out hk).2)
        have r6 := hb3'.cell 6
        have rf := hb3'.free 6
        unfold pca at r6
        simp only [List.getElem?_toArray, List.getElem?_cons_zero, List.getElem?_cons_succ] at r6
        have HSO : Hid (∀ w' : World, (Bk w' bo 37 (noa x) ∧ Bk w' b14 35 #[.int .i64 x.p.src, .int .i64 x.p.dst, .int .u64 x.p.ep, .int .u64 x.p.pe, .int .u64 x.p.sq, .int .u64 x.p.ak, .slice A2 x.p.d.2.2.length c2]) → w'.cell? ⟨bo, 2, none⟩ = some (.int .i64 x.p.src) ∧ w'.cell? ⟨bo, 3, none⟩ = some (.int .i64 x.p.dst) ∧ w'.cell? ⟨bo, 4, none⟩ = some (.int .u64 x.p.ep) ∧ w'.cell? ⟨bo, 5, none⟩ = some (.int .u64 x.p.pe) ∧ w'.cell? ⟨bo, 6, none⟩ = some (.int .u64 x.p.sq) ∧ w'.cell? ⟨bo, 7, none⟩ = some (.int .u64 x.p.ak) ∧ w'.cell? ⟨bo, 8, none⟩ = some (.slice x.p.d.1 x.p.d.2.2.length x.p.d.2.1) ∧ w'.cell? ⟨b14, 0, none⟩ = some (.int .i64 x.p.src) ∧ w'.cell? ⟨b14, 1, none⟩ = some (.int .i64 x.p.dst) ∧ w'.cell? ⟨b14, 2, none⟩ = some (.int .u64 x.p.ep) ∧ w'.cell? ⟨b14, 3, none⟩ = some (.int .u64 x.p.pe) ∧ w'.cell? ⟨b14, 4, none⟩ = some (.int .u64 x.p.sq) ∧ w'.cell? ⟨b14, 5, none⟩ = some (.int .u64 x.p.ak) ∧ w'.cell? ⟨b14, 6, none⟩ = some (.slice A2 x.p.d.2.2.length c2)) := fun w' h =>
          ⟨h.1.cell 2, h.1.cell 3, h.1.cell 4, h.1.cell 5, h.1.cell 6, h.1.cell 7, h.1.cell 8, h.2.cell 0, h.2.cell 1, h.2.cell 2, h.2.cell 3, h.2.cell 4, h.2.cell 5, h.2.cell 6⟩
        clear ho3 ho3' hg3 hb3 hf3 hb3' hf5 e6 f6 e6' h6' HP1 HB2 HF2
        go_upto_region 16 with fail
        try simp only [Nat.zero_add]
        rw [← hw5]
        clear hw5 r6 rf
        by_cases h4 : 4000 ≤ vs.length
        · refine wp_region_held_drew (S := fun w' => Bk w' bo 37 (noa x) ∧ Bk w' b14 35 #[.int .i64 x.p.src, .int .i64 x.p.dst, .int .u64 x.p.ep, .int .u64 x.p.pe, .int .u64 x.p.sq, .int .u64 x.p.ak, .slice A2 x.p.d.2.2.length c2]) (by kernel_rfl) (by exact ⟨HBO5.out.fr (Fr.refl NoBlk _).drew (fun h => h), HB5.out.fr (Fr.refl NoBlk _).drew (fun h => h)⟩) (fun hHeld => ?_)
          obtain ⟨w6, hw6⟩ : ∃ w6, w6 = w5.drew := ⟨_, rfl⟩
          have HP6 : Hid (Pl w w6 (fun k => k = bo ∨ k = b14 ∨ (Value.slice A2 x.p.d.2.2.length c2).ownBlock = some k) g m vs vs) := by show Pl _ _ _ _ _ _ _; rw [hw6]; exact HP5.out.nofr (Fr.refl NoBlk _).drew
          have HD6 : Hid (w6.ownsRow wb.heap.size 5 1 (.slice A2 x.p.d.2.2.length c2) x.p.d.2.2.length (cb x.p.d.2.2)) := by show World.ownsRow _ _ _ _ _ _ _; rw [hw6]; exact own_fr HD5.out (Fr.refl NoBlk _).drew (fun _ _ h => h)
          rw [← hw6] at hHeld ⊢
          clear hw6 HP5 HD5 HBO5 HB5
          refine wpAnyH_take (i := 0) (oi := ⟨some 51, _, _, _, _, _⟩) (v := ?_) rfl (by kernel_rfl) (by kernel_rfl) (by kernel_rfl) (fun _ _ _ h => h) (Or.inl ⟨by rfl, ?_⟩) (by assumption) ?_
          rotate_left 1
          · (intro w hSw; (try dsimp only at hSw); obtain ⟨s0, s1, s2, s3, s4, s5, s6, t0, t1, t2, t3, t4, t5, t6⟩ := HSO.out _ hSw; go_simp) <;> (with_reducible rfl)
          try simp only [Act.put, List.setIfInBounds_toArray, List.set_cons_zero, List.set_cons_succ]
          refine wpAnyH_take (i := 1) (oi := ⟨some 52, _, _, _, _, _⟩) (v := ?_) rfl (by kernel_rfl) (by kernel_rfl) (by kernel_rfl) (fun _ _ _ h => h) (Or.inl ⟨by rfl, ?_⟩) (by assumption) ?_
          rotate_left 1
          · (intro w hSw; (try dsimp only at hSw); obtain ⟨s0, s1, s2, s3, s4, s5, s6, t0, t1, t2, t3, t4, t5, t6⟩ := HSO.out _ hSw; go_simp) <;> (with_reducible rfl)
          try simp only [Act.put, List.setIfInBounds_toArray, List.set_cons_zero, List.set_cons_succ]
          refine wpAnyH_take (i := 4) (oi := ⟨some 55, _, _, _, _, _⟩) (v := ?_) rfl (by kernel_rfl) (by kernel_rfl) (by kernel_rfl) (fun _ _ _ h => h) (Or.inl ⟨by rfl, ?_⟩) (by assumption) ?_
          rotate_left 1
          · (intro w hSw; (try dsimp only at hSw); obtain ⟨s0, s1, s2, s3, s4, s5, s6, t0, t1, t2, t3, t4, t5, t6⟩ := HSO.out _ hSw; go_simp) <;> (with_reducible rfl)
          try simp only [Act.put, List.setIfInBounds_toArray, List.set_cons_zero, List.set_cons_succ]
          refine wpAnyH_take (i := 5) (oi := ⟨some 56, _, _, _, _, _⟩) (v := ?_) rfl (by kernel_rfl) (by kernel_rfl) (by kernel_rfl) (fun _ _ _ h => h) (Or.inl ⟨by rfl, ?_⟩) (by assumption) ?_
          rotate_left 1
          · (intro w hSw; (try dsimp only at hSw); obtain ⟨s0, s1, s2, s3, s4, s5, s6, t0, t1, t2, t3, t4, t5, t6⟩ := HSO.out _ hSw; go_simp) <;> (with_reducible rfl)
          try simp only [Act.put, List.setIfInBounds_toArray, List.set_cons_zero, List.set_cons_succ]
          refine wpAnyH_take (i := 6) (oi := ⟨some 57, _, _, _, _, _⟩) (v := ?_) rfl (by kernel_rfl) (by kernel_rfl) (by kernel_rfl) (fun _ _ _ h => h) (Or.inl ⟨by rfl, ?_⟩) (by assumption) ?_
          rotate_left 1
          · (intro w hSw; (try dsimp only at hSw); obtain ⟨s0, s1, s2, s3, s4, s5, s6, t0, t1, t2, t3, t4, t5, t6⟩ := HSO.out _ hSw; go_simp) <;> (with_reducible rfl)
          try simp only [Act.put, List.setIfInBounds_toArray, List.set_cons_zero, List.set_cons_succ]
          refine wpAnyH_ready (rs := [2]) (by kernel_rfl) (by simp) ?_
          refine AllReadyH.cons (o := ⟨some 53, _, _, _, _, _⟩) rfl (fun K hK => ?_) AllReadyH.nil
          have hSw := hHeld
          go_simp
          go_at_call 15
          refine (pl_send HP6.out ⟨x.p.src, x.p.dst, x.p.ep, x.p.pe, x.p.sq, x.p.ak, A2, c2, x.p.d.2.2⟩ (Rd.of_own HD6.out) (own_lens HD6.out).2.2 H500.out).mono ?_
          rintro e w7 ⟨hf7, ⟨_, rfl, hpl7⟩ | ⟨h4, _⟩⟩
          rotate_left
          · omega
          have hB7 : Bk w7 bo 37 (noa x) ∧ Bk w7 b14 35 #[.int .i64 x.p.src, .int .i64 x.p.dst, .int .u64 x.p.ep, .int .u64 x.p.pe, .int .u64 x.p.sq, .int .u64 x.p.ak, .slice A2 x.p.d.2.2.length c2] := ⟨Bk.fr hSw.1 hf7 (Out.keep hf7 (.inl (.inl rfl))), Bk.fr hSw.2 hf7 (Out.keep hf7 (.inl (.inr (.inl rfl))))⟩
          have HP7 : Hid (Pl w w7 (fun k => k = bo ∨ k = b14 ∨ (Value.slice A2 x.p.d.2.2.length c2).ownBlock = some k) g m vs vs) := hpl7
          have HD7 : Hid (w7.ownsRow wb.heap.size 5 1 (.slice A2 x.p.d.2.2.length c2) x.p.d.2.2.length (cb x.p.d.2.2)) := own_fr HD6.out hf7 (fun k hk => Out.keep hf7 (.inl (.inr (.inr hk))))
          clear hf7 hpl7 HP6 HD6
          refine hK.out _ _ ?_ (fun hHeld => ?_)
          · exact hB7
          clear hK K
          try simp only [Act.put, List.setIfInBounds_toArray, List.set_cons_zero, List.set_cons_succ]
          refine wpAnyH_take (i := 3) (oi := ⟨some 54, _, _, _, _, _⟩) (v := ?_) rfl (by kernel_rfl) (by kernel_rfl) (by kernel_rfl) (fun _ _ _ h => h) (Or.inl ⟨by rfl, ?_⟩) (by assumption) ?_
          rotate_left 1
          · (intro w hSw; (try dsimp only at hSw); obtain ⟨s0, s1, s2, s3, s4, s5, s6, t0, t1, t2, t3, t4, t5, t6⟩ := HSO.out _ hSw; go_simp) <;> (with_reducible rfl)
          try simp only [Act.put, List.setIfInBounds_toArray, List.set_cons_zero, List.set_cons_succ]
          refine wpAnyH_ready (rs := [7]) (by kernel_rfl) (by simp) ?_
          refine AllReadyH.cons (o := ⟨some 58, _, _, _, _, _⟩) rfl (fun K hK => ?_) AllReadyH.nil
          have hSw := hHeld
          go_simp
          go_at_call 13
          refine (pr_send HP7.out x.p HXI.out).mono ?_
          rintro e w8 ⟨hf8, ⟨_, rfl, hpl8⟩ | ⟨h4, _⟩⟩
          rotate_left
          · omega
          have hB8 : Bk w8 bo 37 (noa x) ∧ Bk w8 b14 35 #[.int .i64 x.p.src, .int .i64 x.p.dst, .int .u64 x.p.ep, .int .u64 x.p.pe, .int .u64 x.p.sq, .int .u64 x.p.ak, .slice A2 x.p.d.2.2.length c2] := ⟨Bk.fr hSw.1 hf8 (fun e => HP7.out.m_.1 (.inl e.symm)), Bk.fr hSw.2 hf8 (fun e => HP7.out.m_.1 (.inr (.inl e.symm)))⟩
          have HP8 : Hid (Pl w w8 (fun k => k = bo ∨ k = b14 ∨ (Value.slice A2 x.p.d.2.2.length c2).ownBlock = some k) g m vs vs) := hpl8
          have HD8 : Hid (w8.ownsRow wb.heap.size 5 1 (.slice A2 x.p.d.2.2.length c2) x.p.d.2.2.length (cb x.p.d.2.2)) := own_fr HD7.out hf8 (fun k hk e => HP7.out.m_.1 (.inr (.inr (by rw [hk, e]))))
          clear hf8 hpl8 HP7 HD7
          refine hK.out _ _ ?_ (fun hHeld => ?_)
          · exact hB8
          clear hK K
          try simp only [Act.put, List.setIfInBounds_toArray, List.set_cons_zero, List.set_cons_succ]
          refine wpAnyH_take (i := 8) (oi := ⟨some 59, _, _, _, _, _⟩) (v := ?_) rfl (by kernel_rfl) (by kernel_rfl) (by kernel_rfl) (fun _ _ _ h => h) (Or.inl ⟨by rfl, ?_⟩) (by assumption) ?_
          rotate_left 1
          · (intro w hSw; (try dsimp only at hSw); obtain ⟨s0, s1, s2, s3, s4, s5, s6, t0, t1, t2, t3, t4, t5, t6⟩ := HSO.out _ hSw; go_simp) <;> (with_reducible rfl)
          try simp only [Act.put, List.setIfInBounds_toArray, List.set_cons_zero, List.set_cons_succ]
          refine wpAnyH_done (by kernel_rfl) ?_ _
          have HB8 : Hid (Bk w8 b14 35 #[.int .i64 x.p.src, .int .i64 x.p.dst, .int .u64 x.p.ep, .int .u64 x.p.pe, .int .u64 x.p.sq, .int .u64 x.p.ak, .slice A2 x.p.d.2.2.length c2]) := hHeld.2
          clear hHeld
          obtain ⟨us, hus⟩ : ∃ us, us = vs := ⟨_, rfl⟩
          rw [← hus] at HP8
          clear hus
          have f6 := HB8.out.cell 6
          simp only [List.getElem?_toArray, List.getElem?_cons_zero, List.getElem?_cons_succ] at f6
          have HCP : Hid (x.p.d.2.2.length ≤ c2) := (own_lens HD8.out).1
          go_wp2_with fail
          go_loopw [64] (fun s wr => ∃ (i : Nat) (ys : List Value), i ≤ x.p.d.2.2.length ∧ s = .int .i64 (i : Int) ∧ Hid (wr.ownsRow wb.heap.size 5 1 (.slice A2 x.p.d.2.2.length c2) x.p.d.2.2.length ys) ∧ Hid (Bk wr b14 35 #[.int .i64 x.p.src, .int .i64 x.p.dst, .int .u64 x.p.ep, .int .u64 x.p.pe, .int .u64 x.p.sq, .int .u64 x.p.ak, .slice A2 x.p.d.2.2.length c2]) ∧ Hid (Pl w wr (fun k => k = bo ∨ k = b14 ∨ (Value.slice A2 x.p.d.2.2.length c2).ownBlock = some k) g m us us)) (fun s _ => x.p.d.2.2.length - (intOf s).toNat)
          case atStart => exact ⟨0, _, by omega, rfl, HD8, HB8, HP8⟩
          case round =>
            obtain ⟨i, ys, hi', rfl, HY, HB9, HP9⟩ := hrel
            have g6 := HB9.out.cell 6
            simp only [List.getElem?_toArray, List.getElem?_cons_zero, List.getElem?_cons_succ] at g6
            by_cases hlt2 : i < x.p.d.2.2.length
            · obtain ⟨b2, hA2⟩ : ∃ b2, A2 = some ⟨b2, 0, none⟩ := by
                rcases HY.out.2 with ⟨_, e⟩ | ⟨b2, cap, cur, e, _⟩
                · omega
                · injection e with e _ _
                  exact ⟨b2, e⟩
              subst hA2
              have hcell := HY.out.cellAt i (by omega)
              have hfree := HY.out.frozenAt i
              obtain ⟨y, hy⟩ : ∃ y, ys[i]? = some y := ⟨_, List.getElem?_eq_getElem (by have := HY.out.1; omega)⟩
              rw [hy] at hcell
              clear hy
              have hl500 := H500.out
              have hne : b14 ≠ b2 := by
                intro e
                subst e
                rcases HY.out.2 with ⟨e, _⟩ | ⟨b2, cap, cur, e, _, hh, _⟩
                · cases e
                · injection e with e _ _
                  injection e with e
                  injection e with e
                  subst e
                  exact Bk.apart (t := 5) hh HB9.out (by decide) rfl
              have HY2 := Lib.hid (HY.out.stored i (.int .u8 238)).1
              have HB10 : Hid (Bk (wr.setCell ⟨b2, i, none⟩ (.int .u8 238)) b14 35 #[.int .i64 x.p.src, .int .i64 x.p.dst, .int .u64 x.p.ep, .int .u64 x.p.pe, .int .u64 x.p.sq, .int .u64 x.p.ak, .slice (some ⟨b2, 0, none⟩) x.p.d.2.2.length c2]) := HB9.out.far (by exact hne) _
              have HP10 : Hid (Pl w (wr.setCell ⟨b2, i, none⟩ (.int .u8 238)) (fun k => k = bo ∨ k = b14 ∨ (Value.slice (some ⟨b2, 0, none⟩) x.p.d.2.2.length c2).ownBlock = some k) g m us us) := by
                have hb2 : w.heap.size ≤ b2 := Nat.le_trans HWB.out (own_blk HY.out rfl).1
                exact HP9.out.far (((Fr.refl (fun k => k = b2) wr).setCell (p := ⟨b2, i, none⟩) (fun _ => rfl) _).mono fun k _ e => .inr (.inr (by rw [e]; rfl))) (HP9.out.fr.setCell (fun h => by simp only at h; omega) _)
              clear hne
              go_wp2_with fail
              go_roundw
              case rel => exact ⟨i + 1, _, by omega, by go_num, HY2, HB10, HP10⟩
              case measure => simp [intOf]; omega
            · have HPZ := HP9
              clear HP9 HY HB9 g6
              obtain ⟨am, cm, qm, hqm, hdm, hcm⟩ := HPZ.out.list
              have HCM := Lib.hid hcm
              have HLN : Hid (∀ w', Fr NoBlk wr w' → Calls Try.prog 16 #[.pointer (some ⟨g, 0, none⟩)] w' fun e W' => e = .returned (.int .i64 ((us).length : Int)) ∧ w' = W') := fun w' hf => pl_len (HPZ.out.nofr hf)
              clear hqm hdm hcm
              go_upto_region 37 with fail
              refine wp_region_held_drew (S := fun w' => Fr NoBlk wr w') (by kernel_rfl) (by exact (Fr.refl NoBlk wr).drew) (fun hHeld => ?_)
              refine wpAnyH_take (i := 0) (oi := ⟨some 138, _, _, _, _, _⟩) (v := ?_) rfl (by kernel_rfl) (by kernel_rfl) (by kernel_rfl) (fun _ _ _ h => h) (Or.inl ⟨by rfl, ?_⟩) (by assumption) ?_
              rotate_left 1
              · (intro w hSw; (try dsimp only at hSw); have oM := (HCM.out _ hSw).1; go_simp) <;> (with_reducible rfl)
              try simp only [Act.put, List.setIfInBounds_toArray, List.set_cons_zero, List.set_cons_succ]
              refine wpAnyH_take (i := 2) (oi := ⟨some 140, _, _, _, _, _⟩) (v := ?_) rfl (by kernel_rfl) (by kernel_rfl) (by kernel_rfl) (fun _ _ _ h => h) (Or.inl ⟨by rfl, ?_⟩) (by assumption) ?_
              rotate_left 1
              · (intro w hSw; (try dsimp only at hSw); have oM := (HCM.out _ hSw).1; go_simp) <;> (with_reducible rfl)
              try simp only [Act.put, List.setIfInBounds_toArray, List.set_cons_zero, List.set_cons_succ]
              refine wpAnyH_take (i := 3) (oi := ⟨some 141, _, _, _, _, _⟩) (v := ?_) rfl (by kernel_rfl) (by kernel_rfl) (by kernel_rfl) (fun _ _ _ h => h) (Or.inl ⟨by rfl, ?_⟩) (by assumption) ?_
              rotate_left 1
              · (intro w hSw; (try dsimp only at hSw); have oM := (HCM.out _ hSw).1; go_simp) <;> (with_reducible rfl)
              try simp only [Act.put, List.setIfInBounds_toArray, List.set_cons_zero, List.set_cons_succ]
              refine wpAnyH_take (i := 4) (oi := ⟨some 142, _, _, _, _, _⟩) (v := ?_) rfl (by kernel_rfl) (by kernel_rfl) (by kernel_rfl) (fun _ _ _ h => h) (Or.inl ⟨by rfl, ?_⟩) (by assumption) ?_
              rotate_left 1
              · (intro w hSw; (try dsimp only at hSw); have oM := (HCM.out _ hSw).1; go_simp) <;> (with_reducible rfl)
              try simp only [Act.put, List.setIfInBounds_toArray, List.set_cons_zero, List.set_cons_succ]
              refine wpAnyH_take (i := 5) (oi := ⟨some 143, _, _, _, _, _⟩) (v := ?_) rfl (by kernel_rfl) (by kernel_rfl) (by kernel_rfl) (fun _ _ _ h => h) (Or.inl ⟨by rfl, ?_⟩) (by assumption) ?_
              rotate_left 1
              · (intro w hSw; (try dsimp only at hSw); have oM := (HCM.out _ hSw).1; go_simp) <;> (with_reducible rfl)
              try simp only [Act.put, List.setIfInBounds_toArray, List.set_cons_zero, List.set_cons_succ]
              refine wpAnyH_take (i := 6) (oi := ⟨some 144, _, _, _, _, _⟩) (v := ?_) rfl (by kernel_rfl) (by kernel_rfl) (by kernel_rfl) (fun _ _ _ h => h) (Or.inl ⟨by rfl, ?_⟩) (by assumption) ?_
              rotate_left 1
              · (intro w hSw; (try dsimp only at hSw); have oM := (HCM.out _ hSw).1; go_simp) <;> (with_reducible rfl)
              try simp only [Act.put, List.setIfInBounds_toArray, List.set_cons_zero, List.set_cons_succ]
              refine wpAnyH_ready (rs := [1]) (by kernel_rfl) (by simp) ?_
              refine AllReadyH.cons (o := ⟨some 139, _, _, _, _, _⟩) rfl (fun K hK => ?_) AllReadyH.nil
              have hSw := hHeld
              go_simp
              go_at_call 16
              refine (HLN.out _ hSw).mono ?_
              rintro e w' ⟨rfl, rfl⟩
              refine hK.out _ _ ?_ (fun hHeld => ?_)
              · assumption
              clear hK K
              try simp only [Act.put, List.setIfInBounds_toArray, List.set_cons_zero, List.set_cons_succ]
              refine wpAnyH_take (i := 7) (oi := ⟨some 145, _, _, _, _, _⟩) (v := ?_) rfl (by kernel_rfl) (by kernel_rfl) (by kernel_rfl) (fun _ _ _ h => h) (Or.inl ⟨by rfl, ?_⟩) (by assumption) ?_
              rotate_left 1
              · (intro w hSw; (try dsimp only at hSw); have oM := (HCM.out _ hSw).1; go_simp) <;> (with_reducible rfl)
              try simp only [Act.put, List.setIfInBounds_toArray, List.set_cons_zero, List.set_cons_succ]
              refine wpAnyH_done (by kernel_rfl) ?_ _
              have HPF : Hid (Pl w wr.drew (fun _ => False) g m (us) (us)) := HPZ.out.sub (fun _ e => e.elim) (Fr.refl NoBlk _).drew (fun _ e => e.elim)
              clear hHeld HLN HCM
              go_wp2_with fail
              go_roundw
              case rel => exact ⟨j + 1, us, by omega, by go_num, HPF⟩
              case measure => simp [intOf]; omega
        · refine wp_region_held_drew (S := fun w' => Bk w' bo 37 (noa x) ∧ Bk w' b14 35 #[.int .i64 x.p.src, .int .i64 x.p.dst, .int .u64 x.p.ep, .int .u64 x.p.pe, .int .u64 x.p.sq, .int .u64 x.p.ak, .slice A2 x.p.d.2.2.length c2]) (by kernel_rfl) (by exact ⟨HBO5.out.fr (Fr.refl NoBlk _).drew (fun h => h), HB5.out.fr (Fr.refl NoBlk _).drew (fun h => h)⟩) (fun hHeld => ?_)
          obtain ⟨w6, hw6⟩ : ∃ w6, w6 = w5.drew := ⟨_, rfl⟩
          have HP6 : Hid (Pl w w6 (fun k => k = bo ∨ k = b14 ∨ (Value.slice A2 x.p.d.2.2.length c2).ownBlock = some k) g m vs vs) := by show Pl _ _ _ _ _ _ _; rw [hw6]; exact HP5.out.nofr (Fr.refl NoBlk _).drew
          have HD6 : Hid (w6.ownsRow wb.heap.size 5 1 (.slice A2 x.p.d.2.2.length c2) x.p.d.2.2.length (cb x.p.d.2.2)) := by show World.ownsRow _ _ _ _ _ _ _; rw [hw6]; exact own_fr HD5.out (Fr.refl NoBlk _).drew (fun _ _ h => h)
          rw [← hw6] at hHeld ⊢
          clear hw6 HP5 HD5 HBO5 HB5
          refine wpAnyH_take (i := 0) (oi := ⟨some 51, _, _, _, _, _⟩) (v := ?_) rfl (by kernel_rfl) (by kernel_rfl) (by kernel_rfl) (fun _ _ _ h => h) (Or.inl ⟨by rfl, ?_⟩) (by assumption) ?_
          rotate_left 1
          · (intro w hSw; (try dsimp only at hSw); obtain ⟨s0, s1, s2, s3, s4, s5, s6, t0, t1, t2, t3, t4, t5, t6⟩ := HSO.out _ hSw; go_simp) <;> (with_reducible rfl)
          try simp only [Act.put, List.setIfInBounds_toArray, List.set_cons_zero, List.set_cons_succ]
          refine wpAnyH_take (i := 1) (oi := ⟨some 52, _, _, _, _, _⟩) (v := ?_) rfl (by kernel_rfl) (by kernel_rfl) (by kernel_rfl) (fun _ _ _ h => h) (Or.inl ⟨by rfl, ?_⟩) (by assumption) ?_
          rotate_left 1
          · (intro w hSw; (try dsimp only at hSw); obtain ⟨s0, s1, s2, s3, s4, s5, s6, t0, t1, t2, t3, t4, t5, t6⟩ := HSO.out _ hSw; go_simp) <;> (with_reducible rfl)
          try simp only [Act.put, List.setIfInBounds_toArray, List.set_cons_zero, List.set_cons_succ]
          refine wpAnyH_take (i := 4) (oi := ⟨some 55, _, _, _, _, _⟩) (v := ?_) rfl (by kernel_rfl) (by kernel_rfl) (by kernel_rfl) (fun _ _ _ h => h) (Or.inl ⟨by rfl, ?_⟩) (by assumption) ?_
          rotate_left 1
          · (intro w hSw; (try dsimp only at hSw); obtain ⟨s0, s1, s2, s3, s4, s5, s6, t0, t1, t2, t3, t4, t5, t6⟩ := HSO.out _ hSw; go_simp) <;> (with_reducible rfl)
          try simp only [Act.put, List.setIfInBounds_toArray, List.set_cons_zero, List.set_cons_succ]
          refine wpAnyH_take (i := 5) (oi := ⟨some 56, _, _, _, _, _⟩) (v := ?_) rfl (by kernel_rfl) (by kernel_rfl) (by kernel_rfl) (fun _ _ _ h => h) (Or.inl ⟨by rfl, ?_⟩) (by assumption) ?_
          rotate_left 1
          · (intro w hSw; (try dsimp only at hSw); obtain ⟨s0, s1, s2, s3, s4, s5, s6, t0, t1, t2, t3, t4, t5, t6⟩ := HSO.out _ hSw; go_simp) <;> (with_reducible rfl)
          try simp only [Act.put, List.setIfInBounds_toArray, List.set_cons_zero, List.set_cons_succ]
          refine wpAnyH_take (i := 6) (oi := ⟨some 57, _, _, _, _, _⟩) (v := ?_) rfl (by kernel_rfl) (by kernel_rfl) (by kernel_rfl) (fun _ _ _ h => h) (Or.inl ⟨by rfl, ?_⟩) (by assumption) ?_
          rotate_left 1
          · (intro w hSw; (try dsimp only at hSw); obtain ⟨s0, s1, s2, s3, s4, s5, s6, t0, t1, t2, t3, t4, t5, t6⟩ := HSO.out _ hSw; go_simp) <;> (with_reducible rfl)
          try simp only [Act.put, List.setIfInBounds_toArray, List.set_cons_zero, List.set_cons_succ]
          refine wpAnyH_ready (rs := [2]) (by kernel_rfl) (by simp) ?_
          refine AllReadyH.cons (o := ⟨some 53, _, _, _, _, _⟩) rfl (fun K hK => ?_) AllReadyH.nil
          have hSw := hHeld
          go_simp
          go_at_call 15
          refine (pl_send HP6.out ⟨x.p.src, x.p.dst, x.p.ep, x.p.pe, x.p.sq, x.p.ak, A2, c2, x.p.d.2.2⟩ (Rd.of_own HD6.out) (own_lens HD6.out).2.2 H500.out).mono ?_
          rintro e w7 ⟨hf7, ⟨h4, _⟩ | ⟨_, rfl, hpl7⟩⟩
          · omega
          have hB7 : Bk w7 bo 37 (noa x) ∧ Bk w7 b14 35 #[.int .i64 x.p.src, .int .i64 x.p.dst, .int .u64 x.p.ep, .int .u64 x.p.pe, .int .u64 x.p.sq, .int .u64 x.p.ak, .slice A2 x.p.d.2.2.length c2] := ⟨Bk.fr hSw.1 hf7 (Out.keep hf7 (.inl (.inl rfl))), Bk.fr hSw.2 hf7 (Out.keep hf7 (.inl (.inr (.inl rfl))))⟩
          have HP7 : Hid (Pl w w7 (fun k => k = bo ∨ k = b14 ∨ (Value.slice A2 x.p.d.2.2.length c2).ownBlock = some k) g m (vs ++ [pvl ⟨x.p.src, x.p.dst, x.p.ep, x.p.pe, x.p.sq, x.p.ak, A2, c2, x.p.d.2.2⟩]) vs) := hpl7
          have HD7 : Hid (w7.ownsRow wb.heap.size 5 1 (.slice A2 x.p.d.2.2.length c2) x.p.d.2.2.length (cb x.p.d.2.2)) := own_fr HD6.out hf7 (fun k hk => Out.keep hf7 (.inl (.inr (.inr hk))))
          clear hf7 hpl7 HP6 HD6
          refine hK.out _ _ ?_ (fun hHeld => ?_)
          · exact hB7
          clear hK K
          try simp only [Act.put, List.setIfInBounds_toArray, List.set_cons_zero, List.set_cons_succ]
          refine wpAnyH_take (i := 3) (oi := ⟨some 54, _, _, _, _, _⟩) (v := ?_) rfl (by kernel_rfl) (by kernel_rfl) (by kernel_rfl) (fun _ _ _ h => h) (Or.inl ⟨by rfl, ?_⟩) (by assumption) ?_
          rotate_left 1
          · (intro w hSw; (try dsimp only at hSw); obtain ⟨s0, s1, s2, s3, s4, s5, s6, t0, t1, t2, t3, t4, t5, t6⟩ := HSO.out _ hSw; go_simp) <;> (with_reducible rfl)
          try simp only [Act.put, List.setIfInBounds_toArray, List.set_cons_zero, List.set_cons_succ]
          refine wpAnyH_ready (rs := [7]) (by kernel_rfl) (by simp) ?_
          refine AllReadyH.cons (o := ⟨some 58, _, _, _, _, _⟩) rfl (fun K hK => ?_) AllReadyH.nil
          have hSw := hHeld
          go_simp
          go_at_call 13
          refine (pr_send HP7.out x.p HXI.out).mono ?_
          rintro e w8 ⟨hf8, ⟨h4, _⟩ | ⟨_, rfl, hpl8⟩⟩
          · omega
          have hB8 : Bk w8 bo 37 (noa x) ∧ Bk w8 b14 35 #[.int .i64 x.p.src, .int .i64 x.p.dst, .int .u64 x.p.ep, .int .u64 x.p.pe, .int .u64 x.p.sq, .int .u64 x.p.ak, .slice A2 x.p.d.2.2.length c2] := ⟨Bk.fr hSw.1 hf8 (fun e => HP7.out.m_.1 (.inl e.symm)), Bk.fr hSw.2 hf8 (fun e => HP7.out.m_.1 (.inr (.inl e.symm)))⟩
          have HP8 : Hid (Pl w w8 (fun k => k = bo ∨ k = b14 ∨ (Value.slice A2 x.p.d.2.2.length c2).ownBlock = some k) g m (vs ++ [pvl x.p]) (vs ++ [pvl x.p])) := hpl8
          have HD8 : Hid (w8.ownsRow wb.heap.size 5 1 (.slice A2 x.p.d.2.2.length c2) x.p.d.2.2.length (cb x.p.d.2.2)) := own_fr HD7.out hf8 (fun k hk e => HP7.out.m_.1 (.inr (.inr (by rw [hk, e]))))
          clear hf8 hpl8 HP7 HD7
          refine hK.out _ _ ?_ (fun hHeld => ?_)
          · exact hB8
          clear hK K
          try simp only [Act.put, List.setIfInBounds_toArray, List.set_cons_zero, List.set_cons_succ]
          refine wpAnyH_take (i := 8) (oi := ⟨some 59, _, _, _, _, _⟩) (v := ?_) rfl (by kernel_rfl) (by kernel_rfl) (by kernel_rfl) (fun _ _ _ h => h) (Or.inl ⟨by rfl, ?_⟩) (by assumption) ?_
          rotate_left 1
          · (intro w hSw; (try dsimp only at hSw); obtain ⟨s0, s1, s2, s3, s4, s5, s6, t0, t1, t2, t3, t4, t5, t6⟩ := HSO.out _ hSw; go_simp) <;> (with_reducible rfl)
          try simp only [Act.put, List.setIfInBounds_toArray, List.set_cons_zero, List.set_cons_succ]
          refine wpAnyH_done (by kernel_rfl) ?_ _
          have HB8 : Hid (Bk w8 b14 35 #[.int .i64 x.p.src, .int .i64 x.p.dst, .int .u64 x.p.ep, .int .u64 x.p.pe, .int .u64 x.p.sq, .int .u64 x.p.ak, .slice A2 x.p.d.2.2.length c2]) := hHeld.2
          clear hHeld
          obtain ⟨us, hus⟩ : ∃ us, us = (vs ++ [pvl x.p]) := ⟨_, rfl⟩
          rw [← hus] at HP8
          clear hus
          have f6 := HB8.out.cell 6
          simp only [List.getElem?_toArray, List.getElem?_cons_zero, List.getElem?_cons_succ] at f6
          have HCP : Hid (x.p.d.2.2.length ≤ c2) := (own_lens HD8.out).1
          go_wp2_with fail
          go_loopw [64] (fun s wr => ∃ (i : Nat) (ys : List Value), i ≤ x.p.d.2.2.length ∧ s = .int .i64 (i : Int) ∧ Hid (wr.ownsRow wb.heap.size 5 1 (.slice A2 x.p.d.2.2.length c2) x.p.d.2.2.length ys) ∧ Hid (Bk wr b14 35 #[.int .i64 x.p.src, .int .i64 x.p.dst, .int .u64 x.p.ep, .int .u64 x.p.pe, .int .u64 x.p.sq, .int .u64 x.p.ak, .slice A2 x.p.d.2.2.length c2]) ∧ Hid (Pl w wr (fun k => k = bo ∨ k = b14 ∨ (Value.slice A2 x.p.d.2.2.length c2).ownBlock = some k) g m us us)) (fun s _ => x.p.d.2.2.length - (intOf s).toNat)
          case atStart => exact ⟨0, _, by omega, rfl, HD8, HB8, HP8⟩
          case round =>
            obtain ⟨i, ys, hi', rfl, HY, HB9, HP9⟩ := hrel
            have g6 := HB9.out.cell 6
            simp only [List.getElem?_toArray, List.getElem?_cons_zero, List.getElem?_cons_succ] at g6
            by_cases hlt2 : i < x.p.d.2.2.length
            · obtain ⟨b2, hA2⟩ : ∃ b2, A2 = some ⟨b2, 0, none⟩ := by
                rcases HY.out.2 with ⟨_, e⟩ | ⟨b2, cap, cur, e, _⟩
                · omega
                · injection e with e _ _
                  exact ⟨b2, e⟩
              subst hA2
              have hcell := HY.out.cellAt i (by omega)
              have hfree := HY.out.frozenAt i
              obtain ⟨y, hy⟩ : ∃ y, ys[i]? = some y := ⟨_, List.getElem?_eq_getElem (by have := HY.out.1; omega)⟩
              rw [hy] at hcell
              clear hy
              have hl500 := H500.out
              have hne : b14 ≠ b2 := by
                intro e
                subst e
                rcases HY.out.2 with ⟨e, _⟩ | ⟨b2, cap, cur, e, _, hh, _⟩
                · cases e
                · injection e with e _ _
                  injection e with e
                  injection e with e
                  subst e
                  exact Bk.apart (t := 5) hh HB9.out (by decide) rfl
              have HY2 := Lib.hid (HY.out.stored i (.int .u8 238)).1
              have HB10 : Hid (Bk (wr.setCell ⟨b2, i, none⟩ (.int .u8 238)) b14 35 #[.int .i64 x.p.src, .int .i64 x.p.dst, .int .u64 x.p.ep, .int .u64 x.p.pe, .int .u64 x.p.sq, .int .u64 x.p.ak, .slice (some ⟨b2, 0, none⟩) x.p.d.2.2.length c2]) := HB9.out.far (by exact hne) _
              have HP10 : Hid (Pl w (wr.setCell ⟨b2, i, none⟩ (.int .u8 238)) (fun k => k = bo ∨ k = b14 ∨ (Value.slice (some ⟨b2, 0, none⟩) x.p.d.2.2.length c2).ownBlock = some k) g m us us) := by
                have hb2 : w.heap.size ≤ b2 := Nat.le_trans HWB.out (own_blk HY.out rfl).1
                exact HP9.out.far (((Fr.refl (fun k => k = b2) wr).setCell (p := ⟨b2, i, none⟩) (fun _ => rfl) _).mono fun k _ e => .inr (.inr (by rw [e]; rfl))) (HP9.out.fr.setCell (fun h => by simp only at h; omega) _)
              clear hne
              go_wp2_with fail
              go_roundw
              case rel => exact ⟨i + 1, _, by omega, by go_num, HY2, HB10, HP10⟩
              case measure => simp [intOf]; omega
            · have HPZ := HP9
              clear HP9 HY HB9 g6
              obtain ⟨am, cm, qm, hqm, hdm, hcm⟩ := HPZ.out.list
              have HCM := Lib.hid hcm
              have HLN : Hid (∀ w', Fr NoBlk wr w' → Calls Try.prog 16 #[.pointer (some ⟨g, 0, none⟩)] w' fun e W' => e = .returned (.int .i64 ((us).length : Int)) ∧ w' = W') := fun w' hf => pl_len (HPZ.out.nofr hf)
              clear hqm hdm hcm
              go_upto_region 37 with fail
              refine wp_region_held_drew (S := fun w' => Fr NoBlk wr w') (by kernel_rfl) (by exact (Fr.refl NoBlk wr).drew) (fun hHeld => ?_)
              refine wpAnyH_take (i := 0) (oi := ⟨some 138, _, _, _, _, _⟩) (v := ?_) rfl (by kernel_rfl) (by kernel_rfl) (by kernel_rfl) (fun _ _ _ h => h) (Or.inl ⟨by rfl, ?_⟩) (by assumption) ?_
              rotate_left 1
              · (intro w hSw; (try dsimp only at hSw); have oM := (HCM.out _ hSw).1; go_simp) <;> (with_reducible rfl)
              try simp only [Act.put, List.setIfInBounds_toArray, List.set_cons_zero, List.set_cons_succ]
              refine wpAnyH_take (i := 2) (oi := ⟨some 140, _, _, _, _, _⟩) (v := ?_) rfl (by kernel_rfl) (by kernel_rfl) (by kernel_rfl) (fun _ _ _ h => h) (Or.inl ⟨by rfl, ?_⟩) (by assumption) ?_
              rotate_left 1
              · (intro w hSw; (try dsimp only at hSw); have oM := (HCM.out _ hSw).1; go_simp) <;> (with_reducible rfl)
              try simp only [Act.put, List.setIfInBounds_toArray, List.set_cons_zero, List.set_cons_succ]
              refine wpAnyH_take (i := 3) (oi := ⟨some 141, _, _, _, _, _⟩) (v := ?_) rfl (by kernel_rfl) (by kernel_rfl) (by kernel_rfl) (fun _ _ _ h => h) (Or.inl ⟨by rfl, ?_⟩) (by assumption) ?_
              rotate_left 1
              · (intro w hSw; (try dsimp only at hSw); have oM := (HCM.out _ hSw).1; go_simp) <;> (with_reducible rfl)
              try simp only [Act.put, List.setIfInBounds_toArray, List.set_cons_zero, List.set_cons_succ]
              refine wpAnyH_take (i := 4) (oi := ⟨some 142, _, _, _, _, _⟩) (v := ?_) rfl (by kernel_rfl) (by kernel_rfl) (by kernel_rfl) (fun _ _ _ h => h) (Or.inl ⟨by rfl, ?_⟩) (by assumption) ?_
              rotate_left 1
              · (intro w hSw; (try dsimp only at hSw); have oM := (HCM.out _ hSw).1; go_simp) <;> (with_reducible rfl)
              try simp only [Act.put, List.setIfInBounds_toArray, List.set_cons_zero, List.set_cons_succ]
              refine wpAnyH_take (i := 5) (oi := ⟨some 143, _, _, _, _, _⟩) (v := ?_) rfl (by kernel_rfl) (by kernel_rfl) (by kernel_rfl) (fun _ _ _ h => h) (Or.inl ⟨by rfl, ?_⟩) (by assumption) ?_
              rotate_left 1
              · (intro w hSw; (try dsimp only at hSw); have oM := (HCM.out _ hSw).1; go_simp) <;> (with_reducible rfl)
              try simp only [Act.put, List.setIfInBounds_toArray, List.set_cons_zero, List.set_cons_succ]
              refine wpAnyH_take (i := 6) (oi := ⟨some 144, _, _, _, _, _⟩) (v := ?_) rfl (by kernel_rfl) (by kernel_rfl) (by kernel_rfl) (fun _ _ _ h => h) (Or.inl ⟨by rfl, ?_⟩) (by assumption) ?_
              rotate_left 1
              · (intro w hSw; (try dsimp only at hSw); have oM := (HCM.out _ hSw).1; go_simp) <;> (with_reducible rfl)
              try simp only [Act.put, List.setIfInBounds_toArray, List.set_cons_zero, List.set_cons_succ]
              refine wpAnyH_ready (rs := [1]) (by kernel_rfl) (by simp) ?_
              refine AllReadyH.cons (o := ⟨some 139, _, _, _, _, _⟩) rfl (fun K hK => ?_) AllReadyH.nil
              have hSw := hHeld
              go_simp
              go_at_call 16
              refine (HLN.out _ hSw).mono ?_
              rintro e w' ⟨rfl, rfl⟩
              refine hK.out _ _ ?_ (fun hHeld => ?_)
              · assumption
              clear hK K
              try simp only [Act.put, List.setIfInBounds_toArray, List.set_cons_zero, List.set_cons_succ]
              refine wpAnyH_take (i := 7) (oi := ⟨some 145, _, _, _, _, _⟩) (v := ?_) rfl (by kernel_rfl) (by kernel_rfl) (by kernel_rfl) (fun _ _ _ h => h) (Or.inl ⟨by rfl, ?_⟩) (by assumption) ?_
              rotate_left 1
              · (intro w hSw; (try dsimp only at hSw); have oM := (HCM.out _ hSw).1; go_simp) <;> (with_reducible rfl)
              try simp only [Act.put, List.setIfInBounds_toArray, List.set_cons_zero, List.set_cons_succ]
              refine wpAnyH_done (by kernel_rfl) ?_ _
              have HPF : Hid (Pl w wr.drew (fun _ => False) g m (us) (us)) := HPZ.out.sub (fun _ e => e.elim) (Fr.refl NoBlk _).drew (fun _ e => e.elim)
              clear hHeld HLN HCM
              go_wp2_with fail
              go_roundw
              case rel => exact ⟨j + 1, us, by omega, by go_num, HPF⟩
              case measure => simp [intOf]; omega
    · go_wp2_with fail
      go_ret
      exact ⟨rfl, HJ.out.fr⟩

theorem paramsOk : ∀ t ∈ Try.f3.params.toList, Try.prog.readableRec t = true ∧ t < Try.prog.types.size := fun t ht => by
  have h := List.all_eq_true.1 (show (Try.f3.params.toList.all fun t => Try.prog.readableRec t && decide (t < Try.prog.types.size)) = true by kernel_rfl) t ht
  simpa using h

set_option maxRecDepth 100000 in
theorem lifted (os : Os) (started : os.Started) (H : Type) (enc : TypeId × Value → H) :
    ReturnsInHanded {} Try.checked os 3 .any (Rows.netPlaysSpec.pre6 enc Try.prog Try.f3 Rows.netPlaysRow.domain false) (Rows.netPlaysSpec.post enc Try.prog Try.f3 false true false false) := by
  refine returnsInHanded_of_change (C := Try.checked) own started (by kernel_rfl) Try.func3
    (ChangeSpec.witness6 (enc := enc) (C := Try.checked) false ⟨#[], #[.slice none 0 0], []⟩ 8 (by kernel_rfl) (by kernel_rfl) (by kernel_rfl) (by kernel_rfl)) ?_
  intro W base args ds gs before hval0 hW _ _
  have hval : ∀ (j : Nat) t v, Try.f3.params[j]? = some t → args[j]? = some v → Value.okWide Try.prog W .any base t v := hval0
  have hW' := hW
  obtain ⟨p, q, hA0, hV, rfl, _, _⟩ := hW
  have hA : DataW.TrodAll enc Try.prog W 0 (fun _ => true) true Try.f3.params.toList args.toList ds p := hA0
  rw [Try.params3] at hA hval
  obtain ⟨v0, vs0, d0, ds0, p0, q0, hargs, rfl, rfl, h0, r0⟩ := trodAll_cons hA
  obtain ⟨rfl, rfl, rfl⟩ := trodAll_nil r0
  obtain rfl : args = #[v0] := by cases args; simp_all
  obtain ⟨rfl, rfl⟩ := trodVars_none hV
  obtain ⟨A, c, xs, rfl, hr, hx, hc, hm⟩ := open_nops (hval 0 _ v0 rfl rfl) h0
  have walk := walk W A c xs hr hx
  clear hA0 hval0
  refine walk.mono fun e W' ⟨he, hf⟩ => ?_
  subst he
  exact ⟨_, rfl, law_post laidOut paramsOk rfl rfl Try.underlying4 hW' rfl rfl rfl hf⟩

theorem said : Rows.NetPlaysSaid :=
  OpenClaim.holds_of_wide 3 Try.f3 rfl rfl rfl rfl rfl rfl rfl ⟨rfl, rfl, rfl, rfl, rfl⟩ rfl rfl rfl rfl rfl (by kernel_rfl) Try.func3 (by kernel_rfl)
    (of_decide_eq_true (by kernel_rfl)) (by unfold Func.isWrapper; first | (rw [if_pos (by decide +kernel)]; kernel_rfl) | (rw [if_neg (by decide +kernel)]; exact ⟨rfl, rfl⟩))
    (fun os started H enc _ => lifted os started H enc)
end Go.Proofs.Ytdfmoijomnjdiaa.netPlays
