/- Range. Conditions: at most 100000 rows; values of at most 10^9 bytes. -/
import Derived.Test.YtkdcacajacndmaaSRows
import Derived.Test.YtkdcacajacndmaaRfA
namespace Go.Proofs.Ytkdcacajacndmaa
open Go.RowKit Go.Shelf Go.Maps
attribute [local go_sem] Oper.semAt_some
/-- the elements told are a beginning of the rows. -/
theorem els_pre {zs Z : List Zr} (hu : UpI Op.bytesLess (vz zs)) (hZ : ∀ z ∈ Z, z ∈ zs) {ys : List (El zs)} (h : ys.map (fun z => toIt z.1) <+: vz Z) : ys.map (fun z : El zs => z.1) = Z.take ys.length := by
  have hl : ys.length ≤ Z.length := by have := h.length_le; rw [List.length_map, vz_len] at this; exact this
  refine List.ext_getElem? fun i => ?_
  rw [List.getElem?_map]
  rcases Nat.lt_or_ge i ys.length with hi | hi
  · have h1 : (ys.map fun z => toIt z.1)[i]? = (vz Z)[i]? := by
      obtain ⟨t, ht⟩ := h
      rw [← ht, List.getElem?_append_left (by rw [List.length_map]; exact hi)]
    unfold vz at h1 hu
    rw [List.getElem?_map, List.getElem?_map, List.getElem?_eq_getElem hi, List.getElem?_eq_getElem (by omega)] at h1
    rw [List.getElem?_take, if_pos hi, List.getElem?_eq_getElem hi, List.getElem?_eq_getElem (by omega)]
    simp only [Option.map_some, Option.some.injEq] at h1 ⊢
    have hm := ys[i].2
    have h2 : Z[i]'(by omega) ∈ zs := hZ _ (List.getElem_mem _)
    have hk : ys[i].1.1 = (Z[i]'(by omega)).1 := congrArg (fun p : ItR => p.1) h1
    have hu2 : UpI Op.bytesLess zs := by
      unfold UpI at hu ⊢
      rw [List.pairwise_map] at hu
      exact hu
    obtain ⟨a, b, hq⟩ : ∃ a b, ys[i].1 = (a, b) := ⟨_, _, rfl⟩
    obtain ⟨c, d, hq2⟩ : ∃ c d, Z[i]'(by omega) = (c, d) := ⟨_, _, rfl⟩
    rw [hq, hq2] at hk
    rw [hq] at hm
    rw [hq2] at h2
    have hk' : a = c := hk
    subst hk'
    have e := hu2.one linS hm h2
    rw [e] at hq
    exact hq.trans hq2.symm
  · rw [List.getElem?_eq_none hi, List.getElem?_eq_none (by rw [List.length_take]; omega)]
    rfl
/-- the rows that were gathered behind some elements. -/
def gotR {zs : List Zr} (pre : List (El zs)) : List Rw := (pre.map fun z : El zs => (z.1.1, z.1.2.2)).filter fun x => x.2.has
theorem gotR_snoc {zs : List Zr} (pre : List (El zs)) (x : El zs) : gotR (pre ++ [x]) = if x.1.2.2.has then gotR pre ++ [(x.1.1, x.1.2.2)] else gotR pre := by
  unfold gotR
  rw [List.map_append, List.filter_append, List.map_singleton, List.filter_cons]
  split <;> simp_all
theorem got_rz {zs : List Zr} {ys : List (El zs)} {Z : List Zr} (h : ys.map (fun z : El zs => z.1) = Z) : gotR ys = (rz Z).filter fun x => x.2.has := by
  unfold gotR rz
  rw [← h, List.map_map]
  rfl
theorem ge_range (key : Bs) (most : Int) (zs : List Zr) : ((rz (geL Op.bytesLess key zs)).filter fun x => x.2.has).take most.toNat = rrange key most (rz zs) := by
  rw [rz_ge]
  unfold geL rrange inR
  rw [List.filter_filter]
  congr 1
  exact List.filter_congr fun x _ => Bool.and_comm _ _
theorem stop_rows {zs Z : List Zr} (hu : UpI Op.bytesLess (vz zs)) (hZ : ∀ z ∈ Z, z ∈ zs) {pr : List (El zs)} {x : El zs} (h : (pr ++ [x]).map (fun z => toIt z.1) <+: vz Z) {M : Nat} (hM : (gotR pr).length = M) : ((rz Z).filter fun x => x.2.has).take M = gotR pr := by
  have h1 := els_pre hu hZ h
  have h2 := got_rz h1
  obtain ⟨k, hk⟩ : ∃ k, k = (pr ++ [x]).length := ⟨_, rfl⟩
  rw [← hk] at h2
  have e : rz Z = rz (Z.take k) ++ rz (Z.drop k) := by
    unfold rz
    rw [← List.map_append, List.take_append_drop]
  rw [e, List.filter_append, ← h2, gotR_snoc]
  split
  · rw [List.append_assoc, List.take_left' hM]
  · rw [List.take_left' hM]
structure RngI (w : World) (gd gt : Nat) (key : Bs) (most : Int) {zs : List Zr} (pre : List (El zs)) (W : World) : Prop where
  gat : GatZ w gd (gotR pre) W
  len : (gotR pre).length ≤ most.toNat
  few : (gotR pre).length ≤ pre.length
  b1 : Bk W (gd + 1) 65 #[.pointer (some ⟨gt, 0, none⟩)]
  b2 : Bk W (gd + 1 + 1) 9 #[.string (bstr key)]
  b3 : ∀ gi, gd = gi + 1 → Bk W gi 3 #[.int .i64 most]
theorem RngI.others {w W W' : World} {gd gt : Nat} {key : Bs} {most : Int} {zs : List Zr} {pre : List (El zs)} {row : Option Nat} (h : RngI w gd gt key most pre W) (hg : W.grownBy W' row) (hr : ∀ r, row = some r → w.heap.size ≤ r ∧ ∃ o : Obj, W.heap[r]? = some o ∧ o.isCells = false) : RngI w gd gt key most pre W' :=
  ⟨h.gat.others hg hr, h.len, h.few, h.b1.others hg fun r e => (hr r e).2, h.b2.others hg fun r e => (hr r e).2, fun gi e => (h.b3 gi e).others hg fun r e => (hr r e).2⟩
/-- where it ends before the last element. -/
def RngX (w : World) (gd gt : Nat) (key : Bs) (most : Int) {zs : List Zr} (q : List (El zs)) (W : World) : Prop := ∃ pre x, q = pre ++ [x] ∧ RngI w gd gt key most pre W ∧ (gotR pre).length = most.toNat
set_option maxRecDepth 100000 in
set_option maxHeartbeats 2000000 in
theorem srange_any [Ex] (w : World) (g : Nat) (O : Nat → Prop) (n : Nat) (rs : List Rw) (h : Store w g O n rs) (hlen : rs.length ≤ 100000) (hv : ∀ x ∈ rs, x.2.val.length ≤ 1000000000) (key : Bs) (most : Int) :
    Calls Try.prog 28 #[.pointer (some ⟨g, 0, none⟩), .string (bstr key), .int .i64 most] w (RowsPost w (rrange key most rs)) := by
  obtain ⟨gt, OT, zs, hs, rfl⟩ := h
  obtain ⟨i0, hi, hz0, hz1, hz2⟩ := info_parts rowInfo
  have HK : Hid (zs.length ≤ 100000) := by show _ ≤ _; rw [← rz_len]; exact hlen
  have HS := Lib.hid hs
  have HV := Lib.hid hv
  obtain ⟨gi, hgi⟩ : ∃ gi, gi = w.heap.size := ⟨_, rfl⟩
  obtain ⟨gd, hgd⟩ : ∃ gd, gd = gi + 1 := ⟨_, rfl⟩
  obtain ⟨w4, hw4⟩ : ∃ W, W = (w.alloc (.cells #[.int .i64 most] 3)).alloc (.cells #[.slice none 0 0] 40) := ⟨_, rfl⟩
  have hb3 : Bk w4 gi 3 #[.int .i64 most] := by rw [hw4, hgi]; exact (Bk.new _ _ _).alloc _
  have hb4 : Bk w4 gd 40 #[.slice none 0 0] := by rw [hw4, hgd, hgi]; have h := Bk.new (w.alloc (.cells #[.int .i64 most] 3)) 40 #[.slice none 0 0]; rw [World.size_alloc] at h; exact h
  have hf4 : Fr NoBlk w w4 := by rw [hw4]; exact ((Fr.refl _ _).alloc _).alloc _
  have hsz4 : w4.heap.size = gd + 1 := by rw [hw4, World.size_alloc, World.size_alloc, hgd, hgi]
  have c1 : w4.cell? ⟨g, 1, none⟩ = some (.pointer (some ⟨gt, 0, none⟩)) := (HS.out.bk.fr hf4 fun e => e).cell 1
  have HG := Lib.hid (And.intro hb3 (And.intro hb4 (And.intro hf4 hsz4)))
  have HW4 := Lib.hid hw4
  have HGI := Lib.hid (And.intro hgi hgd)
  clear hs hlen hv hgi hgd hb3 hb4 hf4 hsz4 hw4
  refine (callsIn_wide (n := 9)).1 ?_
  refine callsIn_of_wp_marks Try.func28 rfl trivial ?_ rfl
  simp only [Try.ntmps28, List.size_toArray, List.length_cons, List.length_nil, Nat.reduceAdd, Nat.reduceSub, Array.replicate_succ, Array.replicate_zero, List.push_toArray, List.append_toArray, List.nil_append, List.cons_append]
  rw [HW4.out] at c1
  gi_wp2
  rw [← HW4.out, ← HGI.out.1, ← HGI.out.2]
  refine ⟨trivial, (callsIn_wide.2 (treeFromR_any _ gt key)).mono ?_⟩
  rintro e w5 ⟨rfl, hw5⟩
  rw [HG.out.2.2.2]
  have hsz4a : (w4.alloc (.cells #[.pointer (some ⟨gt, 0, none⟩)] 65)).heap.size = gd + 1 + 1 := by rw [World.size_alloc, HG.out.2.2.2]
  have hb53 : Bk w5 gi 3 #[.int .i64 most] := by rw [hw5]; exact (HG.out.1.alloc _).alloc _
  have hb50 : Bk w5 gd 40 #[.slice none 0 0] := by rw [hw5]; exact (HG.out.2.1.alloc _).alloc _
  have hb51 : Bk w5 (gd + 1) 65 #[.pointer (some ⟨gt, 0, none⟩)] := by rw [hw5, ← HG.out.2.2.2]; exact (Bk.new _ _ _).alloc _
  have hb52 : Bk w5 (gd + 1 + 1) 9 #[.string (bstr key)] := by rw [hw5, ← hsz4a]; exact Bk.new _ _ _
  have hf5 : Fr NoBlk w w5 := by rw [hw5]; exact (HG.out.2.2.1.alloc _).alloc _
  have HGE : Hid (w.heap.size = gi ∧ gd = gi + 1 ∧ w5.heap.size = gd + 3) := ⟨HGI.out.1.symm, HGI.out.2, by rw [hw5, World.size_alloc, hsz4a]⟩
  have HI0 : Hid (RngI (zs := zs) w gd gt key most [] w5) := ⟨⟨⟨_, [], hb50, World.ownsRow_nil _ _ _ _, ⟨rfl, fun j y z h => by cases h⟩⟩, hf5, by have := HGE.out; omega⟩, Nat.zero_le _, Nat.zero_le _, hb51, hb52, fun gj e => by
    have h1 := HGE.out.2.1
    obtain rfl : gj = gi := by omega
    exact hb53⟩
  have HOL : Hid (∀ b, OT b → b < w.heap.size) := fun b hb => HS.out.tr.lt hb
  have HST := Lib.hid (fromZ_stops 8 (gd + 1) (gd + 1 + 1) (fun b => OT b ∨ b = gd + 1 ∨ b = gd + 1 + 1) w5 gt OT (vz zs) zs rfl key (HS.out.tr.fr hf5 fun _ _ e => e) (fun _ => Iff.rfl) hb51.lt hb52.lt (hb51.cell 0) (hb52.cell 0))
  have hKK : ∀ j, (OT j ∨ j = gd + 1 ∨ j = gd + 1 + 1) → j < w5.heap.size := fun j hj => by
    rcases hj with hj | rfl | rfl
    · have := HOL.out j hj
      have := HGE.out
      have := hf5.size
      omega
    · exact hb51.lt
    · exact hb52.lt
  clear hb50 hb51 hb52 hb53 hf5 hw5 c1 hsz4a
  gi_wp2
  refine wpIn_rangeFunc_ownH rfl (by omega) (gf := 66) (lb := #[.pointer (some ⟨gd + 1, 0, none⟩), .pointer (some ⟨gd + 1 + 1, 0, none⟩)]) rfl trivial (enters_of Try.func66 (by kernel_rfl) rfl)
    HST.out (fun h k => h.t k) (Keep.b hKK) (Below.refl _ _) (fun _ => rfl)
    (fun (pre : List (El zs)) W => RngI w gd gt key most pre W)
    (fun c q W => c = Code.exit 0 ∧ RngX w gd gt key most q W)
    (fun s W W' row hs hg hr => hs.others hg fun r e => ⟨by have := (hr r e).1; have := HGE.out; omega, (hr r e).2⟩)
    (fun c s W W' row hs hg hr => by obtain ⟨hc, pre, x, h1, h2, h3⟩ := hs; exact ⟨hc, pre, x, h1, h2.others hg fun r e => ⟨by have := (hr r e).1; have := HGE.out; omega, (hr r e).2⟩, h3⟩)
    HI0.out
    (fun x a' W => ∃ q, w.heap.size ≤ q ∧ Bk W q 38 #[.bool x.1.2.1.has, .slice x.1.2.1.va x.1.2.1.vn x.1.2.1.vc, .int .i64 x.1.2.1.home, .int .u64 (x.1.2.1.count : Int)] ∧ a' = { tmps := #[.pointer (some ⟨g, 0, none⟩), .string (bstr key), .int .i64 most, undef, undef, .pointer (some ⟨gi, 0, none⟩), .slice none 0 0, .pointer (some ⟨gd, 0, none⟩), .string (bstr x.1.1), .pointer (some ⟨q, 0, none⟩), .pointer (some ⟨g, 0, none⟩), .pointer (some ⟨g, 0, none⟩), .pointer (some ⟨g, 1, none⟩), .pointer (some ⟨gt, 0, none⟩), .string (bstr key), .func (.func 66) #[] #[.pointer (some ⟨gd + 1, 0, none⟩), .pointer (some ⟨gd + 1 + 1, 0, none⟩)], .string (bstr x.1.1), .agg #[.bool x.1.2.1.has, .slice x.1.2.1.va x.1.2.1.vn x.1.2.1.vc, .int .i64 x.1.2.1.home, .int .u64 (x.1.2.1.count : Int)], undef, undef, undef, undef, undef, undef, undef, undef, undef, undef, undef, undef, undef, undef], defers := [] })
    (fun x a' _ W W' row hs hg hr => by obtain ⟨q, h1, h2, h3⟩ := hs; exact ⟨q, h1, h2.others hg fun r e => (hr r e).2, h3⟩) ?assign ?body ?done ?stop
  case assign =>
    intro l' pre x W K hI hK
    simp [encR, toIt]
    gi_wp2
    have hgr := World.grownBy_alloc W (.cells #[.bool x.1.2.1.has, .slice x.1.2.1.va x.1.2.1.vn x.1.2.1.vc, .int .i64 x.1.2.1.home, .int .u64 (x.1.2.1.count : Int)] 38) none
    refine hK _ _ ((KeepsOthers.alloc W _).from _) (((Fr.refl NoBlk W).alloc _).keep fun k hk => ⟨?_, fun e => e⟩) (hI.others hgr (fun r e => (by cases e))) ⟨W.heap.size, hI.gat.fr.size, Bk.new _ _ _, rfl⟩
    rcases hk with hk | rfl | rfl
    · exact Nat.lt_of_lt_of_le (HOL.out k hk) hI.gat.fr.size
    · exact hI.b1.lt
    · exact hI.b2.lt
  case body =>
    rintro l' pre x a' W hll hlo hI ⟨q, hql, hqb, rfl⟩ hlen
    have hgz := hI.gat
    obtain ⟨v, ys, hbx, hov, hys⟩ := hgz.box
    obtain ⟨Av, cv, rfl, hcv, hAv⟩ := own_form hov
    obtain ⟨m, hm⟩ : ∃ m, m = (gotR pre).length := ⟨_, rfl⟩
    have hmk : m < 100000 := by
      have h1 := hI.few
      have h2 := HK.out
      have h3 : (geL Op.bytesLess key (vz zs)).length ≤ (vz zs).length := List.length_filter_le ..
      rw [vz_len] at h3
      have h4 : pre.length < (geL Op.bytesLess key (vz zs)).length := hlen
      omega
    rw [← hm] at hbx hov
    have hrd := (HS.out.rd x.1 x.2).fr hgz.fr fun _ _ e => e
    have hvl : x.1.2.2.val.length ≤ 1000000000 := HV.out (x.1.1, x.1.2.2) (List.mem_map.2 ⟨x.1, x.2, rfl⟩)
    have hgi3 := hI.b3 gi HGE.out.2.1
    have i0c : W.cell? ⟨gi, 0, none⟩ = some (.int .i64 most) := hgi3.cell 0
    have i1c : W.cell? ⟨gd, 0, none⟩ = some (.slice Av m cv) := hbx.cell 0
    have HI := Lib.hid hI
    have HM := Lib.hid hm
    have HMK := Lib.hid hmk
    by_cases hbr : most ≤ (m : Int)
    · have HX : Hid (RngX w gd gt key most (pre ++ [x]) W) := ⟨pre, x, rfl, hI, by have := hI.len; omega⟩
      have HWW := Lib.hid (And.intro hll hlo)
      clear hbx hov hys hm hmk hrd hvl hI hqb hql hlen hcv hAv hgz hgi3 hll hlo
      gi_wp2
      exact ⟨(KeepsOthers.refl _).from _, rfl, HX.out⟩
    have HRB : Hid (x.1.2.1.has = x.1.2.2.has) := (HS.out.rd x.1 x.2).has
    obtain ⟨hb, hhb⟩ : ∃ hb, hb = x.1.2.1.has := ⟨_, rfl⟩
    have q0c : W.cell? ⟨q, 0, none⟩ = some (.bool hb) := by rw [hhb]; exact hqb.cell 0
    have HHB := Lib.hid hhb
    have HBR : Hid (¬ most ≤ (m : Int)) := hbr
    cases hb with
    | false =>
      have HNI : Hid (RngI w gd gt key most (pre ++ [x]) W) := by
        have e : gotR (pre ++ [x]) = gotR pre := by rw [gotR_snoc, ← HRB.out, ← HHB.out]; rfl
        refine ⟨by rw [e]; exact hI.gat, by rw [e]; exact hI.len, by rw [e, List.length_append]; have := hI.few; omega, hI.b1, hI.b2, hI.b3⟩
      clear hbx hov hys hm hmk hrd hvl hI hqb hql hlen hcv hAv hgz hgi3 hll hlo hhb
      gi_wp2
      exact ⟨(KeepsOthers.refl _).from _, fun _ _ => rfl, HNI.out⟩
    | true =>
      obtain ⟨Wd, hWd⟩ : ∃ Wd, Wd = W.drew := ⟨_, rfl⟩
      have hfd : Fr NoBlk W Wd := by rw [hWd]; exact (Fr.refl _ _).drew
      have HCPD : Hid (∀ V, Fr NoBlk Wd V → Calls Try.prog 37 #[.agg #[.bool x.1.2.1.has, .slice x.1.2.1.va x.1.2.1.vn x.1.2.1.vc, .int .i64 x.1.2.1.home, .int .u64 (x.1.2.1.count : Int)]] V (GetPost V x.1.2.2)) := fun V hV => copied_any V x.1.2.1 x.1.2.2 (hrd.nofr (hfd.trans hV)) hvl
      obtain ⟨KK, hKKd⟩ : ∃ KK : Nat → Prop, KK = fun b => (OT b ∨ b = gd + 1 ∨ b = gd + 1 + 1) ∨ b = gi := ⟨_, rfl⟩
      have HKW : Hid (∀ b, KK b → b < W.heap.size ∧ b ≠ gd ∧ (w.heap.size ≤ b → ∃ T cs, Bk W b T cs ∧ T ≠ 61)) := fun b hb => by
        rw [hKKd] at hb
        have hge := HGE.out
        rcases hb with (hb | rfl | rfl) | rfl
        · have h1 := HOL.out b hb
          have h2 := hgz.fr.size
          have h3 := hgz.ge
          exact ⟨by omega, by omega, fun e => by omega⟩
        · exact ⟨hI.b1.lt, by omega, fun _ => ⟨_, _, hI.b1, by decide⟩⟩
        · exact ⟨hI.b2.lt, by omega, fun _ => ⟨_, _, hI.b2, by decide⟩⟩
        · exact ⟨hgi3.lt, by omega, fun _ => ⟨_, _, hgi3, by decide⟩⟩
      have HKD := Lib.hid hKKd
      have HGZ := Lib.hid hgz
      have HBX0 := Lib.hid hbx
      have HBXd := Lib.hid (hbx.fr hfd fun e => e)
      have HOVd : Hid (Wd.ownsRow w.heap.size 61 5 (.slice Av m cv) m (itsR ys)) := own_fr hov hfd fun _ _ e => e
      have HYS := Lib.hid hys
      have HFD := Lib.hid hfd
      have HBQ : Hid (Bk Wd q 38 #[.bool x.1.2.1.has, .slice x.1.2.1.va x.1.2.1.vn x.1.2.1.vc, .int .i64 x.1.2.1.home, .int .u64 (x.1.2.1.count : Int)]) := hqb.fr hfd fun e => e
      have HBS : Hid (w.heap.size ≤ Wd.heap.size) := by show _ ≤ _; have := hfd.size; have := hgz.fr.size; omega
      have HRI : Hid (∀ W9, Keep KK W W9 → GatZ w gd (gotR pre ++ [(x.1.1, x.1.2.2)]) W9 → RngI w gd gt key most (pre ++ [x]) W9) := fun W9 hk hg9 => by
        have e : gotR (pre ++ [x]) = gotR pre ++ [(x.1.1, x.1.2.2)] := by rw [gotR_snoc, ← HRB.out, ← HHB.out]; rfl
        refine ⟨by rw [e]; exact hg9, by rw [e, List.length_append, List.length_singleton]; have := HBR.out; omega, by rw [e, List.length_append, List.length_append]; have := hI.few; simp only [List.length_singleton]; omega, (hk _ (by rw [hKKd]; exact .inl (.inr (.inl rfl)))).trans hI.b1, (hk _ (by rw [hKKd]; exact .inl (.inr (.inr rfl)))).trans hI.b2, fun gj e2 => ?_⟩
        have h1 := HGE.out.2.1
        obtain rfl : gj = gi := by omega
        exact (hk _ (by rw [hKKd]; exact .inr rfl)).trans hgi3
      have HLT : Hid ((m : Int) < most) := by have := HBR.out; show (m : Int) < most; omega
      clear hbx hov hys hm hmk hrd hvl hfd hI hqb hql hlen hcv hAv hgz hKKd hll hlo hgi3 hhb
      have hl0 : Wd.cell? ⟨gd, 0, none⟩ = some (.slice Av m cv) := HBXd.out.cell 0
      have d0 : Wd.cell? ⟨q, 0, none⟩ = some (.bool x.1.2.1.has) := HBQ.out.cell 0
      have d1 : Wd.cell? ⟨q, 1, none⟩ = some (.slice x.1.2.1.va x.1.2.1.vn x.1.2.1.vc) := HBQ.out.cell 1
      have d2 : Wd.cell? ⟨q, 2, none⟩ = some (.int .i64 x.1.2.1.home) := HBQ.out.cell 2
      have d3 : Wd.cell? ⟨q, 3, none⟩ = some (.int .u64 (x.1.2.1.count : Int)) := HBQ.out.cell 3
      have hbr2 : ¬ most ≤ (m : Int) := HBR.out
      gi_wp2
      refine wpIn_region_any (by first | assumption | kernel_rfl) ?_
      change wpAnyIn _ _ _ _ _ _ _ _ _ (World.drew _)
      rw [← hWd]
      clear hWd i0c i1c q0c
      refine wpAnyIn_ready (rs := [0, 1, 2]) (by kernel_rfl) (by simp) ?_
      refine AllReadyIn.cons rfl (fun K hK => ?_) (AllReadyIn.cons rfl (fun K hK => ?_) (AllReadyIn.cons rfl (fun K hK => ?_) (AllReadyIn.nil)))
      · skip
        go_simp
        refine hK _ _ ?_
        clear hK K
        try simp only [Act.put, List.setIfInBounds_toArray, List.set_cons_zero, List.set_cons_succ]
        refine wpAnyIn_ready (rs := [1, 2]) (by kernel_rfl) (by simp) ?_
        refine AllReadyIn.cons rfl (fun K hK => ?_) (AllReadyIn.cons rfl (fun K hK => ?_) (AllReadyIn.nil))
        · skip
          go_simp
          refine hK _ _ ?_
          clear hK K
          try simp only [Act.put, List.setIfInBounds_toArray, List.set_cons_zero, List.set_cons_succ]
          refine wpAnyIn_ready (rs := [2]) (by kernel_rfl) (by simp) ?_
          refine AllReadyIn.cons rfl (fun K hK => ?_) (AllReadyIn.nil)
          go_simp
          refine hK _ _ ?_
          clear hK K
          try simp only [Act.put, List.setIfInBounds_toArray, List.set_cons_zero, List.set_cons_succ]
          refine wpAnyIn_ready (rs := [3]) (by kernel_rfl) (by simp) ?_
          refine AllReadyIn.cons rfl (fun K hK => ?_) (AllReadyIn.nil)
          go_simp
          refine ⟨trivial, ?_⟩
          refine (CallsIn.inRound l' (callsIn_wide.2 (HCPD.out _ (Fr.refl _ _)))).mono ?_
          rintro e W3 ⟨b, rfl, hcp, hfc⟩
          have HCP := Lib.hid hcp
          have HFC := Lib.hid hfc
          unfold vaR
          have hld3 : W3.cell? ⟨gd, 0, none⟩ = some (.slice Av m cv) := (HBXd.out.fr hfc fun h => h).cell 0
          clear hcp hfc
          refine hK _ _ ?_
          clear hK K
          try simp only [Act.put, List.setIfInBounds_toArray, List.set_cons_zero, List.set_cons_succ]
          refine wpAnyIn_ready (rs := [4]) (by kernel_rfl) (by simp) ?_
          refine AllReadyIn.cons rfl (fun K hK => ?_) (AllReadyIn.nil)
          go_simp
          refine hK _ _ ?_
          clear hK K
          try simp only [Act.put, List.setIfInBounds_toArray, List.set_cons_zero, List.set_cons_succ]
          refine wpAnyIn_ready (rs := [5]) (by kernel_rfl) (by simp) ?_
          refine AllReadyIn.cons rfl (fun K hK => ?_) (AllReadyIn.nil)
          have HO4 : Hid ((W3.alloc (.cells #[.string (bstr x.1.1), .bool b.has, .slice b.va b.vn b.vc, .int .i64 b.home, .int .u64 (b.count : Int)] 61)).ownsRow w.heap.size 61 5 (.slice Av m cv) m (itsR ys)) := own_fr (own_fr HOVd.out HFC.out fun _ _ h => h) ((Fr.refl NoBlk _).alloc _) fun _ _ h => h
          have HS4 : Hid (Rd (W3.alloc (.cells #[.string (bstr x.1.1), .bool b.has, .slice b.va b.vn b.vc, .int .i64 b.home, .int .u64 (b.count : Int)] 61)) (some ⟨W3.heap.size, 0, none⟩) [.string (bstr x.1.1), .bool b.has, .slice b.va b.vn b.vc, .int .i64 b.home, .int .u64 (b.count : Int)]) := Rd.of_cells (Bk.new W3 61 #[.string (bstr x.1.1), .bool b.has, .slice b.va b.vn b.vc, .int .i64 b.home, .int .u64 (b.count : Int)])
          have hld4 : (W3.alloc (.cells #[.string (bstr x.1.1), .bool b.has, .slice b.va b.vn b.vc, .int .i64 b.home, .int .u64 (b.count : Int)] 61)).cell? ⟨gd, 0, none⟩ = some (.slice Av m cv) := (((HBXd.out.fr HFC.out fun h => h)).alloc _).cell 0
          have HON : Hid (∀ u ∈ ([.string (bstr x.1.1), .bool b.has, .slice b.va b.vn b.vc, .int .i64 b.home, .int .u64 (b.count : Int)] : List Value), u.oneCell' = true) := by intro u hu; simp only [List.mem_cons, List.not_mem_nil, or_false] at hu; rcases hu with rfl | rfl | rfl | rfl | rfl <;> rfl
          have HSZ4 : Hid (w.heap.size ≤ (W3.alloc (.cells #[.string (bstr x.1.1), .bool b.has, .slice b.va b.vn b.vc, .int .i64 b.home, .int .u64 (b.count : Int)] 61)).heap.size) := by show _ ≤ _; have h1 := HFC.out.size; have h2 := HBS.out; rw [World.size_alloc]; omega
          go_simp
          refine hK _ _ ?_
          clear hK K
          try simp only [Act.put, List.setIfInBounds_toArray, List.set_cons_zero, List.set_cons_succ]
          refine wpAnyIn_ready (rs := [6]) (by kernel_rfl) (by simp) ?_
          refine AllReadyIn.cons rfl (fun K hK => ?_) (AllReadyIn.nil)
          refine step_appWIn rfl _ _ 40 rfl w.heap.size 61 i0 _ 5 64 Try.underlying40 hi hz0 hz1 hz2 rfl (by decide) (.slice Av m cv) m (itsR ys) rfl HO4.out (some ⟨W3.heap.size, 0, none⟩) 1 1 [.string (bstr x.1.1), .bool b.has, .slice b.va b.vn b.vc, .int .i64 b.home, .int .u64 (b.count : Int)] rfl rfl HS4.out HON.out (fun h => by cases h) (by unfold maxLen; have := HMK.out; omega) (by have := HMK.out; omega) HSZ4.out ?_
          intro v2 W5 ho2 hg2 hb2
          have HNX := Lib.hid (GatZ.next (x := (x.1.1, x.1.2.2)) (y := (x.1.1, b)) (K := KK) HGZ.out HBX0.out HYS.out HM.out rfl ((HFD.out.trans HFC.out).alloc _) rfl ((HCP.out.low (by have := HBS.out; omega)).fr (C := NoBlk) ((Fr.refl NoBlk W3).alloc _) fun _ _ e => e) HO4.out ho2 hg2 HKW.out)
          obtain ⟨A2, c2, rfl, _, _⟩ := own_form ho2
          have HB5 : Hid (Bk W5 gd 40 #[.slice Av m cv]) := ((HBXd.out.fr HFC.out fun h => h).alloc _).fr (Fr.ofGrown hg2) (fun e => own_apart HO4.out ((HBXd.out.fr HFC.out fun h => h).alloc _) (by decide) e.symm)
          have hf5 := HB5.out.free 0
          have hl5 : W5.cell? ⟨gd, 0, none⟩ = some (.slice Av m cv) := HB5.out.cell 0
          clear ho2 hg2 hb2
          refine hK _ _ ?_
          clear hK K
          try simp only [Act.put, List.setIfInBounds_toArray]
          refine wpAnyIn_ready (rs := [7]) (by kernel_rfl) (by simp) ?_
          refine AllReadyIn.cons rfl (fun K hK => ?_) (AllReadyIn.nil)
          go_simp
          refine hK _ _ ?_
          clear hK K
          try simp only [Act.put, List.setIfInBounds_toArray, List.set_cons_zero, List.set_cons_succ]
          refine wpAnyIn_done (by kernel_rfl) ?_ _
          gi_wp2
          refine ⟨HNX.out.1.from _, fun b hb => HNX.out.2.1 b (by rw [HKD.out]; exact .inl hb), ?_⟩
          exact HRI.out _ HNX.out.2.1 HNX.out.2.2
        · skip
          go_simp
          refine hK _ _ ?_
          clear hK K
          try simp only [Act.put, List.setIfInBounds_toArray, List.set_cons_zero, List.set_cons_succ]
          refine wpAnyIn_ready (rs := [1, 3]) (by kernel_rfl) (by simp) ?_
          refine AllReadyIn.cons rfl (fun K hK => ?_) (AllReadyIn.cons rfl (fun K hK => ?_) (AllReadyIn.nil))
          · skip
            go_simp
            refine hK _ _ ?_
            clear hK K
            try simp only [Act.put, List.setIfInBounds_toArray, List.set_cons_zero, List.set_cons_succ]
            refine wpAnyIn_ready (rs := [3]) (by kernel_rfl) (by simp) ?_
            refine AllReadyIn.cons rfl (fun K hK => ?_) (AllReadyIn.nil)
            go_simp
            refine ⟨trivial, ?_⟩
            refine (CallsIn.inRound l' (callsIn_wide.2 (HCPD.out _ (Fr.refl _ _)))).mono ?_
            rintro e W3 ⟨b, rfl, hcp, hfc⟩
            have HCP := Lib.hid hcp
            have HFC := Lib.hid hfc
            unfold vaR
            have hld3 : W3.cell? ⟨gd, 0, none⟩ = some (.slice Av m cv) := (HBXd.out.fr hfc fun h => h).cell 0
            clear hcp hfc
            refine hK _ _ ?_
            clear hK K
            try simp only [Act.put, List.setIfInBounds_toArray, List.set_cons_zero, List.set_cons_succ]
            refine wpAnyIn_ready (rs := [4]) (by kernel_rfl) (by simp) ?_
            refine AllReadyIn.cons rfl (fun K hK => ?_) (AllReadyIn.nil)
            go_simp
            refine hK _ _ ?_
            clear hK K
            try simp only [Act.put, List.setIfInBounds_toArray, List.set_cons_zero, List.set_cons_succ]
            refine wpAnyIn_ready (rs := [5]) (by kernel_rfl) (by simp) ?_
            refine AllReadyIn.cons rfl (fun K hK => ?_) (AllReadyIn.nil)
            have HO4 : Hid ((W3.alloc (.cells #[.string (bstr x.1.1), .bool b.has, .slice b.va b.vn b.vc, .int .i64 b.home, .int .u64 (b.count : Int)] 61)).ownsRow w.heap.size 61 5 (.slice Av m cv) m (itsR ys)) := own_fr (own_fr HOVd.out HFC.out fun _ _ h => h) ((Fr.refl NoBlk _).alloc _) fun _ _ h => h
            have HS4 : Hid (Rd (W3.alloc (.cells #[.string (bstr x.1.1), .bool b.has, .slice b.va b.vn b.vc, .int .i64 b.home, .int .u64 (b.count : Int)] 61)) (some ⟨W3.heap.size, 0, none⟩) [.string (bstr x.1.1), .bool b.has, .slice b.va b.vn b.vc, .int .i64 b.home, .int .u64 (b.count : Int)]) := Rd.of_cells (Bk.new W3 61 #[.string (bstr x.1.1), .bool b.has, .slice b.va b.vn b.vc, .int .i64 b.home, .int .u64 (b.count : Int)])
            have hld4 : (W3.alloc (.cells #[.string (bstr x.1.1), .bool b.has, .slice b.va b.vn b.vc, .int .i64 b.home, .int .u64 (b.count : Int)] 61)).cell? ⟨gd, 0, none⟩ = some (.slice Av m cv) := (((HBXd.out.fr HFC.out fun h => h)).alloc _).cell 0
            have HON : Hid (∀ u ∈ ([.string (bstr x.1.1), .bool b.has, .slice b.va b.vn b.vc, .int .i64 b.home, .int .u64 (b.count : Int)] : List Value), u.oneCell' = true) := by intro u hu; simp only [List.mem_cons, List.not_mem_nil, or_false] at hu; rcases hu with rfl | rfl | rfl | rfl | rfl <;> rfl
            have HSZ4 : Hid (w.heap.size ≤ (W3.alloc (.cells #[.string (bstr x.1.1), .bool b.has, .slice b.va b.vn b.vc, .int .i64 b.home, .int .u64 (b.count : Int)] 61)).heap.size) := by show _ ≤ _; have h1 := HFC.out.size; have h2 := HBS.out; rw [World.size_alloc]; omega
            go_simp
            refine hK _ _ ?_
            clear hK K
            try simp only [Act.put, List.setIfInBounds_toArray, List.set_cons_zero, List.set_cons_succ]
            refine wpAnyIn_ready (rs := [6]) (by kernel_rfl) (by simp) ?_
            refine AllReadyIn.cons rfl (fun K hK => ?_) (AllReadyIn.nil)
            refine step_appWIn rfl _ _ 40 rfl w.heap.size 61 i0 _ 5 64 Try.underlying40 hi hz0 hz1 hz2 rfl (by decide) (.slice Av m cv) m (itsR ys) rfl HO4.out (some ⟨W3.heap.size, 0, none⟩) 1 1 [.string (bstr x.1.1), .bool b.has, .slice b.va b.vn b.vc, .int .i64 b.home, .int .u64 (b.count : Int)] rfl rfl HS4.out HON.out (fun h => by cases h) (by unfold maxLen; have := HMK.out; omega) (by have := HMK.out; omega) HSZ4.out ?_
            intro v2 W5 ho2 hg2 hb2
            have HNX := Lib.hid (GatZ.next (x := (x.1.1, x.1.2.2)) (y := (x.1.1, b)) (K := KK) HGZ.out HBX0.out HYS.out HM.out rfl ((HFD.out.trans HFC.out).alloc _) rfl ((HCP.out.low (by have := HBS.out; omega)).fr (C := NoBlk) ((Fr.refl NoBlk W3).alloc _) fun _ _ e => e) HO4.out ho2 hg2 HKW.out)
            obtain ⟨A2, c2, rfl, _, _⟩ := own_form ho2
            have HB5 : Hid (Bk W5 gd 40 #[.slice Av m cv]) := ((HBXd.out.fr HFC.out fun h => h).alloc _).fr (Fr.ofGrown hg2) (fun e => own_apart HO4.out ((HBXd.out.fr HFC.out fun h => h).alloc _) (by decide) e.symm)
            have hf5 := HB5.out.free 0
            have hl5 : W5.cell? ⟨gd, 0, none⟩ = some (.slice Av m cv) := HB5.out.cell 0
            clear ho2 hg2 hb2
            refine hK _ _ ?_
            clear hK K
            try simp only [Act.put, List.setIfInBounds_toArray]
            refine wpAnyIn_ready (rs := [7]) (by kernel_rfl) (by simp) ?_
            refine AllReadyIn.cons rfl (fun K hK => ?_) (AllReadyIn.nil)
            go_simp
            refine hK _ _ ?_
            clear hK K
            try simp only [Act.put, List.setIfInBounds_toArray, List.set_cons_zero, List.set_cons_succ]
            refine wpAnyIn_done (by kernel_rfl) ?_ _
            gi_wp2
            refine ⟨HNX.out.1.from _, fun b hb => HNX.out.2.1 b (by rw [HKD.out]; exact .inl hb), ?_⟩
            exact HRI.out _ HNX.out.2.1 HNX.out.2.2
          · skip
            go_simp
            refine ⟨trivial, ?_⟩
            refine (CallsIn.inRound l' (callsIn_wide.2 (HCPD.out _ (Fr.refl _ _)))).mono ?_
            rintro e W3 ⟨b, rfl, hcp, hfc⟩
            have HCP := Lib.hid hcp
            have HFC := Lib.hid hfc
            unfold vaR
            have hld3 : W3.cell? ⟨gd, 0, none⟩ = some (.slice Av m cv) := (HBXd.out.fr hfc fun h => h).cell 0
            clear hcp hfc
            refine hK _ _ ?_
            clear hK K
            try simp only [Act.put, List.setIfInBounds_toArray, List.set_cons_zero, List.set_cons_succ]
            refine wpAnyIn_ready (rs := [1]) (by kernel_rfl) (by simp) ?_
            refine AllReadyIn.cons rfl (fun K hK => ?_) (AllReadyIn.nil)
            go_simp
            refine hK _ _ ?_
            clear hK K
            try simp only [Act.put, List.setIfInBounds_toArray, List.set_cons_zero, List.set_cons_succ]
            refine wpAnyIn_ready (rs := [4]) (by kernel_rfl) (by simp) ?_
            refine AllReadyIn.cons rfl (fun K hK => ?_) (AllReadyIn.nil)
            go_simp
            refine hK _ _ ?_
            clear hK K
            try simp only [Act.put, List.setIfInBounds_toArray, List.set_cons_zero, List.set_cons_succ]
            refine wpAnyIn_ready (rs := [5]) (by kernel_rfl) (by simp) ?_
            refine AllReadyIn.cons rfl (fun K hK => ?_) (AllReadyIn.nil)
            have HO4 : Hid ((W3.alloc (.cells #[.string (bstr x.1.1), .bool b.has, .slice b.va b.vn b.vc, .int .i64 b.home, .int .u64 (b.count : Int)] 61)).ownsRow w.heap.size 61 5 (.slice Av m cv) m (itsR ys)) := own_fr (own_fr HOVd.out HFC.out fun _ _ h => h) ((Fr.refl NoBlk _).alloc _) fun _ _ h => h
            have HS4 : Hid (Rd (W3.alloc (.cells #[.string (bstr x.1.1), .bool b.has, .slice b.va b.vn b.vc, .int .i64 b.home, .int .u64 (b.count : Int)] 61)) (some ⟨W3.heap.size, 0, none⟩) [.string (bstr x.1.1), .bool b.has, .slice b.va b.vn b.vc, .int .i64 b.home, .int .u64 (b.count : Int)]) := Rd.of_cells (Bk.new W3 61 #[.string (bstr x.1.1), .bool b.has, .slice b.va b.vn b.vc, .int .i64 b.home, .int .u64 (b.count : Int)])
            have hld4 : (W3.alloc (.cells #[.string (bstr x.1.1), .bool b.has, .slice b.va b.vn b.vc, .int .i64 b.home, .int .u64 (b.count : Int)] 61)).cell? ⟨gd, 0, none⟩ = some (.slice Av m cv) := (((HBXd.out.fr HFC.out fun h => h)).alloc _).cell 0
            have HON : Hid (∀ u ∈ ([.string (bstr x.1.1), .bool b.has, .slice b.va b.vn b.vc, .int .i64 b.home, .int .u64 (b.count : Int)] : List Value), u.oneCell' = true) := by intro u hu; simp only [List.mem_cons, List.not_mem_nil, or_false] at hu; rcases hu with rfl | rfl | rfl | rfl | rfl <;> rfl
            have HSZ4 : Hid (w.heap.size ≤ (W3.alloc (.cells #[.string (bstr x.1.1), .bool b.has, .slice b.va b.vn b.vc, .int .i64 b.home, .int .u64 (b.count : Int)] 61)).heap.size) := by show _ ≤ _; have h1 := HFC.out.size; have h2 := HBS.out; rw [World.size_alloc]; omega
            go_simp
            refine hK _ _ ?_
            clear hK K
            try simp only [Act.put, List.setIfInBounds_toArray, List.set_cons_zero, List.set_cons_succ]
            refine wpAnyIn_ready (rs := [6]) (by kernel_rfl) (by simp) ?_
            refine AllReadyIn.cons rfl (fun K hK => ?_) (AllReadyIn.nil)
            refine step_appWIn rfl _ _ 40 rfl w.heap.size 61 i0 _ 5 64 Try.underlying40 hi hz0 hz1 hz2 rfl (by decide) (.slice Av m cv) m (itsR ys) rfl HO4.out (some ⟨W3.heap.size, 0, none⟩) 1 1 [.string (bstr x.1.1), .bool b.has, .slice b.va b.vn b.vc, .int .i64 b.home, .int .u64 (b.count : Int)] rfl rfl HS4.out HON.out (fun h => by cases h) (by unfold maxLen; have := HMK.out; omega) (by have := HMK.out; omega) HSZ4.out ?_
            intro v2 W5 ho2 hg2 hb2
            have HNX := Lib.hid (GatZ.next (x := (x.1.1, x.1.2.2)) (y := (x.1.1, b)) (K := KK) HGZ.out HBX0.out HYS.out HM.out rfl ((HFD.out.trans HFC.out).alloc _) rfl ((HCP.out.low (by have := HBS.out; omega)).fr (C := NoBlk) ((Fr.refl NoBlk W3).alloc _) fun _ _ e => e) HO4.out ho2 hg2 HKW.out)
            obtain ⟨A2, c2, rfl, _, _⟩ := own_form ho2
            have HB5 : Hid (Bk W5 gd 40 #[.slice Av m cv]) := ((HBXd.out.fr HFC.out fun h => h).alloc _).fr (Fr.ofGrown hg2) (fun e => own_apart HO4.out ((HBXd.out.fr HFC.out fun h => h).alloc _) (by decide) e.symm)
            have hf5 := HB5.out.free 0
            have hl5 : W5.cell? ⟨gd, 0, none⟩ = some (.slice Av m cv) := HB5.out.cell 0
            clear ho2 hg2 hb2
            refine hK _ _ ?_
            clear hK K
            try simp only [Act.put, List.setIfInBounds_toArray]
            refine wpAnyIn_ready (rs := [7]) (by kernel_rfl) (by simp) ?_
            refine AllReadyIn.cons rfl (fun K hK => ?_) (AllReadyIn.nil)
            go_simp
            refine hK _ _ ?_
            clear hK K
            try simp only [Act.put, List.setIfInBounds_toArray, List.set_cons_zero, List.set_cons_succ]
            refine wpAnyIn_done (by kernel_rfl) ?_ _
            gi_wp2
            refine ⟨HNX.out.1.from _, fun b hb => HNX.out.2.1 b (by rw [HKD.out]; exact .inl hb), ?_⟩
            exact HRI.out _ HNX.out.2.1 HNX.out.2.2
      · skip
        go_simp
        refine hK _ _ ?_
        clear hK K
        try simp only [Act.put, List.setIfInBounds_toArray, List.set_cons_zero, List.set_cons_succ]
        refine wpAnyIn_ready (rs := [0, 2]) (by kernel_rfl) (by simp) ?_
        refine AllReadyIn.cons rfl (fun K hK => ?_) (AllReadyIn.cons rfl (fun K hK => ?_) (AllReadyIn.nil))
        · skip
          go_simp
          refine hK _ _ ?_
          clear hK K
          try simp only [Act.put, List.setIfInBounds_toArray, List.set_cons_zero, List.set_cons_succ]
          refine wpAnyIn_ready (rs := [2]) (by kernel_rfl) (by simp) ?_
          refine AllReadyIn.cons rfl (fun K hK => ?_) (AllReadyIn.nil)
          go_simp
          refine hK _ _ ?_
          clear hK K
          try simp only [Act.put, List.setIfInBounds_toArray, List.set_cons_zero, List.set_cons_succ]
          refine wpAnyIn_ready (rs := [3]) (by kernel_rfl) (by simp) ?_
          refine AllReadyIn.cons rfl (fun K hK => ?_) (AllReadyIn.nil)
          go_simp
          refine ⟨trivial, ?_⟩
          refine (CallsIn.inRound l' (callsIn_wide.2 (HCPD.out _ (Fr.refl _ _)))).mono ?_
          rintro e W3 ⟨b, rfl, hcp, hfc⟩
          have HCP := Lib.hid hcp
          have HFC := Lib.hid hfc
          unfold vaR
          have hld3 : W3.cell? ⟨gd, 0, none⟩ = some (.slice Av m cv) := (HBXd.out.fr hfc fun h => h).cell 0
          clear hcp hfc
          refine hK _ _ ?_
          clear hK K
          try simp only [Act.put, List.setIfInBounds_toArray, List.set_cons_zero, List.set_cons_succ]
          refine wpAnyIn_ready (rs := [4]) (by kernel_rfl) (by simp) ?_
          refine AllReadyIn.cons rfl (fun K hK => ?_) (AllReadyIn.nil)
          go_simp
          refine hK _ _ ?_
          clear hK K
          try simp only [Act.put, List.setIfInBounds_toArray, List.set_cons_zero, List.set_cons_succ]
          refine wpAnyIn_ready (rs := [5]) (by kernel_rfl) (by simp) ?_
          refine AllReadyIn.cons rfl (fun K hK => ?_) (AllReadyIn.nil)
          have HO4 : Hid ((W3.alloc (.cells #[.string (bstr x.1.1), .bool b.has, .slice b.va b.vn b.vc, .int .i64 b.home, .int .u64 (b.count : Int)] 61)).ownsRow w.heap.size 61 5 (.slice Av m cv) m (itsR ys)) := own_fr (own_fr HOVd.out HFC.out fun _ _ h => h) ((Fr.refl NoBlk _).alloc _) fun _ _ h => h
          have HS4 : Hid (Rd (W3.alloc (.cells #[.string (bstr x.1.1), .bool b.has, .slice b.va b.vn b.vc, .int .i64 b.home, .int .u64 (b.count : Int)] 61)) (some ⟨W3.heap.size, 0, none⟩) [.string (bstr x.1.1), .bool b.has, .slice b.va b.vn b.vc, .int .i64 b.home, .int .u64 (b.count : Int)]) := Rd.of_cells (Bk.new W3 61 #[.string (bstr x.1.1), .bool b.has, .slice b.va b.vn b.vc, .int .i64 b.home, .int .u64 (b.count : Int)])
          have hld4 : (W3.alloc (.cells #[.string (bstr x.1.1), .bool b.has, .slice b.va b.vn b.vc, .int .i64 b.home, .int .u64 (b.count : Int)] 61)).cell? ⟨gd, 0, none⟩ = some (.slice Av m cv) := (((HBXd.out.fr HFC.out fun h => h)).alloc _).cell 0
          have HON : Hid (∀ u ∈ ([.string (bstr x.1.1), .bool b.has, .slice b.va b.vn b.vc, .int .i64 b.home, .int .u64 (b.count : Int)] : List Value), u.oneCell' = true) := by intro u hu; simp only [List.mem_cons, List.not_mem_nil, or_false] at hu; rcases hu with rfl | rfl | rfl | rfl | rfl <;> rfl
          have HSZ4 : Hid (w.heap.size ≤ (W3.alloc (.cells #[.string (bstr x.1.1), .bool b.has, .slice b.va b.vn b.vc, .int .i64 b.home, .int .u64 (b.count : Int)] 61)).heap.size) := by show _ ≤ _; have h1 := HFC.out.size; have h2 := HBS.out; rw [World.size_alloc]; omega
          go_simp
          refine hK _ _ ?_
          clear hK K
          try simp only [Act.put, List.setIfInBounds_toArray, List.set_cons_zero, List.set_cons_succ]
          refine wpAnyIn_ready (rs := [6]) (by kernel_rfl) (by simp) ?_
          refine AllReadyIn.cons rfl (fun K hK => ?_) (AllReadyIn.nil)
          refine step_appWIn rfl _ _ 40 rfl w.heap.size 61 i0 _ 5 64 Try.underlying40 hi hz0 hz1 hz2 rfl (by decide) (.slice Av m cv) m (itsR ys) rfl HO4.out (some ⟨W3.heap.size, 0, none⟩) 1 1 [.string (bstr x.1.1), .bool b.has, .slice b.va b.vn b.vc, .int .i64 b.home, .int .u64 (b.count : Int)] rfl rfl HS4.out HON.out (fun h => by cases h) (by unfold maxLen; have := HMK.out; omega) (by have := HMK.out; omega) HSZ4.out ?_
          intro v2 W5 ho2 hg2 hb2
          have HNX := Lib.hid (GatZ.next (x := (x.1.1, x.1.2.2)) (y := (x.1.1, b)) (K := KK) HGZ.out HBX0.out HYS.out HM.out rfl ((HFD.out.trans HFC.out).alloc _) rfl ((HCP.out.low (by have := HBS.out; omega)).fr (C := NoBlk) ((Fr.refl NoBlk W3).alloc _) fun _ _ e => e) HO4.out ho2 hg2 HKW.out)
          obtain ⟨A2, c2, rfl, _, _⟩ := own_form ho2
          have HB5 : Hid (Bk W5 gd 40 #[.slice Av m cv]) := ((HBXd.out.fr HFC.out fun h => h).alloc _).fr (Fr.ofGrown hg2) (fun e => own_apart HO4.out ((HBXd.out.fr HFC.out fun h => h).alloc _) (by decide) e.symm)
          have hf5 := HB5.out.free 0
          have hl5 : W5.cell? ⟨gd, 0, none⟩ = some (.slice Av m cv) := HB5.out.cell 0
          clear ho2 hg2 hb2
          refine hK _ _ ?_
          clear hK K
          try simp only [Act.put, List.setIfInBounds_toArray]
          refine wpAnyIn_ready (rs := [7]) (by kernel_rfl) (by simp) ?_
          refine AllReadyIn.cons rfl (fun K hK => ?_) (AllReadyIn.nil)
          go_simp
          refine hK _ _ ?_
          clear hK K
          try simp only [Act.put, List.setIfInBounds_toArray, List.set_cons_zero, List.set_cons_succ]
          refine wpAnyIn_done (by kernel_rfl) ?_ _
          gi_wp2
          refine ⟨HNX.out.1.from _, fun b hb => HNX.out.2.1 b (by rw [HKD.out]; exact .inl hb), ?_⟩
          exact HRI.out _ HNX.out.2.1 HNX.out.2.2
        · skip
          go_simp
          refine hK _ _ ?_
          clear hK K
          try simp only [Act.put, List.setIfInBounds_toArray, List.set_cons_zero, List.set_cons_succ]
          refine wpAnyIn_ready (rs := [0, 3]) (by kernel_rfl) (by simp) ?_
          refine AllReadyIn.cons rfl (fun K hK => ?_) (AllReadyIn.cons rfl (fun K hK => ?_) (AllReadyIn.nil))
          · skip
            go_simp
            refine hK _ _ ?_
            clear hK K
            try simp only [Act.put, List.setIfInBounds_toArray, List.set_cons_zero, List.set_cons_succ]
            refine wpAnyIn_ready (rs := [3]) (by kernel_rfl) (by simp) ?_
            refine AllReadyIn.cons rfl (fun K hK => ?_) (AllReadyIn.nil)
            go_simp
            refine ⟨trivial, ?_⟩
            refine (CallsIn.inRound l' (callsIn_wide.2 (HCPD.out _ (Fr.refl _ _)))).mono ?_
            rintro e W3 ⟨b, rfl, hcp, hfc⟩
            have HCP := Lib.hid hcp
            have HFC := Lib.hid hfc
            unfold vaR
            have hld3 : W3.cell? ⟨gd, 0, none⟩ = some (.slice Av m cv) := (HBXd.out.fr hfc fun h => h).cell 0
            clear hcp hfc
            refine hK _ _ ?_
            clear hK K
            try simp only [Act.put, List.setIfInBounds_toArray, List.set_cons_zero, List.set_cons_succ]
            refine wpAnyIn_ready (rs := [4]) (by kernel_rfl) (by simp) ?_
            refine AllReadyIn.cons rfl (fun K hK => ?_) (AllReadyIn.nil)
            go_simp
            refine hK _ _ ?_
            clear hK K
            try simp only [Act.put, List.setIfInBounds_toArray, List.set_cons_zero, List.set_cons_succ]
            refine wpAnyIn_ready (rs := [5]) (by kernel_rfl) (by simp) ?_
            refine AllReadyIn.cons rfl (fun K hK => ?_) (AllReadyIn.nil)
            have HO4 : Hid ((W3.alloc (.cells #[.string (bstr x.1.1), .bool b.has, .slice b.va b.vn b.vc, .int .i64 b.home, .int .u64 (b.count : Int)] 61)).ownsRow w.heap.size 61 5 (.slice Av m cv) m (itsR ys)) := own_fr (own_fr HOVd.out HFC.out fun _ _ h => h) ((Fr.refl NoBlk _).alloc _) fun _ _ h => h
            have HS4 : Hid (Rd (W3.alloc (.cells #[.string (bstr x.1.1), .bool b.has, .slice b.va b.vn b.vc, .int .i64 b.home, .int .u64 (b.count : Int)] 61)) (some ⟨W3.heap.size, 0, none⟩) [.string (bstr x.1.1), .bool b.has, .slice b.va b.vn b.vc, .int .i64 b.home, .int .u64 (b.count : Int)]) := Rd.of_cells (Bk.new W3 61 #[.string (bstr x.1.1), .bool b.has, .slice b.va b.vn b.vc, .int .i64 b.home, .int .u64 (b.count : Int)])
            have hld4 : (W3.alloc (.cells #[.string (bstr x.1.1), .bool b.has, .slice b.va b.vn b.vc, .int .i64 b.home, .int .u64 (b.count : Int)] 61)).cell? ⟨gd, 0, none⟩ = some (.slice Av m cv) := (((HBXd.out.fr HFC.out fun h => h)).alloc _).cell 0
            have HON : Hid (∀ u ∈ ([.string (bstr x.1.1), .bool b.has, .slice b.va b.vn b.vc, .int .i64 b.home, .int .u64 (b.count : Int)] : List Value), u.oneCell' = true) := by intro u hu; simp only [List.mem_cons, List.not_mem_nil, or_false] at hu; rcases hu with rfl | rfl | rfl | rfl | rfl <;> rfl
            have HSZ4 : Hid (w.heap.size ≤ (W3.alloc (.cells #[.string (bstr x.1.1), .bool b.has, .slice b.va b.vn b.vc, .int .i64 b.home, .int .u64 (b.count : Int)] 61)).heap.size) := by show _ ≤ _; have h1 := HFC.out.size; have h2 := HBS.out; rw [World.size_alloc]; omega
            go_simp
            refine hK _ _ ?_
            clear hK K
            try simp only [Act.put, List.setIfInBounds_toArray, List.set_cons_zero, List.set_cons_succ]
            refine wpAnyIn_ready (rs := [6]) (by kernel_rfl) (by simp) ?_
            refine AllReadyIn.cons rfl (fun K hK => ?_) (AllReadyIn.nil)
            refine step_appWIn rfl _ _ 40 rfl w.heap.size 61 i0 _ 5 64 Try.underlying40 hi hz0 hz1 hz2 rfl (by decide) (.slice Av m cv) m (itsR ys) rfl HO4.out (some ⟨W3.heap.size, 0, none⟩) 1 1 [.string (bstr x.1.1), .bool b.has, .slice b.va b.vn b.vc, .int .i64 b.home, .int .u64 (b.count : Int)] rfl rfl HS4.out HON.out (fun h => by cases h) (by unfold maxLen; have := HMK.out; omega) (by have := HMK.out; omega) HSZ4.out ?_
            intro v2 W5 ho2 hg2 hb2
            have HNX := Lib.hid (GatZ.next (x := (x.1.1, x.1.2.2)) (y := (x.1.1, b)) (K := KK) HGZ.out HBX0.out HYS.out HM.out rfl ((HFD.out.trans HFC.out).alloc _) rfl ((HCP.out.low (by have := HBS.out; omega)).fr (C := NoBlk) ((Fr.refl NoBlk W3).alloc _) fun _ _ e => e) HO4.out ho2 hg2 HKW.out)
            obtain ⟨A2, c2, rfl, _, _⟩ := own_form ho2
            have HB5 : Hid (Bk W5 gd 40 #[.slice Av m cv]) := ((HBXd.out.fr HFC.out fun h => h).alloc _).fr (Fr.ofGrown hg2) (fun e => own_apart HO4.out ((HBXd.out.fr HFC.out fun h => h).alloc _) (by decide) e.symm)
            have hf5 := HB5.out.free 0
            have hl5 : W5.cell? ⟨gd, 0, none⟩ = some (.slice Av m cv) := HB5.out.cell 0
            clear ho2 hg2 hb2
            refine hK _ _ ?_
            clear hK K
            try simp only [Act.put, List.setIfInBounds_toArray]
            refine wpAnyIn_ready (rs := [7]) (by kernel_rfl) (by simp) ?_
            refine AllReadyIn.cons rfl (fun K hK => ?_) (AllReadyIn.nil)
            go_simp
            refine hK _ _ ?_
            clear hK K
            try simp only [Act.put, List.setIfInBounds_toArray, List.set_cons_zero, List.set_cons_succ]
            refine wpAnyIn_done (by kernel_rfl) ?_ _
            gi_wp2
            refine ⟨HNX.out.1.from _, fun b hb => HNX.out.2.1 b (by rw [HKD.out]; exact .inl hb), ?_⟩
            exact HRI.out _ HNX.out.2.1 HNX.out.2.2
          · skip
            go_simp
            refine ⟨trivial, ?_⟩
            refine (CallsIn.inRound l' (callsIn_wide.2 (HCPD.out _ (Fr.refl _ _)))).mono ?_
            rintro e W3 ⟨b, rfl, hcp, hfc⟩
            have HCP := Lib.hid hcp
            have HFC := Lib.hid hfc
            unfold vaR
            have hld3 : W3.cell? ⟨gd, 0, none⟩ = some (.slice Av m cv) := (HBXd.out.fr hfc fun h => h).cell 0
            clear hcp hfc
            refine hK _ _ ?_
            clear hK K
            try simp only [Act.put, List.setIfInBounds_toArray, List.set_cons_zero, List.set_cons_succ]
            refine wpAnyIn_ready (rs := [0, 4]) (by kernel_rfl) (by simp) ?_
            refine AllReadyIn.cons rfl (fun K hK => ?_) (AllReadyIn.cons rfl (fun K hK => ?_) (AllReadyIn.nil))
            · skip
              go_simp
              refine hK _ _ ?_
              clear hK K
              try simp only [Act.put, List.setIfInBounds_toArray, List.set_cons_zero, List.set_cons_succ]
              refine wpAnyIn_ready (rs := [4]) (by kernel_rfl) (by simp) ?_
              refine AllReadyIn.cons rfl (fun K hK => ?_) (AllReadyIn.nil)
              go_simp
              refine hK _ _ ?_
              clear hK K
              try simp only [Act.put, List.setIfInBounds_toArray, List.set_cons_zero, List.set_cons_succ]
              refine wpAnyIn_ready (rs := [5]) (by kernel_rfl) (by simp) ?_
              refine AllReadyIn.cons rfl (fun K hK => ?_) (AllReadyIn.nil)
              have HO4 : Hid ((W3.alloc (.cells #[.string (bstr x.1.1), .bool b.has, .slice b.va b.vn b.vc, .int .i64 b.home, .int .u64 (b.count : Int)] 61)).ownsRow w.heap.size 61 5 (.slice Av m cv) m (itsR ys)) := own_fr (own_fr HOVd.out HFC.out fun _ _ h => h) ((Fr.refl NoBlk _).alloc _) fun _ _ h => h
              have HS4 : Hid (Rd (W3.alloc (.cells #[.string (bstr x.1.1), .bool b.has, .slice b.va b.vn b.vc, .int .i64 b.home, .int .u64 (b.count : Int)] 61)) (some ⟨W3.heap.size, 0, none⟩) [.string (bstr x.1.1), .bool b.has, .slice b.va b.vn b.vc, .int .i64 b.home, .int .u64 (b.count : Int)]) := Rd.of_cells (Bk.new W3 61 #[.string (bstr x.1.1), .bool b.has, .slice b.va b.vn b.vc, .int .i64 b.home, .int .u64 (b.count : Int)])
              have hld4 : (W3.alloc (.cells #[.string (bstr x.1.1), .bool b.has, .slice b.va b.vn b.vc, .int .i64 b.home, .int .u64 (b.count : Int)] 61)).cell? ⟨gd, 0, none⟩ = some (.slice Av m cv) := (((HBXd.out.fr HFC.out fun h => h)).alloc _).cell 0
              have HON : Hid (∀ u ∈ ([.string (bstr x.1.1), .bool b.has, .slice b.va b.vn b.vc, .int .i64 b.home, .int .u64 (b.count : Int)] : List Value), u.oneCell' = true) := by intro u hu; simp only [List.mem_cons, List.not_mem_nil, or_false] at hu; rcases hu with rfl | rfl | rfl | rfl | rfl <;> rfl
              have HSZ4 : Hid (w.heap.size ≤ (W3.alloc (.cells #[.string (bstr x.1.1), .bool b.has, .slice b.va b.vn b.vc, .int .i64 b.home, .int .u64 (b.count : Int)] 61)).heap.size) := by show _ ≤ _; have h1 := HFC.out.size; have h2 := HBS.out; rw [World.size_alloc]; omega
              go_simp
              refine hK _ _ ?_
              clear hK K
              try simp only [Act.put, List.setIfInBounds_toArray, List.set_cons_zero, List.set_cons_succ]
              refine wpAnyIn_ready (rs := [6]) (by kernel_rfl) (by simp) ?_
              refine AllReadyIn.cons rfl (fun K hK => ?_) (AllReadyIn.nil)
              refine step_appWIn rfl _ _ 40 rfl w.heap.size 61 i0 _ 5 64 Try.underlying40 hi hz0 hz1 hz2 rfl (by decide) (.slice Av m cv) m (itsR ys) rfl HO4.out (some ⟨W3.heap.size, 0, none⟩) 1 1 [.string (bstr x.1.1), .bool b.has, .slice b.va b.vn b.vc, .int .i64 b.home, .int .u64 (b.count : Int)] rfl rfl HS4.out HON.out (fun h => by cases h) (by unfold maxLen; have := HMK.out; omega) (by have := HMK.out; omega) HSZ4.out ?_
              intro v2 W5 ho2 hg2 hb2
              have HNX := Lib.hid (GatZ.next (x := (x.1.1, x.1.2.2)) (y := (x.1.1, b)) (K := KK) HGZ.out HBX0.out HYS.out HM.out rfl ((HFD.out.trans HFC.out).alloc _) rfl ((HCP.out.low (by have := HBS.out; omega)).fr (C := NoBlk) ((Fr.refl NoBlk W3).alloc _) fun _ _ e => e) HO4.out ho2 hg2 HKW.out)
              obtain ⟨A2, c2, rfl, _, _⟩ := own_form ho2
              have HB5 : Hid (Bk W5 gd 40 #[.slice Av m cv]) := ((HBXd.out.fr HFC.out fun h => h).alloc _).fr (Fr.ofGrown hg2) (fun e => own_apart HO4.out ((HBXd.out.fr HFC.out fun h => h).alloc _) (by decide) e.symm)
              have hf5 := HB5.out.free 0
              have hl5 : W5.cell? ⟨gd, 0, none⟩ = some (.slice Av m cv) := HB5.out.cell 0
              clear ho2 hg2 hb2
              refine hK _ _ ?_
              clear hK K
              try simp only [Act.put, List.setIfInBounds_toArray]
              refine wpAnyIn_ready (rs := [7]) (by kernel_rfl) (by simp) ?_
              refine AllReadyIn.cons rfl (fun K hK => ?_) (AllReadyIn.nil)
              go_simp
              refine hK _ _ ?_
              clear hK K
              try simp only [Act.put, List.setIfInBounds_toArray, List.set_cons_zero, List.set_cons_succ]
              refine wpAnyIn_done (by kernel_rfl) ?_ _
              gi_wp2
              refine ⟨HNX.out.1.from _, fun b hb => HNX.out.2.1 b (by rw [HKD.out]; exact .inl hb), ?_⟩
              exact HRI.out _ HNX.out.2.1 HNX.out.2.2
            · skip
              go_simp
              refine hK _ _ ?_
              clear hK K
              try simp only [Act.put, List.setIfInBounds_toArray, List.set_cons_zero, List.set_cons_succ]
              refine wpAnyIn_ready (rs := [0, 5]) (by kernel_rfl) (by simp) ?_
              refine AllReadyIn.cons rfl (fun K hK => ?_) (AllReadyIn.cons rfl (fun K hK => ?_) (AllReadyIn.nil))
              · skip
                go_simp
                refine hK _ _ ?_
                clear hK K
                try simp only [Act.put, List.setIfInBounds_toArray, List.set_cons_zero, List.set_cons_succ]
                refine wpAnyIn_ready (rs := [5]) (by kernel_rfl) (by simp) ?_
                refine AllReadyIn.cons rfl (fun K hK => ?_) (AllReadyIn.nil)
                have HO4 : Hid ((W3.alloc (.cells #[.string (bstr x.1.1), .bool b.has, .slice b.va b.vn b.vc, .int .i64 b.home, .int .u64 (b.count : Int)] 61)).ownsRow w.heap.size 61 5 (.slice Av m cv) m (itsR ys)) := own_fr (own_fr HOVd.out HFC.out fun _ _ h => h) ((Fr.refl NoBlk _).alloc _) fun _ _ h => h
                have HS4 : Hid (Rd (W3.alloc (.cells #[.string (bstr x.1.1), .bool b.has, .slice b.va b.vn b.vc, .int .i64 b.home, .int .u64 (b.count : Int)] 61)) (some ⟨W3.heap.size, 0, none⟩) [.string (bstr x.1.1), .bool b.has, .slice b.va b.vn b.vc, .int .i64 b.home, .int .u64 (b.count : Int)]) := Rd.of_cells (Bk.new W3 61 #[.string (bstr x.1.1), .bool b.has, .slice b.va b.vn b.vc, .int .i64 b.home, .int .u64 (b.count : Int)])
                have hld4 : (W3.alloc (.cells #[.string (bstr x.1.1), .bool b.has, .slice b.va b.vn b.vc, .int .i64 b.home, .int .u64 (b.count : Int)] 61)).cell? ⟨gd, 0, none⟩ = some (.slice Av m cv) := (((HBXd.out.fr HFC.out fun h => h)).alloc _).cell 0
                have HON : Hid (∀ u ∈ ([.string (bstr x.1.1), .bool b.has, .slice b.va b.vn b.vc, .int .i64 b.home, .int .u64 (b.count : Int)] : List Value), u.oneCell' = true) := by intro u hu; simp only [List.mem_cons, List.not_mem_nil, or_false] at hu; rcases hu with rfl | rfl | rfl | rfl | rfl <;> rfl
                have HSZ4 : Hid (w.heap.size ≤ (W3.alloc (.cells #[.string (bstr x.1.1), .bool b.has, .slice b.va b.vn b.vc, .int .i64 b.home, .int .u64 (b.count : Int)] 61)).heap.size) := by show _ ≤ _; have h1 := HFC.out.size; have h2 := HBS.out; rw [World.size_alloc]; omega
                go_simp
                refine hK _ _ ?_
                clear hK K
                try simp only [Act.put, List.setIfInBounds_toArray, List.set_cons_zero, List.set_cons_succ]
                refine wpAnyIn_ready (rs := [6]) (by kernel_rfl) (by simp) ?_
                refine AllReadyIn.cons rfl (fun K hK => ?_) (AllReadyIn.nil)
                refine step_appWIn rfl _ _ 40 rfl w.heap.size 61 i0 _ 5 64 Try.underlying40 hi hz0 hz1 hz2 rfl (by decide) (.slice Av m cv) m (itsR ys) rfl HO4.out (some ⟨W3.heap.size, 0, none⟩) 1 1 [.string (bstr x.1.1), .bool b.has, .slice b.va b.vn b.vc, .int .i64 b.home, .int .u64 (b.count : Int)] rfl rfl HS4.out HON.out (fun h => by cases h) (by unfold maxLen; have := HMK.out; omega) (by have := HMK.out; omega) HSZ4.out ?_
                intro v2 W5 ho2 hg2 hb2
                have HNX := Lib.hid (GatZ.next (x := (x.1.1, x.1.2.2)) (y := (x.1.1, b)) (K := KK) HGZ.out HBX0.out HYS.out HM.out rfl ((HFD.out.trans HFC.out).alloc _) rfl ((HCP.out.low (by have := HBS.out; omega)).fr (C := NoBlk) ((Fr.refl NoBlk W3).alloc _) fun _ _ e => e) HO4.out ho2 hg2 HKW.out)
                obtain ⟨A2, c2, rfl, _, _⟩ := own_form ho2
                have HB5 : Hid (Bk W5 gd 40 #[.slice Av m cv]) := ((HBXd.out.fr HFC.out fun h => h).alloc _).fr (Fr.ofGrown hg2) (fun e => own_apart HO4.out ((HBXd.out.fr HFC.out fun h => h).alloc _) (by decide) e.symm)
                have hf5 := HB5.out.free 0
                have hl5 : W5.cell? ⟨gd, 0, none⟩ = some (.slice Av m cv) := HB5.out.cell 0
                clear ho2 hg2 hb2
                refine hK _ _ ?_
                clear hK K
                try simp only [Act.put, List.setIfInBounds_toArray]
                refine wpAnyIn_ready (rs := [7]) (by kernel_rfl) (by simp) ?_
                refine AllReadyIn.cons rfl (fun K hK => ?_) (AllReadyIn.nil)
                go_simp
                refine hK _ _ ?_
                clear hK K
                try simp only [Act.put, List.setIfInBounds_toArray, List.set_cons_zero, List.set_cons_succ]
                refine wpAnyIn_done (by kernel_rfl) ?_ _
                gi_wp2
                refine ⟨HNX.out.1.from _, fun b hb => HNX.out.2.1 b (by rw [HKD.out]; exact .inl hb), ?_⟩
                exact HRI.out _ HNX.out.2.1 HNX.out.2.2
              · skip
                have HO4 : Hid ((W3.alloc (.cells #[.string (bstr x.1.1), .bool b.has, .slice b.va b.vn b.vc, .int .i64 b.home, .int .u64 (b.count : Int)] 61)).ownsRow w.heap.size 61 5 (.slice Av m cv) m (itsR ys)) := own_fr (own_fr HOVd.out HFC.out fun _ _ h => h) ((Fr.refl NoBlk _).alloc _) fun _ _ h => h
                have HS4 : Hid (Rd (W3.alloc (.cells #[.string (bstr x.1.1), .bool b.has, .slice b.va b.vn b.vc, .int .i64 b.home, .int .u64 (b.count : Int)] 61)) (some ⟨W3.heap.size, 0, none⟩) [.string (bstr x.1.1), .bool b.has, .slice b.va b.vn b.vc, .int .i64 b.home, .int .u64 (b.count : Int)]) := Rd.of_cells (Bk.new W3 61 #[.string (bstr x.1.1), .bool b.has, .slice b.va b.vn b.vc, .int .i64 b.home, .int .u64 (b.count : Int)])
                have hld4 : (W3.alloc (.cells #[.string (bstr x.1.1), .bool b.has, .slice b.va b.vn b.vc, .int .i64 b.home, .int .u64 (b.count : Int)] 61)).cell? ⟨gd, 0, none⟩ = some (.slice Av m cv) := (((HBXd.out.fr HFC.out fun h => h)).alloc _).cell 0
                have HON : Hid (∀ u ∈ ([.string (bstr x.1.1), .bool b.has, .slice b.va b.vn b.vc, .int .i64 b.home, .int .u64 (b.count : Int)] : List Value), u.oneCell' = true) := by intro u hu; simp only [List.mem_cons, List.not_mem_nil, or_false] at hu; rcases hu with rfl | rfl | rfl | rfl | rfl <;> rfl
                have HSZ4 : Hid (w.heap.size ≤ (W3.alloc (.cells #[.string (bstr x.1.1), .bool b.has, .slice b.va b.vn b.vc, .int .i64 b.home, .int .u64 (b.count : Int)] 61)).heap.size) := by show _ ≤ _; have h1 := HFC.out.size; have h2 := HBS.out; rw [World.size_alloc]; omega
                go_simp
                refine hK _ _ ?_
                clear hK K
                try simp only [Act.put, List.setIfInBounds_toArray, List.set_cons_zero, List.set_cons_succ]
                refine wpAnyIn_ready (rs := [0]) (by kernel_rfl) (by simp) ?_
                refine AllReadyIn.cons rfl (fun K hK => ?_) (AllReadyIn.nil)
                go_simp
                refine hK _ _ ?_
                clear hK K
                try simp only [Act.put, List.setIfInBounds_toArray, List.set_cons_zero, List.set_cons_succ]
                refine wpAnyIn_ready (rs := [6]) (by kernel_rfl) (by simp) ?_
                refine AllReadyIn.cons rfl (fun K hK => ?_) (AllReadyIn.nil)
                refine step_appWIn rfl _ _ 40 rfl w.heap.size 61 i0 _ 5 64 Try.underlying40 hi hz0 hz1 hz2 rfl (by decide) (.slice Av m cv) m (itsR ys) rfl HO4.out (some ⟨W3.heap.size, 0, none⟩) 1 1 [.string (bstr x.1.1), .bool b.has, .slice b.va b.vn b.vc, .int .i64 b.home, .int .u64 (b.count : Int)] rfl rfl HS4.out HON.out (fun h => by cases h) (by unfold maxLen; have := HMK.out; omega) (by have := HMK.out; omega) HSZ4.out ?_
                intro v2 W5 ho2 hg2 hb2
                have HNX := Lib.hid (GatZ.next (x := (x.1.1, x.1.2.2)) (y := (x.1.1, b)) (K := KK) HGZ.out HBX0.out HYS.out HM.out rfl ((HFD.out.trans HFC.out).alloc _) rfl ((HCP.out.low (by have := HBS.out; omega)).fr (C := NoBlk) ((Fr.refl NoBlk W3).alloc _) fun _ _ e => e) HO4.out ho2 hg2 HKW.out)
                obtain ⟨A2, c2, rfl, _, _⟩ := own_form ho2
                have HB5 : Hid (Bk W5 gd 40 #[.slice Av m cv]) := ((HBXd.out.fr HFC.out fun h => h).alloc _).fr (Fr.ofGrown hg2) (fun e => own_apart HO4.out ((HBXd.out.fr HFC.out fun h => h).alloc _) (by decide) e.symm)
                have hf5 := HB5.out.free 0
                have hl5 : W5.cell? ⟨gd, 0, none⟩ = some (.slice Av m cv) := HB5.out.cell 0
                clear ho2 hg2 hb2
                refine hK _ _ ?_
                clear hK K
                try simp only [Act.put, List.setIfInBounds_toArray]
                refine wpAnyIn_ready (rs := [7]) (by kernel_rfl) (by simp) ?_
                refine AllReadyIn.cons rfl (fun K hK => ?_) (AllReadyIn.nil)
                go_simp
                refine hK _ _ ?_
                clear hK K
                try simp only [Act.put, List.setIfInBounds_toArray, List.set_cons_zero, List.set_cons_succ]
                refine wpAnyIn_done (by kernel_rfl) ?_ _
                gi_wp2
                refine ⟨HNX.out.1.from _, fun b hb => HNX.out.2.1 b (by rw [HKD.out]; exact .inl hb), ?_⟩
                exact HRI.out _ HNX.out.2.1 HNX.out.2.2
      · skip
        go_simp
        refine hK _ _ ?_
        clear hK K
        try simp only [Act.put, List.setIfInBounds_toArray, List.set_cons_zero, List.set_cons_succ]
        refine wpAnyIn_ready (rs := [0, 1, 3]) (by kernel_rfl) (by simp) ?_
        refine AllReadyIn.cons rfl (fun K hK => ?_) (AllReadyIn.cons rfl (fun K hK => ?_) (AllReadyIn.cons rfl (fun K hK => ?_) (AllReadyIn.nil)))
        · skip
          go_simp
          refine hK _ _ ?_
          clear hK K
          try simp only [Act.put, List.setIfInBounds_toArray, List.set_cons_zero, List.set_cons_succ]
          refine wpAnyIn_ready (rs := [1, 3]) (by kernel_rfl) (by simp) ?_
          refine AllReadyIn.cons rfl (fun K hK => ?_) (AllReadyIn.cons rfl (fun K hK => ?_) (AllReadyIn.nil))
          · skip
            go_simp
            refine hK _ _ ?_
            clear hK K
            try simp only [Act.put, List.setIfInBounds_toArray, List.set_cons_zero, List.set_cons_succ]
            refine wpAnyIn_ready (rs := [3]) (by kernel_rfl) (by simp) ?_
            refine AllReadyIn.cons rfl (fun K hK => ?_) (AllReadyIn.nil)
            go_simp
            refine ⟨trivial, ?_⟩
            refine (CallsIn.inRound l' (callsIn_wide.2 (HCPD.out _ (Fr.refl _ _)))).mono ?_
            rintro e W3 ⟨b, rfl, hcp, hfc⟩
            have HCP := Lib.hid hcp
            have HFC := Lib.hid hfc
            unfold vaR
            have hld3 : W3.cell? ⟨gd, 0, none⟩ = some (.slice Av m cv) := (HBXd.out.fr hfc fun h => h).cell 0
            clear hcp hfc
            refine hK _ _ ?_
            clear hK K
            try simp only [Act.put, List.setIfInBounds_toArray, List.set_cons_zero, List.set_cons_succ]
            refine wpAnyIn_ready (rs := [4]) (by kernel_rfl) (by simp) ?_
            refine AllReadyIn.cons rfl (fun K hK => ?_) (AllReadyIn.nil)
            go_simp
            refine hK _ _ ?_
            clear hK K
            try simp only [Act.put, List.setIfInBounds_toArray, List.set_cons_zero, List.set_cons_succ]
            refine wpAnyIn_ready (rs := [5]) (by kernel_rfl) (by simp) ?_
            refine AllReadyIn.cons rfl (fun K hK => ?_) (AllReadyIn.nil)
            have HO4 : Hid ((W3.alloc (.cells #[.string (bstr x.1.1), .bool b.has, .slice b.va b.vn b.vc, .int .i64 b.home, .int .u64 (b.count : Int)] 61)).ownsRow w.heap.size 61 5 (.slice Av m cv) m (itsR ys)) := own_fr (own_fr HOVd.out HFC.out fun _ _ h => h) ((Fr.refl NoBlk _).alloc _) fun _ _ h => h
            have HS4 : Hid (Rd (W3.alloc (.cells #[.string (bstr x.1.1), .bool b.has, .slice b.va b.vn b.vc, .int .i64 b.home, .int .u64 (b.count : Int)] 61)) (some ⟨W3.heap.size, 0, none⟩) [.string (bstr x.1.1), .bool b.has, .slice b.va b.vn b.vc, .int .i64 b.home, .int .u64 (b.count : Int)]) := Rd.of_cells (Bk.new W3 61 #[.string (bstr x.1.1), .bool b.has, .slice b.va b.vn b.vc, .int .i64 b.home, .int .u64 (b.count : Int)])
            have hld4 : (W3.alloc (.cells #[.string (bstr x.1.1), .bool b.has, .slice b.va b.vn b.vc, .int .i64 b.home, .int .u64 (b.count : Int)] 61)).cell? ⟨gd, 0, none⟩ = some (.slice Av m cv) := (((HBXd.out.fr HFC.out fun h => h)).alloc _).cell 0
            have HON : Hid (∀ u ∈ ([.string (bstr x.1.1), .bool b.has, .slice b.va b.vn b.vc, .int .i64 b.home, .int .u64 (b.count : Int)] : List Value), u.oneCell' = true) := by intro u hu; simp only [List.mem_cons, List.not_mem_nil, or_false] at hu; rcases hu with rfl | rfl | rfl | rfl | rfl <;> rfl
            have HSZ4 : Hid (w.heap.size ≤ (W3.alloc (.cells #[.string (bstr x.1.1), .bool b.has, .slice b.va b.vn b.vc, .int .i64 b.home, .int .u64 (b.count : Int)] 61)).heap.size) := by show _ ≤ _; have h1 := HFC.out.size; have h2 := HBS.out; rw [World.size_alloc]; omega
            go_simp
            refine hK _ _ ?_
            clear hK K
            try simp only [Act.put, List.setIfInBounds_toArray, List.set_cons_zero, List.set_cons_succ]
            refine wpAnyIn_ready (rs := [6]) (by kernel_rfl) (by simp) ?_
            refine AllReadyIn.cons rfl (fun K hK => ?_) (AllReadyIn.nil)
            refine step_appWIn rfl _ _ 40 rfl w.heap.size 61 i0 _ 5 64 Try.underlying40 hi hz0 hz1 hz2 rfl (by decide) (.slice Av m cv) m (itsR ys) rfl HO4.out (some ⟨W3.heap.size, 0, none⟩) 1 1 [.string (bstr x.1.1), .bool b.has, .slice b.va b.vn b.vc, .int .i64 b.home, .int .u64 (b.count : Int)] rfl rfl HS4.out HON.out (fun h => by cases h) (by unfold maxLen; have := HMK.out; omega) (by have := HMK.out; omega) HSZ4.out ?_
            intro v2 W5 ho2 hg2 hb2
            have HNX := Lib.hid (GatZ.next (x := (x.1.1, x.1.2.2)) (y := (x.1.1, b)) (K := KK) HGZ.out HBX0.out HYS.out HM.out rfl ((HFD.out.trans HFC.out).alloc _) rfl ((HCP.out.low (by have := HBS.out; omega)).fr (C := NoBlk) ((Fr.refl NoBlk W3).alloc _) fun _ _ e => e) HO4.out ho2 hg2 HKW.out)
            obtain ⟨A2, c2, rfl, _, _⟩ := own_form ho2
            have HB5 : Hid (Bk W5 gd 40 #[.slice Av m cv]) := ((HBXd.out.fr HFC.out fun h => h).alloc _).fr (Fr.ofGrown hg2) (fun e => own_apart HO4.out ((HBXd.out.fr HFC.out fun h => h).alloc _) (by decide) e.symm)
            have hf5 := HB5.out.free 0
            have hl5 : W5.cell? ⟨gd, 0, none⟩ = some (.slice Av m cv) := HB5.out.cell 0
            clear ho2 hg2 hb2
            refine hK _ _ ?_
            clear hK K
            try simp only [Act.put, List.setIfInBounds_toArray]
            refine wpAnyIn_ready (rs := [7]) (by kernel_rfl) (by simp) ?_
            refine AllReadyIn.cons rfl (fun K hK => ?_) (AllReadyIn.nil)
            go_simp
            refine hK _ _ ?_
            clear hK K
            try simp only [Act.put, List.setIfInBounds_toArray, List.set_cons_zero, List.set_cons_succ]
            refine wpAnyIn_done (by kernel_rfl) ?_ _
            gi_wp2
            refine ⟨HNX.out.1.from _, fun b hb => HNX.out.2.1 b (by rw [HKD.out]; exact .inl hb), ?_⟩
            exact HRI.out _ HNX.out.2.1 HNX.out.2.2
          · skip
            go_simp
            refine ⟨trivial, ?_⟩
            refine (CallsIn.inRound l' (callsIn_wide.2 (HCPD.out _ (Fr.refl _ _)))).mono ?_
            rintro e W3 ⟨b, rfl, hcp, hfc⟩
            have HCP := Lib.hid hcp
            have HFC := Lib.hid hfc
            unfold vaR
            have hld3 : W3.cell? ⟨gd, 0, none⟩ = some (.slice Av m cv) := (HBXd.out.fr hfc fun h => h).cell 0
            clear hcp hfc
            refine hK _ _ ?_
            clear hK K
            try simp only [Act.put, List.setIfInBounds_toArray, List.set_cons_zero, List.set_cons_succ]
            refine wpAnyIn_ready (rs := [1]) (by kernel_rfl) (by simp) ?_
            refine AllReadyIn.cons rfl (fun K hK => ?_) (AllReadyIn.nil)
            go_simp
            refine hK _ _ ?_
            clear hK K
            try simp only [Act.put, List.setIfInBounds_toArray, List.set_cons_zero, List.set_cons_succ]
            refine wpAnyIn_ready (rs := [4]) (by kernel_rfl) (by simp) ?_
            refine AllReadyIn.cons rfl (fun K hK => ?_) (AllReadyIn.nil)
            go_simp
            refine hK _ _ ?_
            clear hK K
            try simp only [Act.put, List.setIfInBounds_toArray, List.set_cons_zero, List.set_cons_succ]
            refine wpAnyIn_ready (rs := [5]) (by kernel_rfl) (by simp) ?_
            refine AllReadyIn.cons rfl (fun K hK => ?_) (AllReadyIn.nil)
            have HO4 : Hid ((W3.alloc (.cells #[.string (bstr x.1.1), .bool b.has, .slice b.va b.vn b.vc, .int .i64 b.home, .int .u64 (b.count : Int)] 61)).ownsRow w.heap.size 61 5 (.slice Av m cv) m (itsR ys)) := own_fr (own_fr HOVd.out HFC.out fun _ _ h => h) ((Fr.refl NoBlk _).alloc _) fun _ _ h => h
            have HS4 : Hid (Rd (W3.alloc (.cells #[.string (bstr x.1.1), .bool b.has, .slice b.va b.vn b.vc, .int .i64 b.home, .int .u64 (b.count : Int)] 61)) (some ⟨W3.heap.size, 0, none⟩) [.string (bstr x.1.1), .bool b.has, .slice b.va b.vn b.vc, .int .i64 b.home, .int .u64 (b.count : Int)]) := Rd.of_cells (Bk.new W3 61 #[.string (bstr x.1.1), .bool b.has, .slice b.va b.vn b.vc, .int .i64 b.home, .int .u64 (b.count : Int)])
            have hld4 : (W3.alloc (.cells #[.string (bstr x.1.1), .bool b.has, .slice b.va b.vn b.vc, .int .i64 b.home, .int .u64 (b.count : Int)] 61)).cell? ⟨gd, 0, none⟩ = some (.slice Av m cv) := (((HBXd.out.fr HFC.out fun h => h)).alloc _).cell 0
            have HON : Hid (∀ u ∈ ([.string (bstr x.1.1), .bool b.has, .slice b.va b.vn b.vc, .int .i64 b.home, .int .u64 (b.count : Int)] : List Value), u.oneCell' = true) := by intro u hu; simp only [List.mem_cons, List.not_mem_nil, or_false] at hu; rcases hu with rfl | rfl | rfl | rfl | rfl <;> rfl
            have HSZ4 : Hid (w.heap.size ≤ (W3.alloc (.cells #[.string (bstr x.1.1), .bool b.has, .slice b.va b.vn b.vc, .int .i64 b.home, .int .u64 (b.count : Int)] 61)).heap.size) := by show _ ≤ _; have h1 := HFC.out.size; have h2 := HBS.out; rw [World.size_alloc]; omega
            go_simp
            refine hK _ _ ?_
            clear hK K
            try simp only [Act.put, List.setIfInBounds_toArray, List.set_cons_zero, List.set_cons_succ]
            refine wpAnyIn_ready (rs := [6]) (by kernel_rfl) (by simp) ?_
            refine AllReadyIn.cons rfl (fun K hK => ?_) (AllReadyIn.nil)
            refine step_appWIn rfl _ _ 40 rfl w.heap.size 61 i0 _ 5 64 Try.underlying40 hi hz0 hz1 hz2 rfl (by decide) (.slice Av m cv) m (itsR ys) rfl HO4.out (some ⟨W3.heap.size, 0, none⟩) 1 1 [.string (bstr x.1.1), .bool b.has, .slice b.va b.vn b.vc, .int .i64 b.home, .int .u64 (b.count : Int)] rfl rfl HS4.out HON.out (fun h => by cases h) (by unfold maxLen; have := HMK.out; omega) (by have := HMK.out; omega) HSZ4.out ?_
            intro v2 W5 ho2 hg2 hb2
            have HNX := Lib.hid (GatZ.next (x := (x.1.1, x.1.2.2)) (y := (x.1.1, b)) (K := KK) HGZ.out HBX0.out HYS.out HM.out rfl ((HFD.out.trans HFC.out).alloc _) rfl ((HCP.out.low (by have := HBS.out; omega)).fr (C := NoBlk) ((Fr.refl NoBlk W3).alloc _) fun _ _ e => e) HO4.out ho2 hg2 HKW.out)
            obtain ⟨A2, c2, rfl, _, _⟩ := own_form ho2
            have HB5 : Hid (Bk W5 gd 40 #[.slice Av m cv]) := ((HBXd.out.fr HFC.out fun h => h).alloc _).fr (Fr.ofGrown hg2) (fun e => own_apart HO4.out ((HBXd.out.fr HFC.out fun h => h).alloc _) (by decide) e.symm)
            have hf5 := HB5.out.free 0
            have hl5 : W5.cell? ⟨gd, 0, none⟩ = some (.slice Av m cv) := HB5.out.cell 0
            clear ho2 hg2 hb2
            refine hK _ _ ?_
            clear hK K
            try simp only [Act.put, List.setIfInBounds_toArray]
            refine wpAnyIn_ready (rs := [7]) (by kernel_rfl) (by simp) ?_
            refine AllReadyIn.cons rfl (fun K hK => ?_) (AllReadyIn.nil)
            go_simp
            refine hK _ _ ?_
            clear hK K
            try simp only [Act.put, List.setIfInBounds_toArray, List.set_cons_zero, List.set_cons_succ]
            refine wpAnyIn_done (by kernel_rfl) ?_ _
            gi_wp2
            refine ⟨HNX.out.1.from _, fun b hb => HNX.out.2.1 b (by rw [HKD.out]; exact .inl hb), ?_⟩
            exact HRI.out _ HNX.out.2.1 HNX.out.2.2
        · skip
          go_simp
          refine hK _ _ ?_
          clear hK K
          try simp only [Act.put, List.setIfInBounds_toArray, List.set_cons_zero, List.set_cons_succ]
          refine wpAnyIn_ready (rs := [0, 3]) (by kernel_rfl) (by simp) ?_
          refine AllReadyIn.cons rfl (fun K hK => ?_) (AllReadyIn.cons rfl (fun K hK => ?_) (AllReadyIn.nil))
          · skip
            go_simp
            refine hK _ _ ?_
            clear hK K
            try simp only [Act.put, List.setIfInBounds_toArray, List.set_cons_zero, List.set_cons_succ]
            refine wpAnyIn_ready (rs := [3]) (by kernel_rfl) (by simp) ?_
            refine AllReadyIn.cons rfl (fun K hK => ?_) (AllReadyIn.nil)
            go_simp
            refine ⟨trivial, ?_⟩
            refine (CallsIn.inRound l' (callsIn_wide.2 (HCPD.out _ (Fr.refl _ _)))).mono ?_
            rintro e W3 ⟨b, rfl, hcp, hfc⟩
            have HCP := Lib.hid hcp
            have HFC := Lib.hid hfc
            unfold vaR
            have hld3 : W3.cell? ⟨gd, 0, none⟩ = some (.slice Av m cv) := (HBXd.out.fr hfc fun h => h).cell 0
            clear hcp hfc
            refine hK _ _ ?_
            clear hK K
            try simp only [Act.put, List.setIfInBounds_toArray, List.set_cons_zero, List.set_cons_succ]
            refine wpAnyIn_ready (rs := [4]) (by kernel_rfl) (by simp) ?_
            refine AllReadyIn.cons rfl (fun K hK => ?_) (AllReadyIn.nil)
            go_simp
            refine hK _ _ ?_
            clear hK K
            try simp only [Act.put, List.setIfInBounds_toArray, List.set_cons_zero, List.set_cons_succ]
            refine wpAnyIn_ready (rs := [5]) (by kernel_rfl) (by simp) ?_
            refine AllReadyIn.cons rfl (fun K hK => ?_) (AllReadyIn.nil)
            have HO4 : Hid ((W3.alloc (.cells #[.string (bstr x.1.1), .bool b.has, .slice b.va b.vn b.vc, .int .i64 b.home, .int .u64 (b.count : Int)] 61)).ownsRow w.heap.size 61 5 (.slice Av m cv) m (itsR ys)) := own_fr (own_fr HOVd.out HFC.out fun _ _ h => h) ((Fr.refl NoBlk _).alloc _) fun _ _ h => h
            have HS4 : Hid (Rd (W3.alloc (.cells #[.string (bstr x.1.1), .bool b.has, .slice b.va b.vn b.vc, .int .i64 b.home, .int .u64 (b.count : Int)] 61)) (some ⟨W3.heap.size, 0, none⟩) [.string (bstr x.1.1), .bool b.has, .slice b.va b.vn b.vc, .int .i64 b.home, .int .u64 (b.count : Int)]) := Rd.of_cells (Bk.new W3 61 #[.string (bstr x.1.1), .bool b.has, .slice b.va b.vn b.vc, .int .i64 b.home, .int .u64 (b.count : Int)])
            have hld4 : (W3.alloc (.cells #[.string (bstr x.1.1), .bool b.has, .slice b.va b.vn b.vc, .int .i64 b.home, .int .u64 (b.count : Int)] 61)).cell? ⟨gd, 0, none⟩ = some (.slice Av m cv) := (((HBXd.out.fr HFC.out fun h => h)).alloc _).cell 0
            have HON : Hid (∀ u ∈ ([.string (bstr x.1.1), .bool b.has, .slice b.va b.vn b.vc, .int .i64 b.home, .int .u64 (b.count : Int)] : List Value), u.oneCell' = true) := by intro u hu; simp only [List.mem_cons, List.not_mem_nil, or_false] at hu; rcases hu with rfl | rfl | rfl | rfl | rfl <;> rfl
            have HSZ4 : Hid (w.heap.size ≤ (W3.alloc (.cells #[.string (bstr x.1.1), .bool b.has, .slice b.va b.vn b.vc, .int .i64 b.home, .int .u64 (b.count : Int)] 61)).heap.size) := by show _ ≤ _; have h1 := HFC.out.size; have h2 := HBS.out; rw [World.size_alloc]; omega
            go_simp
            refine hK _ _ ?_
            clear hK K
            try simp only [Act.put, List.setIfInBounds_toArray, List.set_cons_zero, List.set_cons_succ]
            refine wpAnyIn_ready (rs := [6]) (by kernel_rfl) (by simp) ?_
            refine AllReadyIn.cons rfl (fun K hK => ?_) (AllReadyIn.nil)
            refine step_appWIn rfl _ _ 40 rfl w.heap.size 61 i0 _ 5 64 Try.underlying40 hi hz0 hz1 hz2 rfl (by decide) (.slice Av m cv) m (itsR ys) rfl HO4.out (some ⟨W3.heap.size, 0, none⟩) 1 1 [.string (bstr x.1.1), .bool b.has, .slice b.va b.vn b.vc, .int .i64 b.home, .int .u64 (b.count : Int)] rfl rfl HS4.out HON.out (fun h => by cases h) (by unfold maxLen; have := HMK.out; omega) (by have := HMK.out; omega) HSZ4.out ?_
            intro v2 W5 ho2 hg2 hb2
            have HNX := Lib.hid (GatZ.next (x := (x.1.1, x.1.2.2)) (y := (x.1.1, b)) (K := KK) HGZ.out HBX0.out HYS.out HM.out rfl ((HFD.out.trans HFC.out).alloc _) rfl ((HCP.out.low (by have := HBS.out; omega)).fr (C := NoBlk) ((Fr.refl NoBlk W3).alloc _) fun _ _ e => e) HO4.out ho2 hg2 HKW.out)
            obtain ⟨A2, c2, rfl, _, _⟩ := own_form ho2
            have HB5 : Hid (Bk W5 gd 40 #[.slice Av m cv]) := ((HBXd.out.fr HFC.out fun h => h).alloc _).fr (Fr.ofGrown hg2) (fun e => own_apart HO4.out ((HBXd.out.fr HFC.out fun h => h).alloc _) (by decide) e.symm)
            have hf5 := HB5.out.free 0
            have hl5 : W5.cell? ⟨gd, 0, none⟩ = some (.slice Av m cv) := HB5.out.cell 0
            clear ho2 hg2 hb2
            refine hK _ _ ?_
            clear hK K
            try simp only [Act.put, List.setIfInBounds_toArray]
            refine wpAnyIn_ready (rs := [7]) (by kernel_rfl) (by simp) ?_
            refine AllReadyIn.cons rfl (fun K hK => ?_) (AllReadyIn.nil)
            go_simp
            refine hK _ _ ?_
            clear hK K
            try simp only [Act.put, List.setIfInBounds_toArray, List.set_cons_zero, List.set_cons_succ]
            refine wpAnyIn_done (by kernel_rfl) ?_ _
            gi_wp2
            refine ⟨HNX.out.1.from _, fun b hb => HNX.out.2.1 b (by rw [HKD.out]; exact .inl hb), ?_⟩
            exact HRI.out _ HNX.out.2.1 HNX.out.2.2
          · skip
            go_simp
            refine ⟨trivial, ?_⟩
            refine (CallsIn.inRound l' (callsIn_wide.2 (HCPD.out _ (Fr.refl _ _)))).mono ?_
            rintro e W3 ⟨b, rfl, hcp, hfc⟩
            have HCP := Lib.hid hcp
            have HFC := Lib.hid hfc
            unfold vaR
            have hld3 : W3.cell? ⟨gd, 0, none⟩ = some (.slice Av m cv) := (HBXd.out.fr hfc fun h => h).cell 0
            clear hcp hfc
            refine hK _ _ ?_
            clear hK K
            try simp only [Act.put, List.setIfInBounds_toArray, List.set_cons_zero, List.set_cons_succ]
            refine wpAnyIn_ready (rs := [0, 4]) (by kernel_rfl) (by simp) ?_
            refine AllReadyIn.cons rfl (fun K hK => ?_) (AllReadyIn.cons rfl (fun K hK => ?_) (AllReadyIn.nil))
            · skip
              go_simp
              refine hK _ _ ?_
              clear hK K
              try simp only [Act.put, List.setIfInBounds_toArray, List.set_cons_zero, List.set_cons_succ]
              refine wpAnyIn_ready (rs := [4]) (by kernel_rfl) (by simp) ?_
              refine AllReadyIn.cons rfl (fun K hK => ?_) (AllReadyIn.nil)
              go_simp
              refine hK _ _ ?_
              clear hK K
              try simp only [Act.put, List.setIfInBounds_toArray, List.set_cons_zero, List.set_cons_succ]
              refine wpAnyIn_ready (rs := [5]) (by kernel_rfl) (by simp) ?_
              refine AllReadyIn.cons rfl (fun K hK => ?_) (AllReadyIn.nil)
              have HO4 : Hid ((W3.alloc (.cells #[.string (bstr x.1.1), .bool b.has, .slice b.va b.vn b.vc, .int .i64 b.home, .int .u64 (b.count : Int)] 61)).ownsRow w.heap.size 61 5 (.slice Av m cv) m (itsR ys)) := own_fr (own_fr HOVd.out HFC.out fun _ _ h => h) ((Fr.refl NoBlk _).alloc _) fun _ _ h => h
              have HS4 : Hid (Rd (W3.alloc (.cells #[.string (bstr x.1.1), .bool b.has, .slice b.va b.vn b.vc, .int .i64 b.home, .int .u64 (b.count : Int)] 61)) (some ⟨W3.heap.size, 0, none⟩) [.string (bstr x.1.1), .bool b.has, .slice b.va b.vn b.vc, .int .i64 b.home, .int .u64 (b.count : Int)]) := Rd.of_cells (Bk.new W3 61 #[.string (bstr x.1.1), .bool b.has, .slice b.va b.vn b.vc, .int .i64 b.home, .int .u64 (b.count : Int)])
              have hld4 : (W3.alloc (.cells #[.string (bstr x.1.1), .bool b.has, .slice b.va b.vn b.vc, .int .i64 b.home, .int .u64 (b.count : Int)] 61)).cell? ⟨gd, 0, none⟩ = some (.slice Av m cv) := (((HBXd.out.fr HFC.out fun h => h)).alloc _).cell 0
              have HON : Hid (∀ u ∈ ([.string (bstr x.1.1), .bool b.has, .slice b.va b.vn b.vc, .int .i64 b.home, .int .u64 (b.count : Int)] : List Value), u.oneCell' = true) := by intro u hu; simp only [List.mem_cons, List.not_mem_nil, or_false] at hu; rcases hu with rfl | rfl | rfl | rfl | rfl <;> rfl
              have HSZ4 : Hid (w.heap.size ≤ (W3.alloc (.cells #[.string (bstr x.1.1), .bool b.has, .slice b.va b.vn b.vc, .int .i64 b.home, .int .u64 (b.count : Int)] 61)).heap.size) := by show _ ≤ _; have h1 := HFC.out.size; have h2 := HBS.out; rw [World.size_alloc]; omega
              go_simp
              refine hK _ _ ?_
              clear hK K
              try simp only [Act.put, List.setIfInBounds_toArray, List.set_cons_zero, List.set_cons_succ]
              refine wpAnyIn_ready (rs := [6]) (by kernel_rfl) (by simp) ?_
              refine AllReadyIn.cons rfl (fun K hK => ?_) (AllReadyIn.nil)
              refine step_appWIn rfl _ _ 40 rfl w.heap.size 61 i0 _ 5 64 Try.underlying40 hi hz0 hz1 hz2 rfl (by decide) (.slice Av m cv) m (itsR ys) rfl HO4.out (some ⟨W3.heap.size, 0, none⟩) 1 1 [.string (bstr x.1.1), .bool b.has, .slice b.va b.vn b.vc, .int .i64 b.home, .int .u64 (b.count : Int)] rfl rfl HS4.out HON.out (fun h => by cases h) (by unfold maxLen; have := HMK.out; omega) (by have := HMK.out; omega) HSZ4.out ?_
              intro v2 W5 ho2 hg2 hb2
              have HNX := Lib.hid (GatZ.next (x := (x.1.1, x.1.2.2)) (y := (x.1.1, b)) (K := KK) HGZ.out HBX0.out HYS.out HM.out rfl ((HFD.out.trans HFC.out).alloc _) rfl ((HCP.out.low (by have := HBS.out; omega)).fr (C := NoBlk) ((Fr.refl NoBlk W3).alloc _) fun _ _ e => e) HO4.out ho2 hg2 HKW.out)
              obtain ⟨A2, c2, rfl, _, _⟩ := own_form ho2
              have HB5 : Hid (Bk W5 gd 40 #[.slice Av m cv]) := ((HBXd.out.fr HFC.out fun h => h).alloc _).fr (Fr.ofGrown hg2) (fun e => own_apart HO4.out ((HBXd.out.fr HFC.out fun h => h).alloc _) (by decide) e.symm)
              have hf5 := HB5.out.free 0
              have hl5 : W5.cell? ⟨gd, 0, none⟩ = some (.slice Av m cv) := HB5.out.cell 0
              clear ho2 hg2 hb2
              refine hK _ _ ?_
              clear hK K
              try simp only [Act.put, List.setIfInBounds_toArray]
              refine wpAnyIn_ready (rs := [7]) (by kernel_rfl) (by simp) ?_
              refine AllReadyIn.cons rfl (fun K hK => ?_) (AllReadyIn.nil)
              go_simp
              refine hK _ _ ?_
              clear hK K
              try simp only [Act.put, List.setIfInBounds_toArray, List.set_cons_zero, List.set_cons_succ]
              refine wpAnyIn_done (by kernel_rfl) ?_ _
              gi_wp2
              refine ⟨HNX.out.1.from _, fun b hb => HNX.out.2.1 b (by rw [HKD.out]; exact .inl hb), ?_⟩
              exact HRI.out _ HNX.out.2.1 HNX.out.2.2
            · skip
              go_simp
              refine hK _ _ ?_
              clear hK K
              try simp only [Act.put, List.setIfInBounds_toArray, List.set_cons_zero, List.set_cons_succ]
              refine wpAnyIn_ready (rs := [0, 5]) (by kernel_rfl) (by simp) ?_
              refine AllReadyIn.cons rfl (fun K hK => ?_) (AllReadyIn.cons rfl (fun K hK => ?_) (AllReadyIn.nil))
              · skip
                go_simp
                refine hK _ _ ?_
                clear hK K
                try simp only [Act.put, List.setIfInBounds_toArray, List.set_cons_zero, List.set_cons_succ]
                refine wpAnyIn_ready (rs := [5]) (by kernel_rfl) (by simp) ?_
                refine AllReadyIn.cons rfl (fun K hK => ?_) (AllReadyIn.nil)
                have HO4 : Hid ((W3.alloc (.cells #[.string (bstr x.1.1), .bool b.has, .slice b.va b.vn b.vc, .int .i64 b.home, .int .u64 (b.count : Int)] 61)).ownsRow w.heap.size 61 5 (.slice Av m cv) m (itsR ys)) := own_fr (own_fr HOVd.out HFC.out fun _ _ h => h) ((Fr.refl NoBlk _).alloc _) fun _ _ h => h
                have HS4 : Hid (Rd (W3.alloc (.cells #[.string (bstr x.1.1), .bool b.has, .slice b.va b.vn b.vc, .int .i64 b.home, .int .u64 (b.count : Int)] 61)) (some ⟨W3.heap.size, 0, none⟩) [.string (bstr x.1.1), .bool b.has, .slice b.va b.vn b.vc, .int .i64 b.home, .int .u64 (b.count : Int)]) := Rd.of_cells (Bk.new W3 61 #[.string (bstr x.1.1), .bool b.has, .slice b.va b.vn b.vc, .int .i64 b.home, .int .u64 (b.count : Int)])
                have hld4 : (W3.alloc (.cells #[.string (bstr x.1.1), .bool b.has, .slice b.va b.vn b.vc, .int .i64 b.home, .int .u64 (b.count : Int)] 61)).cell? ⟨gd, 0, none⟩ = some (.slice Av m cv) := (((HBXd.out.fr HFC.out fun h => h)).alloc _).cell 0
                have HON : Hid (∀ u ∈ ([.string (bstr x.1.1), .bool b.has, .slice b.va b.vn b.vc, .int .i64 b.home, .int .u64 (b.count : Int)] : List Value), u.oneCell' = true) := by intro u hu; simp only [List.mem_cons, List.not_mem_nil, or_false] at hu; rcases hu with rfl | rfl | rfl | rfl | rfl <;> rfl
                have HSZ4 : Hid (w.heap.size ≤ (W3.alloc (.cells #[.string (bstr x.1.1), .bool b.has, .slice b.va b.vn b.vc, .int .i64 b.home, .int .u64 (b.count : Int)] 61)).heap.size) := by show _ ≤ _; have h1 := HFC.out.size; have h2 := HBS.out; rw [World.size_alloc]; omega
                go_simp
                refine hK _ _ ?_
                clear hK K
                try simp only [Act.put, List.setIfInBounds_toArray, List.set_cons_zero, List.set_cons_succ]
                refine wpAnyIn_ready (rs := [6]) (by kernel_rfl) (by simp) ?_
                refine AllReadyIn.cons rfl (fun K hK => ?_) (AllReadyIn.nil)
                refine step_appWIn rfl _ _ 40 rfl w.heap.size 61 i0 _ 5 64 Try.underlying40 hi hz0 hz1 hz2 rfl (by decide) (.slice Av m cv) m (itsR ys) rfl HO4.out (some ⟨W3.heap.size, 0, none⟩) 1 1 [.string (bstr x.1.1), .bool b.has, .slice b.va b.vn b.vc, .int .i64 b.home, .int .u64 (b.count : Int)] rfl rfl HS4.out HON.out (fun h => by cases h) (by unfold maxLen; have := HMK.out; omega) (by have := HMK.out; omega) HSZ4.out ?_
                intro v2 W5 ho2 hg2 hb2
                have HNX := Lib.hid (GatZ.next (x := (x.1.1, x.1.2.2)) (y := (x.1.1, b)) (K := KK) HGZ.out HBX0.out HYS.out HM.out rfl ((HFD.out.trans HFC.out).alloc _) rfl ((HCP.out.low (by have := HBS.out; omega)).fr (C := NoBlk) ((Fr.refl NoBlk W3).alloc _) fun _ _ e => e) HO4.out ho2 hg2 HKW.out)
                obtain ⟨A2, c2, rfl, _, _⟩ := own_form ho2
                have HB5 : Hid (Bk W5 gd 40 #[.slice Av m cv]) := ((HBXd.out.fr HFC.out fun h => h).alloc _).fr (Fr.ofGrown hg2) (fun e => own_apart HO4.out ((HBXd.out.fr HFC.out fun h => h).alloc _) (by decide) e.symm)
                have hf5 := HB5.out.free 0
                have hl5 : W5.cell? ⟨gd, 0, none⟩ = some (.slice Av m cv) := HB5.out.cell 0
                clear ho2 hg2 hb2
                refine hK _ _ ?_
                clear hK K
                try simp only [Act.put, List.setIfInBounds_toArray]
                refine wpAnyIn_ready (rs := [7]) (by kernel_rfl) (by simp) ?_
                refine AllReadyIn.cons rfl (fun K hK => ?_) (AllReadyIn.nil)
                go_simp
                refine hK _ _ ?_
                clear hK K
                try simp only [Act.put, List.setIfInBounds_toArray, List.set_cons_zero, List.set_cons_succ]
                refine wpAnyIn_done (by kernel_rfl) ?_ _
                gi_wp2
                refine ⟨HNX.out.1.from _, fun b hb => HNX.out.2.1 b (by rw [HKD.out]; exact .inl hb), ?_⟩
                exact HRI.out _ HNX.out.2.1 HNX.out.2.2
              · skip
                have HO4 : Hid ((W3.alloc (.cells #[.string (bstr x.1.1), .bool b.has, .slice b.va b.vn b.vc, .int .i64 b.home, .int .u64 (b.count : Int)] 61)).ownsRow w.heap.size 61 5 (.slice Av m cv) m (itsR ys)) := own_fr (own_fr HOVd.out HFC.out fun _ _ h => h) ((Fr.refl NoBlk _).alloc _) fun _ _ h => h
                have HS4 : Hid (Rd (W3.alloc (.cells #[.string (bstr x.1.1), .bool b.has, .slice b.va b.vn b.vc, .int .i64 b.home, .int .u64 (b.count : Int)] 61)) (some ⟨W3.heap.size, 0, none⟩) [.string (bstr x.1.1), .bool b.has, .slice b.va b.vn b.vc, .int .i64 b.home, .int .u64 (b.count : Int)]) := Rd.of_cells (Bk.new W3 61 #[.string (bstr x.1.1), .bool b.has, .slice b.va b.vn b.vc, .int .i64 b.home, .int .u64 (b.count : Int)])
                have hld4 : (W3.alloc (.cells #[.string (bstr x.1.1), .bool b.has, .slice b.va b.vn b.vc, .int .i64 b.home, .int .u64 (b.count : Int)] 61)).cell? ⟨gd, 0, none⟩ = some (.slice Av m cv) := (((HBXd.out.fr HFC.out fun h => h)).alloc _).cell 0
                have HON : Hid (∀ u ∈ ([.string (bstr x.1.1), .bool b.has, .slice b.va b.vn b.vc, .int .i64 b.home, .int .u64 (b.count : Int)] : List Value), u.oneCell' = true) := by intro u hu; simp only [List.mem_cons, List.not_mem_nil, or_false] at hu; rcases hu with rfl | rfl | rfl | rfl | rfl <;> rfl
                have HSZ4 : Hid (w.heap.size ≤ (W3.alloc (.cells #[.string (bstr x.1.1), .bool b.has, .slice b.va b.vn b.vc, .int .i64 b.home, .int .u64 (b.count : Int)] 61)).heap.size) := by show _ ≤ _; have h1 := HFC.out.size; have h2 := HBS.out; rw [World.size_alloc]; omega
                go_simp
                refine hK _ _ ?_
                clear hK K
                try simp only [Act.put, List.setIfInBounds_toArray, List.set_cons_zero, List.set_cons_succ]
                refine wpAnyIn_ready (rs := [0]) (by kernel_rfl) (by simp) ?_
                refine AllReadyIn.cons rfl (fun K hK => ?_) (AllReadyIn.nil)
                go_simp
                refine hK _ _ ?_
                clear hK K
                try simp only [Act.put, List.setIfInBounds_toArray, List.set_cons_zero, List.set_cons_succ]
                refine wpAnyIn_ready (rs := [6]) (by kernel_rfl) (by simp) ?_
                refine AllReadyIn.cons rfl (fun K hK => ?_) (AllReadyIn.nil)
                refine step_appWIn rfl _ _ 40 rfl w.heap.size 61 i0 _ 5 64 Try.underlying40 hi hz0 hz1 hz2 rfl (by decide) (.slice Av m cv) m (itsR ys) rfl HO4.out (some ⟨W3.heap.size, 0, none⟩) 1 1 [.string (bstr x.1.1), .bool b.has, .slice b.va b.vn b.vc, .int .i64 b.home, .int .u64 (b.count : Int)] rfl rfl HS4.out HON.out (fun h => by cases h) (by unfold maxLen; have := HMK.out; omega) (by have := HMK.out; omega) HSZ4.out ?_
                intro v2 W5 ho2 hg2 hb2
                have HNX := Lib.hid (GatZ.next (x := (x.1.1, x.1.2.2)) (y := (x.1.1, b)) (K := KK) HGZ.out HBX0.out HYS.out HM.out rfl ((HFD.out.trans HFC.out).alloc _) rfl ((HCP.out.low (by have := HBS.out; omega)).fr (C := NoBlk) ((Fr.refl NoBlk W3).alloc _) fun _ _ e => e) HO4.out ho2 hg2 HKW.out)
                obtain ⟨A2, c2, rfl, _, _⟩ := own_form ho2
                have HB5 : Hid (Bk W5 gd 40 #[.slice Av m cv]) := ((HBXd.out.fr HFC.out fun h => h).alloc _).fr (Fr.ofGrown hg2) (fun e => own_apart HO4.out ((HBXd.out.fr HFC.out fun h => h).alloc _) (by decide) e.symm)
                have hf5 := HB5.out.free 0
                have hl5 : W5.cell? ⟨gd, 0, none⟩ = some (.slice Av m cv) := HB5.out.cell 0
                clear ho2 hg2 hb2
                refine hK _ _ ?_
                clear hK K
                try simp only [Act.put, List.setIfInBounds_toArray]
                refine wpAnyIn_ready (rs := [7]) (by kernel_rfl) (by simp) ?_
                refine AllReadyIn.cons rfl (fun K hK => ?_) (AllReadyIn.nil)
                go_simp
                refine hK _ _ ?_
                clear hK K
                try simp only [Act.put, List.setIfInBounds_toArray, List.set_cons_zero, List.set_cons_succ]
                refine wpAnyIn_done (by kernel_rfl) ?_ _
                gi_wp2
                refine ⟨HNX.out.1.from _, fun b hb => HNX.out.2.1 b (by rw [HKD.out]; exact .inl hb), ?_⟩
                exact HRI.out _ HNX.out.2.1 HNX.out.2.2
        · skip
          go_simp
          refine ⟨trivial, ?_⟩
          refine (CallsIn.inRound l' (callsIn_wide.2 (HCPD.out _ (Fr.refl _ _)))).mono ?_
          rintro e W3 ⟨b, rfl, hcp, hfc⟩
          have HCP := Lib.hid hcp
          have HFC := Lib.hid hfc
          unfold vaR
          have hld3 : W3.cell? ⟨gd, 0, none⟩ = some (.slice Av m cv) := (HBXd.out.fr hfc fun h => h).cell 0
          clear hcp hfc
          refine hK _ _ ?_
          clear hK K
          try simp only [Act.put, List.setIfInBounds_toArray, List.set_cons_zero, List.set_cons_succ]
          refine wpAnyIn_ready (rs := [0, 1]) (by kernel_rfl) (by simp) ?_
          refine AllReadyIn.cons rfl (fun K hK => ?_) (AllReadyIn.cons rfl (fun K hK => ?_) (AllReadyIn.nil))
          · skip
            go_simp
            refine hK _ _ ?_
            clear hK K
            try simp only [Act.put, List.setIfInBounds_toArray, List.set_cons_zero, List.set_cons_succ]
            refine wpAnyIn_ready (rs := [1]) (by kernel_rfl) (by simp) ?_
            refine AllReadyIn.cons rfl (fun K hK => ?_) (AllReadyIn.nil)
            go_simp
            refine hK _ _ ?_
            clear hK K
            try simp only [Act.put, List.setIfInBounds_toArray, List.set_cons_zero, List.set_cons_succ]
            refine wpAnyIn_ready (rs := [4]) (by kernel_rfl) (by simp) ?_
            refine AllReadyIn.cons rfl (fun K hK => ?_) (AllReadyIn.nil)
            go_simp
            refine hK _ _ ?_
            clear hK K
            try simp only [Act.put, List.setIfInBounds_toArray, List.set_cons_zero, List.set_cons_succ]
            refine wpAnyIn_ready (rs := [5]) (by kernel_rfl) (by simp) ?_
            refine AllReadyIn.cons rfl (fun K hK => ?_) (AllReadyIn.nil)
            have HO4 : Hid ((W3.alloc (.cells #[.string (bstr x.1.1), .bool b.has, .slice b.va b.vn b.vc, .int .i64 b.home, .int .u64 (b.count : Int)] 61)).ownsRow w.heap.size 61 5 (.slice Av m cv) m (itsR ys)) := own_fr (own_fr HOVd.out HFC.out fun _ _ h => h) ((Fr.refl NoBlk _).alloc _) fun _ _ h => h
            have HS4 : Hid (Rd (W3.alloc (.cells #[.string (bstr x.1.1), .bool b.has, .slice b.va b.vn b.vc, .int .i64 b.home, .int .u64 (b.count : Int)] 61)) (some ⟨W3.heap.size, 0, none⟩) [.string (bstr x.1.1), .bool b.has, .slice b.va b.vn b.vc, .int .i64 b.home, .int .u64 (b.count : Int)]) := Rd.of_cells (Bk.new W3 61 #[.string (bstr x.1.1), .bool b.has, .slice b.va b.vn b.vc, .int .i64 b.home, .int .u64 (b.count : Int)])
            have hld4 : (W3.alloc (.cells #[.string (bstr x.1.1), .bool b.has, .slice b.va b.vn b.vc, .int .i64 b.home, .int .u64 (b.count : Int)] 61)).cell? ⟨gd, 0, none⟩ = some (.slice Av m cv) := (((HBXd.out.fr HFC.out fun h => h)).alloc _).cell 0
            have HON : Hid (∀ u ∈ ([.string (bstr x.1.1), .bool b.has, .slice b.va b.vn b.vc, .int .i64 b.home, .int .u64 (b.count : Int)] : List Value), u.oneCell' = true) := by intro u hu; simp only [List.mem_cons, List.not_mem_nil, or_false] at hu; rcases hu with rfl | rfl | rfl | rfl | rfl <;> rfl
            have HSZ4 : Hid (w.heap.size ≤ (W3.alloc (.cells #[.string (bstr x.1.1), .bool b.has, .slice b.va b.vn b.vc, .int .i64 b.home, .int .u64 (b.count : Int)] 61)).heap.size) := by show _ ≤ _; have h1 := HFC.out.size; have h2 := HBS.out; rw [World.size_alloc]; omega
            go_simp
            refine hK _ _ ?_
            clear hK K
            try simp only [Act.put, List.setIfInBounds_toArray, List.set_cons_zero, List.set_cons_succ]
            refine wpAnyIn_ready (rs := [6]) (by kernel_rfl) (by simp) ?_
            refine AllReadyIn.cons rfl (fun K hK => ?_) (AllReadyIn.nil)
            refine step_appWIn rfl _ _ 40 rfl w.heap.size 61 i0 _ 5 64 Try.underlying40 hi hz0 hz1 hz2 rfl (by decide) (.slice Av m cv) m (itsR ys) rfl HO4.out (some ⟨W3.heap.size, 0, none⟩) 1 1 [.string (bstr x.1.1), .bool b.has, .slice b.va b.vn b.vc, .int .i64 b.home, .int .u64 (b.count : Int)] rfl rfl HS4.out HON.out (fun h => by cases h) (by unfold maxLen; have := HMK.out; omega) (by have := HMK.out; omega) HSZ4.out ?_
            intro v2 W5 ho2 hg2 hb2
            have HNX := Lib.hid (GatZ.next (x := (x.1.1, x.1.2.2)) (y := (x.1.1, b)) (K := KK) HGZ.out HBX0.out HYS.out HM.out rfl ((HFD.out.trans HFC.out).alloc _) rfl ((HCP.out.low (by have := HBS.out; omega)).fr (C := NoBlk) ((Fr.refl NoBlk W3).alloc _) fun _ _ e => e) HO4.out ho2 hg2 HKW.out)
            obtain ⟨A2, c2, rfl, _, _⟩ := own_form ho2
            have HB5 : Hid (Bk W5 gd 40 #[.slice Av m cv]) := ((HBXd.out.fr HFC.out fun h => h).alloc _).fr (Fr.ofGrown hg2) (fun e => own_apart HO4.out ((HBXd.out.fr HFC.out fun h => h).alloc _) (by decide) e.symm)
            have hf5 := HB5.out.free 0
            have hl5 : W5.cell? ⟨gd, 0, none⟩ = some (.slice Av m cv) := HB5.out.cell 0
            clear ho2 hg2 hb2
            refine hK _ _ ?_
            clear hK K
            try simp only [Act.put, List.setIfInBounds_toArray]
            refine wpAnyIn_ready (rs := [7]) (by kernel_rfl) (by simp) ?_
            refine AllReadyIn.cons rfl (fun K hK => ?_) (AllReadyIn.nil)
            go_simp
            refine hK _ _ ?_
            clear hK K
            try simp only [Act.put, List.setIfInBounds_toArray, List.set_cons_zero, List.set_cons_succ]
            refine wpAnyIn_done (by kernel_rfl) ?_ _
            gi_wp2
            refine ⟨HNX.out.1.from _, fun b hb => HNX.out.2.1 b (by rw [HKD.out]; exact .inl hb), ?_⟩
            exact HRI.out _ HNX.out.2.1 HNX.out.2.2
          · skip
            go_simp
            refine hK _ _ ?_
            clear hK K
            try simp only [Act.put, List.setIfInBounds_toArray, List.set_cons_zero, List.set_cons_succ]
            refine wpAnyIn_ready (rs := [0, 4]) (by kernel_rfl) (by simp) ?_
            refine AllReadyIn.cons rfl (fun K hK => ?_) (AllReadyIn.cons rfl (fun K hK => ?_) (AllReadyIn.nil))
            · skip
              go_simp
              refine hK _ _ ?_
              clear hK K
              try simp only [Act.put, List.setIfInBounds_toArray, List.set_cons_zero, List.set_cons_succ]
              refine wpAnyIn_ready (rs := [4]) (by kernel_rfl) (by simp) ?_
              refine AllReadyIn.cons rfl (fun K hK => ?_) (AllReadyIn.nil)
              go_simp
              refine hK _ _ ?_
              clear hK K
              try simp only [Act.put, List.setIfInBounds_toArray, List.set_cons_zero, List.set_cons_succ]
              refine wpAnyIn_ready (rs := [5]) (by kernel_rfl) (by simp) ?_
              refine AllReadyIn.cons rfl (fun K hK => ?_) (AllReadyIn.nil)
              have HO4 : Hid ((W3.alloc (.cells #[.string (bstr x.1.1), .bool b.has, .slice b.va b.vn b.vc, .int .i64 b.home, .int .u64 (b.count : Int)] 61)).ownsRow w.heap.size 61 5 (.slice Av m cv) m (itsR ys)) := own_fr (own_fr HOVd.out HFC.out fun _ _ h => h) ((Fr.refl NoBlk _).alloc _) fun _ _ h => h
              have HS4 : Hid (Rd (W3.alloc (.cells #[.string (bstr x.1.1), .bool b.has, .slice b.va b.vn b.vc, .int .i64 b.home, .int .u64 (b.count : Int)] 61)) (some ⟨W3.heap.size, 0, none⟩) [.string (bstr x.1.1), .bool b.has, .slice b.va b.vn b.vc, .int .i64 b.home, .int .u64 (b.count : Int)]) := Rd.of_cells (Bk.new W3 61 #[.string (bstr x.1.1), .bool b.has, .slice b.va b.vn b.vc, .int .i64 b.home, .int .u64 (b.count : Int)])
              have hld4 : (W3.alloc (.cells #[.string (bstr x.1.1), .bool b.has, .slice b.va b.vn b.vc, .int .i64 b.home, .int .u64 (b.count : Int)] 61)).cell? ⟨gd, 0, none⟩ = some (.slice Av m cv) := (((HBXd.out.fr HFC.out fun h => h)).alloc _).cell 0
              have HON : Hid (∀ u ∈ ([.string (bstr x.1.1), .bool b.has, .slice b.va b.vn b.vc, .int .i64 b.home, .int .u64 (b.count : Int)] : List Value), u.oneCell' = true) := by intro u hu; simp only [List.mem_cons, List.not_mem_nil, or_false] at hu; rcases hu with rfl | rfl | rfl | rfl | rfl <;> rfl
              have HSZ4 : Hid (w.heap.size ≤ (W3.alloc (.cells #[.string (bstr x.1.1), .bool b.has, .slice b.va b.vn b.vc, .int .i64 b.home, .int .u64 (b.count : Int)] 61)).heap.size) := by show _ ≤ _; have h1 := HFC.out.size; have h2 := HBS.out; rw [World.size_alloc]; omega
              go_simp
              refine hK _ _ ?_
              clear hK K
              try simp only [Act.put, List.setIfInBounds_toArray, List.set_cons_zero, List.set_cons_succ]
              refine wpAnyIn_ready (rs := [6]) (by kernel_rfl) (by simp) ?_
              refine AllReadyIn.cons rfl (fun K hK => ?_) (AllReadyIn.nil)
              refine step_appWIn rfl _ _ 40 rfl w.heap.size 61 i0 _ 5 64 Try.underlying40 hi hz0 hz1 hz2 rfl (by decide) (.slice Av m cv) m (itsR ys) rfl HO4.out (some ⟨W3.heap.size, 0, none⟩) 1 1 [.string (bstr x.1.1), .bool b.has, .slice b.va b.vn b.vc, .int .i64 b.home, .int .u64 (b.count : Int)] rfl rfl HS4.out HON.out (fun h => by cases h) (by unfold maxLen; have := HMK.out; omega) (by have := HMK.out; omega) HSZ4.out ?_
              intro v2 W5 ho2 hg2 hb2
              have HNX := Lib.hid (GatZ.next (x := (x.1.1, x.1.2.2)) (y := (x.1.1, b)) (K := KK) HGZ.out HBX0.out HYS.out HM.out rfl ((HFD.out.trans HFC.out).alloc _) rfl ((HCP.out.low (by have := HBS.out; omega)).fr (C := NoBlk) ((Fr.refl NoBlk W3).alloc _) fun _ _ e => e) HO4.out ho2 hg2 HKW.out)
              obtain ⟨A2, c2, rfl, _, _⟩ := own_form ho2
              have HB5 : Hid (Bk W5 gd 40 #[.slice Av m cv]) := ((HBXd.out.fr HFC.out fun h => h).alloc _).fr (Fr.ofGrown hg2) (fun e => own_apart HO4.out ((HBXd.out.fr HFC.out fun h => h).alloc _) (by decide) e.symm)
              have hf5 := HB5.out.free 0
              have hl5 : W5.cell? ⟨gd, 0, none⟩ = some (.slice Av m cv) := HB5.out.cell 0
              clear ho2 hg2 hb2
              refine hK _ _ ?_
              clear hK K
              try simp only [Act.put, List.setIfInBounds_toArray]
              refine wpAnyIn_ready (rs := [7]) (by kernel_rfl) (by simp) ?_
              refine AllReadyIn.cons rfl (fun K hK => ?_) (AllReadyIn.nil)
              go_simp
              refine hK _ _ ?_
              clear hK K
              try simp only [Act.put, List.setIfInBounds_toArray, List.set_cons_zero, List.set_cons_succ]
              refine wpAnyIn_done (by kernel_rfl) ?_ _
              gi_wp2
              refine ⟨HNX.out.1.from _, fun b hb => HNX.out.2.1 b (by rw [HKD.out]; exact .inl hb), ?_⟩
              exact HRI.out _ HNX.out.2.1 HNX.out.2.2
            · skip
              go_simp
              refine hK _ _ ?_
              clear hK K
              try simp only [Act.put, List.setIfInBounds_toArray, List.set_cons_zero, List.set_cons_succ]
              refine wpAnyIn_ready (rs := [0, 5]) (by kernel_rfl) (by simp) ?_
              refine AllReadyIn.cons rfl (fun K hK => ?_) (AllReadyIn.cons rfl (fun K hK => ?_) (AllReadyIn.nil))
              · skip
                go_simp
                refine hK _ _ ?_
                clear hK K
                try simp only [Act.put, List.setIfInBounds_toArray, List.set_cons_zero, List.set_cons_succ]
                refine wpAnyIn_ready (rs := [5]) (by kernel_rfl) (by simp) ?_
                refine AllReadyIn.cons rfl (fun K hK => ?_) (AllReadyIn.nil)
                have HO4 : Hid ((W3.alloc (.cells #[.string (bstr x.1.1), .bool b.has, .slice b.va b.vn b.vc, .int .i64 b.home, .int .u64 (b.count : Int)] 61)).ownsRow w.heap.size 61 5 (.slice Av m cv) m (itsR ys)) := own_fr (own_fr HOVd.out HFC.out fun _ _ h => h) ((Fr.refl NoBlk _).alloc _) fun _ _ h => h
                have HS4 : Hid (Rd (W3.alloc (.cells #[.string (bstr x.1.1), .bool b.has, .slice b.va b.vn b.vc, .int .i64 b.home, .int .u64 (b.count : Int)] 61)) (some ⟨W3.heap.size, 0, none⟩) [.string (bstr x.1.1), .bool b.has, .slice b.va b.vn b.vc, .int .i64 b.home, .int .u64 (b.count : Int)]) := Rd.of_cells (Bk.new W3 61 #[.string (bstr x.1.1), .bool b.has, .slice b.va b.vn b.vc, .int .i64 b.home, .int .u64 (b.count : Int)])
                have hld4 : (W3.alloc (.cells #[.string (bstr x.1.1), .bool b.has, .slice b.va b.vn b.vc, .int .i64 b.home, .int .u64 (b.count : Int)] 61)).cell? ⟨gd, 0, none⟩ = some (.slice Av m cv) := (((HBXd.out.fr HFC.out fun h => h)).alloc _).cell 0
                have HON : Hid (∀ u ∈ ([.string (bstr x.1.1), .bool b.has, .slice b.va b.vn b.vc, .int .i64 b.home, .int .u64 (b.count : Int)] : List Value), u.oneCell' = true) := by intro u hu; simp only [List.mem_cons, List.not_mem_nil, or_false] at hu; rcases hu with rfl | rfl | rfl | rfl | rfl <;> rfl
                have HSZ4 : Hid (w.heap.size ≤ (W3.alloc (.cells #[.string (bstr x.1.1), .bool b.has, .slice b.va b.vn b.vc, .int .i64 b.home, .int .u64 (b.count : Int)] 61)).heap.size) := by show _ ≤ _; have h1 := HFC.out.size; have h2 := HBS.out; rw [World.size_alloc]; omega
                go_simp
                refine hK _ _ ?_
                clear hK K
                try simp only [Act.put, List.setIfInBounds_toArray, List.set_cons_zero, List.set_cons_succ]
                refine wpAnyIn_ready (rs := [6]) (by kernel_rfl) (by simp) ?_
                refine AllReadyIn.cons rfl (fun K hK => ?_) (AllReadyIn.nil)
                refine step_appWIn rfl _ _ 40 rfl w.heap.size 61 i0 _ 5 64 Try.underlying40 hi hz0 hz1 hz2 rfl (by decide) (.slice Av m cv) m (itsR ys) rfl HO4.out (some ⟨W3.heap.size, 0, none⟩) 1 1 [.string (bstr x.1.1), .bool b.has, .slice b.va b.vn b.vc, .int .i64 b.home, .int .u64 (b.count : Int)] rfl rfl HS4.out HON.out (fun h => by cases h) (by unfold maxLen; have := HMK.out; omega) (by have := HMK.out; omega) HSZ4.out ?_
                intro v2 W5 ho2 hg2 hb2
                have HNX := Lib.hid (GatZ.next (x := (x.1.1, x.1.2.2)) (y := (x.1.1, b)) (K := KK) HGZ.out HBX0.out HYS.out HM.out rfl ((HFD.out.trans HFC.out).alloc _) rfl ((HCP.out.low (by have := HBS.out; omega)).fr (C := NoBlk) ((Fr.refl NoBlk W3).alloc _) fun _ _ e => e) HO4.out ho2 hg2 HKW.out)
                obtain ⟨A2, c2, rfl, _, _⟩ := own_form ho2
                have HB5 : Hid (Bk W5 gd 40 #[.slice Av m cv]) := ((HBXd.out.fr HFC.out fun h => h).alloc _).fr (Fr.ofGrown hg2) (fun e => own_apart HO4.out ((HBXd.out.fr HFC.out fun h => h).alloc _) (by decide) e.symm)
                have hf5 := HB5.out.free 0
                have hl5 : W5.cell? ⟨gd, 0, none⟩ = some (.slice Av m cv) := HB5.out.cell 0
                clear ho2 hg2 hb2
                refine hK _ _ ?_
                clear hK K
                try simp only [Act.put, List.setIfInBounds_toArray]
                refine wpAnyIn_ready (rs := [7]) (by kernel_rfl) (by simp) ?_
                refine AllReadyIn.cons rfl (fun K hK => ?_) (AllReadyIn.nil)
                go_simp
                refine hK _ _ ?_
                clear hK K
                try simp only [Act.put, List.setIfInBounds_toArray, List.set_cons_zero, List.set_cons_succ]
                refine wpAnyIn_done (by kernel_rfl) ?_ _
                gi_wp2
                refine ⟨HNX.out.1.from _, fun b hb => HNX.out.2.1 b (by rw [HKD.out]; exact .inl hb), ?_⟩
                exact HRI.out _ HNX.out.2.1 HNX.out.2.2
              · skip
                have HO4 : Hid ((W3.alloc (.cells #[.string (bstr x.1.1), .bool b.has, .slice b.va b.vn b.vc, .int .i64 b.home, .int .u64 (b.count : Int)] 61)).ownsRow w.heap.size 61 5 (.slice Av m cv) m (itsR ys)) := own_fr (own_fr HOVd.out HFC.out fun _ _ h => h) ((Fr.refl NoBlk _).alloc _) fun _ _ h => h
                have HS4 : Hid (Rd (W3.alloc (.cells #[.string (bstr x.1.1), .bool b.has, .slice b.va b.vn b.vc, .int .i64 b.home, .int .u64 (b.count : Int)] 61)) (some ⟨W3.heap.size, 0, none⟩) [.string (bstr x.1.1), .bool b.has, .slice b.va b.vn b.vc, .int .i64 b.home, .int .u64 (b.count : Int)]) := Rd.of_cells (Bk.new W3 61 #[.string (bstr x.1.1), .bool b.has, .slice b.va b.vn b.vc, .int .i64 b.home, .int .u64 (b.count : Int)])
                have hld4 : (W3.alloc (.cells #[.string (bstr x.1.1), .bool b.has, .slice b.va b.vn b.vc, .int .i64 b.home, .int .u64 (b.count : Int)] 61)).cell? ⟨gd, 0, none⟩ = some (.slice Av m cv) := (((HBXd.out.fr HFC.out fun h => h)).alloc _).cell 0
                have HON : Hid (∀ u ∈ ([.string (bstr x.1.1), .bool b.has, .slice b.va b.vn b.vc, .int .i64 b.home, .int .u64 (b.count : Int)] : List Value), u.oneCell' = true) := by intro u hu; simp only [List.mem_cons, List.not_mem_nil, or_false] at hu; rcases hu with rfl | rfl | rfl | rfl | rfl <;> rfl
                have HSZ4 : Hid (w.heap.size ≤ (W3.alloc (.cells #[.string (bstr x.1.1), .bool b.has, .slice b.va b.vn b.vc, .int .i64 b.home, .int .u64 (b.count : Int)] 61)).heap.size) := by show _ ≤ _; have h1 := HFC.out.size; have h2 := HBS.out; rw [World.size_alloc]; omega
                go_simp
                refine hK _ _ ?_
                clear hK K
                try simp only [Act.put, List.setIfInBounds_toArray, List.set_cons_zero, List.set_cons_succ]
                refine wpAnyIn_ready (rs := [0]) (by kernel_rfl) (by simp) ?_
                refine AllReadyIn.cons rfl (fun K hK => ?_) (AllReadyIn.nil)
                go_simp
                refine hK _ _ ?_
                clear hK K
                try simp only [Act.put, List.setIfInBounds_toArray, List.set_cons_zero, List.set_cons_succ]
                refine wpAnyIn_ready (rs := [6]) (by kernel_rfl) (by simp) ?_
                refine AllReadyIn.cons rfl (fun K hK => ?_) (AllReadyIn.nil)
                refine step_appWIn rfl _ _ 40 rfl w.heap.size 61 i0 _ 5 64 Try.underlying40 hi hz0 hz1 hz2 rfl (by decide) (.slice Av m cv) m (itsR ys) rfl HO4.out (some ⟨W3.heap.size, 0, none⟩) 1 1 [.string (bstr x.1.1), .bool b.has, .slice b.va b.vn b.vc, .int .i64 b.home, .int .u64 (b.count : Int)] rfl rfl HS4.out HON.out (fun h => by cases h) (by unfold maxLen; have := HMK.out; omega) (by have := HMK.out; omega) HSZ4.out ?_
                intro v2 W5 ho2 hg2 hb2
                have HNX := Lib.hid (GatZ.next (x := (x.1.1, x.1.2.2)) (y := (x.1.1, b)) (K := KK) HGZ.out HBX0.out HYS.out HM.out rfl ((HFD.out.trans HFC.out).alloc _) rfl ((HCP.out.low (by have := HBS.out; omega)).fr (C := NoBlk) ((Fr.refl NoBlk W3).alloc _) fun _ _ e => e) HO4.out ho2 hg2 HKW.out)
                obtain ⟨A2, c2, rfl, _, _⟩ := own_form ho2
                have HB5 : Hid (Bk W5 gd 40 #[.slice Av m cv]) := ((HBXd.out.fr HFC.out fun h => h).alloc _).fr (Fr.ofGrown hg2) (fun e => own_apart HO4.out ((HBXd.out.fr HFC.out fun h => h).alloc _) (by decide) e.symm)
                have hf5 := HB5.out.free 0
                have hl5 : W5.cell? ⟨gd, 0, none⟩ = some (.slice Av m cv) := HB5.out.cell 0
                clear ho2 hg2 hb2
                refine hK _ _ ?_
                clear hK K
                try simp only [Act.put, List.setIfInBounds_toArray]
                refine wpAnyIn_ready (rs := [7]) (by kernel_rfl) (by simp) ?_
                refine AllReadyIn.cons rfl (fun K hK => ?_) (AllReadyIn.nil)
                go_simp
                refine hK _ _ ?_
                clear hK K
                try simp only [Act.put, List.setIfInBounds_toArray, List.set_cons_zero, List.set_cons_succ]
                refine wpAnyIn_done (by kernel_rfl) ?_ _
                gi_wp2
                refine ⟨HNX.out.1.from _, fun b hb => HNX.out.2.1 b (by rw [HKD.out]; exact .inl hb), ?_⟩
                exact HRI.out _ HNX.out.2.1 HNX.out.2.2
  case done =>
    rintro D ys W hD hS hI hK
    have hgo := hI.gat.others (grownBy_putObj' W D (.deferred none)) (fun r e => by cases e; exact ⟨by have := HGE.out; omega, _, hK, rfl⟩)
    have hel : ys.map (fun z : El zs => z.1) = geL Op.bytesLess key zs := by
      have h1 := els_pre (Z := geL Op.bytesLess key zs) HS.out.tr.up (fun z hz => (List.mem_filter.1 hz).1) (ys := ys) (by rw [vz_ge]; exact hS ▸ List.prefix_refl _)
      have h2 : ys.length = (geL Op.bytesLess key zs).length := by have := congrArg List.length hS; rw [List.length_map, ← vz_ge, vz_len] at this; exact this
      rw [h1, h2, List.take_length]
    have HEL : Hid (gotR ys = rrange key most (rz zs)) := by
      show _ = _
      rw [← ge_range, ← got_rz hel, List.take_of_length_le hI.len]
    have hgo2 : GatZ w gd (rrange key most (rz zs)) (W.putObj D (.deferred none)) := by rw [← HEL.out]; exact hgo
    obtain ⟨v, zs2, hb, ho, hrs⟩ := hgo2.box
    have hc1 : W.cell? ⟨gd, 0, none⟩ = some v := by
      obtain ⟨v', zs2', hb', ho', _⟩ := hI.gat.box
      have h1 := hb'.others (grownBy_putObj' W D (.deferred none)) (fun r e => by cases e; exact ⟨_, hK, rfl⟩)
      have h2 : v' = v := by
        unfold Bk at h1 hb
        rw [h1] at hb
        simpa using hb
      rw [← h2]
      exact hb'.cell 0
    have HGO := Lib.hid hgo2
    have HO := Lib.hid ho
    have HRS := Lib.hid hrs
    have HKD := Lib.hid hK
    obtain ⟨Av, cv, rfl, _, _⟩ := own_form ho
    clear hI hb ho hrs hK hgo hgo2 hS hD hel
    obtain ⟨m, hm⟩ : ∃ m, m = (rrange key most (rz zs)).length := ⟨_, rfl⟩
    have HM := Lib.hid hm
    rw [← hm] at hc1
    clear hm
    gi_wp2
    refine ⟨by simp, .inl ⟨_, _, rfl, run_takeDeferred HKD.out, ?_⟩⟩
    refine ⟨_, results_tmp rfl _ _ _, Av, cv, zs2, by rw [← HM.out]; rfl, HO.out, HRS.out, HGO.out.fr⟩
  case stop =>
    rintro D c' pre W hD hS hF hK
    obtain ⟨rfl, pr, x, rfl, hI, hfull⟩ := hF
    have hgo := hI.gat.others (grownBy_putObj' W D (.deferred none)) (fun r e => by cases e; exact ⟨by have := HGE.out; omega, _, hK, rfl⟩)
    have HEL : Hid (gotR pr = rrange key most (rz zs)) := by
      show _ = _
      rw [← ge_range]
      exact (stop_rows (Z := geL Op.bytesLess key zs) HS.out.tr.up (fun z hz => (List.mem_filter.1 hz).1) (by rw [vz_ge]; exact hS) hfull).symm
    have hgo2 : GatZ w gd (rrange key most (rz zs)) (W.putObj D (.deferred none)) := by rw [← HEL.out]; exact hgo
    obtain ⟨v, zs2, hb, ho, hrs⟩ := hgo2.box
    have hc1 : W.cell? ⟨gd, 0, none⟩ = some v := by
      obtain ⟨v', zs2', hb', ho', _⟩ := hI.gat.box
      have h1 := hb'.others (grownBy_putObj' W D (.deferred none)) (fun r e => by cases e; exact ⟨_, hK, rfl⟩)
      have h2 : v' = v := by
        unfold Bk at h1 hb
        rw [h1] at hb
        simpa using hb
      rw [← h2]
      exact hb'.cell 0
    have HGO := Lib.hid hgo2
    have HO := Lib.hid ho
    have HRS := Lib.hid hrs
    have HKD := Lib.hid hK
    obtain ⟨Av, cv, rfl, _, _⟩ := own_form ho
    clear hI hb ho hrs hK hgo hgo2 hS hD hfull
    obtain ⟨m, hm⟩ : ∃ m, m = (rrange key most (rz zs)).length := ⟨_, rfl⟩
    have HM := Lib.hid hm
    rw [← hm] at hc1
    clear hm
    gi_wp2
    refine ⟨by simp, .inl ⟨_, _, rfl, run_takeDeferred HKD.out, ?_⟩⟩
    refine ⟨_, results_tmp rfl _ _ _, Av, cv, zs2, by rw [← HM.out]; rfl, HO.out, HRS.out, HGO.out.fr⟩
end Go.Proofs.Ytkdcacajacndmaa
