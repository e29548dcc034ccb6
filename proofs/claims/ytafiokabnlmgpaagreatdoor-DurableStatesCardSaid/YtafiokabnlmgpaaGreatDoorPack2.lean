/- Pack: a body's frames, in new memory: the walk. Conditions: lengths; the table holds its numbers. -/
import Derived.Test.YtafiokabnlmgpaaGreatDoorPack
import Derived.RangeFuncBox
import Derived.Maps.AppendAt
namespace Go.Proofs.YtafiokabnlmgpaaGreatDoor
open Go.RowKit Go.Shelf
attribute [local go_sem] Oper.semAt_some

set_option maxRecDepth 100000 in
set_option maxHeartbeats 4000000 in
theorem pack_any (w : World) (ht : Tab w) (A : Option Addr) (c : Nat) (l : Bs) (hr : Part w (A, c, l)) (hc : l.length ≤ c) (hl : l.length ≤ 10000000) :
    Calls Tryz.prog 95 #[.slice A l.length c] w fun e w' => ∃ v', e = .returned v' ∧ New w w' v' (pk l) := by
  obtain ⟨i0, hi, hz0, hz1, hz2⟩ := info_parts byteInfo
  have HT := Lib.hid ht
  have HR := Lib.hid hr
  have hpen : Pen (w.alloc (.cells #[.slice none 0 0] 131)) w.heap.size w.heap.size (.slice none 0 0) [] := ⟨Bk.new _ _ _, World.ownsRow_nil _ _ _ _⟩
  have hn := num_any (w.alloc (.cells #[.slice none 0 0] 131)) w.heap.size w.heap.size l.length _ _ hpen (by simp) (by omega) (by simp)
  have HF0 : Hid (Fr NoBlk w (w.alloc (.cells #[.slice none 0 0] 131))) := (Fr.refl _ _).alloc _
  have HN := Lib.hid hn
  clear ht hr hpen hn
  refine (callsIn_wide (n := 9)).1 ?_
  refine callsIn_of_wp_marks Tryz.func95 rfl trivial ?_ rfl
  simp only [Tryz.ntmps95, List.size_toArray, List.length_cons, List.length_nil, Nat.reduceAdd, Nat.reduceSub, Array.replicate_succ, Array.replicate_zero, List.push_toArray, List.append_toArray, List.nil_append, List.cons_append]
  gi_wp2
  refine ⟨trivial, (callsIn_wide.2 HN.out).mono ?_⟩
  clear HN
  rintro e w1 ⟨rfl, v1, hw1⟩
  have HF1 : Hid (Fr NoBlk w w1) := HF0.out.step hw1.fr fun i hi e => by
    rcases e with e | e
    · omega
    · cases e
  have HD := Lib.hid (data_any w1 w.heap.size w.heap.size v1 _ hw1.pen (by rw [List.nil_append]; have := num_len l.length (by omega); omega))
  rw [List.nil_append] at HD
  clear hw1
  gi_wp2
  refine ⟨trivial, (callsIn_wide.2 HD.out).mono ?_⟩
  clear HD
  rintro e w2 ⟨v2, rfl, hn2⟩
  obtain ⟨A2, c2, rfl, hc2, hA2⟩ := own_form hn2.own
  have HF2 := Lib.hid (HF1.out.trans hn2.fr)
  have HS := Lib.hid (sframed_any w2 (HT.out.fr HF2.out fun h => h) A2 (num l.length).length c2 (num l.length) rfl (Rd.of_own hn2.own) hA2 (by have := num_len l.length (by omega); omega))
  clear hn2 hc2 hA2 HF1
  obtain ⟨nl, hnl⟩ : ∃ nl, nl = (num l.length).length := ⟨_, rfl⟩
  rw [← hnl] at HS ⊢
  clear hnl
  gi_wp2
  refine ⟨trivial, (callsIn_wide.2 HS.out).mono ?_⟩
  clear HS
  rintro e w3 ⟨v3, rfl, hn3⟩
  have HF3 := Lib.hid (HF2.out.trans hn3.fr)
  have HO3 : Hid (w3.ownsRow w.heap.size 5 1 v3 (frameOf (num l.length)).length (cb (frameOf (num l.length)))) := own_base hn3.own HF2.out.size
  obtain ⟨A3, c3, rfl, _, _⟩ := own_form hn3.own
  clear hn3 HF2
  obtain ⟨h0, hh0⟩ : ∃ h0, h0 = frameOf (num l.length) := ⟨_, rfl⟩
  rw [← hh0] at HO3 ⊢
  have HH0 := Lib.hid hh0
  have HL0 : Hid (h0.length ≤ 100) := by
    show _ ≤ _
    rw [hh0, frameOf_len]
    have := num_len l.length (by omega)
    omega
  clear hh0
  obtain ⟨z0, hz0'⟩ : ∃ z0, z0 = h0.length := ⟨_, rfl⟩
  rw [← hz0'] at HO3 ⊢
  have HZ0 := Lib.hid hz0'
  clear hz0'
  gi_wp2
  refine ⟨trivial, (callsIn_wide.2 (chunk_any _ _ _ _)).mono ?_⟩
  rintro e w5 ⟨rfl, hw5⟩
  obtain ⟨gd, hgd⟩ : ∃ gd, gd = w3.heap.size := ⟨_, rfl⟩
  have hsz4 : (w3.alloc (.cells #[.slice A3 z0 c3] 55)).heap.size = gd + 1 := by rw [World.size_alloc, hgd]
  rw [hsz4, ← hgd]
  have hb4 : Bk (w3.alloc (.cells #[.slice A3 z0 c3] 55)) gd 55 #[.slice A3 z0 c3] := by rw [hgd]; exact Bk.new _ _ _
  have hb5 : Bk w5 gd 55 #[.slice A3 z0 c3] := by rw [hw5]; exact (hb4.alloc _).alloc _
  have hb51 : Bk w5 (gd + 1) 55 #[.slice A l.length c] := by
    rw [hw5, ← hsz4]
    exact (Bk.new _ _ _).alloc _
  have hb52 : Bk w5 (gd + 1 + 1) 3 #[.int .i64 1024] := by
    rw [hw5, ← hsz4]
    have h := Bk.new ((w3.alloc (.cells #[.slice A3 z0 c3] 55)).alloc (.cells #[.slice A l.length c] 55)) 3 #[.int .i64 1024]
    rw [World.size_alloc (w3.alloc (.cells #[.slice A3 z0 c3] 55))] at h
    exact h
  have hf35 : Fr NoBlk w3 w5 := by rw [hw5]; exact ((Fr.refl NoBlk w3).alloc _).alloc _ |>.alloc _
  have hs5 : w5.heap.size = gd + 1 + 1 + 1 := by rw [hw5, World.size_alloc, World.size_alloc, hsz4]
  have hge : w.heap.size ≤ gd := by rw [hgd]; exact HF3.out.size
  have HI0 : Hid (PkAt w gd (gd + 1) (gd + 1 + 1) A l.length c (h0 ++ frames ([] : List Bs)) w5) := by
    rw [show frames ([] : List Bs) = [] from rfl, List.append_nil]
    exact ⟨⟨_, hb5, by rw [← HZ0.out]; exact own_fr HO3.out hf35 fun _ _ h => h⟩, HF3.out.trans hf35, hb51, hb52, hge, by omega⟩
  have HST := Lib.hid (chunk_stops 8 (gd + 1) (gd + 1 + 1) (by omega) (fun i => i < w.heap.size ∨ i = gd + 1 ∨ i = gd + 1 + 1) w A c l (.inr (.inl rfl)) (.inr (.inr rfl)) HR.out hc (by omega) w5 hb51.lt hb52.lt (hb51.cell 0) (hb52.cell 0))
  have hKK : ∀ k, (k < w.heap.size ∨ k = gd + 1 ∨ k = gd + 1 + 1) → k < w5.heap.size := fun k hk => by omega
  clear hb4 hb5 hb51 hb52 hf35 hgd hsz4 HO3 hw5
  gi_wp2
  refine wpIn_rangeFunc_ownF rfl (by omega) (gf := 156) (lb := #[.pointer (some ⟨gd + 1, 0, none⟩), .pointer (some ⟨gd + 1 + 1, 0, none⟩)]) rfl trivial (enters_of Tryz.func156 (by kernel_rfl) rfl)
    HST.out (fun h k => h.t k) (Keep.b hKK) (Below.refl _ _) (fun _ => rfl)
    (fun pre W => PkAt w gd (gd + 1) (gd + 1 + 1) A l.length c (h0 ++ frames (pre.map (·.1.2.2))) W)
    (fun _ _ _ => False)
    (fun s W W' row hs hg hr => hs.others hg fun r e => ⟨by have := (hr r e).1; omega, (hr r e).2⟩)
    (fun _ _ _ _ _ hs _ _ => hs)
    HI0.out
    (fun x => { tmps := #[.slice A l.length c, undef, .slice none 0 0, .pointer (some ⟨w.heap.size, 0, none⟩), .pointer (some ⟨gd, 0, none⟩), sl x.1, .agg #[.slice none 0 0], .pointer (some ⟨w.heap.size, 0, none⟩), .pointer (some ⟨w.heap.size, 0, none⟩), .slice A l.length c, .int .i64 l.length, .int .u64 l.length, .tuple #[], .pointer (some ⟨w.heap.size, 0, none⟩), .slice A2 nl c2, .slice A3 z0 c3, .slice A l.length c, .func (.func 156) #[] #[.pointer (some ⟨gd + 1, 0, none⟩), .pointer (some ⟨gd + 1 + 1, 0, none⟩)], sl x.1, undef, undef, undef, undef, undef], defers := [] }) ?assign ?body ?done ?stop
  case assign =>
    intro l' x W K hK
    gi_wp2
    exact hK
  case body =>
    rintro l' pre x W hI hlen
    have HI := Lib.hid hI
    obtain ⟨v, hbx, hov⟩ := hI.box
    obtain ⟨Av, cv, rfl, hcv, hAv⟩ := own_form hov
    have HBX := Lib.hid hbx
    have HOV := Lib.hid hov
    have HK := Lib.hid fun W1 (hf : Fr NoBlk W W1) => sframed_any W1 (HT.out.fr (hI.fr.trans hf) fun h => h) x.1.1 x.1.2.2.length x.1.2.1 x.1.2.2 rfl (x.2.1.1.nofr (hI.fr.trans hf)) x.2.1.2 (by have := x.2.2; omega)
    have hc1 : W.cell? ⟨gd, 0, none⟩ = some (.slice Av (h0 ++ frames (pre.map (·.1.2.2))).length cv) := hbx.cell 0
    have hfz := hbx.free 0
    have HLE : Hid ((h0 ++ frames (pre.map (·.1.2.2))).length + (frameOf x.1.2.2).length ≤ 100000000000) := by
      show _ ≤ _
      have h1 := parts_le pre
      have h2 := HL0.out
      have h3 := x.2.2
      rw [List.length_append, frameOf_len]
      omega
    obtain ⟨hh, hhe⟩ : ∃ hh, hh = h0 ++ frames (pre.map (·.1.2.2)) := ⟨_, rfl⟩
    rw [← hhe] at HI HOV hc1 HLE
    obtain ⟨hhl, hhle⟩ : ∃ hhl, hhl = hh.length := ⟨_, rfl⟩
    rw [← hhle] at hc1 HLE
    have HHE := Lib.hid hhe
    have HHL := Lib.hid hhle
    clear hI hbx hov hcv hAv hhe hhle
    unfold sl
    have hd : 1 ≤ 9 - 1 - 1 := by omega
    have hmx : Tryz.prog.follows .mixedOrders = true := by kernel_rfl
    obtain ⟨xl, hxl⟩ : ∃ xl, xl = x.1.2.2.length := ⟨_, rfl⟩
    rw [← hxl] at HK ⊢
    clear hxl
    gi_wp2
    have HBX2 : Hid (Bk W gd 55 #[.slice Av hhl cv]) := by show Bk _ _ _ _; rw [HHL.out, HHE.out]; exact HBX.out
    clear HBX
    have HBX := HBX2
    have HOVE : Hid (hhl = hh.length) := HHL.out
    have HOVF : Hid (∀ W1, Fr NoBlk W W1 → W1.ownsRow w.heap.size 5 1 (.slice Av hhl cv) hhl (cb hh)) := fun W1 hf => by
      have h := own_fr HOV.out hf fun _ _ h => h
      rw [HHL.out]; exact h
    clear HBX2
    refine wpIn_region_any (by assumption) ?_
    change wpAnyIn _ _ _ _ _ _ _ _ _ (World.drew _)
    refine wpAnyIn_ready (rs := [0, 1]) (by kernel_rfl) (by simp) ?_
    refine AllReadyIn.cons rfl (fun K hK => ?_) (AllReadyIn.cons rfl (fun K hK => ?_) AllReadyIn.nil)
    · skip
      go_simp
      refine hK _ _ ?_
      clear hK K
      try simp only [Act.put, List.setIfInBounds_toArray, List.set_cons_zero, List.set_cons_succ]
      refine wpAnyIn_ready (rs := [1]) (by kernel_rfl) (by simp) ?_
      refine AllReadyIn.cons rfl (fun K hK => ?_) AllReadyIn.nil
      go_simp
      refine hK _ _ ?_
      clear hK K
      try simp only [Act.put, List.setIfInBounds_toArray, List.set_cons_zero, List.set_cons_succ]
      refine wpAnyIn_ready (rs := [2]) (by kernel_rfl) (by simp) ?_
      refine AllReadyIn.cons rfl (fun K hK => ?_) AllReadyIn.nil
      go_simp
      refine ⟨trivial, ?_⟩
      refine (CallsIn.inRound l' (callsIn_wide.2 (HK.out _ (Fr.refl _ _).drew))).mono ?_
      rintro e W1 ⟨v1, rfl, hn1⟩
      obtain ⟨A1, c1, rfl, hc1', hA1⟩ := own_form hn1.own
      have HN1 := Lib.hid hn1
      have hld1 : W1.cell? ⟨gd, 0, none⟩ = some (.slice Av hhl cv) := (HBX.out.fr (Fr.trans (Fr.refl _ _).drew hn1.fr) fun h => h).cell 0
      have hfz1 : W1.frozen? ⟨gd, 0, none⟩ = false := (HBX.out.fr (Fr.trans (Fr.refl _ _).drew hn1.fr) fun h => h).free 0
      have HOV1 : Hid (W1.ownsRow w.heap.size 5 1 (.slice Av hhl cv) hhl (cb hh)) := HOVF.out W1 (Fr.trans (Fr.refl _ _).drew hn1.fr)
      have HRD1 : Hid (Rd W1 A1 (cb (frameOf x.1.2.2))) := Rd.of_own hn1.own
      have HA1 := Lib.hid hA1
      have HSZ1 : Hid (w.heap.size ≤ W1.heap.size) := (Fr.trans HI.out.fr (Fr.trans (Fr.refl _ _).drew hn1.fr)).size
      clear hn1 hA1 hc1' 
      refine hK _ _ ?_
      clear hK K
      try simp only [Act.put, List.setIfInBounds_toArray, List.set_cons_zero, List.set_cons_succ]
      refine wpAnyIn_ready (rs := [3]) (by kernel_rfl) (by simp) ?_
      refine AllReadyIn.cons rfl (fun K hK => ?_) AllReadyIn.nil
      refine step_appIn rfl _ _ 55 rfl w.heap.size 5 i0 (.int .u8 0) 1 Tryz.underlying55 hi hz0 hz1 hz2 rfl (.slice Av hhl cv) hhl (cb hh) rfl HOV1.out A1 c1 (frameOf x.1.2.2).length (cb (frameOf x.1.2.2)) rfl (cb_length _) HRD1.out (cb_one _) HA1.out (by unfold maxLen; have := HLE.out; omega) (by have := HLE.out; omega) HSZ1.out ?_
      intro v2 W2 ho2 hg2 _ hb2
      obtain ⟨A2', c2', rfl, _, _⟩ := own_form ho2
      have HNX := Lib.hid (PkAt.next (n := l.length) (c := c) HI.out (v := .slice Av hhl cv) HBX.out (Fr.trans (Fr.refl _ _).drew HN1.out.fr) HOVE.out HOV1.out ho2 hg2)
      have HB2 : Hid (Bk W2 gd 55 #[.slice Av hhl cv]) := (HBX.out.fr (Fr.trans (Fr.refl _ _).drew HN1.out.fr) fun h => h).fr (Fr.ofGrown hg2) (fun e => own_apart HOV1.out (HBX.out.fr (Fr.trans (Fr.refl _ _).drew HN1.out.fr) fun h => h) (by decide) e.symm)
      have hf2 := HB2.out.free 0
      have hl2 : W2.cell? ⟨gd, 0, none⟩ = some (.slice Av hhl cv) := HB2.out.cell 0
      clear ho2 hg2 hb2
      refine hK _ _ ?_
      clear hK K
      try simp only [Act.put, List.setIfInBounds_toArray]
      refine wpAnyIn_ready (rs := [4]) (by kernel_rfl) (by simp) ?_
      refine AllReadyIn.cons rfl (fun K hK => ?_) AllReadyIn.nil
      go_simp
      refine hK _ _ ?_
      clear hK K
      try simp only [Act.put, List.setIfInBounds_toArray, List.set_cons_zero, List.set_cons_succ]
      refine wpAnyIn_done (by kernel_rfl) ?_ _
      gi_wp2
      refine ⟨HNX.out.2.1, HNX.out.2.2, ?_⟩
      show PkAt w gd (gd + 1) (gd + 1 + 1) A l.length c (h0 ++ frames ((pre ++ [x]).map (·.1.2.2))) _
      rw [List.map_append, frames_append, ← List.append_assoc, ← HHE.out, List.map_cons, List.map_nil, frames_one]
      exact HNX.out.1
    · skip
      go_simp
      refine hK _ _ ?_
      clear hK K
      try simp only [Act.put, List.setIfInBounds_toArray, List.set_cons_zero, List.set_cons_succ]
      refine wpAnyIn_ready (rs := [0, 2]) (by kernel_rfl) (by simp) ?_
      refine AllReadyIn.cons rfl (fun K hK => ?_) (AllReadyIn.cons rfl (fun K hK => ?_) AllReadyIn.nil)
      · skip
        go_simp
        refine hK _ _ ?_
        clear hK K
        try simp only [Act.put, List.setIfInBounds_toArray, List.set_cons_zero, List.set_cons_succ]
        refine wpAnyIn_ready (rs := [2]) (by kernel_rfl) (by simp) ?_
        refine AllReadyIn.cons rfl (fun K hK => ?_) AllReadyIn.nil
        go_simp
        refine ⟨trivial, ?_⟩
        refine (CallsIn.inRound l' (callsIn_wide.2 (HK.out _ (Fr.refl _ _).drew))).mono ?_
        rintro e W1 ⟨v1, rfl, hn1⟩
        obtain ⟨A1, c1, rfl, hc1', hA1⟩ := own_form hn1.own
        have HN1 := Lib.hid hn1
        have hld1 : W1.cell? ⟨gd, 0, none⟩ = some (.slice Av hhl cv) := (HBX.out.fr (Fr.trans (Fr.refl _ _).drew hn1.fr) fun h => h).cell 0
        have hfz1 : W1.frozen? ⟨gd, 0, none⟩ = false := (HBX.out.fr (Fr.trans (Fr.refl _ _).drew hn1.fr) fun h => h).free 0
        have HOV1 : Hid (W1.ownsRow w.heap.size 5 1 (.slice Av hhl cv) hhl (cb hh)) := HOVF.out W1 (Fr.trans (Fr.refl _ _).drew hn1.fr)
        have HRD1 : Hid (Rd W1 A1 (cb (frameOf x.1.2.2))) := Rd.of_own hn1.own
        have HA1 := Lib.hid hA1
        have HSZ1 : Hid (w.heap.size ≤ W1.heap.size) := (Fr.trans HI.out.fr (Fr.trans (Fr.refl _ _).drew hn1.fr)).size
        clear hn1 hA1 hc1' 
        refine hK _ _ ?_
        clear hK K
        try simp only [Act.put, List.setIfInBounds_toArray, List.set_cons_zero, List.set_cons_succ]
        refine wpAnyIn_ready (rs := [3]) (by kernel_rfl) (by simp) ?_
        refine AllReadyIn.cons rfl (fun K hK => ?_) AllReadyIn.nil
        refine step_appIn rfl _ _ 55 rfl w.heap.size 5 i0 (.int .u8 0) 1 Tryz.underlying55 hi hz0 hz1 hz2 rfl (.slice Av hhl cv) hhl (cb hh) rfl HOV1.out A1 c1 (frameOf x.1.2.2).length (cb (frameOf x.1.2.2)) rfl (cb_length _) HRD1.out (cb_one _) HA1.out (by unfold maxLen; have := HLE.out; omega) (by have := HLE.out; omega) HSZ1.out ?_
        intro v2 W2 ho2 hg2 _ hb2
        obtain ⟨A2', c2', rfl, _, _⟩ := own_form ho2
        have HNX := Lib.hid (PkAt.next (n := l.length) (c := c) HI.out (v := .slice Av hhl cv) HBX.out (Fr.trans (Fr.refl _ _).drew HN1.out.fr) HOVE.out HOV1.out ho2 hg2)
        have HB2 : Hid (Bk W2 gd 55 #[.slice Av hhl cv]) := (HBX.out.fr (Fr.trans (Fr.refl _ _).drew HN1.out.fr) fun h => h).fr (Fr.ofGrown hg2) (fun e => own_apart HOV1.out (HBX.out.fr (Fr.trans (Fr.refl _ _).drew HN1.out.fr) fun h => h) (by decide) e.symm)
        have hf2 := HB2.out.free 0
        have hl2 : W2.cell? ⟨gd, 0, none⟩ = some (.slice Av hhl cv) := HB2.out.cell 0
        clear ho2 hg2 hb2
        refine hK _ _ ?_
        clear hK K
        try simp only [Act.put, List.setIfInBounds_toArray]
        refine wpAnyIn_ready (rs := [4]) (by kernel_rfl) (by simp) ?_
        refine AllReadyIn.cons rfl (fun K hK => ?_) AllReadyIn.nil
        go_simp
        refine hK _ _ ?_
        clear hK K
        try simp only [Act.put, List.setIfInBounds_toArray, List.set_cons_zero, List.set_cons_succ]
        refine wpAnyIn_done (by kernel_rfl) ?_ _
        gi_wp2
        refine ⟨HNX.out.2.1, HNX.out.2.2, ?_⟩
        show PkAt w gd (gd + 1) (gd + 1 + 1) A l.length c (h0 ++ frames ((pre ++ [x]).map (·.1.2.2))) _
        rw [List.map_append, frames_append, ← List.append_assoc, ← HHE.out, List.map_cons, List.map_nil, frames_one]
        exact HNX.out.1
      · skip
        go_simp
        refine ⟨trivial, ?_⟩
        refine (CallsIn.inRound l' (callsIn_wide.2 (HK.out _ (Fr.refl _ _).drew))).mono ?_
        rintro e W1 ⟨v1, rfl, hn1⟩
        obtain ⟨A1, c1, rfl, hc1', hA1⟩ := own_form hn1.own
        have HN1 := Lib.hid hn1
        have hld1 : W1.cell? ⟨gd, 0, none⟩ = some (.slice Av hhl cv) := (HBX.out.fr (Fr.trans (Fr.refl _ _).drew hn1.fr) fun h => h).cell 0
        have hfz1 : W1.frozen? ⟨gd, 0, none⟩ = false := (HBX.out.fr (Fr.trans (Fr.refl _ _).drew hn1.fr) fun h => h).free 0
        have HOV1 : Hid (W1.ownsRow w.heap.size 5 1 (.slice Av hhl cv) hhl (cb hh)) := HOVF.out W1 (Fr.trans (Fr.refl _ _).drew hn1.fr)
        have HRD1 : Hid (Rd W1 A1 (cb (frameOf x.1.2.2))) := Rd.of_own hn1.own
        have HA1 := Lib.hid hA1
        have HSZ1 : Hid (w.heap.size ≤ W1.heap.size) := (Fr.trans HI.out.fr (Fr.trans (Fr.refl _ _).drew hn1.fr)).size
        clear hn1 hA1 hc1' 
        refine hK _ _ ?_
        clear hK K
        try simp only [Act.put, List.setIfInBounds_toArray, List.set_cons_zero, List.set_cons_succ]
        refine wpAnyIn_ready (rs := [0]) (by kernel_rfl) (by simp) ?_
        refine AllReadyIn.cons rfl (fun K hK => ?_) AllReadyIn.nil
        go_simp
        refine hK _ _ ?_
        clear hK K
        try simp only [Act.put, List.setIfInBounds_toArray, List.set_cons_zero, List.set_cons_succ]
        refine wpAnyIn_ready (rs := [3]) (by kernel_rfl) (by simp) ?_
        refine AllReadyIn.cons rfl (fun K hK => ?_) AllReadyIn.nil
        refine step_appIn rfl _ _ 55 rfl w.heap.size 5 i0 (.int .u8 0) 1 Tryz.underlying55 hi hz0 hz1 hz2 rfl (.slice Av hhl cv) hhl (cb hh) rfl HOV1.out A1 c1 (frameOf x.1.2.2).length (cb (frameOf x.1.2.2)) rfl (cb_length _) HRD1.out (cb_one _) HA1.out (by unfold maxLen; have := HLE.out; omega) (by have := HLE.out; omega) HSZ1.out ?_
        intro v2 W2 ho2 hg2 _ hb2
        obtain ⟨A2', c2', rfl, _, _⟩ := own_form ho2
        have HNX := Lib.hid (PkAt.next (n := l.length) (c := c) HI.out (v := .slice Av hhl cv) HBX.out (Fr.trans (Fr.refl _ _).drew HN1.out.fr) HOVE.out HOV1.out ho2 hg2)
        have HB2 : Hid (Bk W2 gd 55 #[.slice Av hhl cv]) := (HBX.out.fr (Fr.trans (Fr.refl _ _).drew HN1.out.fr) fun h => h).fr (Fr.ofGrown hg2) (fun e => own_apart HOV1.out (HBX.out.fr (Fr.trans (Fr.refl _ _).drew HN1.out.fr) fun h => h) (by decide) e.symm)
        have hf2 := HB2.out.free 0
        have hl2 : W2.cell? ⟨gd, 0, none⟩ = some (.slice Av hhl cv) := HB2.out.cell 0
        clear ho2 hg2 hb2
        refine hK _ _ ?_
        clear hK K
        try simp only [Act.put, List.setIfInBounds_toArray]
        refine wpAnyIn_ready (rs := [4]) (by kernel_rfl) (by simp) ?_
        refine AllReadyIn.cons rfl (fun K hK => ?_) AllReadyIn.nil
        go_simp
        refine hK _ _ ?_
        clear hK K
        try simp only [Act.put, List.setIfInBounds_toArray, List.set_cons_zero, List.set_cons_succ]
        refine wpAnyIn_done (by kernel_rfl) ?_ _
        gi_wp2
        refine ⟨HNX.out.2.1, HNX.out.2.2, ?_⟩
        show PkAt w gd (gd + 1) (gd + 1 + 1) A l.length c (h0 ++ frames ((pre ++ [x]).map (·.1.2.2))) _
        rw [List.map_append, frames_append, ← List.append_assoc, ← HHE.out, List.map_cons, List.map_nil, frames_one]
        exact HNX.out.1
  case done =>
    rintro D xs W hD hS hI hK
    rw [hS] at hI
    have HPK : Hid (h0 ++ frames (chunks l) = pk l) := by show _ = _; rw [HH0.out]; rfl
    rw [HPK.out] at hI
    obtain ⟨v, hb, ho⟩ := hI.box
    have hc1 : W.cell? ⟨gd, 0, none⟩ = some v := hb.cell 0
    have HD := Lib.hid hD
    have HO := Lib.hid ho
    have HI := Lib.hid hI
    have HKD := Lib.hid hK
    obtain ⟨Av, cv, rfl, _, _⟩ := own_form ho
    clear hI hS hb ho hD hK
    gi_wp2
    refine ⟨by simp, .inl ⟨_, _, rfl, run_takeDeferred HKD.out, ?_⟩⟩
    refine ⟨_, results_tmp rfl _ _ _, _, rfl, own_others HO.out (grownBy_putObj' W D _) (fun r e => ?_), HI.out.fr.grown (grownBy_putObj' W D _) fun r e hl => ?_⟩
    · cases e
      exact ⟨_, HKD.out, rfl⟩
    · cases e
      have := HD.out
      have := HI.out.fr.size
      omega
  case stop =>
    rintro D c' pre W _ _ h _
    exact h.elim
end Go.Proofs.YtafiokabnlmgpaaGreatDoor
