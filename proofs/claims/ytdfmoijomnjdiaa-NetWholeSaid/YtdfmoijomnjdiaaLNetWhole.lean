/- NetWhole is true: each parcel that is sent comes as it was sent, as often as it was sent and copied, and nothing else comes. No condition. -/
import Derived.Test.YtdfmoijomnjdiaaOpenN
namespace Go.Proofs.Ytdfmoijomnjdiaa.netWhole
open Go.ChangeShapes Go.WideShapes Go.ChangeAt Go.RowKit Go.Maps Go.ChangeMaps Go.MapKept

theorem arg_at {w : World} {A : Option Addr} {xs : List Pc} (h : Rd w A (pcsc xs)) {k : Nat} {x : Pc} (hx : xs[k]? = some x) :
    ∃ b o, A = some ⟨b, o, none⟩ ∧ ∀ w', Fr NoBlk w w' → w'.cell? ⟨b, o + k * 7, none⟩ = some (.int .i64 x.src) ∧ w'.cell? ⟨b, o + k * 7 + 1, none⟩ = some (.int .i64 x.dst) ∧ w'.cell? ⟨b, o + k * 7 + 2, none⟩ = some (.int .u64 x.ep) ∧ w'.cell? ⟨b, o + k * 7 + 3, none⟩ = some (.int .u64 x.pe) ∧ w'.cell? ⟨b, o + k * 7 + 4, none⟩ = some (.int .u64 x.sq) ∧ w'.cell? ⟨b, o + k * 7 + 5, none⟩ = some (.int .u64 x.ak) ∧ w'.cell? ⟨b, o + k * 7 + 6, none⟩ = some (.slice x.d.1 x.d.2.2.length x.d.2.1) := by
  obtain ⟨b, o, e, _⟩ := Rd.cat pcc 7 pcc_len h (by omega) hx
  refine ⟨b, o, e, fun w' hf => ?_⟩
  obtain ⟨b', o', e', hc⟩ := Rd.cat pcc 7 pcc_len (h.nofr hf) (by omega) hx
  rw [e] at e'
  injection e' with e'
  injection e' with e1 e2
  subst e1 e2
  exact ⟨hc 0 _ rfl, hc 1 _ rfl, hc 2 _ rfl, hc 3 _ rfl, hc 4 _ rfl, hc 5 _ rfl, hc 6 _ rfl⟩

set_option maxRecDepth 100000 in
set_option maxHeartbeats 8000000 in
theorem walk (w : World) (A : Option Addr) (c : Nat) (xs : List Pc) (hr : Rd w A (pcsc xs)) (hx : ∀ x ∈ xs, PcIn w x) (B : Option Addr) (d : Nat) (ks : List Int) (hr2 : Rd w B (ks.map fun z => .int .i64 z)) :
    Calls Try.prog 4 #[.slice A xs.length c, .slice B ks.length d] w fun e w' => e = .returned (.bool true) ∧ Fr NoBlk w w' := by
  have HR : Hid (Rd w A (pcsc xs)) := hr
  have HR2 : Hid (Rd w B (ks.map fun z => .int .i64 z)) := hr2
  have HXS : Hid (∀ x ∈ xs, PcIn w x) := hx
  have HARG : Hid (∀ {k : Nat} {x : Pc}, xs[k]? = some x → ∃ b o, A = some ⟨b, o, none⟩ ∧ ∀ w', Fr NoBlk w w' → w'.cell? ⟨b, o + k * 7, none⟩ = some (.int .i64 x.src) ∧ w'.cell? ⟨b, o + k * 7 + 1, none⟩ = some (.int .i64 x.dst) ∧ w'.cell? ⟨b, o + k * 7 + 2, none⟩ = some (.int .u64 x.ep) ∧ w'.cell? ⟨b, o + k * 7 + 3, none⟩ = some (.int .u64 x.pe) ∧ w'.cell? ⟨b, o + k * 7 + 4, none⟩ = some (.int .u64 x.sq) ∧ w'.cell? ⟨b, o + k * 7 + 5, none⟩ = some (.int .u64 x.ak) ∧ w'.cell? ⟨b, o + k * 7 + 6, none⟩ = some (.slice x.d.1 x.d.2.2.length x.d.2.1)) := fun h => arg_at hr h
  clear hr hr2 hx
  go_enter Try.func4, Try.ntmps4
  go_wp2_with fail
  refine (speaks_any w).mono ?_
  rintro e w1 ⟨rfl, hf1⟩
  have HF1 := Lib.hid hf1
  clear hf1
  by_cases hb1 : 50 < xs.length
  · have hb1' : (50 : Int) < (xs.length : Int) := by omega
    go_wp2_with fail
    go_ret
    exact ⟨rfl, HF1.out⟩
  have hb1' : ¬ (50 : Int) < (xs.length : Int) := by omega
  by_cases hb2 : 50 < ks.length
  · have hb2' : (50 : Int) < (ks.length : Int) := by omega
    go_wp2_with fail
    go_ret
    exact ⟨rfl, HF1.out⟩
  have hb2' : ¬ (50 : Int) < (ks.length : Int) := by omega
  have hx50 : xs.length ≤ 50 := by omega
  have hk50 : ks.length ≤ 50 := by omega
  clear hb1 hb2
  go_wp2_with fail
  refine (nk_new w w1 (fun _ => False) HF1.out (noS w1)).mono ?_
  rintro e w2 ⟨g, rfl, hn, hf2⟩
  have HN2 := Lib.hid hn
  have HF2 : Hid (Fr NoBlk w w2) := HF1.out.trans hf2
  clear hn hf2 HF1 hb1' hb2'
  go_wp2_with fail
  go_loopw [32] (fun s wr => ∃ j : Nat, j ≤ xs.length ∧ s = .int .i64 (j : Int) ∧ Hid (NK w wr (fun _ => False) g ((xs.take j).map pvl)) ∧ Hid (Fr NoBlk w wr)) (fun s _ => xs.length - (intOf s).toNat)
  case atStart => exact ⟨0, by omega, rfl, HN2, HF2⟩
  case round =>
    obtain ⟨j, hj, rfl, HJ, HFJ⟩ := hrel
    by_cases hlt : j < xs.length
    · obtain ⟨x, hx⟩ : ∃ x, xs[j]? = some x := ⟨_, List.getElem?_eq_getElem hlt⟩
      obtain ⟨b, o, hA, hc⟩ := HARG.out hx
      obtain ⟨u0, u1, u2, u3, u4, u5, u6⟩ := hc wr HFJ.out
      have HXJ := Lib.hid hx
      have HXI := Lib.hid (HXS.out x (List.mem_of_getElem? hx))
      have HF3 : Hid (Fr NoBlk wr (wr.alloc (.cells (pca x) 35))) := (Fr.refl _ _).alloc _
      have HN3 : Hid (NK w (wr.alloc (.cells (pca x) 35)) (fun _ => False) g ((xs.take j).map pvl)) := HJ.out.nofr HF3.out
      have HFZ : Hid (Fr NoBlk w (wr.alloc (.cells (pca x) 35))) := HFJ.out.trans HF3.out
      rw [hA]
      unfold pca at HFZ HN3 HF3
      clear hA hx hc
      by_cases h500 : 500 < x.d.2.2.length
      · have h500' : (500 : Int) < (x.d.2.2.length : Int) := by omega
        go_wp2_with fail
        go_ret
        exact ⟨rfl, HFZ.out⟩
      have h500' : ¬ (500 : Int) < (x.d.2.2.length : Int) := by omega
      have HSD := Lib.hid (nk_send HN3.out HFZ.out (noS _) x (HXI.out.rd.nofr HFZ.out) HXI.out.nil (by omega))
      clear h500
      go_wp2_with fail
      refine HSD.out.mono ?_
      rintro e w4 ⟨hf, ⟨h4, _⟩ | ⟨_, rfl, hn⟩⟩
      · simp at h4; omega
      have HN4 : Hid (NK w w4 (fun _ => False) g ((xs.take (j + 1)).map pvl)) := by
        show NK _ _ _ _ _
        rw [List.take_add_one, HXJ.out, List.map_append]
        exact hn
      have HF4 : Hid (Fr NoBlk w w4) := Out.none_ HFZ.out hf
      clear hf hn HSD h500' u0 u1 u2 u3 u4 u5 u6
      go_wp2_with fail
      go_roundw
      case rel => exact ⟨j + 1, by omega, by go_num, HN4, HF4⟩
      case measure => simp [intOf]; omega
    · have HJE : Hid (NK w wr (fun _ => False) g (xs.map pvl)) := by
        have h := HJ.out
        rw [List.take_of_length_le (by omega)] at h
        exact h
      clear HJ
      go_wp2_with fail
      go_loopw [8, 50] (fun s t wr => ∃ (j : Nat) (vs : List Vl), j ≤ ks.length ∧ s = .int .i64 (vs.length : Int) ∧ t = .int .i64 (j : Int) ∧ vs.length ≤ 50 + j ∧ Hid ((∀ v ∈ vs, v ∈ xs.map pvl) ∧ xs.map pvl <+: vs) ∧ Hid (NK w wr (fun _ => False) g vs) ∧ Hid (Fr NoBlk w wr)) (fun _ t _ => ks.length - (intOf t).toNat)
      case atStart => exact ⟨0, xs.map pvl, by omega, by simp, rfl, by simp; omega, ⟨fun _ h => h, List.prefix_refl _⟩, HJE, HFJ⟩
      case round =>
        obtain ⟨j, vs, hj, rfl, rfl, hvl, HVS, HK, HFK⟩ := hrel
        by_cases hlt : j < ks.length
        · obtain ⟨x, hx⟩ : ∃ x, ks[j]? = some x := ⟨_, List.getElem?_eq_getElem hlt⟩
          obtain ⟨b, o, hB, hc⟩ := (HR2.out.nofr HFK.out).at_ (k := j) (v := .int .i64 x) (by rw [List.getElem?_map, hx]; rfl)
          have HCP := Lib.hid (nk_copy HK.out HFK.out (noS wr) x)
          rw [hB]
          clear hB hx
          go_wp2_with fail
          refine HCP.out.mono ?_
          rintro e w4 ⟨hf, ⟨_, _, rfl, v, hv, hn⟩ | ⟨_, rfl, hn⟩⟩
          · have HVS4 : Hid ((∀ u ∈ vs ++ [v], u ∈ xs.map pvl) ∧ xs.map pvl <+: vs ++ [v]) := ⟨fun u hu => by
              rcases List.mem_append.1 hu with hu | hu
              · exact HVS.out.1 u hu
              · rw [List.mem_singleton.1 hu]; exact HVS.out.1 v (List.mem_of_getElem? hv), HVS.out.2.trans (List.prefix_append _ _)⟩
            have HN4 := Lib.hid hn
            have HF4 : Hid (Fr NoBlk w w4) := Out.none_ HFK.out hf
            have hvn : (vs ++ [v]).length = vs.length + 1 := by simp
            have HVN : Hid ((((vs ++ [v]).length : Nat) : Int) = (vs.length : Int) + 1) := by show _ = _; rw [hvn]; omega
            have HVL : Hid ((vs ++ [v]).length ≤ 50 + (j + 1)) := by show _ ≤ _; omega
            have hw64 : IntKind.i64.wrap ((vs.length : Int) + 1) = (vs.length : Int) + 1 := by rw [IntWalk.i64_in _ (by omega)]
            clear hf hn hv HCP hc hvn
            go_wp2_with fail
            go_roundw
            case rel => exact ⟨j + 1, vs ++ [v], by omega, by rw [HVN.out], by go_num, HVL.out, HVS4, HN4, HF4⟩
            case measure => simp [intOf]; omega
          · have HN4 := Lib.hid hn
            have HF4 : Hid (Fr NoBlk w w4) := Out.none_ HFK.out hf
            clear hf hn HCP hc
            go_wp2_with fail
            go_roundw
            case rel => exact ⟨j + 1, vs, by omega, rfl, by go_num, by omega, HVS, HN4, HF4⟩
            case measure => simp [intOf]; omega
        · clear HJE HFJ
          go_wp2_with fail
          go_loopw [11] (fun s wr => ∃ m : Nat, m ≤ vs.length ∧ s = .int .i64 (m : Int) ∧ Hid (NK w wr (fun _ => False) g (vs.drop m)) ∧ Hid (Fr NoBlk w wr)) (fun s _ => vs.length - (intOf s).toNat)
          case atStart => exact ⟨0, by omega, rfl, HK, HFK⟩
          case round =>
            obtain ⟨m, hm, rfl, HM, HFM⟩ := hrel
            have HLN := Lib.hid (nk_len HM.out)
            have hdl : (vs.drop m).length = vs.length - m := List.length_drop
            rw [hdl] at HLN
            clear hdl
            by_cases hlt : m < vs.length
            · obtain ⟨v, hv⟩ : ∃ v, vs[m]? = some v := ⟨_, List.getElem?_eq_getElem hlt⟩
              have hdx : vs.drop m = v :: vs.drop (m + 1) := by
                obtain ⟨h1, h2⟩ := List.getElem?_eq_some_iff.1 hv
                rw [← h2]
                exact List.drop_eq_getElem_cons h1
              have HTK := Lib.hid (nk_take HM.out 0)
              have HDX := Lib.hid hdx
              have HV := Lib.hid hv
              have hpos : (0 : Int) < ((vs.length - m : Nat) : Int) := by omega
              clear hdx hv
              go_wp2_with fail
              refine HLN.out.mono ?_
              rintro e w3 ⟨rfl, rfl⟩
              go_wp2_with fail
              refine HTK.out.mono ?_
              rintro e w4 ⟨hf, ⟨_, p, hp, rfl, hpd, hn⟩ | ⟨hb, _⟩⟩
              rotate_left
              · rw [HDX.out] at hb
                simp [hasB] at hb
              rw [HDX.out] at hp hn
              simp only [Int.toNat_zero, List.getElem?_cons_zero, Option.some.injEq, List.eraseIdx_cons_zero] at hp hn
              subst hp
              have HPM : Hid (pvl p ∈ xs.map pvl) := HVS.out.1 _ (List.mem_of_getElem? HV.out)
              have HPI : Hid (∀ x, xs[m]? = some x → pvl p = pvl x) := fun x hx => by
                obtain ⟨t, ht⟩ := HVS.out.2
                have h1 := HV.out
                rw [← ht, List.getElem?_append_left (by rw [List.length_map]; exact (List.getElem?_eq_some_iff.1 hx).1), List.getElem?_map, hx] at h1
                injection h1 with h1
                exact h1.symm
              obtain ⟨wz, hwz⟩ : ∃ wz, wz = w4.alloc (.cells (pca p) 35) := ⟨_, rfl⟩
              have HN5 : Hid (NK w wz (fun _ => False) g (vs.drop (m + 1))) := by show NK _ _ _ _ _; rw [hwz]; exact hn.nofr ((Fr.refl _ _).alloc _)
              have HFZ : Hid (Fr NoBlk w wz) := by show Fr _ _ _; rw [hwz]; exact (Out.none_ HFM.out hf).alloc _
              have HPD : Hid (Rd wz p.d.1 (cb p.d.2.2)) := by show Rd _ _ _; rw [hwz]; exact hpd.alloc _
              have HBZ : Hid (∀ w', Fr NoBlk wz w' → w'.cell? ⟨w4.heap.size, 0, none⟩ = some (.int .i64 p.src) ∧ w'.cell? ⟨w4.heap.size, 1, none⟩ = some (.int .i64 p.dst) ∧ w'.cell? ⟨w4.heap.size, 2, none⟩ = some (.int .u64 p.ep) ∧ w'.cell? ⟨w4.heap.size, 3, none⟩ = some (.int .u64 p.pe) ∧ w'.cell? ⟨w4.heap.size, 4, none⟩ = some (.int .u64 p.sq) ∧ w'.cell? ⟨w4.heap.size, 5, none⟩ = some (.int .u64 p.ak) ∧ w'.cell? ⟨w4.heap.size, 6, none⟩ = some (.slice p.d.1 p.d.2.2.length p.d.2.1)) := fun w' hf => by
                have hb : Bk wz w4.heap.size 35 (pca p) := by rw [hwz]; exact Bk.new _ _ _
                have hb' := hb.fr hf (fun h => h)
                exact ⟨hb'.cell 0, hb'.cell 1, hb'.cell 2, hb'.cell 3, hb'.cell 4, hb'.cell 5, hb'.cell 6⟩
              unfold pca at hwz
              clear hf hn hpd HTK HDX HLN HM
              go_upto_region 27 with fail
              rw [← hwz]
              clear hwz
              by_cases hmx : m < xs.length
              · obtain ⟨x, hx⟩ : ∃ x, xs[m]? = some x := ⟨_, List.getElem?_eq_getElem hmx⟩
                obtain ⟨b, o, hA, hc⟩ := HARG.out hx
                have HPX := Lib.hid (HPI.out x hx)
                have HXD := Lib.hid (HXS.out x (List.mem_of_getElem? hx)).rd
                have HSZ : Hid (∀ w', Fr NoBlk wz w' → (w'.cell? ⟨w4.heap.size, 0, none⟩ = some (.int .i64 p.src) ∧ w'.cell? ⟨w4.heap.size, 1, none⟩ = some (.int .i64 p.dst) ∧ w'.cell? ⟨w4.heap.size, 2, none⟩ = some (.int .u64 p.ep) ∧ w'.cell? ⟨w4.heap.size, 3, none⟩ = some (.int .u64 p.pe) ∧ w'.cell? ⟨w4.heap.size, 4, none⟩ = some (.int .u64 p.sq) ∧ w'.cell? ⟨w4.heap.size, 5, none⟩ = some (.int .u64 p.ak) ∧ w'.cell? ⟨w4.heap.size, 6, none⟩ = some (.slice p.d.1 p.d.2.2.length p.d.2.1) ∧ w'.cell? ⟨b, o + m * 7, none⟩ = some (.int .i64 x.src) ∧ w'.cell? ⟨b, o + m * 7 + 1, none⟩ = some (.int .i64 x.dst) ∧ w'.cell? ⟨b, o + m * 7 + 2, none⟩ = some (.int .u64 x.ep) ∧ w'.cell? ⟨b, o + m * 7 + 3, none⟩ = some (.int .u64 x.pe) ∧ w'.cell? ⟨b, o + m * 7 + 4, none⟩ = some (.int .u64 x.sq) ∧ w'.cell? ⟨b, o + m * 7 + 5, none⟩ = some (.int .u64 x.ak) ∧ w'.cell? ⟨b, o + m * 7 + 6, none⟩ = some (.slice x.d.1 x.d.2.2.length x.d.2.1))) := fun w' hf => by
                  obtain ⟨z0, z1, z2, z3, z4, z5, z6⟩ := HBZ.out w' hf
                  exact ⟨z0, z1, z2, z3, z4, z5, z6, hc w' (HFZ.out.trans hf)⟩
                have hgl : decide ((m : Int) < (xs.length : Int)) = true := by simp; omega
                subst hA
                clear hx hc
                refine wp_region_held_drew (S := fun w' => Fr NoBlk wz w') (by kernel_rfl) (by exact (Fr.refl NoBlk wz).drew) (fun hHeld => ?_)
                refine wpAnyH_take (i := 0) (oi := ⟨some 70, _, _, _, _, _⟩) (v := ?_) rfl (by kernel_rfl) (by kernel_rfl) (by kernel_rfl) (fun _ _ _ h => h) (Or.inl ⟨by rfl, ?_⟩) (by assumption) ?_
                rotate_left 1
                · (intro w hSw; (try dsimp only at hSw); obtain ⟨z0, z1, z2, z3, z4, z5, z6, y0, y1, y2, y3, y4, y5, y6⟩ := HSZ.out _ hSw; go_simp) <;> (with_reducible rfl)
                try simp only [Act.put, List.setIfInBounds_toArray, List.set_cons_zero, List.set_cons_succ]
                refine wpAnyH_take (i := 1) (oi := ⟨some 71, _, _, _, _, _⟩) (v := ?_) rfl (by kernel_rfl) (by kernel_rfl) (by kernel_rfl) (fun _ _ _ h => h) (Or.inl ⟨by rfl, ?_⟩) (by assumption) ?_
                rotate_left 1
                · (intro w hSw; (try dsimp only at hSw); obtain ⟨z0, z1, z2, z3, z4, z5, z6, y0, y1, y2, y3, y4, y5, y6⟩ := HSZ.out _ hSw; go_simp) <;> (with_reducible rfl)
                try simp only [Act.put, List.setIfInBounds_toArray, List.set_cons_zero, List.set_cons_succ]
                refine wpAnyH_take (i := 2) (oi := ⟨some 72, _, _, _, _, _⟩) (v := ?_) rfl (by kernel_rfl) (by kernel_rfl) (by kernel_rfl) (fun _ _ _ h => h) (Or.inl ⟨by rfl, ?_⟩) (by assumption) ?_
                rotate_left 1
                · (intro w hSw; (try dsimp only at hSw); obtain ⟨z0, z1, z2, z3, z4, z5, z6, y0, y1, y2, y3, y4, y5, y6⟩ := HSZ.out _ hSw; go_simp) <;> (with_reducible rfl)
                try simp only [Act.put, List.setIfInBounds_toArray, List.set_cons_zero, List.set_cons_succ]
                refine wpAnyH_take (i := 3) (oi := ⟨some 73, _, _, _, _, _⟩) (v := ?_) rfl (by kernel_rfl) (by kernel_rfl) (by kernel_rfl) (fun _ _ _ h => h) (Or.inl ⟨by rfl, ?_⟩) (by assumption) ?_
                rotate_left 1
                · (intro w hSw; (try dsimp only at hSw); obtain ⟨z0, z1, z2, z3, z4, z5, z6, y0, y1, y2, y3, y4, y5, y6⟩ := HSZ.out _ hSw; go_simp) <;> (with_reducible rfl)
                try simp only [Act.put, List.setIfInBounds_toArray, List.set_cons_zero, List.set_cons_succ]
                refine wpAnyH_take (i := 4) (oi := ⟨some 74, _, _, _, _, _⟩) (v := ?_) rfl (by kernel_rfl) (by kernel_rfl) (by kernel_rfl) (fun _ _ _ h => h) (Or.inl ⟨by rfl, ?_⟩) (by assumption) ?_
                rotate_left 1
                · (intro w hSw; (try dsimp only at hSw); obtain ⟨z0, z1, z2, z3, z4, z5, z6, y0, y1, y2, y3, y4, y5, y6⟩ := HSZ.out _ hSw; go_simp) <;> (with_reducible rfl)
                try simp only [Act.put, List.setIfInBounds_toArray, List.set_cons_zero, List.set_cons_succ]
                refine wpAnyH_take (i := 5) (oi := ⟨some 75, _, _, _, _, _⟩) (v := ?_) rfl (by kernel_rfl) (by kernel_rfl) (by kernel_rfl) (fun _ _ _ h => h) (Or.inl ⟨by rfl, ?_⟩) (by assumption) ?_
                rotate_left 1
                · (intro w hSw; (try dsimp only at hSw); obtain ⟨z0, z1, z2, z3, z4, z5, z6, y0, y1, y2, y3, y4, y5, y6⟩ := HSZ.out _ hSw; go_simp) <;> (with_reducible rfl)
                try simp only [Act.put, List.setIfInBounds_toArray, List.set_cons_zero, List.set_cons_succ]
                refine wpAnyH_take (i := 6) (oi := ⟨some 76, _, _, _, _, _⟩) (v := ?_) rfl (by kernel_rfl) (by kernel_rfl) (by kernel_rfl) (fun _ _ _ h => h) (Or.inl ⟨by rfl, ?_⟩) (by assumption) ?_
                rotate_left 1
                · (intro w hSw; (try dsimp only at hSw); obtain ⟨z0, z1, z2, z3, z4, z5, z6, y0, y1, y2, y3, y4, y5, y6⟩ := HSZ.out _ hSw; go_simp) <;> (with_reducible rfl)
                try simp only [Act.put, List.setIfInBounds_toArray, List.set_cons_zero, List.set_cons_succ]
                refine wpAnyH_take (i := 7) (oi := ⟨some 77, _, _, _, _, _⟩) (v := ?_) rfl (by kernel_rfl) (by kernel_rfl) (by kernel_rfl) (fun _ _ _ h => h) (Or.inl ⟨by rfl, ?_⟩) (by assumption) ?_
                rotate_left 1
                · (intro w hSw; (try dsimp only at hSw); obtain ⟨z0, z1, z2, z3, z4, z5, z6, y0, y1, y2, y3, y4, y5, y6⟩ := HSZ.out _ hSw; go_simp) <;> (with_reducible rfl)
                try simp only [Act.put, List.setIfInBounds_toArray, List.set_cons_zero, List.set_cons_succ]
                refine wpAnyH_take (i := 8) (oi := ⟨some 78, _, _, _, _, _⟩) (v := ?_) rfl (by kernel_rfl) (by kernel_rfl) (by kernel_rfl) (fun _ _ _ h => h) (Or.inl ⟨by rfl, ?_⟩) (by assumption) ?_
                rotate_left 1
                · (intro w hSw; (try dsimp only at hSw); obtain ⟨z0, z1, z2, z3, z4, z5, z6, y0, y1, y2, y3, y4, y5, y6⟩ := HSZ.out _ hSw; go_simp) <;> (with_reducible rfl)
                try simp only [Act.put, List.setIfInBounds_toArray, List.set_cons_zero, List.set_cons_succ]
                refine wpAnyH_take (i := 9) (oi := ⟨some 79, _, _, _, _, _⟩) (v := ?_) rfl (by kernel_rfl) (by kernel_rfl) (by kernel_rfl) (fun _ _ _ h => h) (Or.inl ⟨by rfl, ?_⟩) (by assumption) ?_
                rotate_left 1
                · (intro w hSw; (try dsimp only at hSw); obtain ⟨z0, z1, z2, z3, z4, z5, z6, y0, y1, y2, y3, y4, y5, y6⟩ := HSZ.out _ hSw; go_simp) <;> (with_reducible rfl)
                try simp only [Act.put, List.setIfInBounds_toArray, List.set_cons_zero, List.set_cons_succ]
                refine wpAnyH_take (i := 10) (oi := ⟨some 80, _, _, _, _, _⟩) (v := ?_) rfl (by kernel_rfl) (by kernel_rfl) (by kernel_rfl) (fun _ _ _ h => h) (Or.inl ⟨by rfl, ?_⟩) (by assumption) ?_
                rotate_left 1
                · (intro w hSw; (try dsimp only at hSw); obtain ⟨z0, z1, z2, z3, z4, z5, z6, y0, y1, y2, y3, y4, y5, y6⟩ := HSZ.out _ hSw; go_simp) <;> (with_reducible rfl)
                try simp only [Act.put, List.setIfInBounds_toArray, List.set_cons_zero, List.set_cons_succ]
                refine wpAnyH_take (i := 11) (oi := ⟨some 81, _, _, _, _, _⟩) (v := ?_) rfl (by kernel_rfl) (by kernel_rfl) (by kernel_rfl) (fun _ _ _ h => h) (Or.inl ⟨by rfl, ?_⟩) (by assumption) ?_
                rotate_left 1
                · (intro w hSw; (try dsimp only at hSw); obtain ⟨z0, z1, z2, z3, z4, z5, z6, y0, y1, y2, y3, y4, y5, y6⟩ := HSZ.out _ hSw; go_simp) <;> (with_reducible rfl)
                try simp only [Act.put, List.setIfInBounds_toArray, List.set_cons_zero, List.set_cons_succ]
                refine wpAnyH_take (i := 12) (oi := ⟨some 82, _, _, _, _, _⟩) (v := ?_) rfl (by kernel_rfl) (by kernel_rfl) (by kernel_rfl) (fun _ _ _ h => h) (Or.inl ⟨by rfl, ?_⟩) (by assumption) ?_
                rotate_left 1
                · (intro w hSw; (try dsimp only at hSw); obtain ⟨z0, z1, z2, z3, z4, z5, z6, y0, y1, y2, y3, y4, y5, y6⟩ := HSZ.out _ hSw; go_simp) <;> (with_reducible rfl)
                try simp only [Act.put, List.setIfInBounds_toArray, List.set_cons_zero, List.set_cons_succ]
                refine wpAnyH_ready (rs := [13]) (by kernel_rfl) (by simp) ?_
                refine AllReadyH.cons (o := ⟨some 83, _, _, _, _, _⟩) rfl (fun K hK => ?_) AllReadyH.nil
                have hSw := hHeld
                go_simp
                go_at_call 10
                refine (same_any _ p x (HPD.out.nofr hSw) (HXD.out.nofr (HFZ.out.trans hSw))).mono ?_
                rintro e w6 ⟨⟨d6, rfl, hd6⟩, hf6⟩
                obtain rfl : d6 = true := hd6.2 HPX.out
                have hF6 : Fr NoBlk wz w6 := Fr.trans hSw hf6
                clear hd6 hf6 hSw
                clear hHeld
                refine hK.out _ _ ?_ (fun hHeld => ?_)
                · exact hF6
                clear hK K
                try simp only [Act.put, List.setIfInBounds_toArray, List.set_cons_zero, List.set_cons_succ]
                refine wpAnyH_take (i := 14) (oi := ⟨some 84, _, _, _, _, _⟩) (v := ?_) rfl (by kernel_rfl) (by kernel_rfl) (by kernel_rfl) (fun _ _ _ h => h) (Or.inl ⟨by rfl, ?_⟩) (by assumption) ?_
                rotate_left 1
                · (intro w hSw; (try dsimp only at hSw); obtain ⟨z0, z1, z2, z3, z4, z5, z6, y0, y1, y2, y3, y4, y5, y6⟩ := HSZ.out _ hSw; go_simp) <;> (with_reducible rfl)
                try simp only [Act.put, List.setIfInBounds_toArray, List.set_cons_zero, List.set_cons_succ]
                refine wpAnyH_take (i := 15) (oi := ⟨some 85, _, _, _, _, _⟩) (v := ?_) rfl (by kernel_rfl) (by kernel_rfl) (by kernel_rfl) (fun _ _ _ h => h) (Or.inl ⟨by rfl, ?_⟩) (by assumption) ?_
                rotate_left 1
                · (intro w hSw; (try dsimp only at hSw); obtain ⟨z0, z1, z2, z3, z4, z5, z6, y0, y1, y2, y3, y4, y5, y6⟩ := HSZ.out _ hSw; go_simp) <;> (with_reducible rfl)
                try simp only [Act.put, List.setIfInBounds_toArray, List.set_cons_zero, List.set_cons_succ]
                refine wpAnyH_take (i := 16) (oi := ⟨some 86, _, _, _, _, _⟩) (v := ?_) rfl (by kernel_rfl) (by kernel_rfl) (by kernel_rfl) (fun _ _ _ h => h) (Or.inl ⟨by rfl, ?_⟩) (by assumption) ?_
                rotate_left 1
                · (intro w hSw; (try dsimp only at hSw); obtain ⟨z0, z1, z2, z3, z4, z5, z6, y0, y1, y2, y3, y4, y5, y6⟩ := HSZ.out _ hSw; go_simp) <;> (with_reducible rfl)
                try simp only [Act.put, List.setIfInBounds_toArray, List.set_cons_zero, List.set_cons_succ]
                refine wpAnyH_done (by kernel_rfl) ?_ _
                have HF7 : Hid (Fr NoBlk wz w6) := hHeld
                clear hHeld
                go_wp2_with fail
                go_loopw [14, 89] (fun s t wr => ∃ (i : Nat) (f : Bool), i ≤ xs.length ∧ s = .bool f ∧ t = .int .i64 (i : Int) ∧ Hid (pvl p ∈ (xs.take i).map pvl → f = true) ∧ Hid (Fr NoBlk wz wr)) (fun _ t _ => xs.length - (intOf t).toNat)
                case atStart => exact ⟨0, false, by omega, rfl, rfl, (fun h => by simp at h), HF7.out⟩
                case round =>
                  obtain ⟨i, f, hi', rfl, rfl, HIN, HFI⟩ := hrel
                  by_cases hlt2 : i < xs.length
                  · obtain ⟨y, hy⟩ : ∃ y, xs[i]? = some y := ⟨_, List.getElem?_eq_getElem hlt2⟩
                    obtain ⟨b2, o2, hA2, hc2⟩ := HARG.out hy
                    obtain ⟨u0, u1, u2, u3, u4, u5, u6⟩ := hc2 wr (HFZ.out.trans HFI.out)
                    have hb2 : b = b2 ∧ o = o2 := by
                      injection hA2 with hA2
                      injection hA2 with h1 h2
                      exact ⟨h1, h2⟩
                    obtain ⟨rfl, rfl⟩ := hb2
                    have HYD := Lib.hid (HXS.out y (List.mem_of_getElem? hy)).rd
                    have HTY : Hid ((xs.take (i + 1)).map pvl = (xs.take i).map pvl ++ [pvl y]) := by
                      show _ = _
                      rw [List.take_add_one, hy, List.map_append]
                      rfl
                    have HFI2 : Hid (∀ cs T, Fr NoBlk wz (wr.alloc (.cells cs T))) := fun cs T => HFI.out.alloc _
                    clear hA2 hc2 hy
                    cases f with
                    | true =>
                      have HIN2 : Hid (pvl p ∈ (xs.take (i + 1)).map pvl → true = true) := fun _ => rfl
                      go_wp2_with fail
                      go_roundw
                      case rel => exact ⟨i + 1, true, by omega, rfl, by go_num, HIN2, HFI2.out _ _⟩
                      case measure => simp [intOf]; omega
                    | false =>
                      obtain ⟨v0, v1, v2, v3, v4, v5, v6⟩ := HBZ.out _ (HFI2.out #[.int .i64 y.src, .int .i64 y.dst, .int .u64 y.ep, .int .u64 y.pe, .int .u64 y.sq, .int .u64 y.ak, .slice y.d.1 y.d.2.2.length y.d.2.1] 35)
                      have HSM := Lib.hid (same_any _ p y (HPD.out.nofr (HFI2.out #[.int .i64 y.src, .int .i64 y.dst, .int .u64 y.ep, .int .u64 y.pe, .int .u64 y.sq, .int .u64 y.ak, .slice y.d.1 y.d.2.2.length y.d.2.1] 35)) (HYD.out.nofr (HFZ.out.trans (HFI2.out #[.int .i64 y.src, .int .i64 y.dst, .int .u64 y.ep, .int .u64 y.pe, .int .u64 y.sq, .int .u64 y.ak, .slice y.d.1 y.d.2.2.length y.d.2.1] 35))))
                      go_wp2_with fail
                      refine HSM.out.mono ?_
                      rintro e w8 ⟨⟨d8, rfl, hd8⟩, hf8⟩
                      have HIN2 : Hid (pvl p ∈ (xs.take (i + 1)).map pvl → d8 = true) := fun h => by
                        rw [HTY.out] at h
                        rcases List.mem_append.1 h with h | h
                        · have := HIN.out h; cases this
                        · exact hd8.2 (List.mem_singleton.1 h)
                      have HF8 : Hid (Fr NoBlk wz w8) := (HFI2.out _ _).trans hf8
                      clear hd8 hf8 HSM u0 u1 u2 u3 u4 u5 u6 v0 v1 v2 v3 v4 v5 v6
                      go_wp2_with fail
                      go_roundw
                      case rel => exact ⟨i + 1, d8, by omega, rfl, by go_num, HIN2, HF8⟩
                      case measure => simp [intOf]; omega
                  · have hfT : f = true := HIN.out (by rw [List.take_of_length_le (by omega)]; exact HPM.out)
                    subst hfT
                    have HNE : Hid (NK w wr (fun _ => False) g (vs.drop (m + 1))) := HN5.out.nofr HFI.out
                    have HFE : Hid (Fr NoBlk w wr) := HFZ.out.trans HFI.out
                    go_wp2_with fail
                    go_roundw
                    case rel => exact ⟨m + 1, by omega, by go_num, HNE, HFE⟩
                    case measure => simp [intOf]; omega
              · have HSZ : Hid (∀ w', Fr NoBlk wz w' → w'.cell? ⟨w4.heap.size, 0, none⟩ = some (.int .i64 p.src) ∧ w'.cell? ⟨w4.heap.size, 1, none⟩ = some (.int .i64 p.dst) ∧ w'.cell? ⟨w4.heap.size, 2, none⟩ = some (.int .u64 p.ep) ∧ w'.cell? ⟨w4.heap.size, 3, none⟩ = some (.int .u64 p.pe) ∧ w'.cell? ⟨w4.heap.size, 4, none⟩ = some (.int .u64 p.sq) ∧ w'.cell? ⟨w4.heap.size, 5, none⟩ = some (.int .u64 p.ak) ∧ w'.cell? ⟨w4.heap.size, 6, none⟩ = some (.slice p.d.1 p.d.2.2.length p.d.2.1)) := HBZ
                have hgl : decide ((m : Int) < (xs.length : Int)) = false := by simp; omega
                obtain ⟨b, o, hA⟩ : ∃ b o, A = some ⟨b, o, none⟩ := by
                  obtain ⟨x, hx, _⟩ := List.mem_map.1 HPM.out
                  obtain ⟨k, hk⟩ := List.getElem?_of_mem hx
                  obtain ⟨b, o, h, _⟩ := HARG.out hk
                  exact ⟨b, o, h⟩
                subst hA
                refine wp_region_held_drew (S := fun w' => Fr NoBlk wz w') (by kernel_rfl) (by exact (Fr.refl NoBlk wz).drew) (fun hHeld => ?_)
                refine wpAnyH_take (i := 0) (oi := ⟨some 70, _, _, _, _, _⟩) (v := ?_) rfl (by kernel_rfl) (by kernel_rfl) (by kernel_rfl) (fun _ _ _ h => h) (Or.inl ⟨by rfl, ?_⟩) (by assumption) ?_
                rotate_left 1
                · (intro w hSw; (try dsimp only at hSw); obtain ⟨z0, z1, z2, z3, z4, z5, z6⟩ := HSZ.out _ hSw; go_simp) <;> (with_reducible rfl)
                try simp only [Act.put, List.setIfInBounds_toArray, List.set_cons_zero, List.set_cons_succ]
                refine wpAnyH_take (i := 1) (oi := ⟨some 71, _, _, _, _, _⟩) (v := ?_) rfl (by kernel_rfl) (by kernel_rfl) (by kernel_rfl) (fun _ _ _ h => h) (Or.inl ⟨by rfl, ?_⟩) (by assumption) ?_
                rotate_left 1
                · (intro w hSw; (try dsimp only at hSw); obtain ⟨z0, z1, z2, z3, z4, z5, z6⟩ := HSZ.out _ hSw; go_simp) <;> (with_reducible rfl)
                try simp only [Act.put, List.setIfInBounds_toArray, List.set_cons_zero, List.set_cons_succ]
                refine wpAnyH_take (i := 2) (oi := ⟨some 72, _, _, _, _, _⟩) (v := ?_) rfl (by kernel_rfl) (by kernel_rfl) (by kernel_rfl) (fun _ _ _ h => h) (Or.inl ⟨by rfl, ?_⟩) (by assumption) ?_
                rotate_left 1
                · (intro w hSw; (try dsimp only at hSw); obtain ⟨z0, z1, z2, z3, z4, z5, z6⟩ := HSZ.out _ hSw; go_simp) <;> (with_reducible rfl)
                try simp only [Act.put, List.setIfInBounds_toArray, List.set_cons_zero, List.set_cons_succ]
                refine wpAnyH_take (i := 3) (oi := ⟨some 73, _, _, _, _, _⟩) (v := ?_) rfl (by kernel_rfl) (by kernel_rfl) (by kernel_rfl) (fun _ _ _ h => h) (Or.inl ⟨by rfl, ?_⟩) (by assumption) ?_
                rotate_left 1
                · (intro w hSw; (try dsimp only at hSw); obtain ⟨z0, z1, z2, z3, z4, z5, z6⟩ := HSZ.out _ hSw; go_simp) <;> (with_reducible rfl)
                try simp only [Act.put, List.setIfInBounds_toArray, List.set_cons_zero, List.set_cons_succ]
                refine wpAnyH_take (i := 4) (oi := ⟨some 74, _, _, _, _, _⟩) (v := ?_) rfl (by kernel_rfl) (by kernel_rfl) (by kernel_rfl) (fun _ _ _ h => h) (Or.inl ⟨by rfl, ?_⟩) (by assumption) ?_
                rotate_left 1
                · (intro w hSw; (try dsimp only at hSw); obtain ⟨z0, z1, z2, z3, z4, z5, z6⟩ := HSZ.out _ hSw; go_simp) <;> (with_reducible rfl)
                try simp only [Act.put, List.setIfInBounds_toArray, List.set_cons_zero, List.set_cons_succ]
                refine wpAnyH_take (i := 5) (oi := ⟨some 75, _, _, _, _, _⟩) (v := ?_) rfl (by kernel_rfl) (by kernel_rfl) (by kernel_rfl) (fun _ _ _ h => h) (Or.inl ⟨by rfl, ?_⟩) (by assumption) ?_
                rotate_left 1
                · (intro w hSw; (try dsimp only at hSw); obtain ⟨z0, z1, z2, z3, z4, z5, z6⟩ := HSZ.out _ hSw; go_simp) <;> (with_reducible rfl)
                try simp only [Act.put, List.setIfInBounds_toArray, List.set_cons_zero, List.set_cons_succ]
                refine wpAnyH_take (i := 6) (oi := ⟨some 76, _, _, _, _, _⟩) (v := ?_) rfl (by kernel_rfl) (by kernel_rfl) (by kernel_rfl) (fun _ _ _ h => h) (Or.inl ⟨by rfl, ?_⟩) (by assumption) ?_
                rotate_left 1
                · (intro w hSw; (try dsimp only at hSw); obtain ⟨z0, z1, z2, z3, z4, z5, z6⟩ := HSZ.out _ hSw; go_simp) <;> (with_reducible rfl)
                try simp only [Act.put, List.setIfInBounds_toArray, List.set_cons_zero, List.set_cons_succ]
                refine wpAnyH_take (i := 7) (oi := ⟨some 77, _, _, _, _, _⟩) (v := ?_) rfl (by kernel_rfl) (by kernel_rfl) (by kernel_rfl) (fun _ _ _ h => h) (Or.inl ⟨by rfl, ?_⟩) (by assumption) ?_
                rotate_left 1
                · (intro w hSw; (try dsimp only at hSw); obtain ⟨z0, z1, z2, z3, z4, z5, z6⟩ := HSZ.out _ hSw; go_simp) <;> (with_reducible rfl)
                try simp only [Act.put, List.setIfInBounds_toArray, List.set_cons_zero, List.set_cons_succ]
                refine wpAnyH_take (i := 8) (oi := ⟨some 78, _, _, _, _, _⟩) (v := undef) rfl (by kernel_rfl) (by kernel_rfl) (by kernel_rfl) (fun _ _ _ h => h) (Or.inr ⟨by rfl, rfl⟩) (by assumption) ?_
                try simp only [Act.put, List.setIfInBounds_toArray, List.set_cons_zero, List.set_cons_succ]
                refine wpAnyH_take (i := 9) (oi := ⟨some 79, _, _, _, _, _⟩) (v := undef) rfl (by kernel_rfl) (by kernel_rfl) (by kernel_rfl) (fun _ _ _ h => h) (Or.inr ⟨by rfl, rfl⟩) (by assumption) ?_
                try simp only [Act.put, List.setIfInBounds_toArray, List.set_cons_zero, List.set_cons_succ]
                refine wpAnyH_take (i := 10) (oi := ⟨some 80, _, _, _, _, _⟩) (v := undef) rfl (by kernel_rfl) (by kernel_rfl) (by kernel_rfl) (fun _ _ _ h => h) (Or.inr ⟨by rfl, rfl⟩) (by assumption) ?_
                try simp only [Act.put, List.setIfInBounds_toArray, List.set_cons_zero, List.set_cons_succ]
                refine wpAnyH_take (i := 11) (oi := ⟨some 81, _, _, _, _, _⟩) (v := undef) rfl (by kernel_rfl) (by kernel_rfl) (by kernel_rfl) (fun _ _ _ h => h) (Or.inr ⟨by rfl, rfl⟩) (by assumption) ?_
                try simp only [Act.put, List.setIfInBounds_toArray, List.set_cons_zero, List.set_cons_succ]
                refine wpAnyH_take (i := 12) (oi := ⟨some 82, _, _, _, _, _⟩) (v := undef) rfl (by kernel_rfl) (by kernel_rfl) (by kernel_rfl) (fun _ _ _ h => h) (Or.inr ⟨by rfl, rfl⟩) (by assumption) ?_
                try simp only [Act.put, List.setIfInBounds_toArray, List.set_cons_zero, List.set_cons_succ]
                refine wpAnyH_take (i := 13) (oi := ⟨some 83, _, _, _, _, _⟩) (v := undef) rfl (by kernel_rfl) (by kernel_rfl) (by kernel_rfl) (fun _ _ _ h => h) (Or.inr ⟨by rfl, rfl⟩) (by assumption) ?_
                try simp only [Act.put, List.setIfInBounds_toArray, List.set_cons_zero, List.set_cons_succ]
                refine wpAnyH_take (i := 14) (oi := ⟨some 84, _, _, _, _, _⟩) (v := undef) rfl (by kernel_rfl) (by kernel_rfl) (by kernel_rfl) (fun _ _ _ h => h) (Or.inr ⟨by rfl, rfl⟩) (by assumption) ?_
                try simp only [Act.put, List.setIfInBounds_toArray, List.set_cons_zero, List.set_cons_succ]
                refine wpAnyH_take (i := 15) (oi := ⟨some 85, _, _, _, _, _⟩) (v := ?_) rfl (by kernel_rfl) (by kernel_rfl) (by kernel_rfl) (fun _ _ _ h => h) (Or.inl ⟨by rfl, ?_⟩) (by assumption) ?_
                rotate_left 1
                · (intro w hSw; (try dsimp only at hSw); obtain ⟨z0, z1, z2, z3, z4, z5, z6⟩ := HSZ.out _ hSw; go_simp) <;> (with_reducible rfl)
                try simp only [Act.put, List.setIfInBounds_toArray, List.set_cons_zero, List.set_cons_succ]
                refine wpAnyH_take (i := 16) (oi := ⟨some 86, _, _, _, _, _⟩) (v := ?_) rfl (by kernel_rfl) (by kernel_rfl) (by kernel_rfl) (fun _ _ _ h => h) (Or.inl ⟨by rfl, ?_⟩) (by assumption) ?_
                rotate_left 1
                · (intro w hSw; (try dsimp only at hSw); obtain ⟨z0, z1, z2, z3, z4, z5, z6⟩ := HSZ.out _ hSw; go_simp) <;> (with_reducible rfl)
                try simp only [Act.put, List.setIfInBounds_toArray, List.set_cons_zero, List.set_cons_succ]
                refine wpAnyH_done (by kernel_rfl) ?_ _
                have HF7 : Hid (Fr NoBlk wz wz.drew) := (Fr.refl NoBlk wz).drew
                clear hHeld
                go_wp2_with fail
                go_loopw [14, 89] (fun s t wr => ∃ (i : Nat) (f : Bool), i ≤ xs.length ∧ s = .bool f ∧ t = .int .i64 (i : Int) ∧ Hid (pvl p ∈ (xs.take i).map pvl → f = true) ∧ Hid (Fr NoBlk wz wr)) (fun _ t _ => xs.length - (intOf t).toNat)
                case atStart => exact ⟨0, false, by omega, rfl, rfl, (fun h => by simp at h), HF7.out⟩
                case round =>
                  obtain ⟨i, f, hi', rfl, rfl, HIN, HFI⟩ := hrel
                  by_cases hlt2 : i < xs.length
                  · obtain ⟨y, hy⟩ : ∃ y, xs[i]? = some y := ⟨_, List.getElem?_eq_getElem hlt2⟩
                    obtain ⟨b2, o2, hA2, hc2⟩ := HARG.out hy
                    obtain ⟨u0, u1, u2, u3, u4, u5, u6⟩ := hc2 wr (HFZ.out.trans HFI.out)
                    have hb2 : b = b2 ∧ o = o2 := by
                      injection hA2 with hA2
                      injection hA2 with h1 h2
                      exact ⟨h1, h2⟩
                    obtain ⟨rfl, rfl⟩ := hb2
                    have HYD := Lib.hid (HXS.out y (List.mem_of_getElem? hy)).rd
                    have HTY : Hid ((xs.take (i + 1)).map pvl = (xs.take i).map pvl ++ [pvl y]) := by
                      show _ = _
                      rw [List.take_add_one, hy, List.map_append]
                      rfl
                    have HFI2 : Hid (∀ cs T, Fr NoBlk wz (wr.alloc (.cells cs T))) := fun cs T => HFI.out.alloc _
                    clear hA2 hc2 hy
                    cases f with
                    | true =>
                      have HIN2 : Hid (pvl p ∈ (xs.take (i + 1)).map pvl → true = true) := fun _ => rfl
                      go_wp2_with fail
                      go_roundw
                      case rel => exact ⟨i + 1, true, by omega, rfl, by go_num, HIN2, HFI2.out _ _⟩
                      case measure => simp [intOf]; omega
                    | false =>
                      obtain ⟨v0, v1, v2, v3, v4, v5, v6⟩ := HBZ.out _ (HFI2.out #[.int .i64 y.src, .int .i64 y.dst, .int .u64 y.ep, .int .u64 y.pe, .int .u64 y.sq, .int .u64 y.ak, .slice y.d.1 y.d.2.2.length y.d.2.1] 35)
                      have HSM := Lib.hid (same_any _ p y (HPD.out.nofr (HFI2.out #[.int .i64 y.src, .int .i64 y.dst, .int .u64 y.ep, .int .u64 y.pe, .int .u64 y.sq, .int .u64 y.ak, .slice y.d.1 y.d.2.2.length y.d.2.1] 35)) (HYD.out.nofr (HFZ.out.trans (HFI2.out #[.int .i64 y.src, .int .i64 y.dst, .int .u64 y.ep, .int .u64 y.pe, .int .u64 y.sq, .int .u64 y.ak, .slice y.d.1 y.d.2.2.length y.d.2.1] 35))))
                      go_wp2_with fail
                      refine HSM.out.mono ?_
                      rintro e w8 ⟨⟨d8, rfl, hd8⟩, hf8⟩
                      have HIN2 : Hid (pvl p ∈ (xs.take (i + 1)).map pvl → d8 = true) := fun h => by
                        rw [HTY.out] at h
                        rcases List.mem_append.1 h with h | h
                        · have := HIN.out h; cases this
                        · exact hd8.2 (List.mem_singleton.1 h)
                      have HF8 : Hid (Fr NoBlk wz w8) := (HFI2.out _ _).trans hf8
                      clear hd8 hf8 HSM u0 u1 u2 u3 u4 u5 u6 v0 v1 v2 v3 v4 v5 v6
                      go_wp2_with fail
                      go_roundw
                      case rel => exact ⟨i + 1, d8, by omega, rfl, by go_num, HIN2, HF8⟩
                      case measure => simp [intOf]; omega
                  · have hfT : f = true := HIN.out (by rw [List.take_of_length_le (by omega)]; exact HPM.out)
                    subst hfT
                    have HNE : Hid (NK w wr (fun _ => False) g (vs.drop (m + 1))) := HN5.out.nofr HFI.out
                    have HFE : Hid (Fr NoBlk w wr) := HFZ.out.trans HFI.out
                    go_wp2_with fail
                    go_roundw
                    case rel => exact ⟨m + 1, by omega, by go_num, HNE, HFE⟩
                    case measure => simp [intOf]; omega
            · have hme : m = vs.length := by omega
              subst hme
              have hz : vs.length - vs.length = 0 := Nat.sub_self _
              rw [hz] at HLN
              clear hz
              go_wp2_with fail
              refine HLN.out.mono ?_
              rintro e w3 ⟨rfl, rfl⟩
              go_wp2_with fail
              go_ret
              exact ⟨rfl, HFM.out⟩

theorem paramsOk : ∀ t ∈ Try.f4.params.toList, Try.prog.readableRec t = true ∧ t < Try.prog.types.size := fun t ht => by
  have h := List.all_eq_true.1 (show (Try.f4.params.toList.all fun t => Try.prog.readableRec t && decide (t < Try.prog.types.size)) = true by kernel_rfl) t ht
  simpa using h

set_option maxRecDepth 100000 in
theorem lifted (os : Os) (started : os.Started) (H : Type) (enc : TypeId × Value → H) :
    ReturnsInHanded {} Try.checked os 4 .any (Rows.netWholeSpec.pre6 enc Try.prog Try.f4 Rows.netWholeRow.domain false) (Rows.netWholeSpec.post enc Try.prog Try.f4 false true false false) := by
  refine returnsInHanded_of_change (C := Try.checked) own started (by kernel_rfl) Try.func4
    (ChangeSpec.witness6 (enc := enc) (C := Try.checked) false ⟨#[], #[.slice none 0 0, .slice none 0 0], []⟩ 8 (by kernel_rfl) (by kernel_rfl) (by kernel_rfl) (by kernel_rfl)) ?_
  intro W base args ds gs before hval0 hW _ _
  have hval : ∀ (j : Nat) t v, Try.f4.params[j]? = some t → args[j]? = some v → Value.okWide Try.prog W .any base t v := hval0
  have hW' := hW
  obtain ⟨p, q, hA0, hV, rfl, _, _⟩ := hW
  have hA : DataW.TrodAll enc Try.prog W 0 (fun _ => true) true Try.f4.params.toList args.toList ds p := hA0
  rw [Try.params4] at hA hval
  obtain ⟨v0, vs0, d0, ds0, p0, q0, hargs, rfl, rfl, h0, r0⟩ := trodAll_cons hA
  obtain ⟨v1, vs1, d1, ds1, p1, q1, rfl, rfl, rfl, h1, r1⟩ := trodAll_cons r0
  obtain ⟨rfl, rfl, rfl⟩ := trodAll_nil r1
  obtain rfl : args = #[v0, v1] := by cases args; simp_all
  obtain ⟨rfl, rfl⟩ := trodVars_none hV
  obtain ⟨A, c, xs, rfl, hr, hx, hc, hm⟩ := open_pcs (hval 0 _ v0 rfl rfl) h0
  obtain ⟨B, d, ks, rfl, hr2, _, hc2, hm2⟩ := open_ints1 (hval 1 _ v1 rfl rfl) h1
  have walk := walk W A c xs hr hx B d ks hr2
  clear hA0 hval0
  refine walk.mono fun e W' ⟨he, hf⟩ => ?_
  subst he
  exact ⟨_, rfl, law_post laidOut paramsOk rfl rfl Try.underlying4 hW' rfl rfl rfl hf⟩

theorem said : Rows.NetWholeSaid :=
  OpenClaim.holds_of_wide 4 Try.f4 rfl rfl rfl rfl rfl rfl rfl ⟨rfl, rfl, rfl, rfl, rfl⟩ rfl rfl rfl rfl rfl (by kernel_rfl) Try.func4 (by kernel_rfl)
    (of_decide_eq_true (by kernel_rfl)) (by unfold Func.isWrapper; first | (rw [if_pos (by decide +kernel)]; kernel_rfl) | (rw [if_neg (by decide +kernel)]; exact ⟨rfl, rfl⟩))
    (fun os started H enc _ => lifted os started H enc)
end Go.Proofs.Ytdfmoijomnjdiaa.netWhole
