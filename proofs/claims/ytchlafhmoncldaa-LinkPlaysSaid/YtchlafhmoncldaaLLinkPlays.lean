/- LinkPlays is true: every call of any script on a side of a link, any packets, answers exactly as the document says. No condition. -/
import Derived.Test.YtchlafhmoncldaaSpI
import Derived.Test.YtchlafhmoncldaaGr19
import Derived.Test.YtchlafhmoncldaaSpk19
import Derived.Test.YtchlafhmoncldaaSameR
import Derived.Test.YtchlafhmoncldaaOpenL
import Derived.Test.YtchlafhmoncldaaLawp
import Derived.IntWalk
namespace Go.Proofs.Ytchlafhmoncldaa.linkPlays
open Go.ChangeShapes Go.WideShapes Go.ChangeAt Go.RowKit Go.Maps Go.ChangeMaps Go.MapKept

theorem low_bits (k : Int) (m : Nat) (hm : m ≤ 65535) : ∃ q : Nat, bits .and .i64 k (m : Int) = (q : Int) ∧ q ≤ m := by
  have e : (BitVec.ofInt 64 (m : Int)).toNat = m := by rw [BitVec.ofInt_natCast, BitVec.toNat_ofNat]; omega
  have hq : (BitVec.ofInt 64 k &&& BitVec.ofInt 64 (m : Int)).toNat ≤ m := by
    rw [BitVec.toNat_and]
    have := Nat.and_le_right (n := (BitVec.ofInt 64 k).toNat) (m := (BitVec.ofInt 64 (m : Int)).toNat)
    omega
  refine ⟨(BitVec.ofInt 64 k &&& BitVec.ofInt 64 (m : Int)).toNat, ?_, hq⟩
  show IntKind.i64.wrap (((BitVec.ofInt 64 k &&& BitVec.ofInt 64 (m : Int)).toNat : Nat) : Int) = _
  generalize (BitVec.ofInt 64 k &&& BitVec.ofInt 64 (m : Int)).toNat = q at *
  exact IntWalk.i64_in _ (by omega)

set_option maxRecDepth 100000 in
set_option maxHeartbeats 16000000 in
theorem walk (w : World) (ep : Nat) (hep : ep < 2 ^ 64) (A : Option Addr) (c : Nat) (xs : List Lop) (hr : Rd w A (losc xs)) (hx : ∀ x ∈ xs, LopIn w x) (hm : xs.length ≤ maxLen) :
    Calls Try.prog 3 #[.int .u64 (ep : Int), .slice A xs.length c] w fun e w' => e = .returned (.bool true) ∧ Fr NoBlk w w' := by
  have HR : Hid (Rd w A (losc xs)) := hr
  have HXS : Hid (∀ x ∈ xs, LopIn w x) := hx
  have HEP : Hid (ep < 2 ^ 64) := hep
  have HGR : Hid (∀ w', Fr NoBlk w w' → Calls Try.prog 9 #[.slice A xs.length c] w' fun e w'' => GreatPost xs e ∧ Fr NoBlk w' w'') := fun w' hf => great_any w' A c xs (hr.nofr hf) (fun x h => (hx x h).nofr hf) hm
  clear hr hx hm hep
  go_enter Try.func3, Try.ntmps3
  go_wp2_with fail
  refine (speaks_any w).mono ?_
  rintro e w1 ⟨rfl, hf1⟩
  have HG := Lib.hid (HGR.out w1 hf1)
  have HF1 := Lib.hid hf1
  clear hf1 HGR
  go_wp2_with fail
  refine HG.out.mono ?_
  rintro e w2 ⟨⟨b, rfl, hb⟩, hf2⟩
  have HF2 : Hid (Fr NoBlk w w2) := HF1.out.trans hf2
  clear hf2 HG HF1
  cases b with
  | true =>
    clear hb
    go_wp2_with fail
    go_ret
    exact ⟨rfl, HF2.out⟩
  | false =>
  have HSM := Lib.hid (hb rfl)
  have hx200 : xs.length ≤ 200 := HSM.out.n
  clear hb
  go_wp2_with fail
  refine (new_any w2 ep HEP.out).mono ?_
  rintro e w3 ⟨g, gm, rfl, hl, hf3, hg, hgm⟩
  have HN1 : Hid (LkIn (fun k => k = g ∨ k = gm) w3 g ⟨ep, 0, 1, 1, none, 0, [], gm, 0, fun _ => none⟩ ∧ Fr NoBlk w2 w3 ∧ w2.heap.size ≤ g ∧ w2.heap.size ≤ gm) := ⟨hl, hf3, hg, hgm⟩
  clear hl hf3 hg hgm
  go_wp2_with fail
  refine (rnew_any w3 ep HEP.out).mono ?_
  rintro e w4 ⟨m, rfl, hr4, hf4, hm4⟩
  have HP0 : Hid (PlS w w4 (fun _ => False) g m ⟨ep, 0, 1, 1, none, 0, [], gm, 0, fun _ => none⟩ ⟨ep, 0, 1, 1, none, 0, [], none, 0, []⟩) := pls_new (HF2.out.trans HN1.out.2.1) HN1.out.1 HN1.out.2.2.1 HN1.out.2.2.2 HF2.out.size hr4 hf4 hm4
  have HI0 := Lib.hid (PlI.new ep gm)
  clear hr4 hf4 hm4 HN1 HF2
  go_wp2_with fail
  go_loopw [32] (fun z wr => ∃ (k : Nat) (L : Lk) (R : Rk), k ≤ xs.length ∧ z = .int .i64 (k : Int) ∧ Hid (PlS w wr (fun _ => False) g m L R) ∧ Hid (PlI k L R)) (fun z _ => xs.length - (intOf z).toNat)
  case atStart => exact ⟨0, _, _, by omega, rfl, HP0.out, HI0.out⟩
  case round =>
    obtain ⟨k, L, R, hk, rfl, HP, HI⟩ := hrel
    by_cases hlt : k < xs.length
    · obtain ⟨x, hx⟩ : ∃ x, xs[k]? = some x := ⟨_, List.getElem?_eq_getElem hlt⟩
      have HXI := Lib.hid (HXS.out x (List.mem_of_getElem? hx))
      have HXO := Lib.hid (HSM.out.o x (List.mem_of_getElem? hx))
      obtain ⟨b, o, hA, u0, u1, u2, u3, u4, u5, u6⟩ := (HR.out.nofr HP.out.fr).lop hx
      have HK200 : Hid (k ≤ 200) := by show _ ≤ _; omega
      rw [hA]
      clear hA hx
      obtain ⟨wb, hwb⟩ : ∃ wb, wb = wr.alloc (.cells (loa x) 34) := ⟨_, rfl⟩
      obtain ⟨bo, hbo⟩ : ∃ bo, bo = wr.heap.size := ⟨_, rfl⟩
      have HBO : Hid (Bk wb bo 34 (loa x)) := by show Bk _ _ _ _; rw [hwb, hbo]; exact Bk.new _ _ _
      have hfb : Fr NoBlk wr wb := by rw [hwb]; exact (Fr.refl _ _).alloc _
      have HP1 : Hid (PlS w wb (fun k => k = bo) g m L R) := HP.out.sub (fun k hk => .inr (by rw [hk, hbo]; exact Nat.le_refl _)) hfb (fun k hk => by rw [hk]; exact HBO.out.lt)
      unfold loa at hwb
      clear hfb HP
      go_upto_region 11 with fail
      rw [← hwb, ← hbo]
      clear hwb hbo u0 u1 u2 u3 u4 u5 u6
      have k0 : wb.cell? ⟨bo, 0, none⟩ = some (.int .i64 x.kind) := HBO.out.cell 0
      go_upto_if 39 with fail
      clear k0
      go_cut [5] (fun s5 wx => s5 = .pointer (some ⟨g, 0, none⟩) ∧ ∃ (L' : Lk) (R' : Rk), Hid (PlS w wx (fun _ => False) g m L' R') ∧ Hid (PlI (k + 1) L' R'))
      case first => as_aux_lemma =>
        obtain ⟨q, hq, hq1⟩ := low_bits x.kind 1 (by omega)
        have hqq : bits .and .i64 x.kind 1 = (q : Int) := hq
        clear hq
        by_cases hq0 : q = 0
        · have hqn : bits .and .i64 x.kind 1 = 0 := by rw [hqq, hq0]; rfl
          have hqb : (bits .and .i64 x.kind 1 == 0) = true := by rw [hqn]; rfl
          clear hqq hq0 hq1
          have H500 : Hid (x.d.2.2.length ≤ 1000000) := by have := HXO.out.1; show _ ≤ _; omega
          have HWB : Hid (w.heap.size ≤ wb.heap.size) := HP1.out.fr.size
          obtain ⟨i0, hi, hz0, hz1, hz2⟩ := info_parts byteInfo
          have k1 : wb.cell? ⟨bo, 1, none⟩ = some (.slice x.d.1 x.d.2.2.length x.d.2.1) := HBO.out.cell 1
          have k1' : (wb.alloc (.cells #[] 5)).cell? ⟨bo, 1, none⟩ = some (.slice x.d.1 x.d.2.2.length x.d.2.1) := (HBO.out.alloc _).cell 1
          go_wp2_with (at_builtin; refine wpList_app rfl _ _ 30 rfl wb.heap.size 5 i0 (.int .u8 0) 1 Try.underlying30 hi hz0 hz1 hz2 rfl _ 0 [] rfl (World.ownsRow_made wb #[] 0 (Nat.le_refl _) (by decide) rfl) x.d.1 x.d.2.1 x.d.2.2.length (cb x.d.2.2) rfl (cb_length _) ?c1 (cb_one _) ?c2 ?c3 ?c4 ?c5 ?_)
          case c1 => exact (HXI.out.rd.nofr HP1.out.fr).alloc _
          case c2 => exact HXI.out.nil
          case c3 => have := H500.out; unfold maxLen; omega
          case c4 => have := H500.out; omega
          case c5 => simp
          intro v3 w3 ho3 hg3 _ hb3
          obtain ⟨A2, c2, rfl, _, _⟩ := own_form ho3
          have hf3 : Fr NoBlk wb w3 := ((Fr.refl _ _).alloc _).grown hg3 (fun k hk hlt => by simp [Value.ownBlock] at hk; omega)
          have ho3' : w3.ownsRow wb.heap.size 5 1 (.slice A2 x.d.2.2.length c2) x.d.2.2.length (cb x.d.2.2) := by simpa using ho3
          have HBO3 : Hid (Bk w3 bo 34 (loa x)) := HBO.out.fr hf3 (fun h => h)
          have HD3 := Lib.hid ho3'
          have HP3 : Hid (PlS w w3 (fun k => k = bo ∨ (Value.slice A2 x.d.2.2.length c2).ownBlock = some k) g m L R) := HP1.out.sub (fun k hk => by
            rcases hk with hk | hk
            · exact .inl hk
            · exact .inr (own_blk ho3' hk).1) hf3 (fun k hk => by
            rcases hk with hk | hk
            · rw [hk]; exact HBO3.out.lt
            · exact (own_blk ho3' hk).2)
          have HSO : Hid (∀ w' : World, Bk w' bo 34 (loa x) → w'.cell? ⟨bo, 1, none⟩ = some (.slice x.d.1 x.d.2.2.length x.d.2.1)) := fun w' h => h.cell 1
          clear ho3 ho3' hg3 hb3 hf3 k1 k1' HP1 HBO
          go_upto_region 13 with fail
          try simp only [Nat.zero_add]
          refine wp_region_held_drew (S := fun w' => Bk w' bo 34 (loa x)) (by kernel_rfl) (by exact HBO3.out.fr (Fr.refl NoBlk _).drew (fun h => h)) (fun hHeld => ?_)
          obtain ⟨w6, hw6⟩ : ∃ w6, w6 = w3.drew := ⟨_, rfl⟩
          have HP6 : Hid (PlS w w6 (fun k => k = bo ∨ (Value.slice A2 x.d.2.2.length c2).ownBlock = some k) g m L R) := by show PlS _ _ _ _ _ _ _; rw [hw6]; exact HP3.out.nofr (Fr.refl NoBlk _).drew
          have HD6 : Hid (w6.ownsRow wb.heap.size 5 1 (.slice A2 x.d.2.2.length c2) x.d.2.2.length (cb x.d.2.2)) := by show World.ownsRow _ _ _ _ _ _ _; rw [hw6]; exact own_fr HD3.out (Fr.refl NoBlk _).drew (fun _ _ h => h)
          rw [← hw6] at hHeld ⊢
          clear hw6 HP3 HD3 HBO3
          refine wpAnyH_take (i := 0) (oi := ⟨some 44, _, _, _, _, _⟩) (v := ?_) rfl (by kernel_rfl) (by kernel_rfl) (by kernel_rfl) (fun _ _ _ h => h) (Or.inl ⟨by rfl, ?_⟩) (by assumption) ?_
          rotate_left 1
          · (intro w hSw; (try dsimp only at hSw); have k1 := HSO.out _ hSw; go_simp) <;> (with_reducible rfl)
          try simp only [Act.put, List.setIfInBounds_toArray, List.set_cons_zero, List.set_cons_succ]
          refine wpAnyH_take (i := 1) (oi := ⟨some 45, _, _, _, _, _⟩) (v := ?_) rfl (by kernel_rfl) (by kernel_rfl) (by kernel_rfl) (fun _ _ _ h => h) (Or.inl ⟨by rfl, ?_⟩) (by assumption) ?_
          rotate_left 1
          · (intro w hSw; (try dsimp only at hSw); have k1 := HSO.out _ hSw; go_simp) <;> (with_reducible rfl)
          try simp only [Act.put, List.setIfInBounds_toArray, List.set_cons_zero, List.set_cons_succ]
          refine wpAnyH_take (i := 3) (oi := ⟨some 47, _, _, _, _, _⟩) (v := ?_) rfl (by kernel_rfl) (by kernel_rfl) (by kernel_rfl) (fun _ _ _ h => h) (Or.inl ⟨by rfl, ?_⟩) (by assumption) ?_
          rotate_left 1
          · (intro w hSw; (try dsimp only at hSw); have k1 := HSO.out _ hSw; go_simp) <;> (with_reducible rfl)
          try simp only [Act.put, List.setIfInBounds_toArray, List.set_cons_zero, List.set_cons_succ]
          refine wpAnyH_take (i := 4) (oi := ⟨some 48, _, _, _, _, _⟩) (v := ?_) rfl (by kernel_rfl) (by kernel_rfl) (by kernel_rfl) (fun _ _ _ h => h) (Or.inl ⟨by rfl, ?_⟩) (by assumption) ?_
          rotate_left 1
          · (intro w hSw; (try dsimp only at hSw); have k1 := HSO.out _ hSw; go_simp) <;> (with_reducible rfl)
          try simp only [Act.put, List.setIfInBounds_toArray, List.set_cons_zero, List.set_cons_succ]
          refine wpAnyH_take (i := 5) (oi := ⟨some 49, _, _, _, _, _⟩) (v := ?_) rfl (by kernel_rfl) (by kernel_rfl) (by kernel_rfl) (fun _ _ _ h => h) (Or.inl ⟨by rfl, ?_⟩) (by assumption) ?_
          rotate_left 1
          · (intro w hSw; (try dsimp only at hSw); have k1 := HSO.out _ hSw; go_simp) <;> (with_reducible rfl)
          try simp only [Act.put, List.setIfInBounds_toArray, List.set_cons_zero, List.set_cons_succ]
          refine wpAnyH_ready (rs := [2]) (by kernel_rfl) (by simp) ?_
          refine AllReadyH.cons (o := ⟨some 46, _, _, _, _, _⟩) rfl (fun K hK => ?_) AllReadyH.nil
          have hSw := hHeld
          go_simp
          go_at_call 12
          refine (HP6.out.send A2 c2 x.d.2.2 (Rd.of_own HD6.out) (own_lens HD6.out).2.2 H500.out).mono ?_
          rintro e w7 ⟨hf7, rc, L', rfl, hs7, hp7⟩
          have hB7 : Bk w7 bo 34 (loa x) := Bk.fr hSw hf7 (fun e => e.2.1 (.inl rfl))
          have HP7 : Hid (PlS w w7 (fun k => k = bo ∨ (Value.slice A2 x.d.2.2.length c2).ownBlock = some k) g m L' R) := hp7
          have HD7 : Hid (w7.ownsRow wb.heap.size 5 1 (.slice A2 x.d.2.2.length c2) x.d.2.2.length (cb x.d.2.2)) := own_fr HD6.out hf7 (fun k hk e => e.2.1 (.inr hk))
          have HS7 := Lib.hid hs7
          clear hf7 hp7 hs7 HP6 HD6
          refine hK.out _ _ ?_ (fun hHeld => ?_)
          · exact hB7
          clear hK K
          try simp only [Act.put, List.setIfInBounds_toArray, List.set_cons_zero, List.set_cons_succ]
          refine wpAnyH_ready (rs := [6]) (by kernel_rfl) (by simp) ?_
          refine AllReadyH.cons (o := ⟨some 50, _, _, _, _, _⟩) rfl (fun K hK => ?_) AllReadyH.nil
          have hSw := hHeld
          go_simp
          go_at_call 13
          refine (HP7.out.rsend x.d.1 x.d.2.1 x.d.2.2 (HXI.out.rd.nofr HP7.out.fr) HXI.out.nil H500.out).mono ?_
          rintro e w8 ⟨hf8, rc', R', rfl, hs8, hp8⟩
          have hB8 : Bk w8 bo 34 (loa x) := Bk.fr hSw hf8 (fun e => HP7.out.mS (.inl e.symm))
          have HP8 : Hid (PlS w w8 (fun k => k = bo ∨ (Value.slice A2 x.d.2.2.length c2).ownBlock = some k) g m L' R') := hp8
          have HD8 : Hid (w8.ownsRow wb.heap.size 5 1 (.slice A2 x.d.2.2.length c2) x.d.2.2.length (cb x.d.2.2)) := own_fr HD7.out hf8 (fun k hk e => HP7.out.mS (.inr (by rw [hk, e])))
          obtain ⟨rfl, hpi⟩ := HI.out.send HXO.out.1 HS7.out hs8
          have HPI := Lib.hid hpi
          clear hf8 hp8 hs8 hpi HP7 HD7 HS7
          refine hK.out _ _ ?_ (fun hHeld => ?_)
          · exact hB8
          clear hK K
          try simp only [Act.put, List.setIfInBounds_toArray, List.set_cons_zero, List.set_cons_succ]
          refine wpAnyH_take (i := 7) (oi := ⟨some 51, _, _, _, _, _⟩) (v := ?_) rfl (by kernel_rfl) (by kernel_rfl) (by kernel_rfl) (fun _ _ _ h => h) (Or.inl ⟨by rfl, ?_⟩) (by assumption) ?_
          rotate_left 1
          · (intro w hSw; (try dsimp only at hSw); have k1 := HSO.out _ hSw; go_simp) <;> (with_reducible rfl)
          try simp only [Act.put, List.setIfInBounds_toArray, List.set_cons_zero, List.set_cons_succ]
          refine wpAnyH_done (by kernel_rfl) ?_ _
          clear hHeld HSO
          have hrc : (rc != rc) = false := by simp
          have HCP : Hid (x.d.2.2.length ≤ c2) := (own_lens HD8.out).1
          have hcp := HCP.out
          go_wp2_with fail
          go_loopw [54] (fun s wr => ∃ (i : Nat) (ys : List Value), i ≤ x.d.2.2.length ∧ s = .int .i64 (i : Int) ∧ Hid (wr.ownsRow wb.heap.size 5 1 (.slice A2 x.d.2.2.length c2) x.d.2.2.length ys) ∧ Hid (PlS w wr (fun k => k = bo ∨ (Value.slice A2 x.d.2.2.length c2).ownBlock = some k) g m L' R')) (fun s _ => x.d.2.2.length - (intOf s).toNat)
          case atStart => exact ⟨0, _, by omega, rfl, HD8.out, HP8.out⟩
          case round =>
            obtain ⟨i, ys, hi', rfl, HY, HP9⟩ := hrel
            have hcp := HCP.out
            by_cases hlt2 : i < x.d.2.2.length
            · obtain ⟨b2, hA2⟩ : ∃ b2, A2 = some ⟨b2, 0, none⟩ := by
                rcases HY.out.2 with ⟨_, e⟩ | ⟨b2, cap, cur, e, _⟩
                · omega
                · injection e with e _ _
                  exact ⟨b2, e⟩
              subst hA2
              have hcell := HY.out.cellAt i (by omega)
              have hfree := HY.out.frozenAt i
              obtain ⟨y, hy⟩ : ∃ y, ys[i]? = some y := ⟨_, List.getElem?_eq_getElem (by have := HY.out.1; omega)⟩
              rw [hy] at hcell
              clear hy
              have hl500 := H500.out
              have HY2 := Lib.hid (HY.out.stored i (.int .u8 238)).1

              have HP10 : Hid (PlS w (wr.setCell ⟨b2, i, none⟩ (.int .u8 238)) (fun k => k = bo ∨ (Value.slice (some ⟨b2, 0, none⟩) x.d.2.2.length c2).ownBlock = some k) g m L' R') := by
                have hb2 : w.heap.size ≤ b2 := Nat.le_trans HWB.out (own_blk HY.out rfl).1
                exact HP9.out.far (((Fr.refl (fun k => k = b2) wr).setCell (p := ⟨b2, i, none⟩) (fun _ => rfl) _).mono fun k _ e => .inr (by rw [e]; rfl)) (HP9.out.fr.setCell (fun h => by simp only at h; omega) _)
              go_wp2_with fail
              go_roundw
              case rel => exact ⟨i + 1, _, by omega, by go_num, HY2, HP10⟩
              case measure => simp [intOf]; omega
            · have HPZ : Hid (PlS w wr (fun _ => False) g m L' R') := HP9.out.sub (fun _ e => e.elim) (Fr.refl _ _) (fun _ e => e.elim)
              have hlt2' : ¬ (i : Int) < (x.d.2.2.length : Int) := by omega
              clear HP9 HY
              go_wp2_with fail
              go_meet
              exact ⟨rfl, L', R', HPZ, HPI⟩
        · have hqn : bits .and .i64 x.kind 1 = 1 := by rw [hqq, show q = 1 by omega]; rfl
          have hqb : (bits .and .i64 x.kind 1 == 0) = false := by rw [hqn]; rfl
          clear hqq hq0 hq1
          have H500 : Hid (x.p.d.2.2.length ≤ 1000000) := by have := HXO.out.2; show _ ≤ _; omega
          have HWB : Hid (w.heap.size ≤ wb.heap.size) := HP1.out.fr.size
          obtain ⟨i0, hi, hz0, hz1, hz2⟩ := info_parts byteInfo
          have k2 : wb.cell? ⟨bo, 2, none⟩ = some (.int .u64 (x.p.ep : Int)) := HBO.out.cell 2
          have k3 : wb.cell? ⟨bo, 3, none⟩ = some (.int .u64 (x.p.pe : Int)) := HBO.out.cell 3
          have k4 : wb.cell? ⟨bo, 4, none⟩ = some (.int .u64 (x.p.sq : Int)) := HBO.out.cell 4
          have k5 : wb.cell? ⟨bo, 5, none⟩ = some (.int .u64 (x.p.ak : Int)) := HBO.out.cell 5
          have k6 : wb.cell? ⟨bo, 6, none⟩ = some (.slice x.p.d.1 x.p.d.2.2.length x.p.d.2.1) := HBO.out.cell 6
          obtain ⟨w2, hw2⟩ : ∃ w2, w2 = wb.alloc (.cells (pka x.p) 32) := ⟨_, rfl⟩
          obtain ⟨b11, hb11⟩ : ∃ b11, b11 = wb.heap.size := ⟨_, rfl⟩
          have HF2 : Hid (Fr NoBlk wb w2) := by show Fr _ _ _; rw [hw2]; exact (Fr.refl _ _).alloc _
          have HB2 : Hid (Bk w2 b11 32 (pka x.p)) := by show Bk _ _ _ _; rw [hw2, hb11]; exact Bk.new _ _ _
          have HBO2 : Hid (Bk w2 bo 34 (loa x)) := HBO.out.fr HF2.out (fun h => h)
          have HB11 := Lib.hid hb11
          unfold pka at hw2
          go_upto_region 21 with fail
          rw [← hw2, ← hb11]
          clear hw2 hb11 k2 k3 k4 k5 k6
          have k6 : w2.cell? ⟨bo, 6, none⟩ = some (.slice x.p.d.1 x.p.d.2.2.length x.p.d.2.1) := HBO2.out.cell 6
          have k6' : (w2.alloc (.cells #[] 5)).cell? ⟨bo, 6, none⟩ = some (.slice x.p.d.1 x.p.d.2.2.length x.p.d.2.1) := (HBO2.out.alloc _).cell 6
          go_wp2_with (at_builtin; refine wpList_app rfl _ _ 30 rfl w2.heap.size 5 i0 (.int .u8 0) 1 Try.underlying30 hi hz0 hz1 hz2 rfl _ 0 [] rfl (World.ownsRow_made w2 #[] 0 (Nat.le_refl _) (by decide) rfl) x.p.d.1 x.p.d.2.1 x.p.d.2.2.length (cb x.p.d.2.2) rfl (cb_length _) ?c1 (cb_one _) ?c2 ?c3 ?c4 ?c5 ?_)
          case c1 => exact (HXI.out.pk.rd.nofr (HP1.out.fr.trans HF2.out)).alloc _
          case c2 => exact HXI.out.pk.nil
          case c3 => have := H500.out; unfold maxLen; omega
          case c4 => have := H500.out; omega
          case c5 => simp
          intro v3 w3 ho3 hg3 _ hb3
          obtain ⟨A2, c2, rfl, _, _⟩ := own_form ho3
          have hf3 : Fr NoBlk w2 w3 := ((Fr.refl _ _).alloc _).grown hg3 (fun k hk hlt => by simp [Value.ownBlock] at hk; omega)
          have ho3' : w3.ownsRow w2.heap.size 5 1 (.slice A2 x.p.d.2.2.length c2) x.p.d.2.2.length (cb x.p.d.2.2) := by simpa using ho3
          have hb3' := HB2.out.fr hf3 (fun h => h)
          obtain ⟨w5, hw5⟩ : ∃ w5, w5 = w3.setCell ⟨b11, 4, none⟩ (.slice A2 x.p.d.2.2.length c2) := ⟨_, rfl⟩
          have hf5 : Fr NoBlk wb w5 := by rw [hw5]; exact (HF2.out.trans hf3).setCell (fun h => by have := HB11.out; simp only at h; omega) _
          have HB5 : Hid (Bk w5 b11 32 #[.int .u64 (x.p.ep : Int), .int .u64 (x.p.pe : Int), .int .u64 (x.p.sq : Int), .int .u64 (x.p.ak : Int), .slice A2 x.p.d.2.2.length c2]) := by show Bk _ _ _ _; rw [hw5]; exact hb3'.put 4 _
          have HBO5 : Hid (Bk w5 bo 34 (loa x)) := HBO.out.fr hf5 (fun h => h)
          have HD5 : Hid (w5.ownsRow wb.heap.size 5 1 (.slice A2 x.p.d.2.2.length c2) x.p.d.2.2.length (cb x.p.d.2.2)) := by show World.ownsRow _ _ _ _ _ _ _; rw [hw5]; exact own_set (own_base ho3' HF2.out.size) hb3' (by decide)
          have HP5 : Hid (PlS w w5 (fun k => k = bo ∨ k = b11 ∨ (Value.slice A2 x.p.d.2.2.length c2).ownBlock = some k) g m L R) := HP1.out.sub (fun k hk => by
            rcases hk with hk | hk | hk
            · exact .inl hk
            · exact .inr (by rw [hk, HB11.out]; exact Nat.le_refl _)
            · exact .inr (Nat.le_trans HF2.out.size (own_blk ho3' hk).1)) hf5 (fun k hk => by
            rcases hk with hk | hk | hk
            · rw [hk]; exact HBO5.out.lt
            · rw [hk]; exact HB5.out.lt
            · exact (own_blk HD5.out hk).2)
          have r4 := hb3'.cell 4
          have rf := hb3'.free 4
          unfold pka at r4
          simp only [List.getElem?_toArray, List.getElem?_cons_zero, List.getElem?_cons_succ] at r4
          clear ho3 ho3' hg3 hb3 hf3 hb3' hf5 k6 k6' HP1 HB2 HBO HBO2
          go_upto_region 22 with fail
          try simp only [Nat.zero_add]
          rw [← hw5]
          clear hw5 r4 rf HF2
          have f0 := HB5.out.cell 0
          have f1 := HB5.out.cell 1
          have f2 := HB5.out.cell 2
          have f3 := HB5.out.cell 3
          have f4 := HB5.out.cell 4
          simp only [List.getElem?_toArray, List.getElem?_cons_zero, List.getElem?_cons_succ] at f0 f1 f2 f3 f4
          have HFT := Lib.hid (HI.out.fits (by have := HK200.out; omega) (.inr HK200.out))
          have HRC : Hid (Calls Try.prog 14 #[.pointer (some ⟨g, 0, none⟩), .agg #[.int .u64 (x.p.ep : Int), .int .u64 (x.p.pe : Int), .int .u64 (x.p.sq : Int), .int .u64 (x.p.ak : Int), .slice A2 x.p.d.2.2.length c2]] w5 fun e W' => Fr (OutB w w5 (fun k => k = bo ∨ k = b11 ∨ (Value.slice A2 x.p.d.2.2.length c2).ownBlock = some k)) w5 W' ∧ ∃ A c ps B c' xs L', e = .returned (.tuple #[.slice A ps.length c, .slice B xs.length c']) ∧ RecD L ⟨x.p.ep, x.p.pe, x.p.sq, x.p.ak, (A2, c2, x.p.d.2.2)⟩ ps xs L' ∧ PlS w W' (fun k => k = bo ∨ k = b11 ∨ (Value.slice A2 x.p.d.2.2.length c2).ownBlock = some k) g m L' R ∧
                (∀ W'', Fr (fun k => k = m) W' W'' → RowRd W'' A ps ∧ PkRd W'' B xs)) := HP5.out.recv ⟨x.p.ep, x.p.pe, x.p.sq, x.p.ak, (A2, c2, x.p.d.2.2)⟩ HXI.out.pk.ep HXI.out.pk.sq HXI.out.pk.ak HD5.out H500.out HFT.out.1 HFT.out.2.1
          go_wp2_with fail
          refine HRC.out.mono ?_
          rintro e w6 ⟨hf6, A6, c6, ps, B6, d6, zs, L', rfl, hrd, hp6, hrows⟩
          have HB6 : Hid (Bk w6 b11 32 #[.int .u64 (x.p.ep : Int), .int .u64 (x.p.pe : Int), .int .u64 (x.p.sq : Int), .int .u64 (x.p.ak : Int), .slice A2 x.p.d.2.2.length c2]) := HB5.out.fr hf6 (fun e => e.2.1 (.inr (.inl rfl)))
          have HBO6 : Hid (Bk w6 bo 34 (loa x)) := HBO5.out.fr hf6 (fun e => e.2.1 (.inl rfl))
          have HD6 : Hid (w6.ownsRow wb.heap.size 5 1 (.slice A2 x.p.d.2.2.length c2) x.p.d.2.2.length (cb x.p.d.2.2)) := own_fr HD5.out hf6 (fun k hk e => e.2.1 (.inr (.inr hk)))
          have HP6 := Lib.hid hp6
          have HRD := Lib.hid hrd
          have HRW := Lib.hid hrows
          clear hf6 hp6 hrd hrows HB5 HBO5 HD5 HP5 HRC f0 f1 f2 f3 f4
          have k2 : w6.cell? ⟨bo, 2, none⟩ = some (.int .u64 (x.p.ep : Int)) := HBO6.out.cell 2
          have k3 : w6.cell? ⟨bo, 3, none⟩ = some (.int .u64 (x.p.pe : Int)) := HBO6.out.cell 3
          have k4 : w6.cell? ⟨bo, 4, none⟩ = some (.int .u64 (x.p.sq : Int)) := HBO6.out.cell 4
          have k5 : w6.cell? ⟨bo, 5, none⟩ = some (.int .u64 (x.p.ak : Int)) := HBO6.out.cell 5
          have k6 : w6.cell? ⟨bo, 6, none⟩ = some (.slice x.p.d.1 x.p.d.2.2.length x.p.d.2.1) := HBO6.out.cell 6
          have HRR : Hid (Calls Try.prog 15 #[.pointer (some ⟨m, 0, none⟩), .agg #[.int .u64 (x.p.ep : Int), .int .u64 (x.p.pe : Int), .int .u64 (x.p.sq : Int), .int .u64 (x.p.ak : Int), .slice x.p.d.1 x.p.d.2.2.length x.p.d.2.1]] w6 fun e W' => Fr (fun k => k = m) w6 W' ∧ ∃ A c qs B c' ys R', e = .returned (.tuple #[.slice A qs.length c, .slice B ys.length c']) ∧ RecV (rv R) x.p (qs.map (·.2.2)) (ys.map pkd) (rv R') ∧ PlS w W' (fun k => k = bo ∨ k = b11 ∨ (Value.slice A2 x.p.d.2.2.length c2).ownBlock = some k) g m L' R' ∧ RowRd W' A qs ∧ PkRd W' B ys) := HP6.out.rrecv x.p HXI.out.pk.ep HXI.out.pk.sq HXI.out.pk.ak (HXI.out.pk.rd.nofr HP6.out.fr) HXI.out.pk.nil H500.out HFT.out.2.2.1 HFT.out.2.2.2
          go_wp2_with fail
          refine HRR.out.mono ?_
          rintro e w7 ⟨hf7, A7, c7, qs, B7, d7, ts, R', rfl, hrv, hp7, hq7, ht7⟩
          have HB7 : Hid (Bk w7 b11 32 #[.int .u64 (x.p.ep : Int), .int .u64 (x.p.pe : Int), .int .u64 (x.p.sq : Int), .int .u64 (x.p.ak : Int), .slice A2 x.p.d.2.2.length c2]) := HB6.out.fr hf7 (fun e => HP6.out.mS (.inr (.inl e.symm)))
          have HD7 : Hid (w7.ownsRow wb.heap.size 5 1 (.slice A2 x.p.d.2.2.length c2) x.p.d.2.2.length (cb x.p.d.2.2)) := own_fr HD6.out hf7 (fun k hk e => HP6.out.mS (.inr (.inr (by rw [hk, e]))))
          obtain ⟨he1, he2, hpi⟩ := HI.out.recv (by have := HK200.out; omega) HXI.out.pk.ak HRD.out hrv
          have HPI := Lib.hid hpi
          have HE2 := Lib.hid he2
          have HE1 := Lib.hid he1
          have HP7 := Lib.hid hp7
          have HSD := Lib.hid (sameData_any w7 A6 A7 c6 c7 ps qs (HRW.out w7 hf7).1 hq7)
          have HSP : Hid (∀ w', Fr NoBlk w7 w' → Calls Try.prog 17 #[.slice B6 zs.length d6, .slice B7 ts.length d7] w' fun e w'' => (∃ d, e = .returned (.bool d) ∧ (d = true ↔ zs.map pkd = ts.map pkd)) ∧ Fr NoBlk w' w'') := fun w' hf => samePk_any w' B6 B7 d6 d7 zs ts ((HRW.out w7 hf7).2.nofr hf) (ht7.nofr hf)
          clear hf7 hrv hp7 hq7 ht7 he1 he2 hpi HRD HRW HB6 HBO6 HD6 HP6 HRR k2 k3 k4 k5 k6
          go_wp2_with fail
          refine HSD.out.mono ?_
          rintro e w8 ⟨⟨d8, rfl, hd8⟩, hf8⟩
          obtain rfl : d8 = true := hd8.2 HE1.out
          have HSQ := Lib.hid (HSP.out w8 hf8)
          have HF8 := Lib.hid hf8
          clear hd8 hf8 HSD HSP
          go_wp2_with fail
          refine HSQ.out.mono ?_
          rintro e w9 ⟨⟨d9, rfl, hd9⟩, hf9⟩
          obtain rfl : d9 = true := hd9.2 HE2.out
          have hf79 := HF8.out.trans hf9
          have HB8 : Hid (Bk w9 b11 32 #[.int .u64 (x.p.ep : Int), .int .u64 (x.p.pe : Int), .int .u64 (x.p.sq : Int), .int .u64 (x.p.ak : Int), .slice A2 x.p.d.2.2.length c2]) := HB7.out.fr hf79 (fun h => h)
          have HD8 : Hid (w9.ownsRow wb.heap.size 5 1 (.slice A2 x.p.d.2.2.length c2) x.p.d.2.2.length (cb x.p.d.2.2)) := own_fr HD7.out hf79 (fun _ _ e => e)
          have HP8 : Hid (PlS w w9 (fun k => k = bo ∨ k = b11 ∨ (Value.slice A2 x.p.d.2.2.length c2).ownBlock = some k) g m L' R') := HP7.out.nofr hf79
          clear hd9 hf9 hf79 HSQ HF8 HB7 HD7 HP7 HE1 HE2
          have f4 := HB8.out.cell 4
          simp only [List.getElem?_toArray, List.getElem?_cons_zero, List.getElem?_cons_succ] at f4
          have HCP : Hid (x.p.d.2.2.length ≤ c2) := (own_lens HD8.out).1
          have hcp := HCP.out
          go_wp2_with fail
          go_loopw [95] (fun s wr => ∃ (i : Nat) (ys : List Value), i ≤ x.p.d.2.2.length ∧ s = .int .i64 (i : Int) ∧ Hid (wr.ownsRow wb.heap.size 5 1 (.slice A2 x.p.d.2.2.length c2) x.p.d.2.2.length ys) ∧ Hid (Bk wr b11 32 #[.int .u64 (x.p.ep : Int), .int .u64 (x.p.pe : Int), .int .u64 (x.p.sq : Int), .int .u64 (x.p.ak : Int), .slice A2 x.p.d.2.2.length c2]) ∧ Hid (PlS w wr (fun k => k = bo ∨ k = b11 ∨ (Value.slice A2 x.p.d.2.2.length c2).ownBlock = some k) g m L' R')) (fun s _ => x.p.d.2.2.length - (intOf s).toNat)
          case atStart => exact ⟨0, _, by omega, rfl, HD8.out, HB8.out, HP8.out⟩
          case round =>
            obtain ⟨i, ys, hi', rfl, HY, HB9, HP9⟩ := hrel
            have hcp := HCP.out
            have g4 := HB9.out.cell 4
            simp only [List.getElem?_toArray, List.getElem?_cons_zero, List.getElem?_cons_succ] at g4
            by_cases hlt2 : i < x.p.d.2.2.length
            · obtain ⟨b2, hA2⟩ : ∃ b2, A2 = some ⟨b2, 0, none⟩ := by
                rcases HY.out.2 with ⟨_, e⟩ | ⟨b2, cap, cur, e, _⟩
                · omega
                · injection e with e _ _
                  exact ⟨b2, e⟩
              subst hA2
              have hcell := HY.out.cellAt i (by omega)
              have hfree := HY.out.frozenAt i
              obtain ⟨y, hy⟩ : ∃ y, ys[i]? = some y := ⟨_, List.getElem?_eq_getElem (by have := HY.out.1; omega)⟩
              rw [hy] at hcell
              clear hy
              have hl500 := H500.out
              have HY2 := Lib.hid (HY.out.stored i (.int .u8 238)).1
              have hne : b11 ≠ b2 := by
                intro e
                subst e
                rcases HY.out.2 with ⟨e, _⟩ | ⟨b2, cap, cur, e, _, hh, _⟩
                · cases e
                · injection e with e _ _
                  injection e with e
                  injection e with e
                  subst e
                  exact Bk.apart (t := 5) hh HB9.out (by decide) rfl
              have HB10 : Hid (Bk (wr.setCell ⟨b2, i, none⟩ (.int .u8 238)) b11 32 #[.int .u64 (x.p.ep : Int), .int .u64 (x.p.pe : Int), .int .u64 (x.p.sq : Int), .int .u64 (x.p.ak : Int), .slice (some ⟨b2, 0, none⟩) x.p.d.2.2.length c2]) := HB9.out.far (by exact hne) _
              clear hne
              have HP10 : Hid (PlS w (wr.setCell ⟨b2, i, none⟩ (.int .u8 238)) (fun k => k = bo ∨ k = b11 ∨ (Value.slice (some ⟨b2, 0, none⟩) x.p.d.2.2.length c2).ownBlock = some k) g m L' R') := by
                have hb2 : w.heap.size ≤ b2 := Nat.le_trans HWB.out (own_blk HY.out rfl).1
                exact HP9.out.far (((Fr.refl (fun k => k = b2) wr).setCell (p := ⟨b2, i, none⟩) (fun _ => rfl) _).mono fun k _ e => .inr (.inr (by rw [e]; rfl))) (HP9.out.fr.setCell (fun h => by simp only at h; omega) _)
              go_wp2_with fail
              go_roundw
              case rel => exact ⟨i + 1, _, by omega, by go_num, HY2, HB10, HP10⟩
              case measure => simp [intOf]; omega
            · have HPZ : Hid (PlS w wr (fun _ => False) g m L' R') := HP9.out.sub (fun _ e => e.elim) (Fr.refl _ _) (fun _ e => e.elim)
              have hlt2' : ¬ (i : Int) < (x.p.d.2.2.length : Int) := by omega
              clear HP9 HY
              clear HB9 g4
              go_wp2_with fail
              go_meet
              exact ⟨rfl, L', R', HPZ, HPI⟩
      case rest =>
        obtain ⟨rfl, L', R', HP', HI'⟩ := hcut
        clear HP1 HBO HI
        have HPK := Lib.hid (HP'.out.packets (fun p hp => by have := HI'.out.sm p hp; omega))
        go_wp2_with fail
        refine HPK.out.mono ?_
        rintro e w9 ⟨B9, c9, zs, rfl, hp9, hf9, hpa⟩
        have HP9 : Hid (PlS w w9 (fun _ => False) g m L' R') := HP'.out.nofr hf9
        have HS9 : Hid (SpI wc w9 B9 c9 zs) := SpI.of hp9 hf9
        have HK9 : Hid (∀ w', Fr NoBlk w9 w' → PkRd w' B9 zs) := fun w' hf => ⟨Rd.of_ownN (own_fr hp9.own hf (fun _ _ e => e)), fun y hy => Rd.of_own (own_fr (hp9.data y hy) hf (fun _ _ e => e)), by have h1 := own_cap hp9.own; have h2 := (own_lens hp9.own).1; unfold maxLen at h1; omega⟩
        have HZN : Hid (∀ y ∈ zs, y.d.2.2.length ≤ 9223372036854775807) := fun y hy => by have h1 := own_cap (hp9.data y hy); have h2 := (own_lens (hp9.data y hy)).1; unfold maxLen at h1; omega
        have HPA := Lib.hid hpa
        obtain ⟨nn, hnn⟩ : ∃ nn, nn = R'.outs.length := ⟨_, rfl⟩
        obtain ⟨pp, hpp⟩ : ∃ pp, pp = R'.pe := ⟨_, rfl⟩
        have HSK : Hid (∀ w', Fr NoBlk w9 w' → w'.cell? ⟨m, 1, none⟩ = some (.int .u64 (pp : Int)) ∧ w'.cell? ⟨m, 4, none⟩ = some (.slice R'.ao nn R'.co)) := fun w' hf => by rw [hnn, hpp]; exact (HP9.out.nofr hf).cells
        have HOP : Hid (∀ w', Fr NoBlk w9 w' → Calls Try.prog 20 #[.pointer (some ⟨g, 0, none⟩)] w' fun e W' => e = .returned (.int .i64 (nn : Int)) ∧ w' = W') := fun w' hf => by rw [hnn, ← HI'.out.len]; exact (HP9.out.nofr hf).open_
        have HPE : Hid (∀ w', Fr NoBlk w9 w' → Calls Try.prog 21 #[.pointer (some ⟨g, 0, none⟩)] w' fun e W' => e = .returned (.int .u64 (pp : Int)) ∧ w' = W') := fun w' hf => by rw [hpp, ← HI'.out.pe]; exact (HP9.out.nofr hf).peer
        have q1 : ((nn : Int) != (nn : Int)) = false := by simp
        have q2 : ((pp : Int) != (pp : Int)) = false := by simp
        clear hp9 hf9 hpa hnn hpp HPK
        go_upto_region 32 with fail
        refine wp_region_held_drew (S := fun w' => Fr NoBlk w9 w') (by kernel_rfl) (by exact (Fr.refl NoBlk _).drew) (fun hHeld => ?_)
        refine wpAnyH_take (i := 0) (oi := ⟨some 105, _, _, _, _, _⟩) (v := ?_) rfl (by kernel_rfl) (by kernel_rfl) (by kernel_rfl) (fun _ _ _ h => h) (Or.inl ⟨by rfl, ?_⟩) (by assumption) ?_
        rotate_left 1
        · (intro w hSw; (try dsimp only at hSw); obtain ⟨o1, o4⟩ := HSK.out _ hSw; go_simp) <;> (with_reducible rfl)
        try simp only [Act.put, List.setIfInBounds_toArray, List.set_cons_zero, List.set_cons_succ]
        refine wpAnyH_take (i := 1) (oi := ⟨some 106, _, _, _, _, _⟩) (v := ?_) rfl (by kernel_rfl) (by kernel_rfl) (by kernel_rfl) (fun _ _ _ h => h) (Or.inl ⟨by rfl, ?_⟩) (by assumption) ?_
        rotate_left 1
        · (intro w hSw; (try dsimp only at hSw); obtain ⟨o1, o4⟩ := HSK.out _ hSw; go_simp) <;> (with_reducible rfl)
        try simp only [Act.put, List.setIfInBounds_toArray, List.set_cons_zero, List.set_cons_succ]
        refine wpAnyH_ready (rs := [2]) (by kernel_rfl) (by simp) ?_
        refine AllReadyH.cons (o := ⟨some 107, _, _, _, _, _⟩) rfl (fun K hK => ?_) AllReadyH.nil
        have hSw := hHeld
        go_simp
        go_at_call 19
        refine ((HP9.out.nofr hSw).rpackets).mono ?_
        rintro e w10 ⟨A10, c10, ys, rfl, hr10, hf10, hps⟩
        have HEQ := Lib.hid (HI'.out.pks HPA.out hps)
        have HY10 := Lib.hid hr10
        have h10 : Fr NoBlk w9 w10 := hSw.trans hf10
        clear hf10 hr10 hps
        refine hK.out _ _ ?_ (fun hHeld => ?_)
        · exact h10
        clear hK K
        try simp only [Act.put, List.setIfInBounds_toArray, List.set_cons_zero, List.set_cons_succ]
        refine wpAnyH_ready (rs := [3]) (by kernel_rfl) (by simp) ?_
        refine AllReadyH.cons (o := ⟨some 108, _, _, _, _, _⟩) rfl (fun K hK => ?_) AllReadyH.nil
        have hSw := hHeld
        go_simp
        go_at_call 17
        refine (samePk_any w10 B9 A10 c9 c10 zs ys (HK9.out _ hSw) HY10.out).mono ?_
        rintro e w11 ⟨⟨d11, rfl, hd11⟩, hf11⟩
        obtain rfl : d11 = true := hd11.2 HEQ.out
        have h11 : Fr NoBlk w9 w11 := Fr.trans hSw hf11
        clear hd11 hf11
        refine hK.out _ _ ?_ (fun hHeld => ?_)
        · exact h11
        clear hK K
        try simp only [Act.put, List.setIfInBounds_toArray, List.set_cons_zero, List.set_cons_succ]
        refine wpAnyH_take (i := 4) (oi := ⟨some 109, _, _, _, _, _⟩) (v := ?_) rfl (by kernel_rfl) (by kernel_rfl) (by kernel_rfl) (fun _ _ _ h => h) (Or.inl ⟨by rfl, ?_⟩) (by assumption) ?_
        rotate_left 1
        · (intro w hSw; (try dsimp only at hSw); obtain ⟨o1, o4⟩ := HSK.out _ hSw; go_simp) <;> (with_reducible rfl)
        try simp only [Act.put, List.setIfInBounds_toArray, List.set_cons_zero, List.set_cons_succ]
        refine wpAnyH_take (i := 5) (oi := ⟨some 110, _, _, _, _, _⟩) (v := ?_) rfl (by kernel_rfl) (by kernel_rfl) (by kernel_rfl) (fun _ _ _ h => h) (Or.inl ⟨by rfl, ?_⟩) (by assumption) ?_
        rotate_left 1
        · (intro w hSw; (try dsimp only at hSw); obtain ⟨o1, o4⟩ := HSK.out _ hSw; go_simp) <;> (with_reducible rfl)
        try simp only [Act.put, List.setIfInBounds_toArray, List.set_cons_zero, List.set_cons_succ]
        refine wpAnyH_take (i := 6) (oi := ⟨some 111, _, _, _, _, _⟩) (v := ?_) rfl (by kernel_rfl) (by kernel_rfl) (by kernel_rfl) (fun _ _ _ h => h) (Or.inl ⟨by rfl, ?_⟩) (by assumption) ?_
        rotate_left 1
        · (intro w hSw; (try dsimp only at hSw); obtain ⟨o1, o4⟩ := HSK.out _ hSw; go_simp) <;> (with_reducible rfl)
        try simp only [Act.put, List.setIfInBounds_toArray, List.set_cons_zero, List.set_cons_succ]
        refine wpAnyH_take (i := 8) (oi := ⟨some 113, _, _, _, _, _⟩) (v := ?_) rfl (by kernel_rfl) (by kernel_rfl) (by kernel_rfl) (fun _ _ _ h => h) (Or.inl ⟨by rfl, ?_⟩) (by assumption) ?_
        rotate_left 1
        · (intro w hSw; (try dsimp only at hSw); obtain ⟨o1, o4⟩ := HSK.out _ hSw; go_simp) <;> (with_reducible rfl)
        try simp only [Act.put, List.setIfInBounds_toArray, List.set_cons_zero, List.set_cons_succ]
        refine wpAnyH_take (i := 9) (oi := ⟨some 114, _, _, _, _, _⟩) (v := ?_) rfl (by kernel_rfl) (by kernel_rfl) (by kernel_rfl) (fun _ _ _ h => h) (Or.inl ⟨by rfl, ?_⟩) (by assumption) ?_
        rotate_left 1
        · (intro w hSw; (try dsimp only at hSw); obtain ⟨o1, o4⟩ := HSK.out _ hSw; go_simp) <;> (with_reducible rfl)
        try simp only [Act.put, List.setIfInBounds_toArray, List.set_cons_zero, List.set_cons_succ]
        refine wpAnyH_take (i := 10) (oi := ⟨some 115, _, _, _, _, _⟩) (v := ?_) rfl (by kernel_rfl) (by kernel_rfl) (by kernel_rfl) (fun _ _ _ h => h) (Or.inl ⟨by rfl, ?_⟩) (by assumption) ?_
        rotate_left 1
        · (intro w hSw; (try dsimp only at hSw); obtain ⟨o1, o4⟩ := HSK.out _ hSw; go_simp) <;> (with_reducible rfl)
        try simp only [Act.put, List.setIfInBounds_toArray, List.set_cons_zero, List.set_cons_succ]
        refine wpAnyH_take (i := 11) (oi := ⟨some 116, _, _, _, _, _⟩) (v := ?_) rfl (by kernel_rfl) (by kernel_rfl) (by kernel_rfl) (fun _ _ _ h => h) (Or.inl ⟨by rfl, ?_⟩) (by assumption) ?_
        rotate_left 1
        · (intro w hSw; (try dsimp only at hSw); obtain ⟨o1, o4⟩ := HSK.out _ hSw; go_simp) <;> (with_reducible rfl)
        try simp only [Act.put, List.setIfInBounds_toArray, List.set_cons_zero, List.set_cons_succ]
        refine wpAnyH_take (i := 12) (oi := ⟨some 117, _, _, _, _, _⟩) (v := ?_) rfl (by kernel_rfl) (by kernel_rfl) (by kernel_rfl) (fun _ _ _ h => h) (Or.inl ⟨by rfl, ?_⟩) (by assumption) ?_
        rotate_left 1
        · (intro w hSw; (try dsimp only at hSw); obtain ⟨o1, o4⟩ := HSK.out _ hSw; go_simp) <;> (with_reducible rfl)
        try simp only [Act.put, List.setIfInBounds_toArray, List.set_cons_zero, List.set_cons_succ]
        refine wpAnyH_ready (rs := [7]) (by kernel_rfl) (by simp) ?_
        refine AllReadyH.cons (o := ⟨some 112, _, _, _, _, _⟩) rfl (fun K hK => ?_) AllReadyH.nil
        have hSw := hHeld
        go_simp
        go_at_call 20
        refine (HOP.out _ hSw).mono ?_
        rintro e w' ⟨rfl, rfl⟩
        refine hK.out _ _ ?_ (fun hHeld => ?_)
        · assumption
        clear hK K
        try simp only [Act.put, List.setIfInBounds_toArray, List.set_cons_zero, List.set_cons_succ]
        refine wpAnyH_take (i := 13) (oi := ⟨some 118, _, _, _, _, _⟩) (v := ?_) rfl (by kernel_rfl) (by kernel_rfl) (by kernel_rfl) (fun _ _ _ h => h) (Or.inl ⟨by rfl, ?_⟩) (by assumption) ?_
        rotate_left 1
        · (intro w hSw; (try dsimp only at hSw); obtain ⟨o1, o4⟩ := HSK.out _ hSw; go_simp) <;> (with_reducible rfl)
        try simp only [Act.put, List.setIfInBounds_toArray, List.set_cons_zero, List.set_cons_succ]
        refine wpAnyH_take (i := 14) (oi := ⟨some 119, _, _, _, _, _⟩) (v := ?_) rfl (by kernel_rfl) (by kernel_rfl) (by kernel_rfl) (fun _ _ _ h => h) (Or.inl ⟨by rfl, ?_⟩) (by assumption) ?_
        rotate_left 1
        · (intro w hSw; (try dsimp only at hSw); obtain ⟨o1, o4⟩ := HSK.out _ hSw; go_simp) <;> (with_reducible rfl)
        try simp only [Act.put, List.setIfInBounds_toArray, List.set_cons_zero, List.set_cons_succ]
        refine wpAnyH_take (i := 15) (oi := ⟨some 120, _, _, _, _, _⟩) (v := ?_) rfl (by kernel_rfl) (by kernel_rfl) (by kernel_rfl) (fun _ _ _ h => h) (Or.inl ⟨by rfl, ?_⟩) (by assumption) ?_
        rotate_left 1
        · (intro w hSw; (try dsimp only at hSw); obtain ⟨o1, o4⟩ := HSK.out _ hSw; go_simp) <;> (with_reducible rfl)
        try simp only [Act.put, List.setIfInBounds_toArray, List.set_cons_zero, List.set_cons_succ]
        refine wpAnyH_take (i := 16) (oi := ⟨some 121, _, _, _, _, _⟩) (v := ?_) rfl (by kernel_rfl) (by kernel_rfl) (by kernel_rfl) (fun _ _ _ h => h) (Or.inl ⟨by rfl, ?_⟩) (by assumption) ?_
        rotate_left 1
        · (intro w hSw; (try dsimp only at hSw); obtain ⟨o1, o4⟩ := HSK.out _ hSw; go_simp) <;> (with_reducible rfl)
        try simp only [Act.put, List.setIfInBounds_toArray, List.set_cons_zero, List.set_cons_succ]
        refine wpAnyH_take (i := 18) (oi := ⟨some 123, _, _, _, _, _⟩) (v := ?_) rfl (by kernel_rfl) (by kernel_rfl) (by kernel_rfl) (fun _ _ _ h => h) (Or.inl ⟨by rfl, ?_⟩) (by assumption) ?_
        rotate_left 1
        · (intro w hSw; (try dsimp only at hSw); obtain ⟨o1, o4⟩ := HSK.out _ hSw; go_simp) <;> (with_reducible rfl)
        try simp only [Act.put, List.setIfInBounds_toArray, List.set_cons_zero, List.set_cons_succ]
        refine wpAnyH_take (i := 19) (oi := ⟨some 124, _, _, _, _, _⟩) (v := ?_) rfl (by kernel_rfl) (by kernel_rfl) (by kernel_rfl) (fun _ _ _ h => h) (Or.inl ⟨by rfl, ?_⟩) (by assumption) ?_
        rotate_left 1
        · (intro w hSw; (try dsimp only at hSw); obtain ⟨o1, o4⟩ := HSK.out _ hSw; go_simp) <;> (with_reducible rfl)
        try simp only [Act.put, List.setIfInBounds_toArray, List.set_cons_zero, List.set_cons_succ]
        refine wpAnyH_take (i := 20) (oi := ⟨some 125, _, _, _, _, _⟩) (v := ?_) rfl (by kernel_rfl) (by kernel_rfl) (by kernel_rfl) (fun _ _ _ h => h) (Or.inl ⟨by rfl, ?_⟩) (by assumption) ?_
        rotate_left 1
        · (intro w hSw; (try dsimp only at hSw); obtain ⟨o1, o4⟩ := HSK.out _ hSw; go_simp) <;> (with_reducible rfl)
        try simp only [Act.put, List.setIfInBounds_toArray, List.set_cons_zero, List.set_cons_succ]
        refine wpAnyH_take (i := 21) (oi := ⟨some 126, _, _, _, _, _⟩) (v := ?_) rfl (by kernel_rfl) (by kernel_rfl) (by kernel_rfl) (fun _ _ _ h => h) (Or.inl ⟨by rfl, ?_⟩) (by assumption) ?_
        rotate_left 1
        · (intro w hSw; (try dsimp only at hSw); obtain ⟨o1, o4⟩ := HSK.out _ hSw; go_simp) <;> (with_reducible rfl)
        try simp only [Act.put, List.setIfInBounds_toArray, List.set_cons_zero, List.set_cons_succ]
        refine wpAnyH_ready (rs := [17]) (by kernel_rfl) (by simp) ?_
        refine AllReadyH.cons (o := ⟨some 122, _, _, _, _, _⟩) rfl (fun K hK => ?_) AllReadyH.nil
        have hSw := hHeld
        go_simp
        go_at_call 21
        refine (HPE.out _ hSw).mono ?_
        rintro e w' ⟨rfl, rfl⟩
        refine hK.out _ _ ?_ (fun hHeld => ?_)
        · assumption
        clear hK K
        try simp only [Act.put, List.setIfInBounds_toArray, List.set_cons_zero, List.set_cons_succ]
        refine wpAnyH_take (i := 22) (oi := ⟨some 127, _, _, _, _, _⟩) (v := ?_) rfl (by kernel_rfl) (by kernel_rfl) (by kernel_rfl) (fun _ _ _ h => h) (Or.inl ⟨by rfl, ?_⟩) (by assumption) ?_
        rotate_left 1
        · (intro w hSw; (try dsimp only at hSw); obtain ⟨o1, o4⟩ := HSK.out _ hSw; go_simp) <;> (with_reducible rfl)
        try simp only [Act.put, List.setIfInBounds_toArray, List.set_cons_zero, List.set_cons_succ]
        refine wpAnyH_take (i := 23) (oi := ⟨some 128, _, _, _, _, _⟩) (v := ?_) rfl (by kernel_rfl) (by kernel_rfl) (by kernel_rfl) (fun _ _ _ h => h) (Or.inl ⟨by rfl, ?_⟩) (by assumption) ?_
        rotate_left 1
        · (intro w hSw; (try dsimp only at hSw); obtain ⟨o1, o4⟩ := HSK.out _ hSw; go_simp) <;> (with_reducible rfl)
        try simp only [Act.put, List.setIfInBounds_toArray, List.set_cons_zero, List.set_cons_succ]
        refine wpAnyH_done (by kernel_rfl) ?_ _
        have HSZ := Lib.hid (HS9.out.nofr hHeld)
        clear hHeld HSK HOP HPE HS9 HK9 HY10 HEQ HPA HP9 q1 q2
        have HCZ : Hid (zs.length ≤ 9223372036854775807) := by have h1 := own_cap HSZ.out.row; have h2 := (own_lens HSZ.out.row).1; unfold maxLen at h1; show _ ≤ _; omega
        have hcz := HCZ.out
        go_wp2_with fail
        go_loopw [131] (fun s wr => ∃ (i : Nat), i ≤ zs.length ∧ s = .int .i64 (i : Int) ∧ Hid (SpI wc wr B9 c9 zs)) (fun s _ => zs.length - (intOf s).toNat)
        case atStart => exact ⟨0, by omega, rfl, HSZ.out⟩
        case round =>
          obtain ⟨i, hi', rfl, HSI⟩ := hrel
          have hcz := HCZ.out
          by_cases hlt2 : i < zs.length
          · obtain ⟨z, hz⟩ : ∃ z, zs[i]? = some z := ⟨_, List.getElem?_eq_getElem hlt2⟩
            obtain ⟨b5, o5, hB5, z4⟩ := HSI.out.at_ hz
            have HZ := Lib.hid hz
            have HZM := Lib.hid (List.mem_of_getElem? hz)
            obtain ⟨zl, hzl⟩ : ∃ zl, zl = z.d.2.2.length := ⟨_, rfl⟩
            have HZL := Lib.hid hzl
            have HZ7 : Hid (zl ≤ 9223372036854775807) := by show _ ≤ _; rw [hzl]; exact HZN.out z HZM.out
            rw [← hzl] at z4
            subst hB5
            have HLT2 := Lib.hid hlt2
            clear hz hzl
            go_wp2_with fail
            go_loopw [140] (fun s wr => ∃ (j : Nat), j ≤ zl ∧ s = .int .i64 (j : Int) ∧ Hid (SpI wc wr (some ⟨b5, o5, none⟩) c9 zs)) (fun s _ => zl - (intOf s).toNat)
            case atStart => exact ⟨0, by omega, rfl, HSI.out⟩
            case round =>
              obtain ⟨j, hj', rfl, HSJ⟩ := hrel
              by_cases hlt3 : j < zl
              · obtain ⟨b6, o6, hB6, y4⟩ := HSJ.out.at_ HZ.out
                injection hB6 with hB6
                injection hB6 with e1 e2
                subst e1 e2
                obtain ⟨b7, v7, hd7, y5, y6, hset⟩ := HSJ.out.byte HZM.out (j := j) (by rw [← HZL.out]; exact hlt3)
                have HST := Lib.hid (hset (.int .u8 238))
                rw [← HZL.out, hd7] at y4
                clear hd7 hset
                have hlt2 := HLT2.out
                have hlt2' : (i : Int) < (zs.length : Int) := by omega
                have hlt3' : (j : Int) < (zl : Int) := by omega
                have hz7 := HZ7.out
                go_wp2_with fail
                go_roundw
                case rel => exact ⟨j + 1, by omega, by go_num, HST⟩
                case measure => simp [intOf]; omega
              · have hlt3' : ¬ (j : Int) < (zl : Int) := by omega
                have hlt2 := HLT2.out
                go_wp2_with fail
                go_roundw
                case rel => exact ⟨i + 1, by have := HLT2.out; omega, by go_num, HSJ⟩
                case measure => have := HLT2.out; simp [intOf]; omega
          · have hlt2' : ¬ (i : Int) < (zs.length : Int) := by omega
            have HPF : Hid (PlS w wr (fun _ => False) g m L' R') := HP'.out.past HSI.out.fr
            clear HSI
            go_wp2_with fail
            go_roundw
            case rel => exact ⟨k + 1, L', R', by omega, by go_num, HPF, HI'⟩
            case measure => simp [intOf]; omega
    · have hlt' : ¬ (k : Int) < (xs.length : Int) := by omega
      go_wp2_with fail
      go_ret
      exact ⟨rfl, HP.out.fr⟩

theorem paramsOk : ∀ t ∈ Try.f3.params.toList, Try.prog.readableRec t = true ∧ t < Try.prog.types.size := fun t ht => by
  have h := List.all_eq_true.1 (show (Try.f3.params.toList.all fun t => Try.prog.readableRec t && decide (t < Try.prog.types.size)) = true by kernel_rfl) t ht
  simpa using h

set_option maxRecDepth 100000 in
theorem lifted (os : Os) (started : os.Started) (H : Type) (enc : TypeId × Value → H) :
    ReturnsInHanded {} Try.checked os 3 .any (Rows.linkPlaysSpec.pre6 enc Try.prog Try.f3 Rows.linkPlaysRow.domain false) (Rows.linkPlaysSpec.post enc Try.prog Try.f3 false true false false) := by
  refine returnsInHanded_of_change (C := Try.checked) own started (by kernel_rfl) Try.func3
    (ChangeSpec.witness6 (enc := enc) (C := Try.checked) false ⟨#[], #[.int .u64 0, .slice none 0 0], []⟩ 8 (by kernel_rfl) (by kernel_rfl) (by kernel_rfl) (by kernel_rfl)) ?_
  intro W base args ds gs before hval0 hW _ _
  have hval : ∀ (j : Nat) t v, Try.f3.params[j]? = some t → args[j]? = some v → Value.okWide Try.prog W .any base t v := hval0
  have hW' := hW
  obtain ⟨p, q, hA0, hV, rfl, _, _⟩ := hW
  have hA : DataW.TrodAll enc Try.prog W 0 (fun _ => true) true Try.f3.params.toList args.toList ds p := hA0
  rw [Try.params3] at hA hval
  obtain ⟨v0, vs0, d0, ds0, p0, q0, hargs, rfl, rfl, h0, r0⟩ := trodAll_cons hA
  obtain ⟨v1, vs1, d1, ds1, p1, q1, rfl, rfl, rfl, h1, r1⟩ := trodAll_cons r0
  obtain ⟨rfl, rfl, rfl⟩ := trodAll_nil r1
  obtain rfl : args = #[v0, v1] := by cases args; simp_all
  obtain ⟨rfl, rfl⟩ := trodVars_none hV
  obtain ⟨z0, rfl, rfl, rfl, w0⟩ := open_int Try.underlying22 (hval 0 _ v0 rfl rfl) h0
  obtain ⟨m0, rfl, hm0⟩ := nat_u64 w0
  obtain ⟨A, c, l, rfl, hr, hpk, hc, hm⟩ := open_lops (hval 1 _ v1 rfl rfl) h1
  have walk := walk W m0 hm0 A c l hr hpk (by omega)
  clear hA0 hval0
  refine walk.mono fun e W' ⟨he, hf⟩ => ?_
  subst he
  exact ⟨_, rfl, law_post laidOut paramsOk rfl rfl Try.underlying4 hW' rfl rfl rfl hf⟩

theorem said : Rows.LinkPlaysSaid :=
  OpenClaim.holds_of_wide 3 Try.f3 rfl rfl rfl rfl rfl rfl rfl ⟨rfl, rfl, rfl, rfl, rfl⟩ rfl rfl rfl rfl rfl (by kernel_rfl) Try.func3 (by kernel_rfl)
    (of_decide_eq_true (by kernel_rfl)) (by unfold Func.isWrapper; first | (rw [if_pos (by decide +kernel)]; kernel_rfl) | (rw [if_neg (by decide +kernel)]; exact ⟨rfl, rfl⟩))
    (fun os started H enc _ => lifted os started H enc)
end Go.Proofs.Ytchlafhmoncldaa.linkPlays
