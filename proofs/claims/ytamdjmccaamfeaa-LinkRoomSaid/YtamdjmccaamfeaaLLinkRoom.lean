/- LinkRoom is true: no more data are open than there is room for; what is acknowledged makes room for as many. No condition. -/
import Derived.Test.YtamdjmccaamfeaaRoom
namespace Go.Proofs.Ytamdjmccaamfeaa.linkRoom
open Go.ChangeShapes Go.WideShapes Go.ChangeAt Go.RowKit Go.Maps Go.ChangeMaps Go.MapKept

theorem minU (x y : Nat) (w : World) : (Builtin.min_ #[22, 22] 22 #[.int .u64 (x : Int), .int .u64 (y : Int)]).run Try.prog w = .ok (.int .u64 ((min x y : Nat) : Int)) w := by
  have e : (if (y : Int) < (x : Int) then (y : Int) else (x : Int)) = ((min x y : Nat) : Int) := by split <;> omega
  show (Sem.run _ (pure (Value.int .u64 (if (y : Int) < (x : Int) then (y : Int) else (x : Int)))) _) = _
  rw [e]
  rfl
theorem maxU (x y : Nat) (w : World) : (Builtin.max_ #[22, 22] 22 #[.int .u64 (x : Int), .int .u64 (y : Int)]).run Try.prog w = .ok (.int .u64 ((max x y : Nat) : Int)) w := by
  have e : (if (x : Int) < (y : Int) then (y : Int) else (x : Int)) = ((max x y : Nat) : Int) := by split <;> omega
  show (Sem.run _ (pure (Value.int .u64 (if (x : Int) < (y : Int) then (y : Int) else (x : Int)))) _) = _
  rw [e]
  rfl

set_option maxRecDepth 100000 in
set_option maxHeartbeats 16000000 in
theorem walk (w : World) (n : Int) (A : Option Addr) (c : Nat) (l : List Nat) (hr : Rd w A (l.map fun (z : Nat) => Value.int .u64 (z : Int))) (hA : A = none → c = 0) (hb : ∀ z ∈ l, z < 2 ^ 64) :
    Calls Try.prog 7 #[.int .i64 n, .slice A l.length c] w fun e w' => e = .returned (.bool true) ∧ Fr NoBlk w w' := by
  obtain ⟨i0, hi, hz0, hz1, hz2⟩ := info_parts u64Info
  obtain ⟨q, hq, eq⟩ := i64_low n 5 (by omega)
  rw [show ((2 ^ 5 - 1 : Nat) : Int) = 31 from rfl] at eq
  have HR := Lib.hid hr
  have HA := Lib.hid hA
  have HB := Lib.hid hb
  clear hr hA hb
  go_enter Try.func7, Try.ntmps7
  go_wp2_with fail
  refine (speaks_any w).mono ?_
  rintro e w1 ⟨rfl, hf1⟩
  have HF1 := Lib.hid hf1
  clear hf1
  by_cases hbig : 50 < l.length
  · have hbig' : (50 : Int) < (l.length : Int) := by omega
    go_wp2_with fail
    go_ret
    exact ⟨rfl, HF1.out⟩
  have hbig' : ¬ (50 : Int) < (l.length : Int) := by omega
  have HN : Hid (l.length ≤ 50) := by show _ ≤ _; omega
  clear hbig
  go_wp2_with fail
  refine (new_any w1 1 (by omega)).mono ?_
  rintro e w2 ⟨g, gm, rfl, hl2, hf2, hg2, hm2⟩
  have HL2 := Lib.hid hl2
  have HF2 := Lib.hid (HF1.out.trans hf2)
  have HO2 : Hid (∀ k, (k = g ∨ k = gm) → w.heap.size ≤ k) := fun k hk => by have := HF1.out.size; rcases hk with rfl | rfl <;> omega
  clear hl2 hf2 hg2 hm2 hbig'
  go_wp2_with fail
  refine (rec_any w2 _ g _ HL2.out ⟨4, 0, 0, 0, none, 0, []⟩ (by show (4 : Nat) < _; omega) (by show (0 : Nat) < _; omega) (by show (0 : Nat) < _; omega) (fun _ _ => Rd.nil_ _ _) (fun _ => rfl) (by simp) (by show (1 : Nat) < _; omega) (by show (0 : Nat) ≤ _; omega)).mono ?_
  rintro e w3 ⟨A3, c3, ps3, B3, c3', xs3, O3, L3, rfl, hr3⟩
  have hd := hr3.data
  unfold RecD metL at hd
  rw [if_neg (by simp), if_pos (by show (0 : Nat) ≠ 1; omega)] at hd
  obtain ⟨_, _, rfl⟩ := hd
  rw [if_pos (by show 0 < 4; omega)] at hr3
  have HL3 : Hid (LkIn O3 w3 g { lk0 1 gm with peer := 4 } ∧ (∀ k, O3 k → w.heap.size ≤ k)) := ⟨hr3.lk, fun k hk => (hr3.blks.2 k hk).elim (HO2.out k) (fun h => Nat.le_trans HF2.out.size h)⟩
  have HFW : Hid (Fr NoBlk w w3) := HF2.out.step hr3.fr fun k hk e => by have := HO2.out k e; omega
  clear hr3 HL2 HO2 HF2 HF1
  have HOW : Hid ((w3.alloc (.cells #[.int .u64 0] 22)).ownsRow w3.heap.size 22 1 (.slice (some ⟨w3.heap.size, 0, none⟩) 1 1) 1 [.int .u64 0]) := ⟨rfl, .inr ⟨w3.heap.size, 1, #[.int .u64 0], rfl, Nat.le_refl _, heap_alloc_new w3 _, Nat.le_refl _, by decide, rfl, rfl⟩⟩
  have HRW : Hid (Rd (w3.alloc (.cells #[.int .u64 0] 22)) A (l.map fun (z : Nat) => Value.int .u64 (z : Int))) := (HR.out.nofr HFW.out).alloc _
  go_wp2_with (at_builtin; refine wpList_app rfl _ _ 66 rfl w3.heap.size 22 i0 (.int .u64 0) 8 Try.underlying66 hi hz0 hz1 hz2 rfl _ 1 [.int .u64 0] rfl HOW.out A c l.length (l.map fun (z : Nat) => Value.int .u64 (z : Int)) rfl (by simp) HRW.out ?c1 HA.out ?c2 ?c3 (by simp) ?_)
  case c1 => intro u hu; obtain ⟨z, _, rfl⟩ := List.mem_map.1 hu; rfl
  case c2 => have := HN.out; unfold maxLen; omega
  case c3 => have := HN.out; omega
  intro v4 w4 ho4 hg4 _ _
  obtain ⟨rb, cap, rfl, hrb, hrlt⟩ : ∃ rb cap, v4 = .slice (some ⟨rb, 0, none⟩) (1 + l.length) cap ∧ w3.heap.size ≤ rb ∧ rb < w4.heap.size := by
    rcases ho4.2 with ⟨_, e0⟩ | ⟨gg, cap, cur, e1, hb1, hh, _⟩
    · omega
    · exact ⟨gg, cap, e1, hb1, (Array.getElem?_eq_some_iff.1 hh).1⟩
  have hfr4 : Fr NoBlk w3 w4 := ((Fr.refl NoBlk w3).alloc _).grown hg4 fun k hk hlt => by simp [Value.ownBlock] at hk; omega
  have HRM : Hid (RoomIn w w4 w4 rb g 0 0) := ⟨⟨O3, _, HL3.out.1.nofr hfr4, ⟨rfl, rfl, rfl, rfl, rfl, rfl, Nat.le_refl _, fun p hp => by cases hp⟩, HL3.out.2, fun k hk e => by have := HL3.out.1.ol k hk; omega⟩, HFW.out.trans hfr4, Fr.refl _ _, hrlt⟩
  have HRD : Hid (∀ W, Fr (fun k => k ≠ rb) w4 W → Rd W (some ⟨rb, 0, none⟩) ((0 :: l).map fun (z : Nat) => Value.int .u64 (z : Int))) := fun W hf => Rd.of_own (own_fr ho4 hf fun k hk e => e (by simpa [Value.ownBlock] using hk.symm))
  have HB4 : Hid (∀ z ∈ 0 :: l, z < 2 ^ 64) := fun z hz => by
    rcases List.mem_cons.1 hz with rfl | hz
    · omega
    · exact HB.out z hz
  obtain ⟨rows, hrows⟩ : ∃ rows, rows = 0 :: l := ⟨_, rfl⟩
  have hlen : 1 + l.length = rows.length := by rw [hrows, List.length_cons]; omega
  rw [hlen]
  rw [← hrows] at HRD HB4
  have hln : rows.length ≤ 51 := by have := HN.out; omega
  clear ho4 hg4 hfr4 hrows hlen HFW HOW HRW HR HA HB HN HL3 hi hz0 hz1 hz2 hrb hrlt
  go_wp2_with fail
  go_loopw [6, 7, 28] (fun s t u wr => ∃ k sn dn : Nat, k ≤ rows.length ∧ s = .int .u64 (sn : Int) ∧ t = .int .u64 (dn : Int) ∧ u = .int .i64 (k : Int) ∧ sn ≤ k * 33 ∧ dn ≤ sn ∧ Hid (RoomIn w w4 wr rb g sn dn)) (fun _ _ u _ => rows.length - (intOf u).toNat)
  case atStart => exact ⟨0, 0, 0, by omega, rfl, rfl, rfl, by omega, by omega, HRM⟩
  case round =>
    obtain ⟨k, sn, dn, hk, rfl, rfl, rfl, hsn, hds, HM⟩ := hrel
    by_cases hlt : k < rows.length
    · obtain ⟨a, ha⟩ : ∃ a, rows[k]? = some a := ⟨_, List.getElem?_eq_getElem hlt⟩
      obtain ⟨b', o', e', hcell⟩ := (HRD.out wr HM.out.keep).at_ (k := k) (v := .int .u64 (a : Int)) (by rw [List.getElem?_map, ha]; rfl)
      injection e' with e'
      injection e' with e1 e2
      subst e1 e2
      rw [Nat.zero_add] at hcell
      have ha64 := HB4.out a (List.mem_of_getElem? ha)
      have HRV := Lib.hid (HM.out.recv (by omega) a ha64)
      clear ha
      go_wp2_with fail
      refine HRV.out.mono ?_
      rintro e w5 ⟨⟨u, v, rfl⟩, hm5⟩
      obtain ⟨d2, hd2⟩ : ∃ d2, d2 = max dn (min a sn) := ⟨_, rfl⟩
      rw [← hd2] at hm5
      have hds2 : d2 ≤ sn := by omega
      have HM5 := Lib.hid hm5
      have hmin := fun w => minU a sn w
      have hmax := fun w => maxU dn (min a sn) w
      rw [← hd2] at hmax
      obtain ⟨mn, hmn⟩ : ∃ mn, mn = min a sn := ⟨_, rfl⟩
      rw [← hmn] at hmin hmax
      obtain ⟨m, hm⟩ : ∃ m, m = sn - d2 := ⟨_, rfl⟩
      have HOP := Lib.hid HM5.out.open_
      rw [← hm] at HOP
      have b1 : IntKind.u64.wrap ((sn : Int) - (d2 : Int)) = (m : Int) := by
        simp only [IntKind.wrap, IntKind.bits, IntKind.signed]
        simp
        omega
      have b1' : ((sn : Int) - (d2 : Int)) % 18446744073709551616 = (m : Int) := by omega
      have b2 : ((m : Int) % 18446744073709551616) = m := by omega
      clear hd2 hmn HRV hm5 hcell HM hm
      go_wp2_with fail
      refine HOP.out.mono ?_
      rintro e w6 ⟨rfl, rfl⟩
      clear HOP
      go_wp2_with fail
      clear b1 b1' b2 hmin hmax
      go_loopw [6, 10] (fun s t wr => ∃ i s2 : Nat, i ≤ 1 + q ∧ s = .int .u64 (s2 : Int) ∧ t = .int .i64 (i : Int) ∧ s2 ≤ sn + i ∧ d2 ≤ s2 ∧ Hid (RoomIn w w4 wr rb g s2 d2)) (fun _ t _ => 1 + q - (intOf t).toNat)
      case atStart => exact ⟨0, sn, by omega, rfl, rfl, by omega, by omega, HM5⟩
      case round =>
        obtain ⟨i, s2, hi1, rfl, rfl, hs2, hds3, HM7⟩ := hrel
        obtain ⟨m2, hm2⟩ : ∃ m2, m2 = s2 - d2 := ⟨_, rfl⟩
        have b1 : IntKind.u64.wrap ((s2 : Int) - (d2 : Int)) = (m2 : Int) := by
          simp only [IntKind.wrap, IntKind.bits, IntKind.signed]
          simp
          omega
        have b1' : ((s2 : Int) - (d2 : Int)) % 18446744073709551616 = (m2 : Int) := by omega
        have b2 : ((m2 : Int) % 18446744073709551616) = m2 := by omega
        have b3 : IntKind.u64.wrap ((s2 : Int) + 1) = ((s2 + 1 : Nat) : Int) := by
          simp only [IntKind.wrap, IntKind.bits, IntKind.signed]
          simp
          omega
        have b3' : ((s2 : Int) + 1) % 18446744073709551616 = ((s2 + 1 : Nat) : Int) := by omega
        have b4 : IntKind.u64.wrap ((d2 : Int) + 1) = ((d2 + 1 : Nat) : Int) := by
          simp only [IntKind.wrap, IntKind.bits, IntKind.signed]
          simp
          omega
        have b4' : ((d2 : Int) + 1) % 18446744073709551616 = ((d2 + 1 : Nat) : Int) := by omega
        have b5 : ((i : Int) % 256) = i := by omega
        have HM2 := Lib.hid hm2
        by_cases hlt2 : i < 1 + q
        · have hlt2' : (i : Int) < 1 + (q : Int) := by omega
          obtain ⟨wa, hwa⟩ : ∃ wa, wa = wr.alloc (.cells #[.int .u8 (i : Int)] 5) := ⟨_, rfl⟩
          have HFA : Hid (Fr NoBlk wr wa) := by show Fr _ _ _; rw [hwa]; exact (Fr.refl _ _).alloc _
          have HRA : Hid (Rd wa (some ⟨wr.heap.size, 0, none⟩) (cb [UInt8.ofNat i])) := by
            have e : cb [UInt8.ofNat i] = [.int .u8 (i : Int)] := by
              unfold cb
              simp only [List.map_cons, List.map_nil, UInt8.toNat_ofNat']
              rw [Nat.mod_eq_of_lt (by omega)]
            show Rd _ _ _
            rw [e, hwa]
            exact Rd.of_cells (Bk.new wr _ _)
          have HSD := Lib.hid ((HM7.out.nofr HFA.out).send _ _ HRA.out (fun h => by cases h))
          clear hm2
          go_wp2_with fail
          rw [← hwa]
          clear hwa
          refine HSD.out.mono ?_
          intro e w8 hp
          rw [← HM2.out] at hp
          clear HSD HRA HFA HM7
          by_cases h16 : m2 < 16
          · rw [if_pos h16] at hp
            obtain ⟨rfl, hp⟩ := hp
            have h16' : (m2 : Int) < 16 := by omega
            have HP := Lib.hid hp
            clear hp h16
            go_wp2_with fail
            go_roundw
            case rel => exact ⟨i + 1, s2 + 1, by omega, rfl, by go_num, by omega, by omega, HP⟩
            case measure => simp [intOf]; omega
          · rw [if_neg h16] at hp
            obtain ⟨rfl, hp⟩ := hp
            have h16' : ¬ (m2 : Int) < 16 := by omega
            have HP := Lib.hid hp
            clear hp h16
            go_wp2_with fail
            go_roundw
            case rel => exact ⟨i + 1, s2, by omega, rfl, by go_num, by omega, by omega, HP⟩
            case measure => simp [intOf]; omega
        · have hlt2' : ¬ (i : Int) < 1 + (q : Int) := by omega
          have HPK := Lib.hid (HM7.out.packets (by omega))
          rw [← hm2] at HPK
          clear hm2
          go_wp2_with fail
          refine HPK.out.mono ?_
          rintro e w8 ⟨Ap, cp, rfl, hfirst, hp⟩
          have HP := Lib.hid hp
          clear HPK hp HM7
          by_cases h0 : 0 < m2
          · have h0' : (0 : Int) < (m2 : Int) := by omega
            obtain ⟨bp, rfl, hc2⟩ := hfirst h0
            clear h0
            go_wp2_with fail
            go_roundw
            case rel => exact ⟨k + 1, s2, d2, by omega, rfl, rfl, by go_num, by omega, by omega, HP⟩
            case measure => simp [intOf]; omega
          · have h0' : ¬ (0 : Int) < (m2 : Int) := by omega
            clear h0 hfirst
            go_wp2_with fail
            go_roundw
            case rel => exact ⟨k + 1, s2, d2, by omega, rfl, rfl, by go_num, by omega, by omega, HP⟩
            case measure => simp [intOf]; omega
    · go_wp2_with fail
      go_ret
      exact ⟨rfl, HM.out.fr⟩

theorem paramsOk : ∀ t ∈ Try.f7.params.toList, Try.prog.readableRec t = true ∧ t < Try.prog.types.size := fun t ht => by
  have h := List.all_eq_true.1 (show (Try.f7.params.toList.all fun t => Try.prog.readableRec t && decide (t < Try.prog.types.size)) = true by kernel_rfl) t ht
  simpa using h

set_option maxRecDepth 100000 in
theorem lifted (os : Os) (started : os.Started) (H : Type) (enc : TypeId × Value → H) :
    ReturnsInHanded {} Try.checked os 7 .any (Rows.linkRoomSpec.pre6 enc Try.prog Try.f7 Rows.linkRoomRow.domain false) (Rows.linkRoomSpec.post enc Try.prog Try.f7 false true false false) := by
  refine returnsInHanded_of_change (C := Try.checked) own started (by kernel_rfl) Try.func7
    (ChangeSpec.witness6 (enc := enc) (C := Try.checked) false ⟨#[], #[.int .i64 0, .slice none 0 0], []⟩ 8 (by kernel_rfl) (by kernel_rfl) (by kernel_rfl) (by kernel_rfl)) ?_
  intro W base args ds gs before hval0 hW _ _
  have hval : ∀ (j : Nat) t v, Try.f7.params[j]? = some t → args[j]? = some v → Value.okWide Try.prog W .any base t v := hval0
  have hW' := hW
  obtain ⟨p, q, hA0, hV, rfl, _, _⟩ := hW
  have hA : DataW.TrodAll enc Try.prog W 0 (fun _ => true) true Try.f7.params.toList args.toList ds p := hA0
  rw [Try.params7] at hA hval
  obtain ⟨v0, vs0, d0, ds0, p0, q0, hargs, rfl, rfl, h0, r0⟩ := trodAll_cons hA
  obtain ⟨v1, vs1, d1, ds1, p1, q1, rfl, rfl, rfl, h1, r1⟩ := trodAll_cons r0
  obtain ⟨rfl, rfl, rfl⟩ := trodAll_nil r1
  obtain rfl : args = #[v0, v1] := by cases args; simp_all
  obtain ⟨rfl, rfl⟩ := trodVars_none hV
  obtain ⟨z0, rfl, rfl, rfl, w0⟩ := open_int Try.underlying3 (hval 0 _ v0 rfl rfl) h0
  obtain ⟨A, c, l, rfl, hr, hA1, _, _, hb⟩ := open_u64s (hval 1 _ v1 rfl rfl) h1
  have walk := walk W z0 A c l hr hA1 hb
  clear hA0 hval0
  refine walk.mono fun e W' ⟨he, hf⟩ => ?_
  subst he
  exact ⟨_, rfl, law_post laidOut paramsOk rfl rfl Try.underlying4 hW' rfl rfl rfl hf⟩

theorem said : Rows.LinkRoomSaid :=
  OpenClaim.holds_of_wide 7 Try.f7 rfl rfl rfl rfl rfl rfl rfl ⟨rfl, rfl, rfl, rfl, rfl⟩ rfl rfl rfl rfl rfl (by kernel_rfl) Try.func7 (by kernel_rfl)
    (of_decide_eq_true (by kernel_rfl)) (by unfold Func.isWrapper; first | (rw [if_pos (by decide +kernel)]; kernel_rfl) | (rw [if_neg (by decide +kernel)]; exact ⟨rfl, rfl⟩))
    (fun os started H enc _ => lifted os started H enc)
end Go.Proofs.Ytamdjmccaamfeaa.linkRoom
