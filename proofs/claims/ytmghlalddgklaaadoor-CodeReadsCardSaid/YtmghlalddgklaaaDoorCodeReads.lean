/- CodeReads is true: every call of any script on an eye over any bytes answers exactly as the document's own eye does. No condition but what the card ties. -/
import Derived.Test.YtmghlalddgklaaaDoorOpen
import Derived.Test.YtmghlalddgklaaaDoorREye3
import Derived.Test.YtmghlalddgklaaaDoorSpoil
import Derived.Test.YtmghlalddgklaaaDoorNum2
namespace Go.Proofs.YtmghlalddgklaaaDoor.codeReads
open Go.ChangeShapes Go.WideShapes Go.ChangeAt Go.RowKit

/-- the two eyes, side by side: the program's at the bytes l1, the document's at place p of l; nothing that was there when the call began has turned. -/
structure Sync (w w' : World) (g : Nat) (A' : Option Addr) (c' : Nat) (l1 : List UInt8) (h : Nat) (A : Option Addr) (c : Nat) (l : List UInt8) (p : Nat) : Prop where
  eye : Eye w' g A' c' l1
  reye : REye w' h A c l p
  fr : Fr NoBlk w w'
  newg : w.heap.size ≤ g
  newh : w.heap.size ≤ h
  gh : g ≠ h
  row : ∀ k, ablk A' k → w.heap.size ≤ k ∧ k < h
  old : 0 < l.length → ∀ k, ablk A k → k < w.heap.size

section
variable {w w' w1 : World} {g : Nat} {A' A1 : Option Addr} {c' c1 : Nat} {l1 l2 : List UInt8} {h : Nat} {A : Option Addr} {c : Nat} {l : List UInt8} {p p2 : Nat}
theorem Sync.other {C : Nat → Prop} (s : Sync w w' g A' c' l1 h A c l p) (hf : Fr C w' w1) (hg' : ¬ C g) (hh' : ¬ C h) (hr' : 0 < l1.length → ∀ k, ablk A' k → ¬ C k) (ho' : ∀ k, k < w.heap.size → ¬ C k) : Sync w w1 g A' c' l1 h A c l p := by
  exact ⟨s.eye.keep' hf hg' hr', s.reye.keep hf hh' (fun h0 k hk => ho' k (s.old h0 k hk)), s.fr.step hf (fun i hi q => (ho' i hi q).elim), s.newg, s.newh, s.gh, s.row, s.old⟩
theorem Sync.eyed (s : Sync w w' g A' c' l1 h A c l p) (hy : Eyed w' w1 g A' A1 c1 l2) : Sync w w1 g A1 c1 l2 h A c l p := by
  have := s.newg
  have := s.gh
  exact ⟨hy.eye, s.reye.keep hy.fr (by omega) (fun h0 k hk e => by have := s.old h0 k hk; omega), s.fr.step hy.fr (fun i hi e => by omega), s.newg, s.newh, s.gh, fun k hk => s.row k (hy.row k hk), s.old⟩
theorem Sync.reyed (s : Sync w w' g A' c' l1 h A c l p) (hy : REyed w' w1 h A c l p2) : Sync w w1 g A' c' l1 h A c l p2 := by
  have := s.newh
  have := s.gh
  exact ⟨s.eye.keep hy.fr (by omega) (fun k hk e => by have := (s.row k hk).2; omega), hy.eye, s.fr.step hy.fr (fun i hi e => by omega), s.newg, s.newh, s.gh, s.row, s.old⟩
end

theorem drop_tail (l : List UInt8) (p : Nat) : (l.drop p).drop 1 = l.drop (p + (l.drop p).length - (l.drop p).tail.length) := by
  rw [List.drop_drop]
  have hd : (l.drop p).length = l.length - p := List.length_drop ..
  by_cases h : p < l.length
  · congr 1
    rw [List.length_tail, hd]; omega
  · rw [List.drop_eq_nil_of_le (by omega), List.drop_eq_nil_of_le (by rw [List.length_tail]; omega)]

set_option maxRecDepth 100000 in
set_option maxHeartbeats 4000000 in
theorem walk (w : World) (ht : Tab w) (A : Option Addr) (c : Nat) (l : List UInt8) (S : Option Addr) (sc : Nat) (zs : List Int) (hr : Rd w A (cb l)) (hA : A = none → c = 0) (hlc : l.length ≤ c) (hcm : c ≤ maxLen)
    (hS : Rd w S (zs.map (Value.int .i64))) (hsm : zs.length ≤ maxLen) :
    Calls Tryd.prog 5 #[.slice A l.length c, .slice S zs.length sc] w fun e w' => e = .returned (.bool true) ∧ Fr NoBlk w w' := by
  obtain ⟨i0, hi, hz0, hz1, hz2⟩ := info_parts byteInfo
  have HT := Lib.hid ht
  have HR := Lib.hid hr
  have HA := Lib.hid hA
  have HS := Lib.hid hS
  have HC := Lib.hid hcm
  clear ht hr hA hS hcm
  unfold maxLen at hsm
  have hlm : l.length ≤ 2 ^ 63 - 1 := by have := HC.out; unfold maxLen at this; omega
  by_cases hbig : 100000 < l.length
  · go_enter Tryd.func5, Tryd.ntmps5
    go_wp2_with fail
    refine (speaks_any w HT.out).mono ?_
    rintro e w1 ⟨rfl, hf⟩
    have HF := Lib.hid hf
    clear hf
    go_wp2_with fail
    go_ret
    exact ⟨rfl, HF.out⟩
  by_cases hbig2 : 1000 < zs.length
  · go_enter Tryd.func5, Tryd.ntmps5
    go_wp2_with fail
    refine (speaks_any w HT.out).mono ?_
    rintro e w1 ⟨rfl, hf⟩
    have HF := Lib.hid hf
    clear hf
    go_wp2_with fail
    go_ret
    exact ⟨rfl, HF.out⟩
  go_enter Tryd.func5, Tryd.ntmps5
  go_wp2_with fail
  refine (speaks_any w HT.out).mono ?_
  rintro e w1 ⟨rfl, hf⟩
  have HF := Lib.hid hf
  have hsz1 := hf.size
  clear hf
  have HO : Hid ((w1.alloc (.cells #[] 5)).ownsRow w1.heap.size 5 1 (.slice (some ⟨w1.heap.size, 0, none⟩) 0 0) 0 []) := own_new rfl (Nat.le_refl _)
  have HR1 := Lib.hid ((HR.out.nofr HF.out).alloc (.cells #[] 5))
  go_wp2_with (at_builtin; refine wpList_app rfl _ _ 26 rfl w1.heap.size 5 i0 (.int .u8 0) 1 Tryd.underlying26 hi hz0 hz1 hz2 rfl _ 0 [] rfl HO.out A c l.length (cb l) rfl (cb_length l) HR1.out (cb_one _) HA.out (by unfold maxLen; omega) (by omega) (by simp) ?_)
  intro v2 w2 hown2 hgrow2 _ _
  obtain ⟨A2, c2, rfl, hc2, hA2⟩ := own_form hown2
  have HO2 : Hid (w2.ownsRow w1.heap.size 5 1 (.slice A2 l.length c2) l.length (cb l)) := by unfold Hid; simpa using hown2
  have HF2 : Hid (Fr NoBlk w1 w2) := ((Fr.refl NoBlk w1).alloc _).grown hgrow2 (fun k hk hlt => by simp [Value.ownBlock] at hk; omega)
  have HA2 := Lib.hid hA2
  clear hown2 hgrow2 hA2 hc2
  have HK := Lib.hid (newEye_any w2 A2 _ c2 l rfl (Rd.of_own HO2.out) HA2.out (by omega))
  go_wp2_with fail
  refine HK.out.mono ?_
  clear HK
  rintro e w3 ⟨g3, A3, c3, rfl, he3, hf3, hg3, hb3⟩
  have HE3 := Lib.hid he3
  have HF3 := Lib.hid hf3
  have HB3 := Lib.hid hb3
  have hg3lt := he3.bk.lt
  have HOF := Lib.hid HR.out
  clear he3 hf3 hb3
  have hsz2 := HF2.out.size
  have hsz3 := HF3.out.size
  have HF03 : Hid (Fr NoBlk w w3) := (HF.out.trans HF2.out).trans HF3.out
  have HRE : Hid (REye (w3.alloc (.cells #[.slice A l.length c, .int .i64 ((0 : Nat) : Int)] 43)) w3.heap.size A c l 0) :=
    ⟨Bk.new _ _ _, (HR.out.nofr HF03.out).alloc _, hlc, Nat.zero_le _, fun h0 k hk e => by
      have := HR.out.lt (by rwa [cb_length]) hk
      omega⟩
  have HO3 : Hid ((w3.alloc (.cells #[.slice A l.length c, .int .i64 0] 43)).ownsRow w1.heap.size 5 1 (.slice A2 l.length c2) l.length (cb l)) :=
    (own_fr HO2.out HF3.out (fun _ _ h => h)).alloc _
  have HK := Lib.hid (spoil_any _ w1.heap.size A2 _ c2 _ HO3.out)
  go_wp2_with fail
  refine HK.out.mono ?_
  clear HK
  rintro e w4 ⟨rfl, hf4⟩
  have HSy : Hid (Sync w w4 g3 A3 c3 l w3.heap.size A c l 0) := by
    have s0 : Sync w (w3.alloc (.cells #[.slice A l.length c, .int .i64 ((0 : Nat) : Int)] 43)) g3 A3 c3 l w3.heap.size A c l 0 :=
      ⟨HE3.out.keep ((Fr.refl NoBlk _).alloc _) (fun h => h) (fun _ _ h => h), HRE.out, HF03.out.alloc _, by omega, by omega, by omega, ?_, fun h0 k hk => HR.out.lt (by rwa [cb_length]) hk⟩
    · have hin : ∀ k, ablk A2 k → w1.heap.size ≤ k ∧ k < w2.heap.size := by
        rintro k ⟨b, rfl, rfl⟩
        exact HO2.out.lt _ rfl
      refine s0.other hf4 (fun hk => by have := hin _ hk; omega) (fun hk => by have := hin _ hk; omega) (fun _ k hk hk2 => by have := hin _ hk2; have := (HB3.out _ hk).1; omega) (fun k hlt hk => by have := hin _ hk; omega)
    · intro k hk
      have := HB3.out _ hk
      omega
  clear hf4
  have HSR : Hid (∀ wr, Fr NoBlk w wr → Rd wr S (zs.map (Value.int .i64))) := fun wr hf => HS.out.nofr hf
  go_wp2_with fail
  go_loopw [46] (fun s wr => ∃ (i p : Nat) (A' : Option Addr) (c' : Nat), i ≤ zs.length ∧ s = .int .i64 i ∧ Hid (Sync w wr g3 A' c' (l.drop p) w3.heap.size A c l p)) (fun s _ => zs.length - (intOf s).toNat)
  case atStart => exact ⟨0, 0, _, _, Nat.zero_le _, rfl, HSy⟩
  case round =>
    obtain ⟨i, p, A', c', hiz, rfl, HY⟩ := hrel
    by_cases hlt : i < zs.length
    · obtain ⟨b, o, rfl, hcell⟩ := (HSR.out wr HY.out.fr).at_ (k := i) (v := .int .i64 (zs.getD i 0)) (by simp [List.getD_eq_getElem?_getD, hlt])
      generalize zs.getD i 0 = kk at *
      obtain ⟨q, hq, eq⟩ := i64_low kk 2 (by omega)
      rw [show ((2 ^ 2 - 1 : Nat) : Int) = 3 from rfl] at eq
      have hl1 : (l.drop p).length ≤ 1000000000 := by rw [List.length_drop]; omega
      by_cases hq1 : q = 0 ∨ q = 1
      · rcases hq1 with rfl | rfl
        all_goals
          have HK1 := Lib.hid (eyeNum_any wr g3 A' c' (l.drop p) HY.out.eye hl1)
          have HK2 := Lib.hid (fun w5 he => reyeNum_any w5 w3.heap.size A c l p he (by omega))
          unfold RNumPost at HK2
          obtain ⟨m, sx, ke, hx⟩ : ∃ m s k, rdNum (l.drop p) = (m, s, k) := ⟨_, _, _, rfl⟩
          rw [hx] at HK1
          simp only [hx] at HK2
          clear hx
          go_wp2_with fail
          refine HK1.out.mono ?_
          rintro e w5 ⟨rfl, A5, c5, hy5⟩
          have HS5 := Lib.hid (HY.out.eyed hy5)
          clear hy5 HK1
          go_wp2_with fail
          refine (HK2.out w5 HS5.out.reye).mono ?_
          rintro e w6 ⟨rfl, hy6⟩
          have HS6 := Lib.hid (HS5.out.reyed hy6)
          rw [List.drop_drop] at HS6
          obtain ⟨p2, hp2⟩ : ∃ p2, p2 = p + sx := ⟨_, rfl⟩
          simp only [← hp2] at HS6
          clear hy6 HK2 hp2
          have HK3 := Lib.hid (eyeEnd_any w6 g3 A5 c5 (l.drop p2) HS6.out.eye)
          have HK4 := Lib.hid (reyeEnd_any w6 w3.heap.size A c l p2 HS6.out.reye (by omega))
          generalize (if l.drop p2 = [] then (0 : Int) else 32) = z at HK3 HK4
          go_wp2_with fail
          refine HK3.out.mono ?_
          rintro e w7 ⟨rfl, rfl⟩
          go_wp2_with fail
          refine HK4.out.mono ?_
          rintro e w8 ⟨rfl, hf8⟩
          have HS8 := Lib.hid (HS6.out.other hf8 (fun h => h) (fun h => h) (fun _ _ _ h => h) (fun _ _ h => h))
          clear hf8 HK3 HK4
          go_wp2_with fail
          go_roundw
          case rel => exact ⟨i + 1, p2, A5, c5, by omega, by go_num, HS8⟩
          case measure => simp [intOf]; omega
      · by_cases hq2 : q = 2
        · subst hq2
          have HK1 := Lib.hid (eyeText_any wr g3 A' c' (l.drop p) HY.out.eye hl1)
          have HK2 := Lib.hid (fun w5 he => reyeText_any w5 w3.heap.size A c l p he HA.out (by omega))
          unfold TextPost at HK1
          unfold RTextPost at HK2
          obtain ⟨tx, sx, ke, hx⟩ : ∃ m s k, rdText (l.drop p) = (m, s, k) := ⟨_, _, _, rfl⟩
          rw [hx] at HK1
          simp only [hx] at HK2
          clear hx
          go_wp2_with fail
          refine HK1.out.mono ?_
          rintro e w5 ⟨v5, A5, c5, rfl, ho5, hy5⟩
          have HS5 := Lib.hid (HY.out.eyed hy5)
          obtain ⟨B5, d5, rfl, _, hB5⟩ := own_form ho5
          have HO5 := Lib.hid ho5
          have HY5 := Lib.hid hy5
          clear hy5 HK1 ho5 hB5
          go_wp2_with fail
          refine (HK2.out w5 HS5.out.reye).mono ?_
          rintro e w6 ⟨v6, rfl, ho6, hy6⟩
          obtain ⟨B6, d6, rfl, _, hB6⟩ := own_form ho6
          have hin : ∀ k, ablk B5 k → wr.heap.size ≤ k ∧ k < w5.heap.size := by
            rintro k ⟨b, rfl, rfl⟩
            exact HO5.out.lt _ rfl
          have hh3 : w3.heap.size < wr.heap.size := HY.out.reye.bk.lt
          have HO6 : Hid (w6.ownsRow wr.heap.size 5 1 (.slice B5 tx.length d5) tx.length (cb tx)) := own_fr HO5.out hy6.fr (by
            intro k hk e
            have := hin k (by
              cases B5 with
              | none => cases hk
              | some b => injection hk with hk; exact ⟨b, rfl, hk⟩)
            omega)
          have e1 := strOf w6 B5 _ d5 tx rfl (Rd.of_own HO6.out)
          have e2 := strOf w6 B6 _ d6 tx rfl (Rd.of_own ho6)
          have HS6' := Lib.hid (HS5.out.reyed hy6)
          rw [List.drop_drop] at HS6'
          obtain ⟨p2, hp2⟩ : ∃ p2, p2 = p + sx := ⟨_, rfl⟩
          simp only [← hp2] at HS6'
          have HIN := Lib.hid hin
          clear hy6 HK2 hp2 hB6 hin
          have HKs := Lib.hid (spoil_any w6 wr.heap.size B5 _ d5 _ HO6.out)
          go_wp2_with fail
          refine HKs.out.mono ?_
          rintro e w9 ⟨rfl, hf9⟩
          have HS6 := Lib.hid (HS6'.out.other hf9
            (fun hk => by have := HIN.out _ hk; have := HY.out.eye.bk.lt; omega)
            (fun hk => by have := HIN.out _ hk; omega)
            (fun h0 k hk hk2 => by
              have := HIN.out _ hk2
              have := HY.out.row _ (HY5.out.row _ hk)
              omega)
            (fun k hlt hk => by have := HIN.out _ hk; have := HY.out.fr.size; omega))
          clear hf9 HKs HO6 ho6
          have HK3 := Lib.hid (eyeEnd_any w9 g3 A5 c5 (l.drop p2) HS6.out.eye)
          have HK4 := Lib.hid (reyeEnd_any w9 w3.heap.size A c l p2 HS6.out.reye (by omega))
          generalize (if l.drop p2 = [] then (0 : Int) else 32) = z at HK3 HK4
          go_wp2_with fail
          refine HK3.out.mono ?_
          rintro e w7 ⟨rfl, rfl⟩
          go_wp2_with fail
          refine HK4.out.mono ?_
          rintro e w8 ⟨rfl, hf8⟩
          have HS8 := Lib.hid (HS6.out.other hf8 (fun h => h) (fun h => h) (fun _ _ _ h => h) (fun _ _ h => h))
          clear hf8 HK3 HK4
          go_wp2_with fail
          go_roundw
          case rel => exact ⟨i + 1, p2, A5, c5, by omega, by go_num, HS8⟩
          case measure => simp [intOf]; omega
        · obtain rfl : q = 3 := by omega
          have HK1 := Lib.hid (eyeByte_any wr g3 A' c' (l.drop p) HY.out.eye)
          have HK2 := Lib.hid (fun w5 he => reyeByte_any w5 w3.heap.size A c l p he (by omega))
          generalize (if l.drop p = [] then (30 : Int) else 0) = ke at HK1 HK2
          generalize (l.drop p).headD 0 = x at HK1 HK2
          go_wp2_with fail
          refine HK1.out.mono ?_
          rintro e w5 ⟨rfl, A5, c5, hy5⟩
          have HS5 := Lib.hid (HY.out.eyed hy5)
          clear hy5 HK1
          go_wp2_with fail
          refine (HK2.out w5 HS5.out.reye).mono ?_
          rintro e w6 ⟨rfl, hy6⟩
          have HS6' := Lib.hid (HS5.out.reyed hy6)
          rw [drop_tail] at HS6'
          obtain ⟨p2, hp2⟩ : ∃ p2, p2 = p + (l.drop p).length - (l.drop p).tail.length := ⟨_, rfl⟩
          rw [← hp2] at HS6'
          have HS6 := HS6'
          clear hy6 HK2 hp2 HS6'
          have HK3 := Lib.hid (eyeEnd_any w6 g3 A5 c5 (l.drop p2) HS6.out.eye)
          have HK4 := Lib.hid (reyeEnd_any w6 w3.heap.size A c l p2 HS6.out.reye (by omega))
          generalize (if l.drop p2 = [] then (0 : Int) else 32) = z at HK3 HK4
          go_wp2_with fail
          refine HK3.out.mono ?_
          rintro e w7 ⟨rfl, rfl⟩
          go_wp2_with fail
          refine HK4.out.mono ?_
          rintro e w8 ⟨rfl, hf8⟩
          have HS8 := Lib.hid (HS6.out.other hf8 (fun h => h) (fun h => h) (fun _ _ _ h => h) (fun _ _ h => h))
          clear hf8 HK3 HK4
          go_wp2_with fail
          go_roundw
          case rel => exact ⟨i + 1, p2, A5, c5, by omega, by go_num, HS8⟩
          case measure => simp [intOf]; omega
    · go_wp2_with fail
      go_ret
      exact ⟨rfl, HY.out.fr⟩

theorem paramsOk : ∀ t ∈ Tryd.f5.params.toList, Tryd.prog.readableRec t = true ∧ t < Tryd.prog.types.size := fun t ht => by
  have h := List.all_eq_true.1 (show (Tryd.f5.params.toList.all fun t => Tryd.prog.readableRec t && decide (t < Tryd.prog.types.size)) = true by kernel_rfl) t ht
  simpa using h
theorem paramsPlain : ∀ (j : Nat) t, Tryd.f5.params[j]? = some t → Tryd.prog.wantsStandIn t = false := fun j t ht => by
  have h := List.all_eq_true.1 (show (Tryd.f5.params.toList.all fun t => !Tryd.prog.wantsStandIn t) = true by kernel_rfl) t (by simpa using Array.mem_of_getElem? ht)
  simpa using h

theorem contract (H : Type) (enc : TypeId × Value → H) (W : World) (args : Array Value) (ds gs : List (DataW H)) (before : List MemPlace)
    (base : Nat) (hval : ∀ (j : Nat) t v, Tryd.f5.params[j]? = some t → args[j]? = some v → Value.okWide Tryd.prog W .any base t v)
    (hW : DataW.Whole enc Tryd.prog Tryd.f5.params.toList Rows.codeReadsSpec.vars false W args.toList ds gs before) (hL : laidMetH Tryd.prog Rows.codeReadsRow.laid W) :
    Calls Tryd.prog 5 args W fun e W' => ∃ v, e = .returned v ∧ Rows.codeReadsSpec.post enc Tryd.prog Tryd.f5 false true false false W args v W' := by
  have hW' := hW
  obtain ⟨p, q, hA, hV, rfl, _, _⟩ := hW
  rw [Tryd.params5] at hA hval
  obtain ⟨v0, vs0, d0, ds0, p0, q0, hargs, rfl, rfl, h0, r0⟩ := trodAll_cons hA
  obtain ⟨v1, vs1, d1, ds1, p1, q1, rfl, rfl, rfl, h1, r1⟩ := trodAll_cons r0
  obtain ⟨rfl, rfl, rfl⟩ := trodAll_nil r1
  obtain rfl : args = #[v0, v1] := by cases args; simp_all
  obtain ⟨rfl, rfl⟩ := trodVars_none hV
  obtain ⟨A, c, l, rfl, hr, hA', hlc, hcm⟩ := open_bytes (hval 0 _ v0 rfl rfl) h0
  obtain ⟨S, _, sc, zs, rfl, rfl, hS, _, hzc, hsm, _⟩ := open_cells Tryd.underlying38 Tryd.underlying3 (by kernel_rfl) (hval 1 _ v1 rfl rfl) h1
  have walk := walk W (table hL) A c l S sc zs hr hA' hlc hcm hS (by omega)
  refine walk.mono fun e W' ⟨he, hf⟩ => ?_
  subst he
  exact ⟨_, rfl, law_post laidOut paramsOk rfl rfl Tryd.underlying4 hW' rfl rfl rfl hf⟩

theorem laid_met (os : Os) : laidMet Tryd.prog Rows.codeReadsRow.laid ((laidWorld os).forCall (fun _ _ => 0) ⟨#[], #[.slice none 0 0, .slice none 0 0], []⟩).memory :=
  laidMet_of_run' 20 (by kernel_rfl) (by kernel_rfl)
theorem reads (os : Os) {H : Type} (enc : TypeId × Value → H) : ∃ places, DataW.whole enc Tryd.prog ((laidWorld os).forCall (fun _ _ => 0) ⟨#[], #[.slice none 0 0, .slice none 0 0], []⟩).memory Tryd.f5.params.toList Rows.codeReadsSpec.vars false (#[.slice none 0 0, .slice none 0 0] : Array Value).toList 8 = some ([.nil, .nil], [], places) :=
  ⟨[], by kernel_rfl⟩

set_option maxRecDepth 100000 in
theorem lifted (os : Os) (started : os.Started) (H : Type) (enc : TypeId × Value → H) (F : Stop.Interp) :
    ReturnsInHanded {} Tryd.checked os 5 .any ((OpenSpec.ofChange Rows.codeReadsSpec).preRow enc Tryd.prog Tryd.f5 Rows.codeReadsRow.domain false Rows.codeReadsRow.laid) (((OpenSpec.ofChange Rows.codeReadsSpec).at F).post enc Tryd.prog Tryd.f5 false true false false) := by
  obtain ⟨places, hx⟩ := reads os enc
  refine returnsInHanded_of_row (C := Tryd.checked) (s := OpenSpec.ofChange Rows.codeReadsSpec) own started (by kernel_rfl) Tryd.func5
    (witness_row_at (enc := enc) (C := Tryd.checked) false (laidWorld os) #[.slice none 0 0, .slice none 0 0] rfl (by kernel_rfl) (by kernel_rfl) (by kernel_rfl)
      (OpenSpec.preRow_of_cond 8 hx (by kernel_rfl) (fun k hk => by cases hk) (by kernel_rfl) (laid_met os))) ?_
  intro W base args ds gs before hval hW _ _ _ hL _ _
  exact contract H enc W args ds gs before base hval hW hL

theorem said : Rows.CodeReadsSaid :=
  OpenClaim.holds_of_cond 5 Tryd.f5 rfl rfl rfl rfl rfl rfl rfl ⟨rfl, rfl, rfl, rfl, rfl⟩ rfl rfl rfl rfl rfl (by kernel_rfl) Tryd.func5 (by kernel_rfl)
    (of_decide_eq_true (by kernel_rfl)) (by unfold Func.isWrapper; first | (rw [if_pos (by decide +kernel)]; kernel_rfl) | (rw [if_neg (by decide +kernel)]; exact ⟨rfl, rfl⟩))
    (fun os started H enc _ F => by rw [OpenClaim.pre_eq_preRow]; exact lifted os started H enc F)

theorem plain (f : FuncId) (fn : Func) (hf : Tryd.pinned.checked.prog.funcNamed "argosy/argosylaw01.CodeReads" = some f) (hfn : Tryd.pinned.checked.prog.funcs[f]? = some fn) :
    false = Tryd.pinned.checked.prog.looks [] ∧ ∀ (j : Nat) t, fn.params[j]? = some t → Tryd.pinned.checked.prog.wantsStandIn t = false := by
  obtain rfl : f = 5 := Option.some.inj ((show Tryd.prog.funcNamed "argosy/argosylaw01.CodeReads" = some 5 by kernel_rfl).symm.trans hf) |>.symm
  obtain rfl : fn = Tryd.f5 := (Option.some.inj (Tryd.func5.symm.trans hfn)).symm
  exact ⟨by kernel_rfl, paramsPlain⟩

theorem card : Rows.CodeReadsCardSaid :=
  Claim7.holds_tied_plain_at .later [] _ _ _ _ said (fun _ h => by cases h) (by kernel_rfl) (fun _ h => by cases h) codeReads_row_tie rfl ⟨rfl, rfl⟩ (by kernel_rfl) rfl plain (by kernel_rfl)
end Go.Proofs.YtmghlalddgklaaaDoor.codeReads
