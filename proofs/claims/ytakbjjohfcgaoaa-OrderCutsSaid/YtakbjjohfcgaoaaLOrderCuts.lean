/- OrderCuts is true: bytes that are cut short, or have more behind them, are no order's. No condition. -/
import Derived.Test.YtakbjjohfcgaoaaLawp
import Derived.Test.YtakbjjohfcgaoaaSpeaks9
import Derived.Test.YtakbjjohfcgaoaaRdAll
import Derived.Test.YtakbjjohfcgaoaaWrite
namespace Go.Proofs.Ytakbjjohfcgaoaa.orderCuts
open Go.ChangeShapes Go.WideShapes Go.ChangeAt Go.RowKit

set_option maxRecDepth 100000 in
set_option maxHeartbeats 16000000 in
theorem walk (w : World) (o : Od) (cut : Int) (A : Option Addr) (c : Nat) (more : Bs) (ho : OdIn w o) (no : Bnd o) (hr : Rd w A (cb more)) (hA : A = none → c = 0) : Calls Try.prog 6 #[odv o, .int .i64 cut, .slice A more.length c] w fun e w' => e = .returned (.bool true) ∧ Fr NoBlk w w' := by
  obtain ⟨i0, hi, hz0, hz1, hz2⟩ := info_parts byteInfo
  obtain ⟨q, hq, eq⟩ := i64_low cut 16 (by omega)
  rw [show ((2 ^ 16 - 1 : Nat) : Int) = 65535 from rfl] at eq
  obtain ⟨w0, hw0⟩ : ∃ w0, w0 = w.alloc (.cells (oda o) 33) := ⟨_, rfl⟩
  have HF0 : Hid (Fr NoBlk w w0) := by
    show Fr _ _ _
    rw [hw0]
    exact (Fr.refl _ _).alloc _
  have HB0 : Hid (Bk w0 w.heap.size 33 (oda o)) := by
    show Bk _ _ _ _
    rw [hw0]
    exact Bk.new w _ _
  have HO := Lib.hid ho
  have HNO := Lib.hid no
  have HRM := Lib.hid hr
  have HAM := Lib.hid hA
  clear ho no hr hA
  unfold oda at hw0
  unfold odv oda
  go_enter Try.func6, Try.ntmps6
  go_wp2_with fail
  rw [← hw0]
  clear hw0
  refine (speaks_any _).mono ?_
  rintro e w1 ⟨rfl, hf1⟩
  have HF1 := Lib.hid (HF0.out.trans hf1)
  have HB1 := Lib.hid (HB0.out.fr hf1 (fun h => h))
  clear hf1 HB0 HF0
  obtain ⟨p0, p1, p2, p3, p4, p5, p6, p7, p8, p9⟩ := HB1.out.ord
  have HG1 := Lib.hid (ogreat_any w1 o (HO.out.nofr HF1.out))
  unfold odv oda at HG1
  go_wp2_with fail
  refine HG1.out.mono ?_
  rintro e w2 ⟨⟨bb, rfl, hsa⟩, hf2⟩
  have HF2 := Lib.hid (HF1.out.trans hf2)
  have HB2 := Lib.hid (HB1.out.fr hf2 (fun h => h))
  have HSM := Lib.hid hsa
  clear p0 p1 p2 p3 p4 p5 p6 p7 p8 p9 hf2 HB1 HF1 hsa HG1
  cases bb
  rotate_left
  · go_wp2_with fail
    go_ret
    exact ⟨rfl, HF2.out⟩
  have HS := Lib.hid (HSM.out rfl)
  clear HSM
  by_cases hbig : 1000 < more.length
  · have hbig' : (1000 : Int) < (more.length : Int) := by omega
    go_wp2_with fail
    go_ret
    exact ⟨rfl, HF2.out⟩
  have hbig' : ¬ (1000 : Int) < (more.length : Int) := by omega
  obtain ⟨p0, p1, p2, p3, p4, p5, p6, p7, p8, p9⟩ := HB2.out.ord
  have HW1 := Lib.hid (write_any w2 o (HO.out.nofr HF2.out) (by have := HS.out.t.r; omega) (by have := HS.out.t.w; omega) HNO.out)
  unfold odv oda WritePost at HW1
  go_wp2_with fail
  refine HW1.out.mono ?_
  clear HW1 p0 p1 p2 p3 p4 p5 p6 p7 p8 p9 hbig'
  intro e w3 hp
  by_cases hra : orderR o 3 = true
  rotate_left
  · rw [if_neg hra] at hp
    obtain ⟨rfl, hf3⟩ := hp
    have HF3 := Lib.hid (HF2.out.trans hf3)
    clear hf3 hra
    go_wp2_with fail
    go_ret
    exact ⟨rfl, HF3.out⟩
  rw [if_pos hra] at hp
  obtain ⟨v4, rfl, hn4⟩ := hp
  obtain ⟨A4, c4, rfl, hc4, hA4⟩ := own_form hn4.own
  have HR4 := Lib.hid (Rd.of_own hn4.own)
  have HA4 := Lib.hid hA4
  have HF3 := Lib.hid (HF2.out.trans hn4.fr)
  have hlen := orderB_len (orderR_wod hra HNO.out) (orderR_small hra) HO.out.nums
  have hpos : 0 < (orderB o).length := by
    unfold orderB nums
    simp only [List.flatMap_cons, List.length_append]
    have := List.length_pos_iff.2 (num_ne o.node.toNat)
    omega
  have HCUT := Lib.hid fun (q : Od) (k : Nat) (hk : k < (orderB o).length) (hbq : Bnd q) hnq => read_cut hra HNO.out HO.out.nums hk hbq hnq
  have HMORE := Lib.hid fun (q : Od) (hq : OdOf q (rOrder (orderB o ++ more)).1) => read_more hra HNO.out HO.out.nums hq
  clear hn4 hA4 hra HF2 HB2
  obtain ⟨d, hd⟩ : ∃ d, d = orderB o := ⟨_, rfl⟩
  rw [← hd] at HR4 hlen hpos hc4 HCUT HMORE ⊢
  clear hd
  obtain ⟨t, et, ht⟩ : ∃ t : Nat, (q : Int) % (d.length : Int) = (t : Int) ∧ t < d.length := ⟨q % d.length, by rw [Int.natCast_emod], Nat.mod_lt _ hpos⟩
  have HK := Lib.hid (read_any w3 A4 t c4 (d.take t) (by rw [List.length_take]; omega) (by rw [cb_take]; exact HR4.out.take t) HA4.out (by rw [List.length_take]; omega))
  go_wp2_with fail
  refine HK.out.mono ?_
  clear HK
  rintro e w6 ⟨q1, hq1, hqb, _, hf6, rfl⟩
  rw [HCUT.out q1 t ht hqb hq1.nums, if_neg (by decide : ¬ false = true)]
  have HF6 := Lib.hid (HF3.out.trans hf6)
  have HR6 := Lib.hid (HR4.out.nofr hf6)
  have hwb := (Fr.refl NoBlk w6).alloc (.cells #[.int .i64 0, .int .u64 0, .int .u64 0, .int .i64 0, .int .i64 0, .slice none 0 0, .slice none 0 0, .slice none 0 0, .int .i64 0, .slice none 0 0] 33)
  have HWB := Lib.hid hwb
  clear hq1 hqb hf6 HCUT HF3 HR4 hwb et ht
  unfold ozero
  go_upto_region 9 with fail
  generalize hW : w6.alloc _ = w7 at *
  clear hW
  have HF7 := Lib.hid (HF6.out.trans HWB.out)
  have HR7 := Lib.hid ((HR6.out.nofr HWB.out).alloc (.cells #[] 5))
  have HNEW : Hid ((w7.alloc (.cells #[] 5)).ownsRow w7.heap.size 5 1 (.slice (some ⟨w7.heap.size, 0, none⟩) 0 0) 0 []) := own_new rfl (Nat.le_refl _)
  have HSZ : Hid (w7.heap.size ≤ (w7.alloc (.cells #[] 5)).heap.size) := by show _ ≤ _; simp
  clear HWB HF6 HR6
  go_wp2_with (at_builtin; refine wpList_app rfl _ _ 45 rfl w7.heap.size 5 i0 (.int .u8 0) 1 Try.underlying45 hi hz0 hz1 hz2 rfl _ 0 [] rfl HNEW.out A4 c4 d.length (cb d) rfl (cb_length d) HR7.out (cb_one _) HA4.out ?q3 ?q4 HSZ.out ?_)
  case q3 => unfold maxLen; omega
  case q4 => omega
  intro v8 w8 ho8 hg8 _ _
  have ho8' : w8.ownsRow w7.heap.size 5 1 v8 d.length (cb d) := by simpa only [Nat.zero_add, List.nil_append] using ho8
  clear ho8
  obtain ⟨A8, c8, rfl, _, _⟩ := own_form ho8'
  have HO8 := Lib.hid ho8'
  have HF8 : Hid (Fr NoBlk w w8) := (HF7.out.alloc _).grown hg8 (fun k hk hlt => by have := (own_blk HNEW.out hk).1; have := HF7.out.size; omega)
  have HF78 : Hid (Fr NoBlk w7 w8) := ((Fr.refl NoBlk w7).alloc _).grown hg8 (fun k hk hlt => by have := (own_blk HNEW.out hk).1; omega)
  have HM8 := Lib.hid (HRM.out.nofr HF8.out)
  clear ho8' hg8 HNEW HR7 HSZ
  go_wp2_with (at_builtin; refine wpList_app rfl _ _ 45 rfl w7.heap.size 5 i0 (.int .u8 0) 1 Try.underlying45 hi hz0 hz1 hz2 rfl _ _ _ rfl HO8.out A c more.length (cb more) rfl (cb_length more) HM8.out (cb_one _) HAM.out ?q3 ?q4 HF78.out.size ?_)
  case q3 => unfold maxLen; omega
  case q4 => omega
  intro v9 w9 ho9 hg9 _ _
  obtain ⟨A9, c9, rfl, _, hA9⟩ := own_form ho9
  have HA9 := Lib.hid hA9
  have HR9 : Hid (Rd w9 A9 (cb (d ++ more))) := by
    have h := Rd.of_own ho9
    show Rd _ _ _
    rw [cb_append]
    exact h
  have HF9 : Hid (Fr NoBlk w w9) := HF8.out.grown hg9 (fun k hk hlt => by have := (own_blk HO8.out hk).1; have := HF7.out.size; omega)
  clear ho9 hg9 hA9 HO8 HF78 HM8 HF8 HF7
  have HK := Lib.hid (read_any w9 A9 (d.length + more.length) c9 (d ++ more) (by rw [List.length_append]) HR9.out HA9.out (by rw [List.length_append]; omega))
  go_wp2_with fail
  refine HK.out.mono ?_
  clear HK
  rintro e w10 ⟨q2, _, _, hqo, hf10, rfl⟩
  rw [HMORE.out q2 hqo]
  have HFX := Lib.hid (HF9.out.trans hf10)
  clear hqo hf10 HMORE HR9
  by_cases hm : more = []
  · rw [decide_eq_true hm, if_pos rfl]
    have hml : more.length = 0 := by rw [hm]; rfl
    rw [hml]
    clear hm
    have hwb := (Fr.refl NoBlk w10).alloc (.cells (oda q2) 33)
    have HWB := Lib.hid (HFX.out.trans hwb)
    unfold oda at HWB
    unfold odv oda
    clear hwb
    go_wp2_with fail
    go_ret
    exact ⟨rfl, HWB.out⟩
  · rw [decide_eq_false hm, if_neg (by decide : ¬ false = true)]
    have hml : 0 < more.length := List.length_pos_iff.2 hm
    have hb0 : ((more.length : Int) == 0) = false := beq_eq_false_iff_ne.2 (by omega)
    clear hm
    have HWB := Lib.hid (HFX.out.trans ((Fr.refl NoBlk w10).alloc (.cells #[.int .i64 0, .int .u64 0, .int .u64 0, .int .i64 0, .int .i64 0, .slice none 0 0, .slice none 0 0, .slice none 0 0, .int .i64 0, .slice none 0 0] 33)))
    unfold ozero
    go_wp2_with fail
    go_ret
    exact ⟨rfl, HWB.out⟩

theorem paramsOk : ∀ t ∈ Try.f6.params.toList, Try.prog.readableRec t = true ∧ t < Try.prog.types.size := fun t ht => by
  have h := List.all_eq_true.1 (show (Try.f6.params.toList.all fun t => Try.prog.readableRec t && decide (t < Try.prog.types.size)) = true by kernel_rfl) t ht
  simpa using h

set_option maxRecDepth 100000 in
theorem lifted (os : Os) (started : os.Started) (H : Type) (enc : TypeId × Value → H) :
    ReturnsInHanded {} Try.checked os 6 .any (Rows.orderCutsSpec.pre6 enc Try.prog Try.f6 Rows.orderCutsRow.domain false) (Rows.orderCutsSpec.post enc Try.prog Try.f6 false true false false) := by
  refine returnsInHanded_of_change (C := Try.checked) own started (by kernel_rfl) Try.func6
    (ChangeSpec.witness6 (enc := enc) (C := Try.checked) false ⟨#[], #[.agg #[.int .i64 0, .int .u64 0, .int .u64 0, .int .i64 0, .int .i64 0, .slice none 0 0, .slice none 0 0, .slice none 0 0, .int .i64 0, .slice none 0 0], .int .i64 0, .slice none 0 0], []⟩ 8 (by kernel_rfl) (by kernel_rfl) (by kernel_rfl) (by kernel_rfl)) ?_
  intro W base args ds gs before hval0 hW _ _
  have hval : ∀ (j : Nat) t v, Try.f6.params[j]? = some t → args[j]? = some v → Value.okWide Try.prog W .any base t v := hval0
  have hW' := hW
  obtain ⟨p, q, hA0, hV, rfl, _, _⟩ := hW
  have hA : DataW.TrodAll enc Try.prog W 0 (fun _ => true) true Try.f6.params.toList args.toList ds p := hA0
  rw [Try.params6] at hA hval
  obtain ⟨v0, vs0, d0, ds0, p0, q0, hargs, rfl, rfl, h0, r0⟩ := trodAll_cons hA
  obtain ⟨v1, vs1, d1, ds1, p1, q1, rfl, rfl, rfl, h1, r1⟩ := trodAll_cons r0
  obtain ⟨v2, vs2, d2, ds2, p2, q2, rfl, rfl, rfl, h2, r2⟩ := trodAll_cons r1
  obtain ⟨rfl, rfl, rfl⟩ := trodAll_nil r2
  obtain rfl : args = #[v0, v1, v2] := by cases args; simp_all
  obtain ⟨rfl, rfl⟩ := trodVars_none hV
  obtain ⟨o, rfl, ho, no⟩ := open_order (hval 0 _ v0 rfl rfl) h0
  obtain ⟨cut, rfl, rfl, rfl, wcut⟩ := open_int Try.underlying3 (hval 1 _ v1 rfl rfl) h1
  obtain ⟨A, c, more, rfl, hr, hA'⟩ := open_bytes (hval 2 _ v2 rfl rfl) h2
  have walk := walk W o cut A c more ho no hr hA'
  clear hA0 hval0
  refine walk.mono fun e W' ⟨he, hf⟩ => ?_
  subst he
  exact ⟨_, rfl, law_post laidOut paramsOk rfl rfl Try.underlying4 hW' rfl rfl rfl hf⟩

theorem said : Rows.OrderCutsSaid :=
  OpenClaim.holds_of_wide 6 Try.f6 rfl rfl rfl rfl rfl rfl rfl ⟨rfl, rfl, rfl, rfl, rfl⟩ rfl rfl rfl rfl rfl (by kernel_rfl) Try.func6 (by kernel_rfl)
    (of_decide_eq_true (by kernel_rfl)) (by unfold Func.isWrapper; first | (rw [if_pos (by decide +kernel)]; kernel_rfl) | (rw [if_neg (by decide +kernel)]; exact ⟨rfl, rfl⟩))
    (fun os started H enc _ => lifted os started H enc)
end Go.Proofs.Ytakbjjohfcgaoaa.orderCuts
