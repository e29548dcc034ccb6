/- AcceptTells is true: what was taken is told by every promise from then on, until something else is taken at its place. No condition. -/
import Derived.Test.YtjjdomeffphjjaaOpA
import Derived.Deep.LoopGhost
namespace Go.Proofs.Ytjjdomeffphjjaa.acceptTells
open Go.ChangeShapes Go.WideShapes Go.ChangeAt Go.RowKit

theorem geL_head {V : Type} {key : Int} {u : V} : ∀ {xs : List (Int × V)}, UpI ltI xs → (key, u) ∈ xs → ∃ t, geL ltI key xs = (key, u) :: t
  | [], _, h => by cases h
  | y :: t, hu, h => by
    have hu' := List.pairwise_cons.1 hu
    rcases List.mem_cons.1 h with rfl | h
    · refine ⟨geL ltI key t, ?_⟩
      have h0 : ltI key key = false := by unfold ltI; exact decide_eq_false (by omega)
      unfold geL
      rw [List.filter_cons]
      simp [h0]
    · obtain ⟨s, hs⟩ := geL_head hu'.2 h
      refine ⟨s, ?_⟩
      have h1 : ltI y.1 key = true := hu'.1 _ h
      rw [← hs]
      unfold geL
      rw [List.filter_cons]
      simp [h1]
/-- the vote that a call stands for. -/
def vo (o : Opn) : VaT := ⟨o.slot, o.bal, o.val⟩
/-- what was taken still stands. -/
def Kept (o : Opn) (ok : Bool) (p : Nat) (xs : List ItT) : Prop := ok = true → (o.slot, vo o) ∈ xs ∧ o.bal ≤ p
/-- what stands between two rounds. -/
def Inv (W : World) (q0 g gt : Nat) (o : Opn) (ok : Bool) (wr : World) : Prop :=
  ∃ p xs, VoK W (fun b => b = q0) g gt p xs wr ∧ Bk wr q0 35 (opa o) ∧ Kept o ok p xs

set_option maxRecDepth 100000 in
set_option maxHeartbeats 4000000 in
theorem walk (W : World) (A : Option Addr) (c : Nat) (l : List Opn) (hr : Rd W A (opsc l)) (_ : ∀ x ∈ l, OpIn x) (hm : l.length ≤ maxLen) (o : Opn) :
    Calls Try.prog 5 #[.slice A l.length c, .agg (opa o)] W fun e W' => e = .returned (.bool true) ∧ Fr NoBlk W W' := by
  obtain ⟨q0, hq0⟩ : ∃ q, q = W.heap.size := ⟨_, rfl⟩
  obtain ⟨w0, hw0⟩ : ∃ w, w = W.alloc (.cells (opa o) 35) := ⟨_, rfl⟩
  have HF0 : Hid (Fr NoBlk W w0) := by show Fr _ _ _; rw [hw0]; exact (Fr.refl _ _).alloc _
  have HB0 : Hid (Bk w0 q0 35 (opa o)) := by show Bk _ _ _ _; rw [hw0, hq0]; exact Bk.new _ _ _
  have HS := Lib.hid (speaks_any w0)
  have HR := Lib.hid hr
  have HM := Lib.hid hm
  have HW0 := Lib.hid hw0
  have HQ0 := Lib.hid hq0
  obtain ⟨n, hn⟩ : ∃ n, n = l.length := ⟨_, rfl⟩
  have HN := Lib.hid hn
  rw [← hn]
  unfold opa at HW0 ⊢
  clear hr hm hn hw0 hq0
  go_enter Try.func5, Try.ntmps5
  go_upto_region 1 with fail
  rw [← HW0.out, ← HQ0.out]
  go_wp2_with fail
  refine HS.out.mono ?_
  clear HS
  rintro e w1 ⟨rfl, hf1⟩
  have HF1 := Lib.hid (HF0.out.trans hf1)
  have HB1 := Lib.hid (HB0.out.fr hf1 fun e => e)
  clear hf1
  by_cases h100 : (100 : Int) < (n : Int)
  · go_wp2_with fail
    go_ret
    exact ⟨rfl, HF1.out⟩
  have HN2 : Hid (n ≤ 100) := by show n ≤ 100; omega
  have HNW := Lib.hid (vok_new (W := W) (K := fun b => b = q0) HF1.out (fun b e => e ▸ HB1.out.lt))
  go_wp2_with fail
  refine HNW.out.mono ?_
  clear HNW h100
  rintro e w2 ⟨g, gt, rfl, h2, hk2⟩
  have HB2 := Lib.hid (HB1.out.kept hk2 rfl)
  have HA := Lib.hid (h2.acc (vo o))
  have e1 : w2.cell? ⟨q0, 1, none⟩ = some (.int .u64 (o.bal : Int)) := HB2.out.cell 1
  have e2 : w2.cell? ⟨q0, 2, none⟩ = some (.int .i64 o.slot) := HB2.out.cell 2
  have e3 : w2.cell? ⟨q0, 3, none⟩ = some (.string (bstr o.val)) := HB2.out.cell 3
  have HU2 := Lib.hid h2.up
  clear h2 hk2 HB1
  go_wp2_with fail
  refine HA.out.mono ?_
  clear HA e1 e2 e3
  rintro e w3 ⟨hk3, rfl, h3⟩
  have HB3 := Lib.hid (HB2.out.kept hk3 rfl)
  have H3 := Lib.hid h3
  have e2 : w3.cell? ⟨q0, 2, none⟩ = some (.int .i64 o.slot) := HB3.out.cell 2
  clear h3 hk3 HB2
  by_cases hs0 : 0 ≤ o.slot
  · by_cases hs1 : o.slot < 64
    · have HS0 : Hid (0 ≤ o.slot ∧ o.slot < 64) := ⟨hs0, hs1⟩
      have HTK : Hid (takesT 0 (vo o) = true) := by
        show _ = _
        unfold takesT
        rw [decide_eq_false (show ¬ (vo o).bal < 0 from Nat.not_lt_zero _)]
        show (true && (decide (0 ≤ o.slot) && decide (o.slot < 64))) = _
        rw [decide_eq_true HS0.out.1, decide_eq_true HS0.out.2]
        rfl
      have HI0 : Hid (Inv W q0 g gt o true w3) := by
        have h := H3.out
        rw [HTK.out] at h
        exact ⟨_, _, h, HB3.out, fun _ => ⟨mem_putL.2 (.inl rfl), Nat.le_refl _⟩⟩
      rw [HTK.out]
      clear HTK H3 HB3
      go_wp2_with fail
      clear e2 hs0 hs1
      go_loopw [40] (fun i wr => ∃ (k : Nat), i = .int .i64 (k : Int) ∧ k ≤ n ∧ Hid (Inv W q0 g gt o true wr)) (fun i _ => (n - intOf i).toNat)
      case atStart => exact ⟨0, rfl, Nat.zero_le _, HI0.out⟩
      case round =>
        clear HI0
        obtain ⟨k, rfl, hk, HI⟩ := hrel
        by_cases hkn : k < n
        · have hki : (k : Int) < (n : Int) := by omega
          obtain ⟨x, hx⟩ : ∃ x, l[k]? = some x := ⟨_, List.getElem?_eq_getElem (by rw [← HN.out]; exact hkn)⟩
          obtain ⟨p, xs, hv, hb, hin⟩ := HI.out
          obtain ⟨b, off, hA, d0, d1, d2, d3⟩ := (HR.out.nofr hv.fr).opn hx
          subst hA
          obtain ⟨xpr, xbal, xslot, xval⟩ := x
          dsimp only at d0 d1 d2 d3
          have hwr : IntKind.i64.wrap ((k : Int) + 1) = (k : Int) + 1 := by have := HN2.out; exact IntWalk.i64_in _ (by omega)
          obtain ⟨ob, hob⟩ : ∃ ob, ob = wr.heap.size := ⟨_, rfl⟩
          obtain ⟨w4, hw4⟩ : ∃ w4, w4 = wr.alloc (.cells #[.bool xpr, .int .u64 (xbal : Int), .int .i64 xslot, .string (bstr xval)] 35) := ⟨_, rfl⟩
          have HX4 : Hid (Bk w4 ob 35 #[.bool xpr, .int .u64 (xbal : Int), .int .i64 xslot, .string (bstr xval)]) := by show Bk _ _ _ _; rw [hw4, hob]; exact Bk.new _ _ _
          have HB4 : Hid (Bk w4 q0 35 (opa o)) := by show Bk _ _ _ _; rw [hw4]; exact hb.alloc _
          have H4 : Hid (VoK W (fun b => b = q0 ∨ b = ob) g gt p xs w4) := by show VoK _ _ _ _ _ _ _; rw [hw4, hob]; exact hv.made _
          have HIN : Hid (Kept o true p xs) := hin
          have HW4 := Lib.hid hw4
          have HOB := Lib.hid hob
          have x0 : w4.cell? ⟨ob, 0, none⟩ = some (.bool xpr) := HX4.out.cell 0
          have x1 : w4.cell? ⟨ob, 1, none⟩ = some (.int .u64 (xbal : Int)) := HX4.out.cell 1
          have x2 : w4.cell? ⟨ob, 2, none⟩ = some (.int .i64 xslot) := HX4.out.cell 2
          have x3 : w4.cell? ⟨ob, 3, none⟩ = some (.string (bstr xval)) := HX4.out.cell 3
          have o1 : w4.cell? ⟨q0, 1, none⟩ = some (.int .u64 (o.bal : Int)) := HB4.out.cell 1
          have o2 : w4.cell? ⟨q0, 2, none⟩ = some (.int .i64 o.slot) := HB4.out.cell 2
          clear hx hv hb hin hw4 hob HI
          go_upto_region 14 with fail
          rw [← HW4.out, ← HOB.out]
          clear HW4 HOB d0 d1 d2 d3
          cases xpr with
          | true =>
            have HP := Lib.hid (H4.out.prom xbal o.slot)
            go_wp2_with fail
            refine HP.out.mono ?_
            clear HP x0 x1 x2 x3 o1 o2
            rintro e w5 ⟨hk5, ⟨hlt, rfl, h5⟩ | ⟨hge, A5, c5, rfl, ho5, h5⟩⟩
            · have HX5 := Lib.hid (HX4.out.kept hk5 (.inr rfl))
              have HB5 := Lib.hid (HB4.out.kept hk5 (.inl rfl))
              have x1 : w5.cell? ⟨ob, 1, none⟩ = some (.int .u64 (xbal : Int)) := HX5.out.cell 1
              have o1 : w5.cell? ⟨q0, 1, none⟩ = some (.int .u64 (o.bal : Int)) := HB5.out.cell 1
              have HI5 : Hid (Inv W q0 g gt o true w5) := ⟨p, xs, h5.sub fun b e => .inl e, HB5.out, HIN.out⟩
              clear hk5 h5 HX4 HB4 H4 HIN hlt
              by_cases hob : (o.bal : Int) ≤ (xbal : Int)
              · go_upto_region 18 with fail
                go_quiet (fail)
                obtain ⟨w6, hw6⟩ : ∃ w6, w6 = w5.drewN nq := ⟨_, rfl⟩
                have HI6 : Hid (Inv W q0 g gt o true w6) := by
                  obtain ⟨p', xs', i1, i2, i3⟩ := HI5.out
                  have hfd : Fr NoBlk w5 w6 := by rw [hw6]; exact (Fr.refl _ _).drewN _
                  exact ⟨p', xs', i1.nofr hfd, i2.fr hfd fun e => e, i3⟩
                rw [← hw6]
                clear hw6 HI5 HX5 HB5 x1 o1 hob
                go_wp2_with fail
                go_roundw
                case rel => exact ⟨k + 1, by push_cast; rfl, by omega, HI6.out⟩
                case measure => simp [intOf]; omega
              · go_upto_region 18 with fail
                go_quiet (fail)
                obtain ⟨w6, hw6⟩ : ∃ w6, w6 = w5.drewN nq := ⟨_, rfl⟩
                have HI6 : Hid (Inv W q0 g gt o true w6) := by
                  obtain ⟨p', xs', i1, i2, i3⟩ := HI5.out
                  have hfd : Fr NoBlk w5 w6 := by rw [hw6]; exact (Fr.refl _ _).drewN _
                  exact ⟨p', xs', i1.nofr hfd, i2.fr hfd fun e => e, i3⟩
                rw [← hw6]
                clear hw6 HI5 HX5 HB5 x1 o1 hob
                go_wp2_with fail
                go_roundw
                case rel => exact ⟨k + 1, by push_cast; rfl, by omega, HI6.out⟩
                case measure => simp [intOf]; omega
            · have HX5 := Lib.hid (HX4.out.kept hk5 (.inr rfl))
              have HB5 := Lib.hid (HB4.out.kept hk5 (.inl rfl))
              have x1 : w5.cell? ⟨ob, 1, none⟩ = some (.int .u64 (xbal : Int)) := HX5.out.cell 1
              have o1 : w5.cell? ⟨q0, 1, none⟩ = some (.int .u64 (o.bal : Int)) := HB5.out.cell 1
              have o2 : w5.cell? ⟨q0, 2, none⟩ = some (.int .i64 o.slot) := HB5.out.cell 2
              have o3 : w5.cell? ⟨q0, 3, none⟩ = some (.string (bstr o.val)) := HB5.out.cell 3
              have HI5 : Hid (Inv W q0 g gt o true w5) := ⟨xbal, xs, h5.sub fun b e => .inl e, HB5.out, fun e => ⟨(HIN.out e).1, Nat.le_trans (HIN.out e).2 hge⟩⟩
              have hmi := (HIN.out rfl).1
              obtain ⟨tl, htl⟩ := geL_head h5.up hmi
              rw [htl] at ho5
              obtain ⟨lb, lc, el, hl⟩ := (own_cells ho5).2 (.int .i64 o.slot) rfl
              injection el with el _ _
              subst el
              have l0 : w5.cell? ⟨lb, 0, none⟩ = some (.int .i64 o.slot) := hl 0 _ rfl
              have l1 : w5.cell? ⟨lb, 1, none⟩ = some (.int .u64 (o.bal : Int)) := hl 1 _ rfl
              have l2 : w5.cell? ⟨lb, 2, none⟩ = some (.string (bstr o.val)) := hl 2 _ rfl
              obtain ⟨m, hm⟩ : ∃ m, m = (geL ltI o.slot xs).length := ⟨_, rfl⟩
              have hm1 : (0 : Int) < (m : Int) := by rw [hm, htl, List.length_cons]; omega
              have hm0 : ¬ (m : Int) = 0 := by omega
              have hmn : ¬ m = 0 := by omega
              have hmp : 0 < m := by omega
              rw [← hm]
              have hob : (o.bal : Int) ≤ (xbal : Int) := by have := (HIN.out rfl).2; omega
              clear hmi htl hl hm
              clear hk5 h5 HX4 HB4 H4 HIN hge ho5
              go_upto_region 18 with fail
              go_quiet (fail)
              obtain ⟨w6, hw6⟩ : ∃ w6, w6 = w5.drewN nq := ⟨_, rfl⟩
              have HI6 : Hid (Inv W q0 g gt o true w6) := by
                obtain ⟨p', xs', i1, i2, i3⟩ := HI5.out
                have hfd : Fr NoBlk w5 w6 := by rw [hw6]; exact (Fr.refl _ _).drewN _
                exact ⟨p', xs', i1.nofr hfd, i2.fr hfd fun e => e, i3⟩
              rw [← hw6]
              clear hw6 HI5 HX5 HB5 x1 o1 o2 o3
              go_wp2_with fail
              go_roundw
              case rel => exact ⟨k + 1, by push_cast; rfl, by omega, HI6.out⟩
              case measure => simp [intOf]; omega
          | false =>
            by_cases hso : xslot = o.slot
            · have HI5 : Hid (Inv W q0 g gt o true w4) := ⟨p, xs, H4.out.sub fun b e => .inl e, HB4.out, HIN.out⟩
              subst hso
              clear HX4 HB4 H4 HIN
              go_wp2_with fail
              go_roundw
              case rel => exact ⟨k + 1, by push_cast; rfl, by omega, HI5.out⟩
              case measure => simp [intOf]; omega
            · have HP : Hid (Calls Try.prog 12 #[.pointer (some ⟨g, 0, none⟩), .agg #[.int .i64 xslot, .int .u64 (xbal : Int), .string (bstr xval)]] w4 fun e w' => (∃ r, e = .returned (.bool r)) ∧ Inv W q0 g gt o true w') := (H4.out.acc ⟨xslot, xbal, xval⟩).mono fun e w' h => by
                obtain ⟨hk5, rfl, h5⟩ := h
                refine ⟨⟨_, rfl⟩, _, _, h5.sub fun b e => .inl e, HB4.out.kept hk5 (.inl rfl), fun e => ?_⟩
                have hi := HIN.out e
                cases ht : takesT p ⟨xslot, xbal, xval⟩ with
                | true =>
                  have hb : p ≤ xbal := by
                    unfold takesT at ht
                    by_cases hlt : xbal < p
                    · rw [show (decide ((VaT.mk xslot xbal xval).bal < p)) = true from decide_eq_true hlt] at ht
                      cases ht
                    · omega
                  exact ⟨mem_putL.2 (.inr ⟨hi.1, fun e => hso e.symm⟩), Nat.le_trans hi.2 hb⟩
                | false => exact hi
              clear HX4 HB4 H4 HIN
              go_wp2_with fail
              refine HP.out.mono ?_
              clear HP x0 x1 x2 x3 o1 o2 hso
              rintro e w5 ⟨⟨rr, rfl⟩, h5⟩
              have HI5 := Lib.hid h5
              clear h5
              go_wp2_with fail
              go_roundw
              case rel => exact ⟨k + 1, by push_cast; rfl, by omega, HI5.out⟩
              case measure => simp [intOf]; omega
        · have hki : ¬ (k : Int) < (n : Int) := by omega
          have HFE : Hid (Fr NoBlk W wr) := by obtain ⟨p, xs, hv, _⟩ := HI.out; exact hv.fr
          go_wp2_with fail
          go_ret
          exact ⟨rfl, HFE.out⟩
    · have HS1 : Hid (¬ o.slot < 64) := hs1
      have HS0 : Hid (0 ≤ o.slot) := hs0
      have hs2 : (64 : Int) ≤ o.slot := by omega
      have HTK : Hid (takesT 0 (vo o) = false) := by
        show _ = _
        unfold takesT
        rw [decide_eq_false (show ¬ (vo o).bal < 0 from Nat.not_lt_zero _)]
        show (true && (decide (0 ≤ o.slot) && decide (o.slot < 64))) = _
        rw [decide_eq_false HS1.out, Bool.and_false]
        rfl
      have HI0 : Hid (Inv W q0 g gt o false w3) := by
        have h := H3.out
        rw [HTK.out] at h
        exact ⟨_, _, h, HB3.out, fun h => by cases h⟩
      rw [HTK.out]
      clear HTK H3 HB3
      go_wp2_with fail
      clear e2 hs0 hs1 hs2
      go_loopw [40] (fun i wr => ∃ (k : Nat), i = .int .i64 (k : Int) ∧ k ≤ n ∧ Hid (Inv W q0 g gt o false wr)) (fun i _ => (n - intOf i).toNat)
      case atStart => exact ⟨0, rfl, Nat.zero_le _, HI0.out⟩
      case round =>
        clear HI0
        obtain ⟨k, rfl, hk, HI⟩ := hrel
        by_cases hkn : k < n
        · have hki : (k : Int) < (n : Int) := by omega
          obtain ⟨x, hx⟩ : ∃ x, l[k]? = some x := ⟨_, List.getElem?_eq_getElem (by rw [← HN.out]; exact hkn)⟩
          obtain ⟨p, xs, hv, hb, hin⟩ := HI.out
          obtain ⟨b, off, hA, d0, d1, d2, d3⟩ := (HR.out.nofr hv.fr).opn hx
          subst hA
          obtain ⟨xpr, xbal, xslot, xval⟩ := x
          dsimp only at d0 d1 d2 d3
          have hwr : IntKind.i64.wrap ((k : Int) + 1) = (k : Int) + 1 := by have := HN2.out; exact IntWalk.i64_in _ (by omega)
          obtain ⟨ob, hob⟩ : ∃ ob, ob = wr.heap.size := ⟨_, rfl⟩
          obtain ⟨w4, hw4⟩ : ∃ w4, w4 = wr.alloc (.cells #[.bool xpr, .int .u64 (xbal : Int), .int .i64 xslot, .string (bstr xval)] 35) := ⟨_, rfl⟩
          have HX4 : Hid (Bk w4 ob 35 #[.bool xpr, .int .u64 (xbal : Int), .int .i64 xslot, .string (bstr xval)]) := by show Bk _ _ _ _; rw [hw4, hob]; exact Bk.new _ _ _
          have HB4 : Hid (Bk w4 q0 35 (opa o)) := by show Bk _ _ _ _; rw [hw4]; exact hb.alloc _
          have H4 : Hid (VoK W (fun b => b = q0 ∨ b = ob) g gt p xs w4) := by show VoK _ _ _ _ _ _ _; rw [hw4, hob]; exact hv.made _
          have HIN : Hid (Kept o false p xs) := hin
          have HW4 := Lib.hid hw4
          have HOB := Lib.hid hob
          have x0 : w4.cell? ⟨ob, 0, none⟩ = some (.bool xpr) := HX4.out.cell 0
          have x1 : w4.cell? ⟨ob, 1, none⟩ = some (.int .u64 (xbal : Int)) := HX4.out.cell 1
          have x2 : w4.cell? ⟨ob, 2, none⟩ = some (.int .i64 xslot) := HX4.out.cell 2
          have x3 : w4.cell? ⟨ob, 3, none⟩ = some (.string (bstr xval)) := HX4.out.cell 3
          have o1 : w4.cell? ⟨q0, 1, none⟩ = some (.int .u64 (o.bal : Int)) := HB4.out.cell 1
          have o2 : w4.cell? ⟨q0, 2, none⟩ = some (.int .i64 o.slot) := HB4.out.cell 2
          clear hx hv hb hin hw4 hob HI
          go_upto_region 14 with fail
          rw [← HW4.out, ← HOB.out]
          clear HW4 HOB d0 d1 d2 d3
          cases xpr with
          | true =>
            have HP := Lib.hid (H4.out.prom xbal o.slot)
            go_wp2_with fail
            refine HP.out.mono ?_
            clear HP x0 x1 x2 x3 o1 o2
            rintro e w5 ⟨hk5, ⟨hlt, rfl, h5⟩ | ⟨hge, A5, c5, rfl, ho5, h5⟩⟩
            · have HX5 := Lib.hid (HX4.out.kept hk5 (.inr rfl))
              have HB5 := Lib.hid (HB4.out.kept hk5 (.inl rfl))
              have x1 : w5.cell? ⟨ob, 1, none⟩ = some (.int .u64 (xbal : Int)) := HX5.out.cell 1
              have o1 : w5.cell? ⟨q0, 1, none⟩ = some (.int .u64 (o.bal : Int)) := HB5.out.cell 1
              have HI5 : Hid (Inv W q0 g gt o false w5) := ⟨p, xs, h5.sub fun b e => .inl e, HB5.out, HIN.out⟩
              clear hk5 h5 HX4 HB4 H4 HIN hlt
              by_cases hob : (o.bal : Int) ≤ (xbal : Int)
              · go_upto_region 18 with fail
                go_quiet (fail)
                obtain ⟨w6, hw6⟩ : ∃ w6, w6 = w5.drewN nq := ⟨_, rfl⟩
                have HI6 : Hid (Inv W q0 g gt o false w6) := by
                  obtain ⟨p', xs', i1, i2, i3⟩ := HI5.out
                  have hfd : Fr NoBlk w5 w6 := by rw [hw6]; exact (Fr.refl _ _).drewN _
                  exact ⟨p', xs', i1.nofr hfd, i2.fr hfd fun e => e, i3⟩
                rw [← hw6]
                clear hw6 HI5 HX5 HB5 x1 o1 hob
                go_wp2_with fail
                go_roundw
                case rel => exact ⟨k + 1, by push_cast; rfl, by omega, HI6.out⟩
                case measure => simp [intOf]; omega
              · go_upto_region 18 with fail
                go_quiet (fail)
                obtain ⟨w6, hw6⟩ : ∃ w6, w6 = w5.drewN nq := ⟨_, rfl⟩
                have HI6 : Hid (Inv W q0 g gt o false w6) := by
                  obtain ⟨p', xs', i1, i2, i3⟩ := HI5.out
                  have hfd : Fr NoBlk w5 w6 := by rw [hw6]; exact (Fr.refl _ _).drewN _
                  exact ⟨p', xs', i1.nofr hfd, i2.fr hfd fun e => e, i3⟩
                rw [← hw6]
                clear hw6 HI5 HX5 HB5 x1 o1 hob
                go_wp2_with fail
                go_roundw
                case rel => exact ⟨k + 1, by push_cast; rfl, by omega, HI6.out⟩
                case measure => simp [intOf]; omega
            · have HX5 := Lib.hid (HX4.out.kept hk5 (.inr rfl))
              have HB5 := Lib.hid (HB4.out.kept hk5 (.inl rfl))
              have x1 : w5.cell? ⟨ob, 1, none⟩ = some (.int .u64 (xbal : Int)) := HX5.out.cell 1
              have o1 : w5.cell? ⟨q0, 1, none⟩ = some (.int .u64 (o.bal : Int)) := HB5.out.cell 1
              have o2 : w5.cell? ⟨q0, 2, none⟩ = some (.int .i64 o.slot) := HB5.out.cell 2
              have o3 : w5.cell? ⟨q0, 3, none⟩ = some (.string (bstr o.val)) := HB5.out.cell 3
              have HI5 : Hid (Inv W q0 g gt o false w5) := ⟨xbal, xs, h5.sub fun b e => .inl e, HB5.out, fun e => ⟨(HIN.out e).1, Nat.le_trans (HIN.out e).2 hge⟩⟩
              obtain ⟨m, hm⟩ : ∃ m, m = (geL ltI o.slot xs).length := ⟨_, rfl⟩
              rw [← hm]
              clear hm
              clear hk5 h5 HX4 HB4 H4 HIN hge ho5
              by_cases hob : (o.bal : Int) ≤ (xbal : Int)
              · go_upto_region 18 with fail
                go_quiet (fail)
                obtain ⟨w6, hw6⟩ : ∃ w6, w6 = w5.drewN nq := ⟨_, rfl⟩
                have HI6 : Hid (Inv W q0 g gt o false w6) := by
                  obtain ⟨p', xs', i1, i2, i3⟩ := HI5.out
                  have hfd : Fr NoBlk w5 w6 := by rw [hw6]; exact (Fr.refl _ _).drewN _
                  exact ⟨p', xs', i1.nofr hfd, i2.fr hfd fun e => e, i3⟩
                rw [← hw6]
                clear hw6 HI5 HX5 HB5 x1 o1 o2 o3
                go_wp2_with fail
                go_roundw
                case rel => exact ⟨k + 1, by push_cast; rfl, by omega, HI6.out⟩
                case measure => simp [intOf]; omega
              · go_upto_region 18 with fail
                go_quiet (fail)
                obtain ⟨w6, hw6⟩ : ∃ w6, w6 = w5.drewN nq := ⟨_, rfl⟩
                have HI6 : Hid (Inv W q0 g gt o false w6) := by
                  obtain ⟨p', xs', i1, i2, i3⟩ := HI5.out
                  have hfd : Fr NoBlk w5 w6 := by rw [hw6]; exact (Fr.refl _ _).drewN _
                  exact ⟨p', xs', i1.nofr hfd, i2.fr hfd fun e => e, i3⟩
                rw [← hw6]
                clear hw6 HI5 HX5 HB5 x1 o1 o2 o3
                go_wp2_with fail
                go_roundw
                case rel => exact ⟨k + 1, by push_cast; rfl, by omega, HI6.out⟩
                case measure => simp [intOf]; omega
          | false =>
            by_cases hso : xslot = o.slot
            · have HI5 : Hid (Inv W q0 g gt o false w4) := ⟨p, xs, H4.out.sub fun b e => .inl e, HB4.out, HIN.out⟩
              subst hso
              clear HX4 HB4 H4 HIN
              go_wp2_with fail
              go_roundw
              case rel => exact ⟨k + 1, by push_cast; rfl, by omega, HI5.out⟩
              case measure => simp [intOf]; omega
            · have HP : Hid (Calls Try.prog 12 #[.pointer (some ⟨g, 0, none⟩), .agg #[.int .i64 xslot, .int .u64 (xbal : Int), .string (bstr xval)]] w4 fun e w' => (∃ r, e = .returned (.bool r)) ∧ Inv W q0 g gt o false w') := (H4.out.acc ⟨xslot, xbal, xval⟩).mono fun e w' h => by
                obtain ⟨hk5, rfl, h5⟩ := h
                refine ⟨⟨_, rfl⟩, _, _, h5.sub fun b e => .inl e, HB4.out.kept hk5 (.inl rfl), fun e => ?_⟩
                have hi := HIN.out e
                cases ht : takesT p ⟨xslot, xbal, xval⟩ with
                | true =>
                  have hb : p ≤ xbal := by
                    unfold takesT at ht
                    by_cases hlt : xbal < p
                    · rw [show (decide ((VaT.mk xslot xbal xval).bal < p)) = true from decide_eq_true hlt] at ht
                      cases ht
                    · omega
                  exact ⟨mem_putL.2 (.inr ⟨hi.1, fun e => hso e.symm⟩), Nat.le_trans hi.2 hb⟩
                | false => exact hi
              clear HX4 HB4 H4 HIN
              go_wp2_with fail
              refine HP.out.mono ?_
              clear HP x0 x1 x2 x3 o1 o2 hso
              rintro e w5 ⟨⟨rr, rfl⟩, h5⟩
              have HI5 := Lib.hid h5
              clear h5
              go_wp2_with fail
              go_roundw
              case rel => exact ⟨k + 1, by push_cast; rfl, by omega, HI5.out⟩
              case measure => simp [intOf]; omega
        · have hki : ¬ (k : Int) < (n : Int) := by omega
          have HFE : Hid (Fr NoBlk W wr) := by obtain ⟨p, xs, hv, _⟩ := HI.out; exact hv.fr
          go_wp2_with fail
          go_ret
          exact ⟨rfl, HFE.out⟩
  · have HS0 : Hid (¬ 0 ≤ o.slot) := hs0
    have hs2 : o.slot < (0 : Int) := by omega
    have HTK : Hid (takesT 0 (vo o) = false) := by
      show _ = _
      unfold takesT
      rw [decide_eq_false (show ¬ (vo o).bal < 0 from Nat.not_lt_zero _)]
      show (true && (decide (0 ≤ o.slot) && decide (o.slot < 64))) = _
      rw [decide_eq_false HS0.out, Bool.false_and]
      rfl
    have HI0 : Hid (Inv W q0 g gt o false w3) := by
      have h := H3.out
      rw [HTK.out] at h
      exact ⟨_, _, h, HB3.out, fun h => by cases h⟩
    rw [HTK.out]
    clear HTK H3 HB3
    go_wp2_with fail
    clear e2 hs0 hs2
    go_loopw [40] (fun i wr => ∃ (k : Nat), i = .int .i64 (k : Int) ∧ k ≤ n ∧ Hid (Inv W q0 g gt o false wr)) (fun i _ => (n - intOf i).toNat)
    case atStart => exact ⟨0, rfl, Nat.zero_le _, HI0.out⟩
    case round =>
      clear HI0
      obtain ⟨k, rfl, hk, HI⟩ := hrel
      by_cases hkn : k < n
      · have hki : (k : Int) < (n : Int) := by omega
        obtain ⟨x, hx⟩ : ∃ x, l[k]? = some x := ⟨_, List.getElem?_eq_getElem (by rw [← HN.out]; exact hkn)⟩
        obtain ⟨p, xs, hv, hb, hin⟩ := HI.out
        obtain ⟨b, off, hA, d0, d1, d2, d3⟩ := (HR.out.nofr hv.fr).opn hx
        subst hA
        obtain ⟨xpr, xbal, xslot, xval⟩ := x
        dsimp only at d0 d1 d2 d3
        have hwr : IntKind.i64.wrap ((k : Int) + 1) = (k : Int) + 1 := by have := HN2.out; exact IntWalk.i64_in _ (by omega)
        obtain ⟨ob, hob⟩ : ∃ ob, ob = wr.heap.size := ⟨_, rfl⟩
        obtain ⟨w4, hw4⟩ : ∃ w4, w4 = wr.alloc (.cells #[.bool xpr, .int .u64 (xbal : Int), .int .i64 xslot, .string (bstr xval)] 35) := ⟨_, rfl⟩
        have HX4 : Hid (Bk w4 ob 35 #[.bool xpr, .int .u64 (xbal : Int), .int .i64 xslot, .string (bstr xval)]) := by show Bk _ _ _ _; rw [hw4, hob]; exact Bk.new _ _ _
        have HB4 : Hid (Bk w4 q0 35 (opa o)) := by show Bk _ _ _ _; rw [hw4]; exact hb.alloc _
        have H4 : Hid (VoK W (fun b => b = q0 ∨ b = ob) g gt p xs w4) := by show VoK _ _ _ _ _ _ _; rw [hw4, hob]; exact hv.made _
        have HIN : Hid (Kept o false p xs) := hin
        have HW4 := Lib.hid hw4
        have HOB := Lib.hid hob
        have x0 : w4.cell? ⟨ob, 0, none⟩ = some (.bool xpr) := HX4.out.cell 0
        have x1 : w4.cell? ⟨ob, 1, none⟩ = some (.int .u64 (xbal : Int)) := HX4.out.cell 1
        have x2 : w4.cell? ⟨ob, 2, none⟩ = some (.int .i64 xslot) := HX4.out.cell 2
        have x3 : w4.cell? ⟨ob, 3, none⟩ = some (.string (bstr xval)) := HX4.out.cell 3
        have o1 : w4.cell? ⟨q0, 1, none⟩ = some (.int .u64 (o.bal : Int)) := HB4.out.cell 1
        have o2 : w4.cell? ⟨q0, 2, none⟩ = some (.int .i64 o.slot) := HB4.out.cell 2
        clear hx hv hb hin hw4 hob HI
        go_upto_region 14 with fail
        rw [← HW4.out, ← HOB.out]
        clear HW4 HOB d0 d1 d2 d3
        cases xpr with
        | true =>
          have HP := Lib.hid (H4.out.prom xbal o.slot)
          go_wp2_with fail
          refine HP.out.mono ?_
          clear HP x0 x1 x2 x3 o1 o2
          rintro e w5 ⟨hk5, ⟨hlt, rfl, h5⟩ | ⟨hge, A5, c5, rfl, ho5, h5⟩⟩
          · have HX5 := Lib.hid (HX4.out.kept hk5 (.inr rfl))
            have HB5 := Lib.hid (HB4.out.kept hk5 (.inl rfl))
            have x1 : w5.cell? ⟨ob, 1, none⟩ = some (.int .u64 (xbal : Int)) := HX5.out.cell 1
            have o1 : w5.cell? ⟨q0, 1, none⟩ = some (.int .u64 (o.bal : Int)) := HB5.out.cell 1
            have HI5 : Hid (Inv W q0 g gt o false w5) := ⟨p, xs, h5.sub fun b e => .inl e, HB5.out, HIN.out⟩
            clear hk5 h5 HX4 HB4 H4 HIN hlt
            by_cases hob : (o.bal : Int) ≤ (xbal : Int)
            · go_upto_region 18 with fail
              go_quiet (fail)
              obtain ⟨w6, hw6⟩ : ∃ w6, w6 = w5.drewN nq := ⟨_, rfl⟩
              have HI6 : Hid (Inv W q0 g gt o false w6) := by
                obtain ⟨p', xs', i1, i2, i3⟩ := HI5.out
                have hfd : Fr NoBlk w5 w6 := by rw [hw6]; exact (Fr.refl _ _).drewN _
                exact ⟨p', xs', i1.nofr hfd, i2.fr hfd fun e => e, i3⟩
              rw [← hw6]
              clear hw6 HI5 HX5 HB5 x1 o1 hob
              go_wp2_with fail
              go_roundw
              case rel => exact ⟨k + 1, by push_cast; rfl, by omega, HI6.out⟩
              case measure => simp [intOf]; omega
            · go_upto_region 18 with fail
              go_quiet (fail)
              obtain ⟨w6, hw6⟩ : ∃ w6, w6 = w5.drewN nq := ⟨_, rfl⟩
              have HI6 : Hid (Inv W q0 g gt o false w6) := by
                obtain ⟨p', xs', i1, i2, i3⟩ := HI5.out
                have hfd : Fr NoBlk w5 w6 := by rw [hw6]; exact (Fr.refl _ _).drewN _
                exact ⟨p', xs', i1.nofr hfd, i2.fr hfd fun e => e, i3⟩
              rw [← hw6]
              clear hw6 HI5 HX5 HB5 x1 o1 hob
              go_wp2_with fail
              go_roundw
              case rel => exact ⟨k + 1, by push_cast; rfl, by omega, HI6.out⟩
              case measure => simp [intOf]; omega
          · have HX5 := Lib.hid (HX4.out.kept hk5 (.inr rfl))
            have HB5 := Lib.hid (HB4.out.kept hk5 (.inl rfl))
            have x1 : w5.cell? ⟨ob, 1, none⟩ = some (.int .u64 (xbal : Int)) := HX5.out.cell 1
            have o1 : w5.cell? ⟨q0, 1, none⟩ = some (.int .u64 (o.bal : Int)) := HB5.out.cell 1
            have o2 : w5.cell? ⟨q0, 2, none⟩ = some (.int .i64 o.slot) := HB5.out.cell 2
            have o3 : w5.cell? ⟨q0, 3, none⟩ = some (.string (bstr o.val)) := HB5.out.cell 3
            have HI5 : Hid (Inv W q0 g gt o false w5) := ⟨xbal, xs, h5.sub fun b e => .inl e, HB5.out, fun e => ⟨(HIN.out e).1, Nat.le_trans (HIN.out e).2 hge⟩⟩
            obtain ⟨m, hm⟩ : ∃ m, m = (geL ltI o.slot xs).length := ⟨_, rfl⟩
            rw [← hm]
            clear hm
            clear hk5 h5 HX4 HB4 H4 HIN hge ho5
            by_cases hob : (o.bal : Int) ≤ (xbal : Int)
            · go_upto_region 18 with fail
              go_quiet (fail)
              obtain ⟨w6, hw6⟩ : ∃ w6, w6 = w5.drewN nq := ⟨_, rfl⟩
              have HI6 : Hid (Inv W q0 g gt o false w6) := by
                obtain ⟨p', xs', i1, i2, i3⟩ := HI5.out
                have hfd : Fr NoBlk w5 w6 := by rw [hw6]; exact (Fr.refl _ _).drewN _
                exact ⟨p', xs', i1.nofr hfd, i2.fr hfd fun e => e, i3⟩
              rw [← hw6]
              clear hw6 HI5 HX5 HB5 x1 o1 o2 o3
              go_wp2_with fail
              go_roundw
              case rel => exact ⟨k + 1, by push_cast; rfl, by omega, HI6.out⟩
              case measure => simp [intOf]; omega
            · go_upto_region 18 with fail
              go_quiet (fail)
              obtain ⟨w6, hw6⟩ : ∃ w6, w6 = w5.drewN nq := ⟨_, rfl⟩
              have HI6 : Hid (Inv W q0 g gt o false w6) := by
                obtain ⟨p', xs', i1, i2, i3⟩ := HI5.out
                have hfd : Fr NoBlk w5 w6 := by rw [hw6]; exact (Fr.refl _ _).drewN _
                exact ⟨p', xs', i1.nofr hfd, i2.fr hfd fun e => e, i3⟩
              rw [← hw6]
              clear hw6 HI5 HX5 HB5 x1 o1 o2 o3
              go_wp2_with fail
              go_roundw
              case rel => exact ⟨k + 1, by push_cast; rfl, by omega, HI6.out⟩
              case measure => simp [intOf]; omega
        | false =>
          by_cases hso : xslot = o.slot
          · have HI5 : Hid (Inv W q0 g gt o false w4) := ⟨p, xs, H4.out.sub fun b e => .inl e, HB4.out, HIN.out⟩
            subst hso
            clear HX4 HB4 H4 HIN
            go_wp2_with fail
            go_roundw
            case rel => exact ⟨k + 1, by push_cast; rfl, by omega, HI5.out⟩
            case measure => simp [intOf]; omega
          · have HP : Hid (Calls Try.prog 12 #[.pointer (some ⟨g, 0, none⟩), .agg #[.int .i64 xslot, .int .u64 (xbal : Int), .string (bstr xval)]] w4 fun e w' => (∃ r, e = .returned (.bool r)) ∧ Inv W q0 g gt o false w') := (H4.out.acc ⟨xslot, xbal, xval⟩).mono fun e w' h => by
              obtain ⟨hk5, rfl, h5⟩ := h
              refine ⟨⟨_, rfl⟩, _, _, h5.sub fun b e => .inl e, HB4.out.kept hk5 (.inl rfl), fun e => ?_⟩
              have hi := HIN.out e
              cases ht : takesT p ⟨xslot, xbal, xval⟩ with
              | true =>
                have hb : p ≤ xbal := by
                  unfold takesT at ht
                  by_cases hlt : xbal < p
                  · rw [show (decide ((VaT.mk xslot xbal xval).bal < p)) = true from decide_eq_true hlt] at ht
                    cases ht
                  · omega
                exact ⟨mem_putL.2 (.inr ⟨hi.1, fun e => hso e.symm⟩), Nat.le_trans hi.2 hb⟩
              | false => exact hi
            clear HX4 HB4 H4 HIN
            go_wp2_with fail
            refine HP.out.mono ?_
            clear HP x0 x1 x2 x3 o1 o2 hso
            rintro e w5 ⟨⟨rr, rfl⟩, h5⟩
            have HI5 := Lib.hid h5
            clear h5
            go_wp2_with fail
            go_roundw
            case rel => exact ⟨k + 1, by push_cast; rfl, by omega, HI5.out⟩
            case measure => simp [intOf]; omega
      · have hki : ¬ (k : Int) < (n : Int) := by omega
        have HFE : Hid (Fr NoBlk W wr) := by obtain ⟨p, xs, hv, _⟩ := HI.out; exact hv.fr
        go_wp2_with fail
        go_ret
        exact ⟨rfl, HFE.out⟩

theorem paramsOk : ∀ t ∈ Try.f5.params.toList, Try.prog.readableRec t = true ∧ t < Try.prog.types.size := fun t ht => by
  have h := List.all_eq_true.1 (show (Try.f5.params.toList.all fun t => Try.prog.readableRec t && decide (t < Try.prog.types.size)) = true by kernel_rfl) t ht
  simpa using h

set_option maxRecDepth 100000 in
theorem lifted (os : Os) (started : os.Started) (H : Type) (enc : TypeId × Value → H) :
    ReturnsInHanded {} Try.checked os 5 .any (Rows.acceptTellsSpec.pre6 enc Try.prog Try.f5 Rows.acceptTellsRow.domain false) (Rows.acceptTellsSpec.post enc Try.prog Try.f5 false true false false) := by
  refine returnsInHanded_of_change (C := Try.checked) own started (by kernel_rfl) Try.func5
    (ChangeSpec.witness6 (enc := enc) (C := Try.checked) false ⟨#[], #[.slice none 0 0, .agg #[.bool false, .int .u64 0, .int .i64 0, .string { data := #[] }]], []⟩ 8 (by kernel_rfl) (by kernel_rfl) (by kernel_rfl) (by kernel_rfl)) ?_
  intro W base args ds gs before hval0 hW _ _
  have hval : ∀ (j : Nat) t v, Try.f5.params[j]? = some t → args[j]? = some v → Value.okWide Try.prog W .any base t v := hval0
  have hW' := hW
  obtain ⟨p, q, hA0, hV, rfl, _, _⟩ := hW
  have hA : DataW.TrodAll enc Try.prog W 0 (fun _ => true) true Try.f5.params.toList args.toList ds p := hA0
  rw [Try.params5] at hA hval
  obtain ⟨v0, vs0, d0, ds0, p0, q0, hargs, rfl, rfl, h0, r0⟩ := trodAll_cons hA
  obtain ⟨v1, vs1, d1, ds1, p1, q1, rfl, rfl, rfl, h1, r1⟩ := trodAll_cons r0
  obtain ⟨rfl, rfl, rfl⟩ := trodAll_nil r1
  obtain rfl : args = #[v0, v1] := by cases args; simp_all
  obtain ⟨rfl, rfl⟩ := trodVars_none hV
  obtain ⟨A, c, l, rfl, hr, hx, hn, hm⟩ := open_opns (hval 0 _ v0 rfl rfl) h0
  obtain ⟨o, rfl, ho⟩ := open_opn (hval 1 _ v1 rfl rfl) h1
  have walk := walk W A c l hr hx (Nat.le_trans hn hm) o
  clear hA0 hval0
  refine walk.mono fun e W' ⟨he, hf⟩ => ?_
  subst he
  exact ⟨_, rfl, law_post laidOut paramsOk rfl rfl Try.underlying4 hW' rfl rfl rfl hf⟩

theorem said : Rows.AcceptTellsSaid :=
  OpenClaim.holds_of_wide 5 Try.f5 rfl rfl rfl rfl rfl rfl rfl ⟨rfl, rfl, rfl, rfl, rfl⟩ rfl rfl rfl rfl rfl (by kernel_rfl) Try.func5 (by kernel_rfl)
    (of_decide_eq_true (by kernel_rfl)) (by unfold Func.isWrapper; first | (rw [if_pos (by decide +kernel)]; kernel_rfl) | (rw [if_neg (by decide +kernel)]; exact ⟨rfl, rfl⟩))
    (fun os started H enc _ => lifted os started H enc)
end Go.Proofs.Ytjjdomeffphjjaa.acceptTells
