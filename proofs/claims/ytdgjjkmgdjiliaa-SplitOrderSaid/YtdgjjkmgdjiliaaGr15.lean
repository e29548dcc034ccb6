/- great of layer 15. No condition. -/
import Derived.Test.YtdgjjkmgdjiliaaOpenF
import Derived.Test.YtdgjjkmgdjiliaaGreat
import Derived.Test.YtdgjjkmgdjiliaaFst
namespace Go.Proofs.Ytdgjjkmgdjiliaa
open Go.RowKit Go.Maps

set_option maxRecDepth 100000 in
set_option maxHeartbeats 1000000 in
theorem great15_any (w : World) (A : Option Addr) (c : Nat) (xs : List Od) (hr : Rd w A (odsc xs)) (hx : ∀ o ∈ xs, OdIn w o) (hm : xs.length ≤ 9223372036854775807) :
    Calls Try.prog 35 #[.slice A xs.length c] w fun e w' => (∃ b, e = .returned (.bool b) ∧ Hid (b = false → xs.length ≤ 30 ∧ ∀ o ∈ xs, OSmall o)) ∧ Fr NoBlk w w' := by
  have HR := Lib.hid hr
  have HX := Lib.hid hx
  clear hr hx
  by_cases hl : 30 < xs.length
  · have hl2 : (30 : Int) < (xs.length : Int) := by omega
    clear hl
    go_enter Try.func35, Try.ntmps35
    go_wp2_with fail
    go_ret
    exact ⟨⟨_, rfl, fun h => by cases h⟩, Fr.refl _ _⟩
  have hl2 : (xs.length : Int) ≤ 30 := by omega
  have HLL := Lib.hid (show xs.length ≤ 30 from by omega)
  clear hl
  go_enter Try.func35, Try.ntmps35
  go_wp2_with fail
  go_loopw [10] (fun z wr => ∃ n : Nat, n ≤ xs.length ∧ z = .int .i64 n ∧ Hid (Fr NoBlk w wr) ∧ Hid (∀ (j : Nat) (p : Od), j < n → xs[j]? = some p → OSmall p)) (fun z _ => xs.length - (intOf z).toNat)
  case atStart => exact ⟨0, by omega, rfl, Fr.refl _ _, fun j _ h1 => absurd h1 (by omega)⟩
  case round =>
    obtain ⟨n, hn, rfl, HFR, HMA⟩ := hrel
    by_cases hlt : n < xs.length
    · obtain ⟨o, ho⟩ : ∃ o, xs[n]? = some o := ⟨_, List.getElem?_eq_getElem hlt⟩
      have ho1 := HX.out o (List.mem_of_getElem? ho)
      obtain ⟨Bx, O, hA, hc⟩ := (HR.out.nofr HFR.out).ord ho
      have c0 : wr.cell? ⟨Bx, O + n * 10, none⟩ = some (.int .i64 o.node) := hc 0 _ rfl
      have c1 : wr.cell? ⟨Bx, O + n * 10 + 1, none⟩ = some (.int .u64 (o.epoch : Int)) := hc 1 _ rfl
      have c2 : wr.cell? ⟨Bx, O + n * 10 + 2, none⟩ = some (.int .u64 (o.seq : Int)) := hc 2 _ rfl
      have c3 : wr.cell? ⟨Bx, O + n * 10 + 3, none⟩ = some (.int .i64 o.tr) := hc 3 _ rfl
      have c4 : wr.cell? ⟨Bx, O + n * 10 + 4, none⟩ = some (.int .i64 o.t.kind) := hc 4 _ rfl
      have c5 : wr.cell? ⟨Bx, O + n * 10 + 5, none⟩ = some (.slice o.t.ra o.t.reads.length o.t.rc) := hc 5 _ rfl
      have c6 : wr.cell? ⟨Bx, O + n * 10 + 6, none⟩ = some (.slice o.t.wa o.t.writes.length o.t.wc) := hc 6 _ rfl
      have c7 : wr.cell? ⟨Bx, O + n * 10 + 7, none⟩ = some (.slice o.t.oa o.t.ops.length o.t.oc) := hc 7 _ rfl
      have c8 : wr.cell? ⟨Bx, O + n * 10 + 8, none⟩ = some (.int .i64 o.t.to) := hc 8 _ rfl
      have c9 : wr.cell? ⟨Bx, O + n * 10 + 9, none⟩ = some (.slice o.ma o.marks.length o.mc) := hc 9 _ rfl
      have i1 : (0 : Int) ≤ (n : Int) := by omega
      have i2 : (n : Int) < (xs.length : Int) := by omega
      obtain ⟨q, hq⟩ : ∃ q, q = wr.heap.size := ⟨_, rfl⟩
      obtain ⟨w1, hw1⟩ : ∃ w1, w1 = wr.alloc (.cells (oda o) 38) := ⟨_, rfl⟩
      have HFa : Hid (Fr NoBlk wr w1) := by show Fr _ _ _; rw [hw1]; exact (Fr.refl _ _).alloc _
      have HBa : Hid (Bk w1 q 38 (oda o)) := by show Bk _ _ _ _; rw [hw1, hq]; exact Bk.new _ _ _
      have HG := Lib.hid (ogreat_any w1 o ((ho1.nofr HFR.out).nofr HFa.out))
      have HW1 := Lib.hid hw1
      have HO := Lib.hid ho
      have HQ := Lib.hid hq
      have d0 : w1.cell? ⟨q, 0, none⟩ = some (.int .i64 o.node) := HBa.out.cell 0
      have d1 : w1.cell? ⟨q, 1, none⟩ = some (.int .u64 (o.epoch : Int)) := HBa.out.cell 1
      have d2 : w1.cell? ⟨q, 2, none⟩ = some (.int .u64 (o.seq : Int)) := HBa.out.cell 2
      have d3 : w1.cell? ⟨q, 3, none⟩ = some (.int .i64 o.tr) := HBa.out.cell 3
      have d4 : w1.cell? ⟨q, 4, none⟩ = some (.int .i64 o.t.kind) := HBa.out.cell 4
      have d5 : w1.cell? ⟨q, 5, none⟩ = some (.slice o.t.ra o.t.reads.length o.t.rc) := HBa.out.cell 5
      have d6 : w1.cell? ⟨q, 6, none⟩ = some (.slice o.t.wa o.t.writes.length o.t.wc) := HBa.out.cell 6
      have d7 : w1.cell? ⟨q, 7, none⟩ = some (.slice o.t.oa o.t.ops.length o.t.oc) := HBa.out.cell 7
      have d8 : w1.cell? ⟨q, 8, none⟩ = some (.int .i64 o.t.to) := HBa.out.cell 8
      have d9 : w1.cell? ⟨q, 9, none⟩ = some (.slice o.ma o.marks.length o.mc) := HBa.out.cell 9
      subst hA
      clear hc ho ho1 hw1 hq
      unfold odv oda at HG
      unfold oda at HW1
      go_wp2_with fail
      rw [← HW1.out, ← HQ.out]
      clear HW1 c0 c1 c2 c3 c4 c5 c6 c7 c8 c9
      go_wp2_with fail
      refine HG.out.mono ?_
      clear HG d0 d1 d2 d3 d4 d5 d6 d7 d8 d9
      rintro e w2 ⟨⟨bb, rfl, hsm⟩, hf2⟩
      have HF2 := Lib.hid (HFR.out.trans (HFa.out.trans hf2))
      have HSM := Lib.hid hsm
      clear hf2 hsm HFa HBa HFR
      cases bb with
      | true =>
        go_wp2_with fail
        go_ret
        exact ⟨⟨_, rfl, fun h => by cases h⟩, HF2.out⟩
      | false =>
        have HMN : Hid (∀ (j : Nat) (p : Od), j < n + 1 → xs[j]? = some p → OSmall p) := by
          intro j p hj hp
          by_cases e : j = n
          · subst e
            rw [HO.out] at hp
            injection hp with hp
            subst hp
            exact HSM.out rfl
          · exact HMA.out j p (by omega) hp
        go_wp2_with fail
        go_roundw
        case rel => exact ⟨n + 1, by omega, by go_num, HF2, HMN⟩
        case measure => simp [intOf]; omega
    · have i3 : (xs.length : Int) ≤ (n : Int) := by omega
      have HE : Hid (∀ o ∈ xs, OSmall o) := fun i hi => by
        obtain ⟨j, hj⟩ := List.getElem?_of_mem hi
        exact HMA.out j i (by have := (List.getElem?_eq_some_iff.1 hj).1; omega) hj
      go_wp2_with fail
      go_ret
      exact ⟨⟨_, rfl, fun _ => ⟨HLL.out, HE.out⟩⟩, HFR.out⟩
end Go.Proofs.Ytdgjjkmgdjiliaa
