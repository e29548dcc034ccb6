/- The program's Check: rightKeys, rightKind, Check. No condition but lengths. -/
import Derived.Test.YtakbjjohfcgaoaaRight
import Derived.Shelf.Abstract
namespace Go.Proofs.Ytakbjjohfcgaoaa
open Go.RowKit

theorem enters38 : ∀ args w, (callFunc 72 args).run Try.prog w = .ok (.enter 72 args) w := enters_of Try.func72 (by kernel_rfl) rfl
theorem enters40 : ∀ args w, (callFunc 75 args).run Try.prog w = .ok (.enter 75 args) w := enters_of Try.func75 (by kernel_rfl) rfl
theorem enters41 : ∀ args w, (callFunc 76 args).run Try.prog w = .ok (.enter 76 args) w := enters_of Try.func76 (by kernel_rfl) rfl

set_option maxRecDepth 100000 in
theorem wrong_any (w : World) (t : Tx) (x : Opn) (g : Nat) (ht : TxIn w t) (hb : Bk w g 30 (txa t)) (hv : x.val.2.2.length ≤ maxLen) (hk : x.key.length ≤ maxLen) :
    Calls Try.prog 76 #[opv x, .pointer (some ⟨g, 0, none⟩)] w fun e w' => e = .returned (.bool (!opR t x)) ∧ Fr NoBlk w w' := by
  have HF : Hid (Fr NoBlk w (w.alloc (.cells #[.int .i64 x.kind, st x.key, sl x.val, .int .i64 x.n] 47))) := (Fr.refl _ _).alloc _
  have hb1 := hb.alloc (.cells #[.int .i64 x.kind, st x.key, sl x.val, .int .i64 x.n] 47)
  have HC := Lib.hid (rightOp_any _ t x (ht.nofr HF.out) hv hk)
  have hg : g ≠ w.heap.size := Nat.ne_of_lt hb.lt
  have HB1 := Lib.hid hb1
  have c0 := hb1.cell 0
  have c1 := hb1.cell 1
  have c2 := hb1.cell 2
  have c3 := hb1.cell 3
  have c4 := hb1.cell 4
  clear ht hb hb1 hv hk
  unfold txa at c0 c1 c2 c3 c4
  obtain ⟨kind, key, ⟨va, vc, vb⟩, nn⟩ := x
  unfold txv txa opv at HC
  unfold opv
  unfold st sl at *
  dsimp only at *
  generalize vb.length = vl at *
  generalize opR t ⟨kind, key, ⟨va, vc, vb⟩, nn⟩ = res at *
  generalize t.writes.length = wn at *
  generalize t.reads.length = rn at *
  generalize t.ops.length = on at *
  go_enter Try.func76, Try.ntmps76
  go_wp2_with fail
  refine HC.out.mono ?_
  rintro e w1 ⟨rfl, hf⟩
  have HF1 := Lib.hid (HF.out.trans hf)
  clear hf HC
  go_wp2
  go_ret
  exact ⟨rfl, HF1.out⟩

def keysR (t : Tx) : Bool := decide (t.reads.length + t.writes.length ≤ 8) && riseB t.reads && riseB t.writes && !(t.reads.any (inB t.writes)) && !(t.reads.any noKey) && !(t.writes.any noKey)

set_option maxRecDepth 100000 in
set_option maxHeartbeats 1000000 in
theorem rightKeys_any (w : World) (t : Tx) (ht : TxIn w t) (hrn : t.reads.length ≤ 1000) (hwn : t.writes.length ≤ 1000) :
    Calls Try.prog 43 #[txv t] w fun e w' => e = .returned (.bool (keysR t)) ∧ Fr NoBlk w w' := by
  have HF : Hid (Fr NoBlk w (w.alloc (.cells (txa t) 30))) := (Fr.refl _ _).alloc _
  have HB := Lib.hid (Bk.new w 30 (txa t))
  have K1 := Lib.hid fun W (hf : Fr NoBlk w W) => rise_any W t.ra _ t.rc t.reads rfl (ht.reads.nofr hf) (Nat.le_trans ht.rl.1 ht.rl.2.1)
  have K2 := Lib.hid fun W (hf : Fr NoBlk w W) => rise_any W t.wa _ t.wc t.writes rfl (ht.writes.nofr hf) (Nat.le_trans ht.wl.1 ht.wl.2.1)
  have K3 := Lib.hid fun W (hf : Fr NoBlk w W) (hb : Bk W w.heap.size 30 (txa t)) => containsFunc_any W t.ra _ t.rc t.reads 72 #[.pointer (some ⟨w.heap.size, 0, none⟩)] (inB t.writes) enters38
    (fun x _ W' hf' => both_any W' t w.heap.size x (ht.nofr (hf.trans hf')) (hb.fr hf' (fun h => h))) rfl (ht.reads.nofr hf) (Nat.le_trans ht.rl.1 ht.rl.2.1)
  have K4 := Lib.hid fun W (hf : Fr NoBlk w W) => containsFunc_any W t.ra _ t.rc t.reads 75 #[] noKey enters40
    (fun x hx W' _ => (isNoKey_any W' x (ht.texts.1 x hx)).mono fun _ _ ⟨a, b⟩ => ⟨a, Fr.of_eq b⟩) rfl (ht.reads.nofr hf) (Nat.le_trans ht.rl.1 ht.rl.2.1)
  have K5 := Lib.hid fun W (hf : Fr NoBlk w W) => containsFunc_any W t.wa _ t.wc t.writes 75 #[] noKey enters40
    (fun x hx W' _ => (isNoKey_any W' x (ht.texts.2 x hx)).mono fun _ _ ⟨a, b⟩ => ⟨a, Fr.of_eq b⟩) rfl (ht.writes.nofr hf) (Nat.le_trans ht.wl.1 ht.wl.2.1)
  have HD : Hid (keysR t = (decide (t.reads.length + t.writes.length ≤ 8) && riseB t.reads && riseB t.writes && !(t.reads.any (inB t.writes)) && !(t.reads.any noKey) && !(t.writes.any noKey))) := rfl
  clear ht
  unfold txa at HF HB K3
  unfold txv txa
  generalize keysR t = res at *
  generalize riseB t.reads = b1 at *
  generalize riseB t.writes = b2 at *
  generalize t.reads.any (inB t.writes) = b3 at *
  generalize t.reads.any noKey = b4 at *
  generalize t.writes.any noKey = b5 at *
  generalize t.writes.length = wn at *
  generalize t.reads.length = rn at *
  generalize t.ops.length = on at *
  by_cases hlen : 8 < rn + wn
  · go_enter Try.func43, Try.ntmps43
    go_wp2_with fail
    go_ret
    refine ⟨ret_bool ?_, HF.out⟩
    rw [HD.out, decide_eq_false (by omega)]
    rfl
  have HL : Hid (decide (rn + wn ≤ 8) = true) := decide_eq_true (by omega)
  go_enter Try.func43, Try.ntmps43
  go_wp2_with fail
  refine (K1.out _ HF.out).mono ?_
  rintro e w1 ⟨rfl, hf1⟩
  have HF1 := Lib.hid (HF.out.trans hf1)
  have HB1 := Lib.hid (HB.out.fr hf1 (fun h => h))
  have c1 : w1.cell? ⟨w.heap.size, 1, none⟩ = some (.slice t.ra rn t.rc) := HB1.out.cell 1
  have c2 : w1.cell? ⟨w.heap.size, 2, none⟩ = some (.slice t.wa wn t.wc) := HB1.out.cell 2
  clear hf1
  cases b1
  · go_wp2_with fail
    go_ret
    refine ⟨ret_bool ?_, HF1.out⟩
    rw [HD.out]
    simp
  go_wp2_with fail
  refine (K2.out _ HF1.out).mono ?_
  rintro e w2 ⟨rfl, hf2⟩
  have HF2 := Lib.hid (HF1.out.trans hf2)
  have HB2 := Lib.hid (HB1.out.fr hf2 (fun h => h))
  have d1 : w2.cell? ⟨w.heap.size, 1, none⟩ = some (.slice t.ra rn t.rc) := HB2.out.cell 1
  have d2 : w2.cell? ⟨w.heap.size, 2, none⟩ = some (.slice t.wa wn t.wc) := HB2.out.cell 2
  clear hf2 c1 c2
  cases b2
  · go_wp2_with fail
    go_ret
    refine ⟨ret_bool ?_, HF2.out⟩
    rw [HD.out]
    simp
  go_wp2_with fail
  refine (K3.out _ HF2.out HB2.out).mono ?_
  rintro e w3 ⟨rfl, hf3⟩
  have HF3 := Lib.hid (HF2.out.trans hf3)
  have HB3 := Lib.hid (HB2.out.fr hf3 (fun h => h))
  have c1 : w3.cell? ⟨w.heap.size, 1, none⟩ = some (.slice t.ra rn t.rc) := HB3.out.cell 1
  have c2 : w3.cell? ⟨w.heap.size, 2, none⟩ = some (.slice t.wa wn t.wc) := HB3.out.cell 2
  clear hf3 d1 d2
  cases b3
  rotate_left
  · go_wp2_with fail
    go_ret
    refine ⟨ret_bool ?_, HF3.out⟩
    rw [HD.out]
    simp
  go_wp2_with fail
  refine (K4.out _ HF3.out).mono ?_
  rintro e w4 ⟨rfl, hf4⟩
  have HF4 := Lib.hid (HF3.out.trans hf4)
  have HB4 := Lib.hid (HB3.out.fr hf4 (fun h => h))
  have d2 : w4.cell? ⟨w.heap.size, 2, none⟩ = some (.slice t.wa wn t.wc) := HB4.out.cell 2
  clear hf4 c1 c2
  cases b4
  rotate_left
  · go_wp2_with fail
    go_ret
    refine ⟨ret_bool ?_, HF4.out⟩
    rw [HD.out]
    simp
  go_wp2_with fail
  refine (K5.out _ HF4.out).mono ?_
  rintro e w5 ⟨rfl, hf5⟩
  have HF5 := Lib.hid (HF4.out.trans hf5)
  clear hf5
  go_wp2_with fail
  go_ret
  refine ⟨ret_bool ?_, HF5.out⟩
  rw [HD.out, HL.out]
  simp

def kindR (t : Tx) (r : Int) : Bool :=
  if t.kind = 1 then decide (t.to = 0) && decide (t.ops.length ≤ 16) && !(t.ops.any fun x => !opR t x)
  else if t.kind = 2 then decide (t.reads.length = 0) && decide (t.ops.length = 0) && decide (t.writes.length = 1) && decide (0 ≤ t.to) && decide (t.to < r)
  else false

set_option maxRecDepth 100000 in
set_option maxHeartbeats 1000000 in
theorem rightKind_any (w : World) (t : Tx) (r : Int) (ht : TxIn w t) :
    Calls Try.prog 44 #[txv t, .int .i64 r] w fun e w' => e = .returned (.bool (kindR t r)) ∧ Fr NoBlk w w' := by
  have HF : Hid (Fr NoBlk w (w.alloc (.cells (txa t) 30))) := (Fr.refl _ _).alloc _
  have HB := Lib.hid (Bk.new w 30 (txa t))
  have K1 := Lib.hid (containsFuncO_any _ t.oa _ t.oc t.ops 76 #[.pointer (some ⟨w.heap.size, 0, none⟩)] (fun x => !opR t x) enters41
    (fun x hx W' hf' => wrong_any W' t x w.heap.size (ht.nofr (HF.out.trans hf')) (HB.out.fr hf' (fun h => h)) (by have := ht.vals x hx; omega) (ht.vals x hx).2.2.2) rfl (ht.ops.nofr HF.out) (Nat.le_trans ht.ol.1 ht.ol.2.1))
  have HD : Hid (kindR t r = if t.kind = 1 then decide (t.to = 0) && decide (t.ops.length ≤ 16) && !(t.ops.any fun x => !opR t x)
    else if t.kind = 2 then decide (t.reads.length = 0) && decide (t.ops.length = 0) && decide (t.writes.length = 1) && decide (0 ≤ t.to) && decide (t.to < r)
    else false) := rfl
  have ho : t.ops.length ≤ 9223372036854775807 := Nat.le_trans ht.ol.1 ht.ol.2.1
  clear ht
  unfold txa at HF HB K1
  unfold txv txa
  generalize kindR t r = res at *
  generalize (t.ops.any fun x => !opR t x) = b1 at *
  generalize t.writes.length = wn at *
  generalize t.reads.length = rn at *
  generalize t.ops.length = on at *
  generalize t.kind = kind at *
  generalize t.to = to at *
  have hn0 : ((to : Int) == 0) = decide (to = 0) := by rw [Bool.eq_iff_iff]; simp
  by_cases hk : kind = 1 ∧ to = 0 ∧ on ≤ 16
  · obtain ⟨rfl, rfl, h16⟩ := hk
    go_enter Try.func44, Try.ntmps44
    go_wp2_with fail
    refine K1.out.mono ?_
    rintro e w1 ⟨rfl, hf1⟩
    have HF1 := Lib.hid (HF.out.trans hf1)
    clear hf1
    go_wp2_with fail
    go_ret
    refine ⟨ret_bool ?_, HF1.out⟩
    rw [HD.out]
    simp [h16]
  · clear K1
    by_cases h1 : kind = 1
    · subst h1
      by_cases h2 : to = 0
      · subst h2
        have h16 : 16 < on := by omega
        clear hk
        go_enter Try.func44, Try.ntmps44
        go_wp2_with fail
        go_ret
        refine ⟨ret_bool ?_, HF.out⟩
        rw [HD.out]
        simp
        omega
      · have hb : ((to : Int) == 0) = false := by simpa using h2
        have H2 := Lib.hid h2
        clear hk hn0 h2
        go_enter Try.func44, Try.ntmps44
        go_wp2_with fail
        go_ret
        refine ⟨ret_bool ?_, HF.out⟩
        rw [HD.out]
        simp [H2.out]
    · have hb : ((kind : Int) == 1) = false := by simpa using h1
      have H1 := Lib.hid h1
      clear hk h1
      by_cases h2 : kind = 2
      · subst h2
        go_enter Try.func44, Try.ntmps44
        go_wp2_with fail
        all_goals
          go_ret
          refine ⟨ret_bool ?_, (Fr.refl _ _).alloc _⟩
          rw [HD.out]
          clear HD H1 HF HB hn0
          go_light
          first | (simp_all; done) | (simp_all; omega) | (simp_all; intros; omega)
      · have hb2 : ((kind : Int) == 2) = false := by simpa using h2
        have H2 := Lib.hid h2
        clear h2
        go_enter Try.func44, Try.ntmps44
        go_wp2_with fail
        go_ret
        refine ⟨ret_bool ?_, HF.out⟩
        rw [HD.out]
        simp [H1.out, H2.out]

def rightR (t : Tx) (r : Int) : Bool := decide (1 ≤ r) && decide (r ≤ 3) && keysR t && kindR t r
def codeR (b : Bool) : Int := if b then 0 else 1

set_option maxRecDepth 100000 in
set_option maxHeartbeats 1000000 in
theorem check_any (w : World) (t : Tx) (r : Int) (ht : TxIn w t) (hrn : t.reads.length ≤ 1000) (hwn : t.writes.length ≤ 1000) :
    Calls Try.prog 26 #[txv t, .int .i64 r] w fun e w' => e = .returned (.int .i64 (codeR (rightR t r))) ∧ Fr NoBlk w w' := by
  have HF : Hid (Fr NoBlk w (w.alloc (.cells (txa t) 30))) := (Fr.refl _ _).alloc _
  have HB := Lib.hid (Bk.new w 30 (txa t))
  have K1 := Lib.hid (rightKeys_any _ t (ht.nofr HF.out) hrn hwn)
  have K2 := Lib.hid fun W (hf : Fr NoBlk w W) => rightKind_any W t r (ht.nofr hf)
  have HD : Hid (rightR t r = (decide (1 ≤ r) && decide (r ≤ 3) && keysR t && kindR t r)) := rfl
  clear ht hrn hwn
  unfold txv txa at K1 K2
  unfold txa at HF HB
  unfold txv txa
  generalize rightR t r = res at *
  generalize keysR t = b1 at *
  generalize kindR t r = b2 at *
  generalize t.writes.length = wn at *
  generalize t.reads.length = rn at *
  generalize t.ops.length = on at *
  by_cases h1 : r < 1
  · go_enter Try.func26, Try.ntmps26
    go_wp2_with fail
    go_ret
    refine ⟨?_, HF.out⟩
    rw [HD.out, decide_eq_false (by omega)]
    rfl
  by_cases h3 : 3 < r
  · go_enter Try.func26, Try.ntmps26
    go_wp2_with fail
    go_ret
    refine ⟨?_, HF.out⟩
    rw [HD.out, decide_eq_false (show ¬ r ≤ 3 by omega), Bool.and_false]
    rfl
  have HL : Hid ((decide (1 ≤ r) && decide (r ≤ 3)) = true) := by
    show _ = true
    rw [decide_eq_true (by omega), decide_eq_true (by omega)]
    rfl
  go_enter Try.func26, Try.ntmps26
  go_wp2_with fail
  refine K1.out.mono ?_
  rintro e w1 ⟨rfl, hf1⟩
  have HF1 := Lib.hid (HF.out.trans hf1)
  have HB1 := Lib.hid (HB.out.fr hf1 (fun h => h))
  have c0 : w1.cell? ⟨w.heap.size, 0, none⟩ = some (.int .i64 t.kind) := HB1.out.cell 0
  have c1 : w1.cell? ⟨w.heap.size, 1, none⟩ = some (.slice t.ra rn t.rc) := HB1.out.cell 1
  have c2 : w1.cell? ⟨w.heap.size, 2, none⟩ = some (.slice t.wa wn t.wc) := HB1.out.cell 2
  have c3 : w1.cell? ⟨w.heap.size, 3, none⟩ = some (.slice t.oa on t.oc) := HB1.out.cell 3
  have c4 : w1.cell? ⟨w.heap.size, 4, none⟩ = some (.int .i64 t.to) := HB1.out.cell 4
  clear hf1 K1
  cases b1
  · go_wp2_with fail
    go_ret
    refine ⟨?_, HF1.out⟩
    rw [HD.out, HL.out]
    rfl
  go_wp2_with fail
  refine (K2.out _ HF1.out).mono ?_
  rintro e w2 ⟨rfl, hf2⟩
  have HF2 := Lib.hid (HF1.out.trans hf2)
  clear hf2 K2
  cases b2
  · go_wp2_with fail
    go_ret
    refine ⟨?_, HF2.out⟩
    rw [HD.out, HL.out]
    rfl
  · go_wp2_with fail
    go_ret
    refine ⟨?_, HF2.out⟩
    rw [HD.out, HL.out]
    rfl
end Go.Proofs.Ytakbjjohfcgaoaa
