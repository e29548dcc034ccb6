/- WireReads is true: any bytes are read as a message, or refused, exactly; what is read is written as the same bytes. No condition but what the card ties. -/
import Derived.Test.YtdpjmkgjjhcgeaaDoorOpen
import Derived.Test.YtdpjmkgjjhcgeaaDoorDRd
import Derived.Test.YtdpjmkgjjhcgeaaDoorRead18
import Derived.Test.YtdpjmkgjjhcgeaaDoorSpk18
namespace Go.Proofs.YtdpjmkgjjhcgeaaDoor.wireReads
open Go.ChangeShapes Go.WideShapes Go.ChangeAt Go.RowKit

theorem _root_.Go.Proofs.YtdpjmkgjjhcgeaaDoor.OfPost.inn {w w' : World} {m q : Mg} (h : OfPost w m w' q) {w0 : World} (hm : MgIn w0 m) : MgIn w' q :=
  ⟨Rd.of_ownN h.own, own_lens h.own, ⟨by rw [h.like.value]; exact hm.vals.1, by rw [h.like.votes]; exact hm.vals.2⟩, ⟨by rw [h.like.ballot]; exact hm.nums.1, by rw [h.like.votes]; exact hm.nums.2⟩,
    by rw [h.like.kind]; exact hm.ints.1, by rw [h.like.frm]; exact hm.ints.2.1, by rw [h.like.dst]; exact hm.ints.2.2.1, by rw [h.like.grp]; exact hm.ints.2.2.2.1, by rw [h.like.slot]; exact hm.ints.2.2.2.2.1, by rw [h.like.votes]; exact hm.ints.2.2.2.2.2⟩
theorem _root_.Go.Proofs.YtdpjmkgjjhcgeaaDoor.MLike.trans {a b c : Mg} (h : MLike a b) (k : MLike b c) : MLike a c := ⟨h.kind.trans k.kind, h.frm.trans k.frm, h.dst.trans k.dst, h.grp.trans k.grp, h.slot.trans k.slot, h.ballot.trans k.ballot, h.value.trans k.value, h.votes.trans k.votes⟩
def m0 : Mg := ⟨0, 0, 0, 0, 0, 0, [], none, 0, []⟩
theorem m0_in (w : World) : MgIn w m0 := by
  refine ⟨Rd.none_ _ _, ⟨Nat.le_refl _, Nat.zero_le _, fun _ => rfl⟩, ⟨Nat.zero_le _, fun _ h => by cases h⟩, ⟨by decide, fun _ h => by cases h⟩, ?_, ?_, ?_, ?_, ?_, fun _ h => by cases h⟩
  all_goals (unfold nB m0; dsimp only; omega)
theorem zRef_m0 : zRef = mga m0 := rfl

set_option maxRecDepth 100000 in
set_option maxHeartbeats 16000000 in
theorem walk (w : World) (ht : Tab w) (A : Option Addr) (c : Nat) (raw : Bs) (hr : Rd w A (cb raw)) (hA : A = none → c = 0) (hle : raw.length ≤ c) (hmx : c ≤ maxLen) : Calls Tryd.prog 5 #[.slice A raw.length c] w fun e w' => e = .returned (.bool true) ∧ Fr NoBlk w w' := by
  obtain ⟨i0, hi, hz0, hz1, hz2⟩ := info_parts byteInfo
  have HT := Lib.hid ht
  have HRAW := Lib.hid hr
  have HA := Lib.hid hA
  have HLE := Lib.hid hle
  have hml : raw.length ≤ 9223372036854775807 := Nat.le_trans hle hmx
  clear ht hr hA hle hmx
  go_enter Tryd.func5, Tryd.ntmps5
  go_wp2_with fail
  refine (speaks_any w HT.out).mono ?_
  rintro e w1 ⟨rfl, hf1⟩
  have HF1 := Lib.hid hf1
  clear hf1
  by_cases hbig : 20000 < raw.length
  · have hbig' : (20000 : Int) < (raw.length : Int) := by omega
    go_wp2_with fail
    go_ret
    exact ⟨rfl, HF1.out⟩
  have hbig' : ¬ (20000 : Int) < (raw.length : Int) := by omega
  have HRL : Hid (raw.length ≤ 20000) := by show _ ≤ _; omega
  have HNEW : Hid ((w1.alloc (.cells #[] 5)).ownsRow w1.heap.size 5 1 (.slice (some ⟨w1.heap.size, 0, none⟩) 0 0) 0 []) := own_new rfl (Nat.le_refl _)
  have HSZ : Hid (w1.heap.size ≤ (w1.alloc (.cells #[] 5)).heap.size) := by show _ ≤ _; simp
  have HRA1 := Lib.hid ((HRAW.out.nofr HF1.out).alloc (.cells #[] 5))
  clear hbig
  go_wp2_with (at_builtin; refine wpList_app rfl _ _ 28 rfl w1.heap.size 5 i0 (.int .u8 0) 1 Tryd.underlying28 hi hz0 hz1 hz2 rfl _ 0 [] rfl HNEW.out A c raw.length (cb raw) rfl (cb_length raw) HRA1.out (cb_one _) HA.out ?q3 ?q4 HSZ.out ?_)
  case q3 => have := HRL.out; unfold maxLen; omega
  case q4 => have := HRL.out; omega
  intro v3 w3 ho3 hg3 _ _
  have ho3' : w3.ownsRow w1.heap.size 5 1 v3 raw.length (cb raw) := by simpa only [Nat.zero_add, List.nil_append] using ho3
  clear ho3
  obtain ⟨A3, c3, rfl, _, hA3⟩ := own_form ho3'
  have HF3 : Hid (Fr NoBlk w w3) := (HF1.out.alloc _).grown hg3 (fun k hk hlt => by have := (own_blk HNEW.out hk).1; have := HF1.out.size; omega)
  have HR3 := Lib.hid (Rd.of_own ho3')
  have HA3 := Lib.hid hA3
  clear ho3' hg3 HNEW HSZ HRA1 hA3 hbig'
  have HK := Lib.hid (read_any w3 (HT.out.fr HF3.out fun h => h) A3 raw.length c3 raw rfl HR3.out HA3.out (by have := HRL.out; omega))
  go_wp2_with fail
  refine HK.out.mono ?_
  clear HK
  rintro e w4 ⟨q1, hq1, hof, hf4, rfl⟩
  have HF4 := Lib.hid (HF3.out.trans hf4)
  have HR4 := Lib.hid (HR3.out.nofr hf4)
  have HQ1 := Lib.hid hq1
  have HOF := Lib.hid hof
  have HFEWQ := Lib.hid (few_of hof (by have := HRL.out; omega))
  clear hq1 hof hf4 HF3 HR3
  obtain ⟨P, hP⟩ : ∃ P, (rightM q1 && (msgB q1 == raw)) = P := ⟨_, rfl⟩
  rw [hP]
  have HP := Lib.hid hP
  clear hP
  have HD := Lib.hid fun W (hf : Fr NoBlk w4 W) => dread_any W A raw.length c raw rfl ((HRAW.out.nofr HF4.out).nofr hf) HA.out HLE.out HRL.out
  have HPC : Hid (∀ (mm : Mg) (C : Bool), (C = true → rightM mm = true ∧ NumsOk mm ∧ raw = msgB mm) → (∀ q, rightM q = true → NumsOk q → raw = msgB q → C = true) → C = P ∧ (C = true → MLike q1 mm)) := fun mm C h1 h2 => by
    have hof := HOF.out
    have hlk : C = true → MLike q1 mm := fun hC => by
      obtain ⟨r1, r2, r3⟩ := h1 hC
      refine (read_more (more := []) (rightM_wmg r1) r1 r2 (q := q1) ?_).1
      rw [List.append_nil, ← r3]
      exact hof
    refine ⟨?_, hlk⟩
    rw [Bool.eq_iff_iff, ← HP.out]
    constructor
    · intro hC
      obtain ⟨r1, r2, r3⟩ := h1 hC
      have hl := hlk hC
      rw [hl.right, hl.msg, ← r3, r1]
      simp
    · intro hp
      simp only [Bool.and_eq_true, beq_iff_eq] at hp
      exact h2 q1 hp.1 HQ1.out.nums hp.2.symm
  cases P
  · rw [if_neg (by decide : ¬ false = true), zRef_m0]
    obtain ⟨x, hx⟩ : ∃ x, x = m0 := ⟨_, rfl⟩
    rw [← hx]
    obtain ⟨w5, hw5⟩ : ∃ w5, w5 = w4.alloc (.cells (mga x) 26) := ⟨_, rfl⟩
    obtain ⟨g4, hg4⟩ : ∃ g4, g4 = w4.heap.size := ⟨_, rfl⟩
    have hf5 : Fr NoBlk w4 w5 := by rw [hw5]; exact (Fr.refl _ _).alloc _
    have HB5 : Hid (Bk w5 g4 26 (mga x)) := by
      show Bk _ _ _ _
      rw [hw5]
      exact Bk.new' _ _ _ hg4
    have HIX0 : Hid (∀ W, MgIn W x) := fun W => by rw [hx]; exact m0_in W
    have HXF : Hid (x.votes.length ≤ 1000000) := by show _ ≤ _; rw [hx]; exact Nat.zero_le _
    have HX0 := Lib.hid hx
    have HF5 := Lib.hid (HF4.out.trans hf5)
    have HR5 := Lib.hid (HR4.out.nofr hf5)
    have HDD := Lib.hid (HD.out w5 hf5)
    unfold DReadPost at HDD
    unfold mga at hw5
    unfold mga
    clear hf5 hx HD HF4 HR4
    go_upto_region 7 with fail
    rw [← hw5, ← hg4]
    clear hw5 hg4
    go_wp2_with fail
    refine HDD.out.mono ?_
    clear HDD
    rintro e w6 ⟨mm, C, _, hf6, rfl, h1, h2⟩
    obtain ⟨hC, _⟩ := HPC.out mm C h1 h2
    subst hC
    rw [if_neg (by decide : ¬ false = true), zRef_m0]
    obtain ⟨y, hy⟩ : ∃ y, y = m0 := ⟨_, rfl⟩
    rw [← hy]
    have HLK : Hid (MLike x y) := by show MLike _ _; rw [HX0.out, hy]; exact MLike.refl _
    have HIY6 : Hid (MgIn w6 y) := by show MgIn _ _; rw [hy]; exact m0_in _
    have HIX6 := Lib.hid (HIX0.out w6)
    have HF6 := Lib.hid (HF5.out.trans hf6)
    have HB6 := Lib.hid (HB5.out.fr hf6 (fun h => h))
    have HR6 := Lib.hid (HR5.out.nofr hf6)
    clear hf6 h1 h2 hy HF5 HB5 HR5
    obtain ⟨w7, hw7⟩ : ∃ w7, w7 = w6.alloc (.cells (mga y) 36) := ⟨_, rfl⟩
    have hf7 : Fr NoBlk w6 w7 := by rw [hw7]; exact (Fr.refl _ _).alloc _
    obtain ⟨g6, hg6⟩ : ∃ g6, g6 = w6.heap.size := ⟨_, rfl⟩
    have HF7 := Lib.hid (HF6.out.trans hf7)
    have HBX := Lib.hid (HB6.out.fr hf7 (fun h => h))
    have HIX := Lib.hid (HIX6.out.nofr hf7)
    have HIY := Lib.hid (HIY6.out.nofr hf7)
    have HR7 := Lib.hid (HR6.out.nofr hf7)
    have HRW := Lib.hid (HRAW.out.nofr HF7.out)
    have HBY : Hid (Bk w7 g6 36 (mga y)) := by
      show Bk _ _ _ _
      rw [hw7]
      exact Bk.new' _ _ _ hg6
    have HSK : Hid (∀ W, Fr NoBlk w7 W → W.cell? ⟨g4, 0, none⟩ = some (.int .i64 x.kind) ∧ W.cell? ⟨g4, 1, none⟩ = some (.int .i64 x.frm) ∧ W.cell? ⟨g4, 2, none⟩ = some (.int .i64 x.dst) ∧ W.cell? ⟨g4, 3, none⟩ = some (.int .i64 x.grp) ∧ W.cell? ⟨g4, 4, none⟩ = some (.int .i64 x.slot) ∧ W.cell? ⟨g4, 5, none⟩ = some (.int .u64 (x.ballot : Int)) ∧ W.cell? ⟨g4, 6, none⟩ = some (.string (bstr x.value)) ∧ W.cell? ⟨g4, 7, none⟩ = some (.slice x.va x.votes.length x.vc) ∧ W.cell? ⟨g6, 0, none⟩ = some (.int .i64 y.kind) ∧ W.cell? ⟨g6, 1, none⟩ = some (.int .i64 y.frm) ∧ W.cell? ⟨g6, 2, none⟩ = some (.int .i64 y.dst) ∧ W.cell? ⟨g6, 3, none⟩ = some (.int .i64 y.grp) ∧ W.cell? ⟨g6, 4, none⟩ = some (.int .i64 y.slot) ∧ W.cell? ⟨g6, 5, none⟩ = some (.int .u64 (y.ballot : Int)) ∧ W.cell? ⟨g6, 6, none⟩ = some (.string (bstr y.value)) ∧ W.cell? ⟨g6, 7, none⟩ = some (.slice y.va y.votes.length y.vc) ∧ (convert 28 9 (.slice A3 raw.length c3)).run Tryd.prog W = .ok (.string (bstr raw)) W ∧ (convert 28 9 (.slice A raw.length c)).run Tryd.prog W = .ok (.string (bstr raw)) W) := fun W hf => by
      obtain ⟨c0, c1, c2, c3', c4, c5, c6, c7⟩ := (HBX.out.fr hf (fun h => h)).msg
      obtain ⟨d0, d1, d2, d3, d4, d5, d6, d7⟩ := (HBY.out.fr hf (fun h => h)).msg
      exact ⟨c0, c1, c2, c3', c4, c5, c6, c7, d0, d1, d2, d3, d4, d5, d6, d7, strBs W A3 _ c3 raw rfl (HR7.out.nofr hf), strBs W A _ c raw rfl (HRW.out.nofr hf)⟩
    have HOA := Lib.hid fun W (hf : Fr NoBlk w7 W) => of_any W x (HIX.out.nofr hf) HXF.out
    unfold mgv mga at HOA
    unfold mga at hw7
    try unfold mgv
    unfold mga
    clear hf7
    go_upto_region 8 with fail
    rw [← hw7, ← hg6]
    clear hw7 hg6
    refine wp_region_held_drew (S := fun w' => Fr NoBlk w7 w') (by kernel_rfl) ((Fr.refl NoBlk w7).drew) (fun hHeld => ?_)
    refine wpAnyH_take (i := 0) (oi := ⟨some 28, _, _, _, _, _⟩) (v := ?_) rfl (by kernel_rfl) (by kernel_rfl) (by kernel_rfl) (fun _ _ _ h => h) (Or.inl ⟨by rfl, ?_⟩) (by assumption) ?_
    rotate_left 1
    · (intro w hSw; (try dsimp only at hSw); obtain ⟨sa0, sa1, sa2, sa3, sa4, sa5, sa6, sa7, sb0, sb1, sb2, sb3, sb4, sb5, sb6, sb7, sx, sy⟩ := HSK.out _ hSw; go_simp) <;> (with_reducible rfl)
    try simp only [Act.put, List.setIfInBounds_toArray, List.set_cons_zero, List.set_cons_succ]
    refine wpAnyH_take (i := 1) (oi := ⟨some 29, _, _, _, _, _⟩) (v := ?_) rfl (by kernel_rfl) (by kernel_rfl) (by kernel_rfl) (fun _ _ _ h => h) (Or.inl ⟨by rfl, ?_⟩) (by assumption) ?_
    rotate_left 1
    · (intro w hSw; (try dsimp only at hSw); obtain ⟨sa0, sa1, sa2, sa3, sa4, sa5, sa6, sa7, sb0, sb1, sb2, sb3, sb4, sb5, sb6, sb7, sx, sy⟩ := HSK.out _ hSw; go_simp) <;> (with_reducible rfl)
    try simp only [Act.put, List.setIfInBounds_toArray, List.set_cons_zero, List.set_cons_succ]
    refine wpAnyH_take (i := 2) (oi := ⟨some 30, _, _, _, _, _⟩) (v := ?_) rfl (by kernel_rfl) (by kernel_rfl) (by kernel_rfl) (fun _ _ _ h => h) (Or.inl ⟨by rfl, ?_⟩) (by assumption) ?_
    rotate_left 1
    · (intro w hSw; (try dsimp only at hSw); obtain ⟨sa0, sa1, sa2, sa3, sa4, sa5, sa6, sa7, sb0, sb1, sb2, sb3, sb4, sb5, sb6, sb7, sx, sy⟩ := HSK.out _ hSw; go_simp) <;> (with_reducible rfl)
    try simp only [Act.put, List.setIfInBounds_toArray, List.set_cons_zero, List.set_cons_succ]
    refine wpAnyH_take (i := 3) (oi := ⟨some 31, _, _, _, _, _⟩) (v := ?_) rfl (by kernel_rfl) (by kernel_rfl) (by kernel_rfl) (fun _ _ _ h => h) (Or.inl ⟨by rfl, ?_⟩) (by assumption) ?_
    rotate_left 1
    · (intro w hSw; (try dsimp only at hSw); obtain ⟨sa0, sa1, sa2, sa3, sa4, sa5, sa6, sa7, sb0, sb1, sb2, sb3, sb4, sb5, sb6, sb7, sx, sy⟩ := HSK.out _ hSw; go_simp) <;> (with_reducible rfl)
    try simp only [Act.put, List.setIfInBounds_toArray, List.set_cons_zero, List.set_cons_succ]
    refine wpAnyH_take (i := 4) (oi := ⟨some 32, _, _, _, _, _⟩) (v := ?_) rfl (by kernel_rfl) (by kernel_rfl) (by kernel_rfl) (fun _ _ _ h => h) (Or.inl ⟨by rfl, ?_⟩) (by assumption) ?_
    rotate_left 1
    · (intro w hSw; (try dsimp only at hSw); obtain ⟨sa0, sa1, sa2, sa3, sa4, sa5, sa6, sa7, sb0, sb1, sb2, sb3, sb4, sb5, sb6, sb7, sx, sy⟩ := HSK.out _ hSw; go_simp) <;> (with_reducible rfl)
    try simp only [Act.put, List.setIfInBounds_toArray, List.set_cons_zero, List.set_cons_succ]
    refine wpAnyH_take (i := 6) (oi := ⟨some 34, _, _, _, _, _⟩) (v := ?_) rfl (by kernel_rfl) (by kernel_rfl) (by kernel_rfl) (fun _ _ _ h => h) (Or.inl ⟨by rfl, ?_⟩) (by assumption) ?_
    rotate_left 1
    · (intro w hSw; (try dsimp only at hSw); obtain ⟨sa0, sa1, sa2, sa3, sa4, sa5, sa6, sa7, sb0, sb1, sb2, sb3, sb4, sb5, sb6, sb7, sx, sy⟩ := HSK.out _ hSw; go_simp) <;> (with_reducible rfl)
    try simp only [Act.put, List.setIfInBounds_toArray, List.set_cons_zero, List.set_cons_succ]
    refine wpAnyH_ready (rs := [5]) (by kernel_rfl) (by simp) ?_
    refine AllReadyH.cons (o := ⟨some 33, _, _, _, _, _⟩) rfl (fun K hK => ?_) AllReadyH.nil
    go_simp
    go_at_call 12
    refine (HOA.out _ ((Fr.refl NoBlk w7).drew)).mono ?_
    rintro e wa ⟨qa, rfl, hqa⟩
    have HFA : Hid (Fr NoBlk w7 wa) := ((Fr.refl NoBlk w7).drew).trans hqa.fr
    have HSM := Lib.hid (same_any wa qa y (hqa.inn HIX.out) (HIY.out.nofr HFA.out))
    have HQA := Lib.hid hqa.like
    unfold mgv mga at HSM
    clear hqa
    clear hHeld
    refine hK.out _ _ ?_ (fun hHeld => ?_)
    · exact HFA.out
    clear hK K
    try simp only [Act.put, List.setIfInBounds_toArray, List.set_cons_zero, List.set_cons_succ]
    refine wpAnyH_ready (rs := [7]) (by kernel_rfl) (by simp) ?_
    refine AllReadyH.cons (o := ⟨some 35, _, _, _, _, _⟩) rfl (fun K hK => ?_) AllReadyH.nil
    go_simp
    go_at_call 15
    refine (HSM.out).mono ?_
    rintro e wc ⟨⟨dd, rfl, hdd⟩, hfc⟩
    have HFC : Hid (Fr NoBlk w7 wc) := HFA.out.trans hfc
    have hcd : dd = true := hdd.2 (HQA.out.trans HLK.out)
    subst hcd
    clear hdd hfc HSM
    clear hHeld
    refine hK.out _ _ ?_ (fun hHeld => ?_)
    · exact HFC.out
    clear hK K
    try simp only [Act.put, List.setIfInBounds_toArray, List.set_cons_zero, List.set_cons_succ]
    refine wpAnyH_take (i := 8) (oi := ⟨some 36, _, _, _, _, _⟩) (v := ?_) rfl (by kernel_rfl) (by kernel_rfl) (by kernel_rfl) (fun _ _ _ h => h) (Or.inl ⟨by rfl, ?_⟩) (by assumption) ?_
    rotate_left 1
    · (intro w hSw; (try dsimp only at hSw); obtain ⟨sa0, sa1, sa2, sa3, sa4, sa5, sa6, sa7, sb0, sb1, sb2, sb3, sb4, sb5, sb6, sb7, sx, sy⟩ := HSK.out _ hSw; go_simp) <;> (with_reducible rfl)
    try simp only [Act.put, List.setIfInBounds_toArray, List.set_cons_zero, List.set_cons_succ]
    refine wpAnyH_take (i := 9) (oi := ⟨some 37, _, _, _, _, _⟩) (v := ?_) rfl (by kernel_rfl) (by kernel_rfl) (by kernel_rfl) (fun _ _ _ h => h) (Or.inl ⟨by rfl, ?_⟩) (by assumption) ?_
    rotate_left 1
    · (intro w hSw; (try dsimp only at hSw); obtain ⟨sa0, sa1, sa2, sa3, sa4, sa5, sa6, sa7, sb0, sb1, sb2, sb3, sb4, sb5, sb6, sb7, sx, sy⟩ := HSK.out _ hSw; go_simp) <;> (with_reducible rfl)
    try simp only [Act.put, List.setIfInBounds_toArray, List.set_cons_zero, List.set_cons_succ]
    refine wpAnyH_take (i := 10) (oi := ⟨some 38, _, _, _, _, _⟩) (v := ?_) rfl (by kernel_rfl) (by kernel_rfl) (by kernel_rfl) (fun _ _ _ h => h) (Or.inl ⟨by rfl, ?_⟩) (by assumption) ?_
    rotate_left 1
    · (intro w hSw; (try dsimp only at hSw); obtain ⟨sa0, sa1, sa2, sa3, sa4, sa5, sa6, sa7, sb0, sb1, sb2, sb3, sb4, sb5, sb6, sb7, sx, sy⟩ := HSK.out _ hSw; go_simp) <;> (with_reducible rfl)
    try simp only [Act.put, List.setIfInBounds_toArray, List.set_cons_zero, List.set_cons_succ]
    refine wpAnyH_take (i := 11) (oi := ⟨some 39, _, _, _, _, _⟩) (v := ?_) rfl (by kernel_rfl) (by kernel_rfl) (by kernel_rfl) (fun _ _ _ h => h) (Or.inl ⟨by rfl, ?_⟩) (by assumption) ?_
    rotate_left 1
    · (intro w hSw; (try dsimp only at hSw); obtain ⟨sa0, sa1, sa2, sa3, sa4, sa5, sa6, sa7, sb0, sb1, sb2, sb3, sb4, sb5, sb6, sb7, sx, sy⟩ := HSK.out _ hSw; go_simp) <;> (with_reducible rfl)
    try simp only [Act.put, List.setIfInBounds_toArray, List.set_cons_zero, List.set_cons_succ]
    refine wpAnyH_take (i := 12) (oi := ⟨some 40, _, _, _, _, _⟩) (v := ?_) rfl (by kernel_rfl) (by kernel_rfl) (by kernel_rfl) (fun _ _ _ h => h) (Or.inl ⟨by rfl, ?_⟩) (by assumption) ?_
    rotate_left 1
    · (intro w hSw; (try dsimp only at hSw); obtain ⟨sa0, sa1, sa2, sa3, sa4, sa5, sa6, sa7, sb0, sb1, sb2, sb3, sb4, sb5, sb6, sb7, sx, sy⟩ := HSK.out _ hSw; go_simp) <;> (with_reducible rfl)
    try simp only [Act.put, List.setIfInBounds_toArray, List.set_cons_zero, List.set_cons_succ]
    refine wpAnyH_take (i := 13) (oi := ⟨some 41, _, _, _, _, _⟩) (v := ?_) rfl (by kernel_rfl) (by kernel_rfl) (by kernel_rfl) (fun _ _ _ h => h) (Or.inl ⟨by rfl, ?_⟩) (by assumption) ?_
    rotate_left 1
    · (intro w hSw; (try dsimp only at hSw); obtain ⟨sa0, sa1, sa2, sa3, sa4, sa5, sa6, sa7, sb0, sb1, sb2, sb3, sb4, sb5, sb6, sb7, sx, sy⟩ := HSK.out _ hSw; go_simp) <;> (with_reducible rfl)
    try simp only [Act.put, List.setIfInBounds_toArray, List.set_cons_zero, List.set_cons_succ]
    refine wpAnyH_take (i := 14) (oi := ⟨some 42, _, _, _, _, _⟩) (v := ?_) rfl (by kernel_rfl) (by kernel_rfl) (by kernel_rfl) (fun _ _ _ h => h) (Or.inl ⟨by rfl, ?_⟩) (by assumption) ?_
    rotate_left 1
    · (intro w hSw; (try dsimp only at hSw); obtain ⟨sa0, sa1, sa2, sa3, sa4, sa5, sa6, sa7, sb0, sb1, sb2, sb3, sb4, sb5, sb6, sb7, sx, sy⟩ := HSK.out _ hSw; go_simp) <;> (with_reducible rfl)
    try simp only [Act.put, List.setIfInBounds_toArray, List.set_cons_zero, List.set_cons_succ]
    refine wpAnyH_take (i := 15) (oi := ⟨some 43, _, _, _, _, _⟩) (v := ?_) rfl (by kernel_rfl) (by kernel_rfl) (by kernel_rfl) (fun _ _ _ h => h) (Or.inl ⟨by rfl, ?_⟩) (by assumption) ?_
    rotate_left 1
    · (intro w hSw; (try dsimp only at hSw); obtain ⟨sa0, sa1, sa2, sa3, sa4, sa5, sa6, sa7, sb0, sb1, sb2, sb3, sb4, sb5, sb6, sb7, sx, sy⟩ := HSK.out _ hSw; go_simp) <;> (with_reducible rfl)
    try simp only [Act.put, List.setIfInBounds_toArray, List.set_cons_zero, List.set_cons_succ]
    refine wpAnyH_take (i := 16) (oi := ⟨some 44, _, _, _, _, _⟩) (v := ?_) rfl (by kernel_rfl) (by kernel_rfl) (by kernel_rfl) (fun _ _ _ h => h) (Or.inl ⟨by rfl, ?_⟩) (by assumption) ?_
    rotate_left 1
    · (intro w hSw; (try dsimp only at hSw); obtain ⟨sa0, sa1, sa2, sa3, sa4, sa5, sa6, sa7, sb0, sb1, sb2, sb3, sb4, sb5, sb6, sb7, sx, sy⟩ := HSK.out _ hSw; go_simp) <;> (with_reducible rfl)
    try simp only [Act.put, List.setIfInBounds_toArray, List.set_cons_zero, List.set_cons_succ]
    refine wpAnyH_done (by kernel_rfl) ?_ _
    clear hHeld
    have HFZ := Lib.hid (HF7.out.trans HFC.out)
    go_wp2_with fail
    go_ret
    exact ⟨rfl, HFZ.out⟩
  · rw [if_pos rfl]
    obtain ⟨x, hx⟩ : ∃ x, x = q1 := ⟨_, rfl⟩
    rw [← hx]
    obtain ⟨w5, hw5⟩ : ∃ w5, w5 = w4.alloc (.cells (mga x) 26) := ⟨_, rfl⟩
    obtain ⟨g4, hg4⟩ : ∃ g4, g4 = w4.heap.size := ⟨_, rfl⟩
    have hf5 : Fr NoBlk w4 w5 := by rw [hw5]; exact (Fr.refl _ _).alloc _
    have HB5 : Hid (Bk w5 g4 26 (mga x)) := by
      show Bk _ _ _ _
      rw [hw5]
      exact Bk.new' _ _ _ hg4
    have HI5 : Hid (MgIn w5 x) := by show MgIn _ _; rw [hx]; exact HQ1.out.nofr hf5
    have HXF : Hid (x.votes.length ≤ 1000000) := by show _ ≤ _; rw [hx]; have := HFEWQ.out; omega
    have hpp := HP.out
    simp only [Bool.and_eq_true, beq_iff_eq] at hpp
    rw [← hx] at hpp
    have HRX := Lib.hid hpp.1
    have HMX := Lib.hid hpp.2
    have HX0 := Lib.hid hx
    have HF5 := Lib.hid (HF4.out.trans hf5)
    have HR5 := Lib.hid (HR4.out.nofr hf5)
    have HDD := Lib.hid (HD.out w5 hf5)
    unfold DReadPost at HDD
    unfold mga at hw5
    unfold mgv mga
    clear hf5 hx HD HF4 HR4 hpp
    go_upto_region 7 with fail
    rw [← hw5, ← hg4]
    clear hw5 hg4
    go_wp2_with fail
    refine HDD.out.mono ?_
    clear HDD
    rintro e w6 ⟨y, C, hiy, hf6, rfl, h1, h2⟩
    obtain ⟨hC, hlk⟩ := HPC.out y C h1 h2
    have hlk2 := hlk hC
    subst hC
    rw [if_pos rfl]
    rw [← HX0.out] at hlk2
    have HLK := Lib.hid hlk2
    have HIY6 := Lib.hid hiy
    have HIX6 := Lib.hid (HI5.out.nofr hf6)
    have HF6 := Lib.hid (HF5.out.trans hf6)
    have HB6 := Lib.hid (HB5.out.fr hf6 (fun h => h))
    have HR6 := Lib.hid (HR5.out.nofr hf6)
    clear hf6 h1 h2 hlk hlk2 hiy HF5 HB5 HR5
    obtain ⟨w7, hw7⟩ : ∃ w7, w7 = w6.alloc (.cells (mga y) 36) := ⟨_, rfl⟩
    have hf7 : Fr NoBlk w6 w7 := by rw [hw7]; exact (Fr.refl _ _).alloc _
    obtain ⟨g6, hg6⟩ : ∃ g6, g6 = w6.heap.size := ⟨_, rfl⟩
    have HF7 := Lib.hid (HF6.out.trans hf7)
    have HBX := Lib.hid (HB6.out.fr hf7 (fun h => h))
    have HIX := Lib.hid (HIX6.out.nofr hf7)
    have HIY := Lib.hid (HIY6.out.nofr hf7)
    have HR7 := Lib.hid (HR6.out.nofr hf7)
    have HRW := Lib.hid (HRAW.out.nofr HF7.out)
    have HBY : Hid (Bk w7 g6 36 (mga y)) := by
      show Bk _ _ _ _
      rw [hw7]
      exact Bk.new' _ _ _ hg6
    have HSK : Hid (∀ W, Fr NoBlk w7 W → W.cell? ⟨g4, 0, none⟩ = some (.int .i64 x.kind) ∧ W.cell? ⟨g4, 1, none⟩ = some (.int .i64 x.frm) ∧ W.cell? ⟨g4, 2, none⟩ = some (.int .i64 x.dst) ∧ W.cell? ⟨g4, 3, none⟩ = some (.int .i64 x.grp) ∧ W.cell? ⟨g4, 4, none⟩ = some (.int .i64 x.slot) ∧ W.cell? ⟨g4, 5, none⟩ = some (.int .u64 (x.ballot : Int)) ∧ W.cell? ⟨g4, 6, none⟩ = some (.string (bstr x.value)) ∧ W.cell? ⟨g4, 7, none⟩ = some (.slice x.va x.votes.length x.vc) ∧ W.cell? ⟨g6, 0, none⟩ = some (.int .i64 y.kind) ∧ W.cell? ⟨g6, 1, none⟩ = some (.int .i64 y.frm) ∧ W.cell? ⟨g6, 2, none⟩ = some (.int .i64 y.dst) ∧ W.cell? ⟨g6, 3, none⟩ = some (.int .i64 y.grp) ∧ W.cell? ⟨g6, 4, none⟩ = some (.int .i64 y.slot) ∧ W.cell? ⟨g6, 5, none⟩ = some (.int .u64 (y.ballot : Int)) ∧ W.cell? ⟨g6, 6, none⟩ = some (.string (bstr y.value)) ∧ W.cell? ⟨g6, 7, none⟩ = some (.slice y.va y.votes.length y.vc) ∧ (convert 28 9 (.slice A3 raw.length c3)).run Tryd.prog W = .ok (.string (bstr raw)) W ∧ (convert 28 9 (.slice A raw.length c)).run Tryd.prog W = .ok (.string (bstr raw)) W) := fun W hf => by
      obtain ⟨c0, c1, c2, c3', c4, c5, c6, c7⟩ := (HBX.out.fr hf (fun h => h)).msg
      obtain ⟨d0, d1, d2, d3, d4, d5, d6, d7⟩ := (HBY.out.fr hf (fun h => h)).msg
      exact ⟨c0, c1, c2, c3', c4, c5, c6, c7, d0, d1, d2, d3, d4, d5, d6, d7, strBs W A3 _ c3 raw rfl (HR7.out.nofr hf), strBs W A _ c raw rfl (HRW.out.nofr hf)⟩
    have HOA := Lib.hid fun W (hf : Fr NoBlk w7 W) => of_any W x (HIX.out.nofr hf) HXF.out
    unfold mgv mga at HOA
    unfold mga at hw7
    try unfold mgv
    unfold mga
    clear hf7
    go_upto_region 8 with fail
    rw [← hw7, ← hg6]
    clear hw7 hg6
    refine wp_region_held_drew (S := fun w' => Fr NoBlk w7 w') (by kernel_rfl) ((Fr.refl NoBlk w7).drew) (fun hHeld => ?_)
    refine wpAnyH_take (i := 0) (oi := ⟨some 28, _, _, _, _, _⟩) (v := ?_) rfl (by kernel_rfl) (by kernel_rfl) (by kernel_rfl) (fun _ _ _ h => h) (Or.inl ⟨by rfl, ?_⟩) (by assumption) ?_
    rotate_left 1
    · (intro w hSw; (try dsimp only at hSw); obtain ⟨sa0, sa1, sa2, sa3, sa4, sa5, sa6, sa7, sb0, sb1, sb2, sb3, sb4, sb5, sb6, sb7, sx, sy⟩ := HSK.out _ hSw; go_simp) <;> (with_reducible rfl)
    try simp only [Act.put, List.setIfInBounds_toArray, List.set_cons_zero, List.set_cons_succ]
    refine wpAnyH_take (i := 1) (oi := ⟨some 29, _, _, _, _, _⟩) (v := ?_) rfl (by kernel_rfl) (by kernel_rfl) (by kernel_rfl) (fun _ _ _ h => h) (Or.inl ⟨by rfl, ?_⟩) (by assumption) ?_
    rotate_left 1
    · (intro w hSw; (try dsimp only at hSw); obtain ⟨sa0, sa1, sa2, sa3, sa4, sa5, sa6, sa7, sb0, sb1, sb2, sb3, sb4, sb5, sb6, sb7, sx, sy⟩ := HSK.out _ hSw; go_simp) <;> (with_reducible rfl)
    try simp only [Act.put, List.setIfInBounds_toArray, List.set_cons_zero, List.set_cons_succ]
    refine wpAnyH_take (i := 2) (oi := ⟨some 30, _, _, _, _, _⟩) (v := ?_) rfl (by kernel_rfl) (by kernel_rfl) (by kernel_rfl) (fun _ _ _ h => h) (Or.inl ⟨by rfl, ?_⟩) (by assumption) ?_
    rotate_left 1
    · (intro w hSw; (try dsimp only at hSw); obtain ⟨sa0, sa1, sa2, sa3, sa4, sa5, sa6, sa7, sb0, sb1, sb2, sb3, sb4, sb5, sb6, sb7, sx, sy⟩ := HSK.out _ hSw; go_simp) <;> (with_reducible rfl)
    try simp only [Act.put, List.setIfInBounds_toArray, List.set_cons_zero, List.set_cons_succ]
    refine wpAnyH_take (i := 3) (oi := ⟨some 31, _, _, _, _, _⟩) (v := ?_) rfl (by kernel_rfl) (by kernel_rfl) (by kernel_rfl) (fun _ _ _ h => h) (Or.inl ⟨by rfl, ?_⟩) (by assumption) ?_
    rotate_left 1
    · (intro w hSw; (try dsimp only at hSw); obtain ⟨sa0, sa1, sa2, sa3, sa4, sa5, sa6, sa7, sb0, sb1, sb2, sb3, sb4, sb5, sb6, sb7, sx, sy⟩ := HSK.out _ hSw; go_simp) <;> (with_reducible rfl)
    try simp only [Act.put, List.setIfInBounds_toArray, List.set_cons_zero, List.set_cons_succ]
    refine wpAnyH_take (i := 4) (oi := ⟨some 32, _, _, _, _, _⟩) (v := ?_) rfl (by kernel_rfl) (by kernel_rfl) (by kernel_rfl) (fun _ _ _ h => h) (Or.inl ⟨by rfl, ?_⟩) (by assumption) ?_
    rotate_left 1
    · (intro w hSw; (try dsimp only at hSw); obtain ⟨sa0, sa1, sa2, sa3, sa4, sa5, sa6, sa7, sb0, sb1, sb2, sb3, sb4, sb5, sb6, sb7, sx, sy⟩ := HSK.out _ hSw; go_simp) <;> (with_reducible rfl)
    try simp only [Act.put, List.setIfInBounds_toArray, List.set_cons_zero, List.set_cons_succ]
    refine wpAnyH_take (i := 6) (oi := ⟨some 34, _, _, _, _, _⟩) (v := ?_) rfl (by kernel_rfl) (by kernel_rfl) (by kernel_rfl) (fun _ _ _ h => h) (Or.inl ⟨by rfl, ?_⟩) (by assumption) ?_
    rotate_left 1
    · (intro w hSw; (try dsimp only at hSw); obtain ⟨sa0, sa1, sa2, sa3, sa4, sa5, sa6, sa7, sb0, sb1, sb2, sb3, sb4, sb5, sb6, sb7, sx, sy⟩ := HSK.out _ hSw; go_simp) <;> (with_reducible rfl)
    try simp only [Act.put, List.setIfInBounds_toArray, List.set_cons_zero, List.set_cons_succ]
    refine wpAnyH_ready (rs := [5]) (by kernel_rfl) (by simp) ?_
    refine AllReadyH.cons (o := ⟨some 33, _, _, _, _, _⟩) rfl (fun K hK => ?_) AllReadyH.nil
    go_simp
    go_at_call 12
    refine (HOA.out _ ((Fr.refl NoBlk w7).drew)).mono ?_
    rintro e wa ⟨qa, rfl, hqa⟩
    have HFA : Hid (Fr NoBlk w7 wa) := ((Fr.refl NoBlk w7).drew).trans hqa.fr
    have HSM := Lib.hid (same_any wa qa y (hqa.inn HIX.out) (HIY.out.nofr HFA.out))
    have HQA := Lib.hid hqa.like
    unfold mgv mga at HSM
    clear hqa
    clear hHeld
    refine hK.out _ _ ?_ (fun hHeld => ?_)
    · exact HFA.out
    clear hK K
    try simp only [Act.put, List.setIfInBounds_toArray, List.set_cons_zero, List.set_cons_succ]
    refine wpAnyH_ready (rs := [7]) (by kernel_rfl) (by simp) ?_
    refine AllReadyH.cons (o := ⟨some 35, _, _, _, _, _⟩) rfl (fun K hK => ?_) AllReadyH.nil
    go_simp
    go_at_call 15
    refine (HSM.out).mono ?_
    rintro e wc ⟨⟨dd, rfl, hdd⟩, hfc⟩
    have HFC : Hid (Fr NoBlk w7 wc) := HFA.out.trans hfc
    have hcd : dd = true := hdd.2 (HQA.out.trans HLK.out)
    subst hcd
    clear hdd hfc HSM
    clear hHeld
    refine hK.out _ _ ?_ (fun hHeld => ?_)
    · exact HFC.out
    clear hK K
    try simp only [Act.put, List.setIfInBounds_toArray, List.set_cons_zero, List.set_cons_succ]
    refine wpAnyH_take (i := 8) (oi := ⟨some 36, _, _, _, _, _⟩) (v := ?_) rfl (by kernel_rfl) (by kernel_rfl) (by kernel_rfl) (fun _ _ _ h => h) (Or.inl ⟨by rfl, ?_⟩) (by assumption) ?_
    rotate_left 1
    · (intro w hSw; (try dsimp only at hSw); obtain ⟨sa0, sa1, sa2, sa3, sa4, sa5, sa6, sa7, sb0, sb1, sb2, sb3, sb4, sb5, sb6, sb7, sx, sy⟩ := HSK.out _ hSw; go_simp) <;> (with_reducible rfl)
    try simp only [Act.put, List.setIfInBounds_toArray, List.set_cons_zero, List.set_cons_succ]
    refine wpAnyH_take (i := 9) (oi := ⟨some 37, _, _, _, _, _⟩) (v := ?_) rfl (by kernel_rfl) (by kernel_rfl) (by kernel_rfl) (fun _ _ _ h => h) (Or.inl ⟨by rfl, ?_⟩) (by assumption) ?_
    rotate_left 1
    · (intro w hSw; (try dsimp only at hSw); obtain ⟨sa0, sa1, sa2, sa3, sa4, sa5, sa6, sa7, sb0, sb1, sb2, sb3, sb4, sb5, sb6, sb7, sx, sy⟩ := HSK.out _ hSw; go_simp) <;> (with_reducible rfl)
    try simp only [Act.put, List.setIfInBounds_toArray, List.set_cons_zero, List.set_cons_succ]
    refine wpAnyH_take (i := 10) (oi := ⟨some 38, _, _, _, _, _⟩) (v := ?_) rfl (by kernel_rfl) (by kernel_rfl) (by kernel_rfl) (fun _ _ _ h => h) (Or.inl ⟨by rfl, ?_⟩) (by assumption) ?_
    rotate_left 1
    · (intro w hSw; (try dsimp only at hSw); obtain ⟨sa0, sa1, sa2, sa3, sa4, sa5, sa6, sa7, sb0, sb1, sb2, sb3, sb4, sb5, sb6, sb7, sx, sy⟩ := HSK.out _ hSw; go_simp) <;> (with_reducible rfl)
    try simp only [Act.put, List.setIfInBounds_toArray, List.set_cons_zero, List.set_cons_succ]
    refine wpAnyH_take (i := 11) (oi := ⟨some 39, _, _, _, _, _⟩) (v := ?_) rfl (by kernel_rfl) (by kernel_rfl) (by kernel_rfl) (fun _ _ _ h => h) (Or.inl ⟨by rfl, ?_⟩) (by assumption) ?_
    rotate_left 1
    · (intro w hSw; (try dsimp only at hSw); obtain ⟨sa0, sa1, sa2, sa3, sa4, sa5, sa6, sa7, sb0, sb1, sb2, sb3, sb4, sb5, sb6, sb7, sx, sy⟩ := HSK.out _ hSw; go_simp) <;> (with_reducible rfl)
    try simp only [Act.put, List.setIfInBounds_toArray, List.set_cons_zero, List.set_cons_succ]
    refine wpAnyH_take (i := 12) (oi := ⟨some 40, _, _, _, _, _⟩) (v := ?_) rfl (by kernel_rfl) (by kernel_rfl) (by kernel_rfl) (fun _ _ _ h => h) (Or.inl ⟨by rfl, ?_⟩) (by assumption) ?_
    rotate_left 1
    · (intro w hSw; (try dsimp only at hSw); obtain ⟨sa0, sa1, sa2, sa3, sa4, sa5, sa6, sa7, sb0, sb1, sb2, sb3, sb4, sb5, sb6, sb7, sx, sy⟩ := HSK.out _ hSw; go_simp) <;> (with_reducible rfl)
    try simp only [Act.put, List.setIfInBounds_toArray, List.set_cons_zero, List.set_cons_succ]
    refine wpAnyH_take (i := 13) (oi := ⟨some 41, _, _, _, _, _⟩) (v := ?_) rfl (by kernel_rfl) (by kernel_rfl) (by kernel_rfl) (fun _ _ _ h => h) (Or.inl ⟨by rfl, ?_⟩) (by assumption) ?_
    rotate_left 1
    · (intro w hSw; (try dsimp only at hSw); obtain ⟨sa0, sa1, sa2, sa3, sa4, sa5, sa6, sa7, sb0, sb1, sb2, sb3, sb4, sb5, sb6, sb7, sx, sy⟩ := HSK.out _ hSw; go_simp) <;> (with_reducible rfl)
    try simp only [Act.put, List.setIfInBounds_toArray, List.set_cons_zero, List.set_cons_succ]
    refine wpAnyH_take (i := 14) (oi := ⟨some 42, _, _, _, _, _⟩) (v := ?_) rfl (by kernel_rfl) (by kernel_rfl) (by kernel_rfl) (fun _ _ _ h => h) (Or.inl ⟨by rfl, ?_⟩) (by assumption) ?_
    rotate_left 1
    · (intro w hSw; (try dsimp only at hSw); obtain ⟨sa0, sa1, sa2, sa3, sa4, sa5, sa6, sa7, sb0, sb1, sb2, sb3, sb4, sb5, sb6, sb7, sx, sy⟩ := HSK.out _ hSw; go_simp) <;> (with_reducible rfl)
    try simp only [Act.put, List.setIfInBounds_toArray, List.set_cons_zero, List.set_cons_succ]
    refine wpAnyH_take (i := 15) (oi := ⟨some 43, _, _, _, _, _⟩) (v := ?_) rfl (by kernel_rfl) (by kernel_rfl) (by kernel_rfl) (fun _ _ _ h => h) (Or.inl ⟨by rfl, ?_⟩) (by assumption) ?_
    rotate_left 1
    · (intro w hSw; (try dsimp only at hSw); obtain ⟨sa0, sa1, sa2, sa3, sa4, sa5, sa6, sa7, sb0, sb1, sb2, sb3, sb4, sb5, sb6, sb7, sx, sy⟩ := HSK.out _ hSw; go_simp) <;> (with_reducible rfl)
    try simp only [Act.put, List.setIfInBounds_toArray, List.set_cons_zero, List.set_cons_succ]
    refine wpAnyH_take (i := 16) (oi := ⟨some 44, _, _, _, _, _⟩) (v := ?_) rfl (by kernel_rfl) (by kernel_rfl) (by kernel_rfl) (fun _ _ _ h => h) (Or.inl ⟨by rfl, ?_⟩) (by assumption) ?_
    rotate_left 1
    · (intro w hSw; (try dsimp only at hSw); obtain ⟨sa0, sa1, sa2, sa3, sa4, sa5, sa6, sa7, sb0, sb1, sb2, sb3, sb4, sb5, sb6, sb7, sx, sy⟩ := HSK.out _ hSw; go_simp) <;> (with_reducible rfl)
    try simp only [Act.put, List.setIfInBounds_toArray, List.set_cons_zero, List.set_cons_succ]
    refine wpAnyH_done (by kernel_rfl) ?_ _
    clear hHeld
    have HFZ := Lib.hid (HF7.out.trans HFC.out)
    have HW := Lib.hid (write_ok wc (HT.out.fr HFZ.out fun h => h) x ((HIX.out.nofr HFC.out)) HRX.out)
    have hbx := (HBX.out.fr HFC.out (fun h => h)).msg
    obtain ⟨k0, k1, k2, k3, k4, k5, k6, k7⟩ := hbx
    unfold mgv mga at HW
    rw [HMX.out] at HW
    go_wp2_with fail
    refine HW.out.mono ?_
    clear HW k0 k1 k2 k3 k4 k5 k6 k7
    rintro e wd ⟨v9, rfl, hn9⟩
    obtain ⟨A9, c9, rfl, _, _⟩ := own_form hn9.own
    have s1 := strBs wd A9 _ c9 raw rfl (Rd.of_own hn9.own)
    have s2 := strBs wd A _ c raw rfl (HRAW.out.nofr (HFZ.out.trans hn9.fr))
    have HFE := Lib.hid (HFZ.out.trans hn9.fr)
    clear hn9
    go_wp2_with fail
    go_ret
    exact ⟨rfl, HFE.out⟩

theorem paramsOk : ∀ t ∈ Tryd.f5.params.toList, Tryd.prog.readableRec t = true ∧ t < Tryd.prog.types.size := fun t ht => by
  have h := List.all_eq_true.1 (show (Tryd.f5.params.toList.all fun t => Tryd.prog.readableRec t && decide (t < Tryd.prog.types.size)) = true by kernel_rfl) t ht
  simpa using h
theorem paramsPlain : ∀ (j : Nat) t, Tryd.f5.params[j]? = some t → Tryd.prog.wantsStandIn t = false := fun j t ht => by
  have h := List.all_eq_true.1 (show (Tryd.f5.params.toList.all fun t => !Tryd.prog.wantsStandIn t) = true by kernel_rfl) t (by simpa using Array.mem_of_getElem? ht)
  simpa using h

set_option maxRecDepth 100000 in
theorem contract (H : Type) (enc : TypeId × Value → H) (W : World) (args : Array Value) (ds gs : List (DataW H)) (before : List MemPlace)
    (base : Nat) (hval : ∀ (j : Nat) t v, Tryd.f5.params[j]? = some t → args[j]? = some v → Value.okWide Tryd.prog W .any base t v)
    (hW : DataW.Whole enc Tryd.prog Tryd.f5.params.toList Rows.wireReadsSpec.vars false W args.toList ds gs before) (hL : laidMetH Tryd.prog Rows.wireReadsRow.laid W) :
    Calls Tryd.prog 5 args W fun e W' => ∃ v, e = .returned v ∧ Rows.wireReadsSpec.post enc Tryd.prog Tryd.f5 false true false false W args v W' := by
  have hW' := hW
  obtain ⟨p, q, hA, hV, rfl, _, _⟩ := hW
  rw [Tryd.params5] at hA hval
  obtain ⟨v0, vs0, d0, ds0, p0, q0, hargs, rfl, rfl, h0, r0⟩ := trodAll_cons hA
  obtain ⟨rfl, rfl, rfl⟩ := trodAll_nil r0
  obtain rfl : args = #[v0] := by cases args; simp_all
  obtain ⟨rfl, rfl⟩ := trodVars_none hV
  obtain ⟨A, c, raw, rfl, hr, hA', hle, hmx⟩ := open_bytes (hval 0 _ v0 rfl rfl) h0
  have walk := walk W (table hL) A c raw hr hA' hle hmx
  refine walk.mono fun e W' ⟨he, hf⟩ => ?_
  subst he
  exact ⟨_, rfl, law_post laidOut paramsOk rfl rfl Tryd.underlying4 hW' rfl rfl rfl hf⟩

theorem laid_met (os : Os) : laidMet Tryd.prog Rows.wireReadsRow.laid ((laidWorld os).forCall (fun _ _ => 0) ⟨#[], #[.slice none 0 0], []⟩).memory :=
  laidMet_of_run' 20 (by kernel_rfl) (by kernel_rfl)
theorem reads (os : Os) {H : Type} (enc : TypeId × Value → H) : ∃ places, DataW.whole enc Tryd.prog ((laidWorld os).forCall (fun _ _ => 0) ⟨#[], #[.slice none 0 0], []⟩).memory Tryd.f5.params.toList Rows.wireReadsSpec.vars false (#[.slice none 0 0] : Array Value).toList 8 = some ([.nil], [], places) :=
  ⟨[], by kernel_rfl⟩

set_option maxRecDepth 100000 in
theorem lifted (os : Os) (started : os.Started) (H : Type) (enc : TypeId × Value → H) (F : Stop.Interp) :
    ReturnsInHanded {} Tryd.checked os 5 .any ((OpenSpec.ofChange Rows.wireReadsSpec).preRow enc Tryd.prog Tryd.f5 Rows.wireReadsRow.domain false Rows.wireReadsRow.laid) (((OpenSpec.ofChange Rows.wireReadsSpec).at F).post enc Tryd.prog Tryd.f5 false true false false) := by
  obtain ⟨places, hx⟩ := reads os enc
  refine returnsInHanded_of_row (C := Tryd.checked) (s := OpenSpec.ofChange Rows.wireReadsSpec) own started (by kernel_rfl) Tryd.func5
    (witness_row_at (enc := enc) (C := Tryd.checked) false (laidWorld os) #[.slice none 0 0] rfl (by kernel_rfl) (by kernel_rfl) (by kernel_rfl)
      (OpenSpec.preRow_of_cond 8 hx (by kernel_rfl) (fun k hk => by cases hk) (by kernel_rfl) (laid_met os))) ?_
  intro W base args ds gs before hval hW _ _ _ hL _ _
  exact contract H enc W args ds gs before base hval hW hL

theorem said : Rows.WireReadsSaid :=
  OpenClaim.holds_of_cond 5 Tryd.f5 rfl rfl rfl rfl rfl rfl rfl ⟨rfl, rfl, rfl, rfl, rfl⟩ rfl rfl rfl rfl rfl (by kernel_rfl) Tryd.func5 (by kernel_rfl)
    (of_decide_eq_true (by kernel_rfl)) (by unfold Func.isWrapper; first | (rw [if_pos (by decide +kernel)]; kernel_rfl) | (rw [if_neg (by decide +kernel)]; exact ⟨rfl, rfl⟩))
    (fun os started H enc _ F => by rw [OpenClaim.pre_eq_preRow]; exact lifted os started H enc F)

theorem plain (f : FuncId) (fn : Func) (hf : Tryd.pinned.checked.prog.funcNamed "argosy/argosylaw18.WireReads" = some f) (hfn : Tryd.pinned.checked.prog.funcs[f]? = some fn) :
    false = Tryd.pinned.checked.prog.looks [] ∧ ∀ (j : Nat) t, fn.params[j]? = some t → Tryd.pinned.checked.prog.wantsStandIn t = false := by
  obtain rfl : f = 5 := Option.some.inj ((show Tryd.prog.funcNamed "argosy/argosylaw18.WireReads" = some 5 by kernel_rfl).symm.trans hf) |>.symm
  obtain rfl : fn = Tryd.f5 := (Option.some.inj (Tryd.func5.symm.trans hfn)).symm
  exact ⟨by kernel_rfl, paramsPlain⟩

theorem card : Rows.WireReadsCardSaid :=
  Claim7.holds_tied_plain_at .later [] _ _ _ _ said (fun _ h => by cases h) (by kernel_rfl) (fun _ h => by cases h) wireReads_row_tie rfl ⟨rfl, rfl⟩ (by kernel_rfl) rfl plain (by kernel_rfl)
end Go.Proofs.YtdpjmkgjjhcgeaaDoor.wireReads
