/- StoreLast is true: a key has the value that it got last, whatever other keys got then. No condition. -/
import Derived.Test.YtfifpgefdcgbgaaSpk6
import Derived.Test.YtfifpgefdcgbgaaGr6
import Derived.Test.YtfifpgefdcgbgaaLstP
import Derived.ChangeMaps5
import Derived.Deep.RegionHeld3
import Derived.Lib.Hide
namespace Go.Proofs.Ytfifpgefdcgbgaa.storeLast
open Go.ChangeShapes Go.WideShapes Go.ChangeAt Go.RowKit
theorem OpIn.nofr {W W' : World} {x : Opn} (h : OpIn W x) (hf : Fr NoBlk W W') : OpIn W' x := ⟨⟨⟨h.1.1.1.nofr hf, h.1.1.2⟩, h.1.2⟩, h.2⟩
theorem strBs (w : World) (A : Option Addr) (n c : Nat) (l : List UInt8) (hn : n = l.length) (hr : Rd w A (cb l)) :
    (convert 31 9 (.slice A n c)).run Try.prog w = .ok (.string (bstr l)) w :=
  run_str w _ _ 5 Try.underlying31 Try.underlying5 Try.underlying9 A c l n hn hr
def LastI (W : World) (g : Nat) (key l : Bs) (k : Nat) (wr : World) : Prop :=
  ∃ O rs, Store wr g O 3 rs ∧ (∀ b, O b → W.heap.size ≤ b) ∧ Fr NoBlk W wr ∧ rs.length ≤ k + 1 ∧ rget ((3 : Nat) : Int) rs key = ⟨true, l, homeOf key 3, 0⟩
theorem LastI.keep {W w1 w2 : World} {g : Nat} {O : Nat → Prop} {key l k2 : Bs} {k : Nat} {rs : List Rw} {r : Rec} {e : Ending} (hO : ∀ b, O b → W.heap.size ≤ b) (hF : Fr NoBlk W w1) (hl : rs.length ≤ k + 1) (hu : UpI Op.bytesLess rs) (hg : rget ((3 : Nat) : Int) rs key = ⟨true, l, homeOf key 3, 0⟩) (hk : k2 ≠ key) (h : KeepPost w1 g O 3 (rset rs k2 r) e w2) : LastI W g key l (k + 1) w2 := by
  obtain ⟨_, O', h1, h2⟩ := h
  obtain ⟨h3, h4⟩ := h2.new_fr hF hO
  exact ⟨O', _, h1, h4, h3, by have := rset_le rs k2 r; omega, by rw [rget_rset_ne hu r hk]; exact hg⟩
set_option maxRecDepth 100000 in
set_option maxHeartbeats 2000000 in
theorem walk (W : World) (A : Option Addr) (c : Nat) (xs : List Opn) (hr : Rd W A (opsc xs)) (hx : ∀ x ∈ xs, OpIn W x) (hm : xs.length ≤ maxLen) (key : Bs) (hkm : key.length ≤ maxLen) (B : Option Addr) (d : Nat) (l : Bs) (hl : Rd W B (cb l)) (hB : B = none → d = 0) (hlm : l.length ≤ maxLen) :
    Calls Try.prog 8 #[.slice A xs.length c, .string (bstr key), .slice B l.length d] W fun e W' => e = .returned (.bool true) ∧ Fr NoBlk W W' := by
  have HS := Lib.hid (speaks_any W)
  have HR := Lib.hid (And.intro hr (And.intro hx hm))
  have HL := Lib.hid (And.intro hl (And.intro hB hlm))
  obtain ⟨L, hL⟩ : ∃ L, L = l.length := ⟨_, rfl⟩
  obtain ⟨N, hN⟩ : ∃ N, N = xs.length := ⟨_, rfl⟩
  have HLL := Lib.hid hL
  have HNN := Lib.hid hN
  rw [← hL, ← hN]
  have e4 := bstr_size key
  have hkm' : key.length ≤ 9223372036854775807 := hkm
  have hlm' : L ≤ 9223372036854775807 := by rw [hL]; exact hlm
  clear hr hx hm hl hB hlm hL hN hkm
  go_enter Try.func8, Try.ntmps8
  go_wp2_with fail
  refine HS.out.mono ?_
  clear HS
  rintro e w1 ⟨rfl, hf1⟩
  have HGR : Hid (Calls Try.prog 11 #[.slice A N c] w1 fun e w' => GreatPost xs e ∧ Fr NoBlk w1 w') := by
    have h := great_any w1 A c xs (HR.out.1.nofr hf1) (fun x hx => OpIn.nofr (HR.out.2.1 x hx) hf1) HR.out.2.2
    rw [← HNN.out] at h
    exact h
  have HF1 := Lib.hid hf1
  clear hf1
  go_wp2_with fail
  refine HGR.out.mono ?_
  clear HGR
  rintro e w2 ⟨⟨b, rfl, hsm⟩, hf2⟩
  have HSM := Lib.hid hsm
  have HF2 : Hid (Fr NoBlk W w2) := HF1.out.trans hf2
  clear hsm hf2
  cases b with
  | true =>
    go_wp2_with fail
    go_ret
    exact ⟨rfl, HF2.out⟩
  | false =>
  by_cases hk5 : 500 < key.length
  · go_wp2_with fail
    go_ret
    exact ⟨rfl, HF2.out⟩
  by_cases hl5 : 500 < L
  · go_wp2_with fail
    go_ret
    exact ⟨rfl, HF2.out⟩
  have HSML := Lib.hid (HSM.out rfl)
  have HK5 : Hid (key.length ≤ 500 ∧ L ≤ 500) := ⟨by omega, by omega⟩
  go_wp2_with fail
  refine (snew_any w2 3).mono ?_
  rintro e w3 (⟨_, _, g, O, rfl, hs, hO, hf3⟩ | ⟨h, _⟩)
  rotate_left
  · exact absurd ⟨by decide, by decide⟩ h
  have hs : Store w3 g O 3 [] := hs
  have HPUT : Hid (Calls Try.prog 30 #[.pointer (some ⟨g, 0, none⟩), .string (bstr key), .slice B L d] w3 fun e w' => ∃ x, e = .returned x ∧ Hid (LastI W g key l 0 w')) := by
    refine (sput_any w3 g O 3 [] hs (by decide) key (by have := HK5.out; omega) B L d l HLL.out HL.out.2.1 (HL.out.1.nofr (HF2.out.trans hf3)) (by have := HK5.out; have := HLL.out; omega)).mono ?_
    rintro e w' ⟨⟨x, rfl⟩, O', h1, h2⟩
    obtain ⟨h3, h4⟩ := h2.new_fr (HF2.out.trans hf3) fun b hb => Nat.le_trans HF2.out.size (hO b hb)
    refine ⟨x, rfl, O', _, h1, h4, h3, ?_, ?_⟩
    · have := rset_le ([] : List Rw) key ⟨true, l, (rget ((3 : Nat) : Int) [] key).home, (rget ((3 : Nat) : Int) [] key).count⟩
      exact this
    · rw [rget_rset List.Pairwise.nil key _ rfl]
      rfl
  clear hs hO hf3 e4 hkm' hlm' hk5 hl5
  go_wp2_with fail
  refine HPUT.out.mono ?_
  clear HPUT
  rintro e w4 ⟨x0, rfl, HI0⟩
  go_wp2_with fail
  go_loopw [38] (fun z wr => ∃ k : Nat, z = .int .i64 (k : Int) ∧ k ≤ N ∧ Hid (LastI W g key l k wr)) (fun z _ => N - (intOf z).toNat)
  case atStart => exact ⟨0, rfl, Nat.zero_le _, HI0.out⟩
  case round =>
    obtain ⟨k, rfl, hk, HI⟩ := hrel
    clear HI0
    have hNs : N ≤ 100 := by have h1 := HSML.out.n; have h2 := HNN.out; omega
    have hw2 : IntKind.i64.wrap ((k : Int) + 1) = ((k + 1 : Nat) : Int) := by rw [IntWalk.i64_in _ (by omega)]; omega
    by_cases hlt : k < N
    · obtain ⟨x, hx⟩ : ∃ x, xs[k]? = some x := ⟨_, List.getElem?_eq_getElem (by have := HNN.out; omega)⟩
      have hxs := HSML.out.o x (List.mem_of_getElem? hx)
      obtain ⟨O, rs, hst, hO, hf, hrl, hrg⟩ := HI.out
      obtain ⟨b, o, hA, c0, c1, c2, c4⟩ := (HR.out.1.nofr hf).opn hx
      have hin := OpIn.nofr (HR.out.2.1 x (List.mem_of_getElem? hx)) hf
      subst hA
      obtain ⟨wa, hwa⟩ : ∃ w, w = wr.alloc (.cells (opa x) 33) := ⟨_, rfl⟩
      have hfa : Fr NoBlk wr wa := by rw [hwa]; exact (Fr.refl _ _).alloc _
      have HSTA := Lib.hid (hst.nofr hfa)
      have HOO := Lib.hid hO
      have HFA : Hid (Fr NoBlk W wa) := hf.trans hfa
      have HRL := Lib.hid (And.intro hrl (And.intro hst.up hrg))
      have HIN := Lib.hid (OpIn.nofr hin hfa)
      have HXS := Lib.hid hxs
      have HIA : Hid (LastI W g key l k wa) := ⟨O, rs, HSTA.out, hO, HFA.out, hrl, hrg⟩
      have HIB : Hid (LastI W g key l (k + 1) wa) := ⟨O, rs, HSTA.out, hO, HFA.out, by omega, hrg⟩
      have HWA := Lib.hid hwa
      clear hx hxs hst hO hf hrl hrg hin hfa hwa HI
      obtain ⟨kind, n, name, ⟨va, vc, vb⟩⟩ := x
      unfold opa at HWA
      unfold st at c2 HWA
      unfold sl at c4 HWA
      dsimp only at c0 c1 c2 c4 HWA HIN HXS
      obtain ⟨vl, hvl⟩ : ∃ vl, vl = vb.length := ⟨_, rfl⟩
      have HVL := Lib.hid hvl
      rw [← hvl] at c4 HWA
      clear hvl
      by_cases hnk : name = key
      · have hq := eq_bstr hnk
        clear hnk
        go_upto_region 12 with fail
        rw [← HWA.out]
        obtain ⟨pb, hpb⟩ : ∃ pb, pb = wr.heap.size := ⟨_, rfl⟩
        have HB : Hid (Bk wa pb 33 #[.int .i64 kind, .int .i64 n, .string (bstr name), .slice va vl vc]) := by show Bk _ _ _ _; rw [HWA.out, hpb]; exact Bk.new _ _ _
        rw [← hpb]
        have b2 : wa.cell? ⟨pb, 2, none⟩ = some (.string (bstr name)) := HB.out.cell 2
        clear HWA hpb c0 c1 c2 c4
        go_wp2_with fail
        go_roundw
        case rel => exact ⟨k + 1, by go_num, by omega, HIB⟩
        case measure => simp [intOf]; omega
      · have hq := ne_bstr hnk
        have HNK := Lib.hid hnk
        obtain ⟨bt, hbt⟩ : ∃ bt, bt = bits .and .i64 kind 1 := ⟨_, rfl⟩
        obtain ⟨pb, hpb⟩ : ∃ pb, pb = wr.heap.size := ⟨_, rfl⟩
        have HB : Hid (Bk wa pb 33 #[.int .i64 kind, .int .i64 n, .string (bstr name), .slice va vl vc]) := by show Bk _ _ _ _; rw [HWA.out, hpb]; exact Bk.new _ _ _
        go_upto_region 12 with fail
        rw [← HWA.out, ← hpb]
        have b0 : wa.cell? ⟨pb, 0, none⟩ = some (.int .i64 kind) := HB.out.cell 0
        have b2 : wa.cell? ⟨pb, 2, none⟩ = some (.string (bstr name)) := HB.out.cell 2
        have b3 : wa.cell? ⟨pb, 3, none⟩ = some (.slice va vl vc) := HB.out.cell 3
        have HPUT : Hid (Calls Try.prog 30 #[.pointer (some ⟨g, 0, none⟩), .string (bstr name), .slice va vl vc] wa fun e w' => ∃ x, e = .returned x ∧ Hid (LastI W g key l (k + 1) w')) := by
          refine (sput_any wa g O 3 rs HSTA.out (by have := HRL.out.1; omega) name (by have := HXS.out; omega) va vl vc vb HVL.out HIN.out.1.1.2 HIN.out.1.1.1 (by have := HXS.out; omega)).mono ?_
          rintro e w' h
          obtain ⟨x, rfl⟩ := h.1
          exact ⟨x, rfl, LastI.keep HOO.out HFA.out HRL.out.1 HRL.out.2.1 HRL.out.2.2 HNK.out h⟩
        have HDEL : Hid (Calls Try.prog 31 #[.pointer (some ⟨g, 0, none⟩), .string (bstr name)] wa fun e w' => ∃ x, e = .returned x ∧ Hid (LastI W g key l (k + 1) w')) := by
          refine (sdel_any wa g O 3 rs HSTA.out (by have := HRL.out.1; omega) name (by have := HXS.out; omega)).mono ?_
          rintro e w' h
          obtain ⟨x, rfl⟩ := h.1
          exact ⟨x, rfl, LastI.keep HOO.out HFA.out HRL.out.1 HRL.out.2.1 HRL.out.2.2 HNK.out h⟩
        clear HWA hpb c0 c1 c2 c4 hnk
        by_cases hb0 : bt = 0
        · rw [hbt] at hb0
          have hb1 : (bits .and .i64 kind 1 == 0) = true := by rw [hb0]; rfl
          clear hbt
          go_wp2_with fail
          refine HDEL.out.mono ?_
          clear HDEL HPUT
          rintro e w5 ⟨x, rfl, HI5⟩
          go_wp2_with fail
          go_roundw
          case rel => exact ⟨k + 1, by go_num, by omega, HI5⟩
          case measure => simp [intOf]; omega
        · rw [hbt] at hb0
          have hb1 : (bits .and .i64 kind 1 == 0) = false := beq_eq_false_iff_ne.2 hb0
          clear hbt
          go_wp2_with fail
          refine HPUT.out.mono ?_
          clear HDEL HPUT
          rintro e w5 ⟨x, rfl, HI5⟩
          go_wp2_with fail
          go_roundw
          case rel => exact ⟨k + 1, by go_num, by omega, HI5⟩
          case measure => simp [intOf]; omega
    · obtain ⟨O, rs, hst, hO, hf, hrl, hrg⟩ := HI.out
      have HG : Hid (Calls Try.prog 16 #[.pointer (some ⟨g, 0, none⟩), .string (bstr key)] wr (GetPost wr ⟨true, l, homeOf key 3, 0⟩)) := by
        have h := sget_any wr g O 3 rs hst key (by have := HK5.out; omega) (by rw [hrg]; show l.length ≤ _; have := HK5.out; have := HLL.out; omega)
        rw [hrg] at h
        exact h
      have HST := Lib.hid hst
      have HOO := Lib.hid hO
      have HF := Lib.hid hf
      have HRG := Lib.hid (And.intro hrg (And.intro hrl hk))
      clear hst hO hf hrg hrl HI
      go_wp2_with fail
      refine HG.out.mono ?_
      clear HG
      rintro e w5 ⟨v, rfl, hfr, hf5⟩
      obtain ⟨vh, va, vn, vc, vm, vt⟩ := v
      obtain rfl : vh = true := hfr.has
      obtain rfl : vm = homeOf key 3 := hfr.home
      obtain rfl : vt = 0 := hfr.count
      have HFR := Lib.hid hfr
      unfold vaR
      obtain ⟨p, hp⟩ : ∃ p, p = w5.heap.size := ⟨_, rfl⟩
      obtain ⟨w6, hw6⟩ : ∃ w, w = w5.alloc (.cells #[.bool true, .slice va vn vc, .int .i64 (homeOf key 3), .int .u64 0] 38) := ⟨_, rfl⟩
      have hf6 : Fr NoBlk w5 w6 := by rw [hw6]; exact (Fr.refl _ _).alloc _
      have HB6 : Hid (Bk w6 p 38 #[.bool true, .slice va vn vc, .int .i64 (homeOf key 3), .int .u64 0]) := by show Bk _ _ _ _; rw [hw6, hp]; exact Bk.new _ _ _
      have HF6 : Hid (Fr NoBlk wr w6) := hf5.trans hf6
      have HFR6 : Hid (Reads w6 ⟨true, va, vn, vc, homeOf key 3, 0⟩ ⟨true, l, homeOf key 3, 0⟩) := hfr.reads.nofr hf6
      have HPW : Hid (wr.heap.size ≤ p) := by show _ ≤ _; rw [hp]; exact hf5.size
      have HPB : Hid (p < w6.heap.size ∧ W.heap.size ≤ p) := ⟨HB6.out.lt, by have := HF.out.size; have := hf5.size; omega⟩
      have HDEL : Hid (Calls Try.prog 31 #[.pointer (some ⟨g, 0, none⟩), .string (bstr key)] w6 (KeepPost w6 g O 3 (rset rs key ⟨false, [], homeOf key 3, 0⟩))) := by
        have h := sdel_any w6 g O 3 rs (HST.out.nofr HF6.out) (by have := HRG.out.2; have := HSML.out.n; have := HNN.out; omega) key (by have := HK5.out; omega)
        rw [HRG.out.1] at h
        exact h
      have HW6 := Lib.hid hw6
      have HP := Lib.hid hp
      clear hfr hf5 hf6 hw6 hp
      go_upto_region 18 with fail
      rw [← HW6.out, ← HP.out]
      clear HW6 HP
      go_wp2_with fail
      refine HDEL.out.mono ?_
      clear HDEL
      rintro e w7 ⟨⟨x7, rfl⟩, O7, hst7, hsp7⟩
      have hnb6 : ∀ k, Byt w6 k → ¬ O k := fun k hk hb => (HST.out.nofr HF6.out).nb hb hk
      have hOp : ¬ O p := fun hb => by
        have h1 := HST.out.lt hb
        have h2 := HF6.out.size
        have h3 := HB6.out
        have h4 : wr.heap.size ≤ p := HPW.out
        omega
      have HB7 : Hid (Bk w7 p 38 #[.bool true, .slice va vn vc, .int .i64 (homeOf key 3), .int .u64 0]) := HB6.out.fr hsp7.fr hOp
      have hrd7 : Rd w7 va (cb l) := HFR6.out.rd.fr hsp7.fr fun k hk => hnb6 k (HFR6.out.byt k hk)
      have hF7 : Fr NoBlk W w7 := (HF.out.trans HF6.out).step hsp7.fr fun i hi e => by have := HOO.out i e; omega
      have hvn : vn = l.length := HFR6.out.len
      have HSK : Hid (∀ w', Fr NoBlk w7 w' → w'.cell? ⟨p, 0, none⟩ = some (.bool true) ∧ w'.cell? ⟨p, 1, none⟩ = some (.slice va vn vc) ∧ w'.cell? ⟨p, 2, none⟩ = some (.int .i64 (homeOf key 3)) ∧ w'.cell? ⟨p, 3, none⟩ = some (.int .u64 0) ∧ (convert 31 9 (.slice va vn vc)).run Try.prog w' = .ok (.string (bstr l)) w' ∧ (convert 31 9 (.slice B L d)).run Try.prog w' = .ok (.string (bstr l)) w') := fun w' hw => by
        have hb := HB7.out.fr hw fun e => e
        exact ⟨hb.cell 0, hb.cell 1, hb.cell 2, hb.cell 3, strBs w' va vn vc l hvn (hrd7.nofr hw), strBs w' B L d l HLL.out (HL.out.1.nofr (hF7.trans hw))⟩
      have HG2 : Hid (∀ w', Fr NoBlk w7 w' → Calls Try.prog 16 #[.pointer (some ⟨g, 0, none⟩), .string (bstr key)] w' fun e w2 => ∃ a1 a2 a3 a4 a5, e = .returned (.agg #[.bool false, .slice a1 a2 a3, .int .i64 a4, .int .u64 a5]) ∧ Fr NoBlk w' w2) := fun w' hw => by
        have hr0 : rget ((3 : Nat) : Int) (rset rs key ⟨false, [], homeOf key 3, 0⟩) key = ⟨false, [], homeOf key 3, 0⟩ := rget_rset_no key _ rfl
        refine (sget_any w' g O7 3 _ (hst7.nofr hw) key (by have := HK5.out; omega) (by rw [hr0]; exact Nat.zero_le _)).mono ?_
        rintro e w2 ⟨v, rfl, hfr, hf⟩
        rw [hr0] at hfr
        obtain ⟨vh, ua, un, uc, um, ut⟩ := v
        obtain rfl : vh = false := hfr.has
        exact ⟨ua, un, uc, um, (ut : Int), rfl, hf⟩
      have HD : Hid (∀ w', Calls Try.prog 20 #[.string (bstr key), .int .i64 3] w' fun e w2 => e = .returned (.int .i64 (homeOf key 3)) ∧ w' = w2) := fun w' => default_any w' key 3 (by have := HK5.out; omega)
      have HF7 := Lib.hid hF7
      have hqq : ((bstr l).toList == (bstr l).toList) = true := eq_bstr rfl
      have hfld : ∀ (a1 : Option Addr) (a2 a3 : Nat) (a4 a5 : Int) (w : World), (Instr.field 38 (.agg #[.bool false, .slice a1 a2 a3, .int .i64 a4, .int .u64 a5]) 0).run Try.prog w = .ok (.bool false) w := fun a1 a2 a3 a4 a5 w => by kernel_rfl
      have hqh : (homeOf key 3 == homeOf key 3) = true := by simp
      clear hst7 hsp7 hnb6 hOp hrd7 hF7 hvn
      go_wp2_with fail
      refine wp_region_held_drew (S := fun w' => Fr NoBlk w7 w') (by kernel_rfl) ((Fr.refl _ _).drew) (fun hHeld => ?_)
      refine wpAnyH_take (i := 0) (oi := ⟨some 67, _, _, _, _, _⟩) (v := ?_) rfl (by kernel_rfl) (by kernel_rfl) (by kernel_rfl) (fun _ _ _ h => h) (Or.inl ⟨by rfl, ?_⟩) (by assumption) ?_
      rotate_left 1
      · (intro w hSw; (try dsimp only at hSw); obtain ⟨hS0, hS1, hS2, hS3, hS4, hS5⟩ := HSK.out _ hSw; go_simp) <;> (with_reducible rfl)
      try simp only [Act.put, List.setIfInBounds_toArray, List.set_cons_zero, List.set_cons_succ]
      refine wpAnyH_take (i := 1) (oi := ⟨some 68, _, _, _, _, _⟩) (v := ?_) rfl (by kernel_rfl) (by kernel_rfl) (by kernel_rfl) (fun _ _ _ h => h) (Or.inl ⟨by rfl, ?_⟩) (by assumption) ?_
      rotate_left 1
      · (intro w hSw; (try dsimp only at hSw); obtain ⟨hS0, hS1, hS2, hS3, hS4, hS5⟩ := HSK.out _ hSw; go_simp) <;> (with_reducible rfl)
      try simp only [Act.put, List.setIfInBounds_toArray, List.set_cons_zero, List.set_cons_succ]
      refine wpAnyH_take (i := 2) (oi := ⟨some 69, _, _, _, _, _⟩) (v := ?_) rfl (by kernel_rfl) (by kernel_rfl) (by kernel_rfl) (fun _ _ _ h => h) (Or.inl ⟨by rfl, ?_⟩) (by assumption) ?_
      rotate_left 1
      · (intro w hSw; (try dsimp only at hSw); obtain ⟨hS0, hS1, hS2, hS3, hS4, hS5⟩ := HSK.out _ hSw; go_simp) <;> (with_reducible rfl)
      try simp only [Act.put, List.setIfInBounds_toArray, List.set_cons_zero, List.set_cons_succ]
      refine wpAnyH_take (i := 3) (oi := ⟨some 70, _, _, _, _, _⟩) (v := ?_) rfl (by kernel_rfl) (by kernel_rfl) (by kernel_rfl) (fun _ _ _ h => h) (Or.inl ⟨by rfl, ?_⟩) (by assumption) ?_
      rotate_left 1
      · (intro w hSw; (try dsimp only at hSw); obtain ⟨hS0, hS1, hS2, hS3, hS4, hS5⟩ := HSK.out _ hSw; go_simp) <;> (with_reducible rfl)
      try simp only [Act.put, List.setIfInBounds_toArray, List.set_cons_zero, List.set_cons_succ]
      refine wpAnyH_take (i := 4) (oi := ⟨some 71, _, _, _, _, _⟩) (v := ?_) rfl (by kernel_rfl) (by kernel_rfl) (by kernel_rfl) (fun _ _ _ h => h) (Or.inl ⟨by rfl, ?_⟩) (by assumption) ?_
      rotate_left 1
      · (intro w hSw; (try dsimp only at hSw); obtain ⟨hS0, hS1, hS2, hS3, hS4, hS5⟩ := HSK.out _ hSw; go_simp) <;> (with_reducible rfl)
      try simp only [Act.put, List.setIfInBounds_toArray, List.set_cons_zero, List.set_cons_succ]
      refine wpAnyH_take (i := 5) (oi := ⟨some 72, _, _, _, _, _⟩) (v := ?_) rfl (by kernel_rfl) (by kernel_rfl) (by kernel_rfl) (fun _ _ _ h => h) (Or.inl ⟨by rfl, ?_⟩) (by assumption) ?_
      rotate_left 1
      · (intro w hSw; (try dsimp only at hSw); obtain ⟨hS0, hS1, hS2, hS3, hS4, hS5⟩ := HSK.out _ hSw; go_simp) <;> (with_reducible rfl)
      try simp only [Act.put, List.setIfInBounds_toArray, List.set_cons_zero, List.set_cons_succ]
      refine wpAnyH_take (i := 6) (oi := ⟨some 73, _, _, _, _, _⟩) (v := ?_) rfl (by kernel_rfl) (by kernel_rfl) (by kernel_rfl) (fun _ _ _ h => h) (Or.inl ⟨by rfl, ?_⟩) (by assumption) ?_
      rotate_left 1
      · (intro w hSw; (try dsimp only at hSw); obtain ⟨hS0, hS1, hS2, hS3, hS4, hS5⟩ := HSK.out _ hSw; go_simp) <;> (with_reducible rfl)
      try simp only [Act.put, List.setIfInBounds_toArray, List.set_cons_zero, List.set_cons_succ]
      refine wpAnyH_take (i := 7) (oi := ⟨some 74, _, _, _, _, _⟩) (v := ?_) rfl (by kernel_rfl) (by kernel_rfl) (by kernel_rfl) (fun _ _ _ h => h) (Or.inl ⟨by rfl, ?_⟩) (by assumption) ?_
      rotate_left 1
      · (intro w hSw; (try dsimp only at hSw); obtain ⟨hS0, hS1, hS2, hS3, hS4, hS5⟩ := HSK.out _ hSw; go_simp) <;> (with_reducible rfl)
      try simp only [Act.put, List.setIfInBounds_toArray, List.set_cons_zero, List.set_cons_succ]
      refine wpAnyH_take (i := 8) (oi := ⟨some 75, _, _, _, _, _⟩) (v := ?_) rfl (by kernel_rfl) (by kernel_rfl) (by kernel_rfl) (fun _ _ _ h => h) (Or.inl ⟨by rfl, ?_⟩) (by assumption) ?_
      rotate_left 1
      · (intro w hSw; (try dsimp only at hSw); obtain ⟨hS0, hS1, hS2, hS3, hS4, hS5⟩ := HSK.out _ hSw; go_simp) <;> (with_reducible rfl)
      try simp only [Act.put, List.setIfInBounds_toArray, List.set_cons_zero, List.set_cons_succ]
      refine wpAnyH_take (i := 9) (oi := ⟨some 76, _, _, _, _, _⟩) (v := ?_) rfl (by kernel_rfl) (by kernel_rfl) (by kernel_rfl) (fun _ _ _ h => h) (Or.inl ⟨by rfl, ?_⟩) (by assumption) ?_
      rotate_left 1
      · (intro w hSw; (try dsimp only at hSw); obtain ⟨hS0, hS1, hS2, hS3, hS4, hS5⟩ := HSK.out _ hSw; go_simp) <;> (with_reducible rfl)
      try simp only [Act.put, List.setIfInBounds_toArray, List.set_cons_zero, List.set_cons_succ]
      refine wpAnyH_take (i := 10) (oi := ⟨some 77, _, _, _, _, _⟩) (v := ?_) rfl (by kernel_rfl) (by kernel_rfl) (by kernel_rfl) (fun _ _ _ h => h) (Or.inl ⟨by rfl, ?_⟩) (by assumption) ?_
      rotate_left 1
      · (intro w hSw; (try dsimp only at hSw); obtain ⟨hS0, hS1, hS2, hS3, hS4, hS5⟩ := HSK.out _ hSw; go_simp) <;> (with_reducible rfl)
      try simp only [Act.put, List.setIfInBounds_toArray, List.set_cons_zero, List.set_cons_succ]
      refine wpAnyH_take (i := 11) (oi := ⟨some 78, _, _, _, _, _⟩) (v := ?_) rfl (by kernel_rfl) (by kernel_rfl) (by kernel_rfl) (fun _ _ _ h => h) (Or.inl ⟨by rfl, ?_⟩) (by assumption) ?_
      rotate_left 1
      · (intro w hSw; (try dsimp only at hSw); obtain ⟨hS0, hS1, hS2, hS3, hS4, hS5⟩ := HSK.out _ hSw; go_simp) <;> (with_reducible rfl)
      try simp only [Act.put, List.setIfInBounds_toArray, List.set_cons_zero, List.set_cons_succ]
      refine wpAnyH_take (i := 12) (oi := ⟨some 79, _, _, _, _, _⟩) (v := ?_) rfl (by kernel_rfl) (by kernel_rfl) (by kernel_rfl) (fun _ _ _ h => h) (Or.inl ⟨by rfl, ?_⟩) (by assumption) ?_
      rotate_left 1
      · (intro w hSw; (try dsimp only at hSw); obtain ⟨hS0, hS1, hS2, hS3, hS4, hS5⟩ := HSK.out _ hSw; go_simp) <;> (with_reducible rfl)
      try simp only [Act.put, List.setIfInBounds_toArray, List.set_cons_zero, List.set_cons_succ]
      refine wpAnyH_take (i := 13) (oi := ⟨some 80, _, _, _, _, _⟩) (v := ?_) rfl (by kernel_rfl) (by kernel_rfl) (by kernel_rfl) (fun _ _ _ h => h) (Or.inl ⟨by rfl, ?_⟩) (by assumption) ?_
      rotate_left 1
      · (intro w hSw; (try dsimp only at hSw); obtain ⟨hS0, hS1, hS2, hS3, hS4, hS5⟩ := HSK.out _ hSw; go_simp) <;> (with_reducible rfl)
      try simp only [Act.put, List.setIfInBounds_toArray, List.set_cons_zero, List.set_cons_succ]
      refine wpAnyH_take (i := 14) (oi := ⟨some 81, _, _, _, _, _⟩) (v := ?_) rfl (by kernel_rfl) (by kernel_rfl) (by kernel_rfl) (fun _ _ _ h => h) (Or.inl ⟨by rfl, ?_⟩) (by assumption) ?_
      rotate_left 1
      · (intro w hSw; (try dsimp only at hSw); obtain ⟨hS0, hS1, hS2, hS3, hS4, hS5⟩ := HSK.out _ hSw; go_simp) <;> (with_reducible rfl)
      try simp only [Act.put, List.setIfInBounds_toArray, List.set_cons_zero, List.set_cons_succ]
      refine wpAnyH_take (i := 15) (oi := ⟨some 82, _, _, _, _, _⟩) (v := ?_) rfl (by kernel_rfl) (by kernel_rfl) (by kernel_rfl) (fun _ _ _ h => h) (Or.inl ⟨by rfl, ?_⟩) (by assumption) ?_
      rotate_left 1
      · (intro w hSw; (try dsimp only at hSw); obtain ⟨hS0, hS1, hS2, hS3, hS4, hS5⟩ := HSK.out _ hSw; go_simp) <;> (with_reducible rfl)
      try simp only [Act.put, List.setIfInBounds_toArray, List.set_cons_zero, List.set_cons_succ]
      refine wpAnyH_take (i := 16) (oi := ⟨some 83, _, _, _, _, _⟩) (v := ?_) rfl (by kernel_rfl) (by kernel_rfl) (by kernel_rfl) (fun _ _ _ h => h) (Or.inl ⟨by rfl, ?_⟩) (by assumption) ?_
      rotate_left 1
      · (intro w hSw; (try dsimp only at hSw); obtain ⟨hS0, hS1, hS2, hS3, hS4, hS5⟩ := HSK.out _ hSw; go_simp) <;> (with_reducible rfl)
      try simp only [Act.put, List.setIfInBounds_toArray, List.set_cons_zero, List.set_cons_succ]
      refine wpAnyH_take (i := 17) (oi := ⟨some 84, _, _, _, _, _⟩) (v := ?_) rfl (by kernel_rfl) (by kernel_rfl) (by kernel_rfl) (fun _ _ _ h => h) (Or.inl ⟨by rfl, ?_⟩) (by assumption) ?_
      rotate_left 1
      · (intro w hSw; (try dsimp only at hSw); obtain ⟨hS0, hS1, hS2, hS3, hS4, hS5⟩ := HSK.out _ hSw; go_simp) <;> (with_reducible rfl)
      try simp only [Act.put, List.setIfInBounds_toArray, List.set_cons_zero, List.set_cons_succ]
      refine wpAnyH_take (i := 18) (oi := ⟨some 85, _, _, _, _, _⟩) (v := ?_) rfl (by kernel_rfl) (by kernel_rfl) (by kernel_rfl) (fun _ _ _ h => h) (Or.inl ⟨by rfl, ?_⟩) (by assumption) ?_
      rotate_left 1
      · (intro w hSw; (try dsimp only at hSw); obtain ⟨hS0, hS1, hS2, hS3, hS4, hS5⟩ := HSK.out _ hSw; go_simp) <;> (with_reducible rfl)
      try simp only [Act.put, List.setIfInBounds_toArray, List.set_cons_zero, List.set_cons_succ]
      refine wpAnyH_ready (rs := [19]) (by kernel_rfl) (by simp) ?_
      refine AllReadyH.cons (o := ⟨some 86, _, _, _, _, _⟩) rfl (fun K hK => ?_) AllReadyH.nil
      go_simp
      go_at_call 20
      refine (HD.out _).mono ?_
      rintro _ wc ⟨rfl, rfl⟩
      refine hK.out _ _ ?_ (fun hHeld => ?_)
      · assumption
      clear hK K
      try simp only [Act.put, List.setIfInBounds_toArray, List.set_cons_zero, List.set_cons_succ]
      refine wpAnyH_take (i := 20) (oi := ⟨some 87, _, _, _, _, _⟩) (v := ?_) rfl (by kernel_rfl) (by kernel_rfl) (by kernel_rfl) (fun _ _ _ h => h) (Or.inl ⟨by rfl, ?_⟩) (by assumption) ?_
      rotate_left 1
      · (intro w hSw; (try dsimp only at hSw); obtain ⟨hS0, hS1, hS2, hS3, hS4, hS5⟩ := HSK.out _ hSw; go_simp) <;> (with_reducible rfl)
      try simp only [Act.put, List.setIfInBounds_toArray, List.set_cons_zero, List.set_cons_succ]
      refine wpAnyH_take (i := 21) (oi := ⟨some 88, _, _, _, _, _⟩) (v := ?_) rfl (by kernel_rfl) (by kernel_rfl) (by kernel_rfl) (fun _ _ _ h => h) (Or.inl ⟨by rfl, ?_⟩) (by assumption) ?_
      rotate_left 1
      · (intro w hSw; (try dsimp only at hSw); obtain ⟨hS0, hS1, hS2, hS3, hS4, hS5⟩ := HSK.out _ hSw; go_simp) <;> (with_reducible rfl)
      try simp only [Act.put, List.setIfInBounds_toArray, List.set_cons_zero, List.set_cons_succ]
      refine wpAnyH_take (i := 22) (oi := ⟨some 89, _, _, _, _, _⟩) (v := ?_) rfl (by kernel_rfl) (by kernel_rfl) (by kernel_rfl) (fun _ _ _ h => h) (Or.inl ⟨by rfl, ?_⟩) (by assumption) ?_
      rotate_left 1
      · (intro w hSw; (try dsimp only at hSw); obtain ⟨hS0, hS1, hS2, hS3, hS4, hS5⟩ := HSK.out _ hSw; go_simp) <;> (with_reducible rfl)
      try simp only [Act.put, List.setIfInBounds_toArray, List.set_cons_zero, List.set_cons_succ]
      refine wpAnyH_take (i := 23) (oi := ⟨some 90, _, _, _, _, _⟩) (v := ?_) rfl (by kernel_rfl) (by kernel_rfl) (by kernel_rfl) (fun _ _ _ h => h) (Or.inl ⟨by rfl, ?_⟩) (by assumption) ?_
      rotate_left 1
      · (intro w hSw; (try dsimp only at hSw); obtain ⟨hS0, hS1, hS2, hS3, hS4, hS5⟩ := HSK.out _ hSw; go_simp) <;> (with_reducible rfl)
      try simp only [Act.put, List.setIfInBounds_toArray, List.set_cons_zero, List.set_cons_succ]
      refine wpAnyH_take (i := 24) (oi := ⟨some 91, _, _, _, _, _⟩) (v := ?_) rfl (by kernel_rfl) (by kernel_rfl) (by kernel_rfl) (fun _ _ _ h => h) (Or.inl ⟨by rfl, ?_⟩) (by assumption) ?_
      rotate_left 1
      · (intro w hSw; (try dsimp only at hSw); obtain ⟨hS0, hS1, hS2, hS3, hS4, hS5⟩ := HSK.out _ hSw; go_simp) <;> (with_reducible rfl)
      try simp only [Act.put, List.setIfInBounds_toArray, List.set_cons_zero, List.set_cons_succ]
      refine wpAnyH_ready (rs := [25]) (by kernel_rfl) (by simp) ?_
      refine AllReadyH.cons (o := ⟨some 92, _, _, _, _, _⟩) rfl (fun K hK => ?_) AllReadyH.nil
      go_simp
      go_at_call 16
      refine (HG2.out _ (by assumption)).mono ?_
      rintro _ wc ⟨a1, a2, a3, a4, a5, rfl, hfc⟩
      have HFC := Lib.hid (Fr.trans (by assumption) hfc)
      clear hfc hHeld
      refine hK.out _ _ ?_ (fun hHeld => ?_)
      · exact HFC.out
      clear hK K
      try simp only [Act.put, List.setIfInBounds_toArray, List.set_cons_zero, List.set_cons_succ]
      refine wpAnyH_take (i := 26) (oi := ⟨some 93, _, _, _, _, _⟩) (v := ?_) rfl (by kernel_rfl) (by kernel_rfl) (by kernel_rfl) (fun _ _ _ h => h) (Or.inl ⟨by rfl, ?_⟩) (by assumption) ?_
      rotate_left 1
      · (intro w hSw; (try dsimp only at hSw); obtain ⟨hS0, hS1, hS2, hS3, hS4, hS5⟩ := HSK.out _ hSw; go_simp) <;> (with_reducible rfl)
      try simp only [Act.put, List.setIfInBounds_toArray, List.set_cons_zero, List.set_cons_succ]
      refine wpAnyH_take (i := 27) (oi := ⟨some 94, _, _, _, _, _⟩) (v := ?_) rfl (by kernel_rfl) (by kernel_rfl) (by kernel_rfl) (fun _ _ _ h => h) (Or.inl ⟨by rfl, ?_⟩) (by assumption) ?_
      rotate_left 1
      · (intro w hSw; (try dsimp only at hSw); obtain ⟨hS0, hS1, hS2, hS3, hS4, hS5⟩ := HSK.out _ hSw; go_simp) <;> (with_reducible rfl)
      try simp only [Act.put, List.setIfInBounds_toArray, List.set_cons_zero, List.set_cons_succ]
      refine wpAnyH_take (i := 28) (oi := ⟨some 95, _, _, _, _, _⟩) (v := ?_) rfl (by kernel_rfl) (by kernel_rfl) (by kernel_rfl) (fun _ _ _ h => h) (Or.inl ⟨by rfl, ?_⟩) (by assumption) ?_
      rotate_left 1
      · (intro w hSw; (try dsimp only at hSw); obtain ⟨hS0, hS1, hS2, hS3, hS4, hS5⟩ := HSK.out _ hSw; go_simp) <;> (with_reducible rfl)
      try simp only [Act.put, List.setIfInBounds_toArray, List.set_cons_zero, List.set_cons_succ]
      refine wpAnyH_take (i := 29) (oi := ⟨some 6, _, _, _, _, _⟩) (v := ?_) rfl (by kernel_rfl) (by kernel_rfl) (by kernel_rfl) (fun _ _ _ h => h) (Or.inl ⟨by rfl, ?_⟩) (by assumption) ?_
      rotate_left 1
      · (intro w hSw; (try dsimp only at hSw); obtain ⟨hS0, hS1, hS2, hS3, hS4, hS5⟩ := HSK.out _ hSw; go_simp) <;> (with_reducible rfl)
      try simp only [Act.put, List.setIfInBounds_toArray, List.set_cons_zero, List.set_cons_succ]
      refine wpAnyH_done (by kernel_rfl) ?_ _
      go_wp2_with fail
      go_ret
      exact ⟨rfl, HF7.out.trans HFC.out⟩

theorem paramsOk : ∀ t ∈ Try.f8.params.toList, Try.prog.readableRec t = true ∧ t < Try.prog.types.size := fun t ht => by
  have h := List.all_eq_true.1 (show (Try.f8.params.toList.all fun t => Try.prog.readableRec t && decide (t < Try.prog.types.size)) = true by kernel_rfl) t ht
  simpa using h

set_option maxRecDepth 100000 in
theorem lifted (os : Os) (started : os.Started) (H : Type) (enc : TypeId × Value → H) :
    ReturnsInHanded {} Try.checked os 8 .any (Rows.storeLastSpec.pre6 enc Try.prog Try.f8 Rows.storeLastRow.domain false) (Rows.storeLastSpec.post enc Try.prog Try.f8 false true false false) := by
  refine returnsInHanded_of_change (C := Try.checked) own started (by kernel_rfl) Try.func8
    (ChangeSpec.witness6 (enc := enc) (C := Try.checked) false ⟨#[], #[.slice none 0 0, .string { data := #[] }, .slice none 0 0], []⟩ 8 (by kernel_rfl) (by kernel_rfl) (by kernel_rfl) (by kernel_rfl)) ?_
  intro W base args ds gs before hval0 hW _ _
  have hval : ∀ (j : Nat) t v, Try.f8.params[j]? = some t → args[j]? = some v → Value.okWide Try.prog W .any base t v := hval0
  have hW' := hW
  obtain ⟨p, q, hA0, hV, rfl, _, _⟩ := hW
  have hA : DataW.TrodAll enc Try.prog W 0 (fun _ => true) true Try.f8.params.toList args.toList ds p := hA0
  rw [Try.params8] at hA hval
  obtain ⟨v0, vs0, d0, ds0, p0, q0, hargs, rfl, rfl, h0, r0⟩ := trodAll_cons hA
  obtain ⟨v1, vs1, d1, ds1, p1, q1, rfl, rfl, rfl, h1, r1⟩ := trodAll_cons r0
  obtain ⟨v2, vs2, d2, ds2, p2, q2, rfl, rfl, rfl, h2, r2⟩ := trodAll_cons r1
  obtain ⟨rfl, rfl, rfl⟩ := trodAll_nil r2
  obtain rfl : args = #[v0, v1, v2] := by cases args; simp_all
  obtain ⟨rfl, rfl⟩ := trodVars_none hV
  obtain ⟨A, c, l, rfl, hr, hx, hn, hm⟩ := open_ops (hval 0 _ v0 rfl rfl) h0
  obtain ⟨ky, rfl, rfl, rfl, wk⟩ := Go.ChangeMaps.open_string Try.underlying9 (hval 1 _ v1 rfl rfl) h1
  obtain ⟨B, d, vl, rfl, hB, hBn, hBc, hBm⟩ := open_bytes (hval 2 _ v2 rfl rfl) h2
  have walk := walk W A c l hr hx (Nat.le_trans hn hm) ky.data.toList (by rw [size_of]; exact wk) B d vl hB hBn (Nat.le_trans hBc hBm)
  rw [bstr_eta] at walk
  clear hA0 hval0
  refine walk.mono fun e W' ⟨he, hf⟩ => ?_
  subst he
  exact ⟨_, rfl, law_post laidOut paramsOk rfl rfl Try.underlying4 hW' rfl rfl rfl hf⟩

theorem said : Rows.StoreLastSaid :=
  OpenClaim.holds_of_wide 8 Try.f8 rfl rfl rfl rfl rfl rfl rfl ⟨rfl, rfl, rfl, rfl, rfl⟩ rfl rfl rfl rfl rfl (by kernel_rfl) Try.func8 (by kernel_rfl)
    (of_decide_eq_true (by kernel_rfl)) (by unfold Func.isWrapper; first | (rw [if_pos (by decide +kernel)]; kernel_rfl) | (rw [if_neg (by decide +kernel)]; exact ⟨rfl, rfl⟩))
    (fun os started H enc _ => lifted os started H enc)
end Go.Proofs.Ytfifpgefdcgbgaa.storeLast
