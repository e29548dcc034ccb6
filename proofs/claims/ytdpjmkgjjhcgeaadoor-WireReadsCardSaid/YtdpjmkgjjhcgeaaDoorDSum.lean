/- The document's check sum, coefficient by coefficient, comes to Crc.crc. Condition: the row of bytes is short. -/
import Derived.Test.YtdpjmkgjjhcgeaaDoorDSumP
import Derived.Deep.DeepCutAuto
import Derived.RegionTactic
namespace Go.Proofs.YtdpjmkgjjhcgeaaDoor
open Go.RowKit

theorem intInfo : (Tryd.prog.info? 3).map (fun i => (i.zero, i.size, i.bytes)) = some (some (.int .i64 0), 1, 8) := by kernel_rfl
theorem i64_and_one (m : Nat) (hm : m < 256) : bits .and .i64 ((m : Nat) : Int) 1 = ((m % 2 : Nat) : Int) := by
  show IntKind.i64.wrap (((BitVec.ofInt 64 (m : Int) &&& BitVec.ofInt 64 1).toNat : Nat) : Int) = _
  have h : (BitVec.ofInt 64 (m : Int) &&& BitVec.ofInt 64 1).toNat = m % 2 := by
    rw [BitVec.toNat_and, BitVec.ofInt_natCast, BitVec.toNat_ofNat, show (BitVec.ofInt 64 1).toNat = 1 by decide, Nat.mod_eq_of_lt (by omega), Nat.and_one_is_mod]
  rw [h]
  exact IntWalk.i64_in _ (by omega)
theorem wrap64_bit (n : Int) (h : -9223372036854775808 ≤ n ∧ n ≤ 9223372036854775807) : wrap64 n = n := by
  unfold wrap64
  omega
theorem and_bit (x : UInt8) (k : Nat) : bits .and .i64 (wrap64 ((x.toNat : Int) / 2 ^ k)) 1 = bi (x.toBitVec.getLsbD k) := by
  have hd : x.toNat / 2 ^ k ≤ x.toNat := Nat.div_le_self _ _
  have hx := x.toNat_lt
  rw [show ((x.toNat : Int) / 2 ^ k) = ((x.toNat / 2 ^ k : Nat) : Int) by rw [Int.natCast_ediv]; simp, ← byte_bit]
  generalize x.toNat / 2 ^ k = m at *
  rw [wrap64_bit _ (by omega), i64_and_one _ (by omega)]
theorem ib_cell {w : World} {base n : Nat} {v : Value} {L : List Bool} (h : w.ownsRow base 3 1 v n (ib L)) (hp : 0 < n) (hn : L.length = n) :
    ∃ g c, v = .slice (some ⟨g, 0, none⟩) n c ∧ base ≤ g ∧ n ≤ c ∧ (∀ k, k < n → w.cell? ⟨g, k, none⟩ = some (.int .i64 (bi (L.getD k false)))) ∧ ∀ k, w.frozen? ⟨g, k, none⟩ = false := by
  rcases h.2 with ⟨hv, hx⟩ | ⟨g, cap, cur, hv, hb, hg, hnc, hcm, hcs, htake⟩
  · omega
  · subst hv
    refine ⟨g, cap, rfl, hb, hnc, fun k hk => ?_, fun k => h.frozenAt k⟩
    rw [h.cellAt k (by omega), ib_get L k (by omega)]
theorem ib_store {w : World} {base g c n : Nat} {L : List Bool} (h : w.ownsRow base 3 1 (.slice (some ⟨g, 0, none⟩) n c) n (ib L)) (k : Nat) :
    (w.setCell ⟨g, k, none⟩ (.int .i64 (bi (!(L.getD k false))))).ownsRow base 3 1 (.slice (some ⟨g, 0, none⟩) n c) n (ib (tog L k)) := by
  have := (h.stored k (.int .i64 (bi (!(L.getD k false))))).1
  rw [ib_set] at this
  exact this
theorem acc_next (c k : Nat) (hc : c < 2 ^ 32) (h : c % 2 ^ (k + 1) = c % 2 ^ k + 2 ^ k) : (((c : Int) % 2 ^ k + 2 ^ k % 4294967296) % 4294967296) = ((c % 2 ^ (k + 1) : Nat) : Int) := by
  have hs : c % 2 ^ k + 2 ^ k < 2 ^ 32 := by rw [← h]; exact Nat.lt_of_le_of_lt (Nat.mod_le _ _) hc
  rw [h, show ((2 : Int) ^ k) = ((2 ^ k : Nat) : Int) by simp, ← Int.natCast_emod]
  generalize 2 ^ k = P at *
  generalize c % P = M at *
  omega
def pw : Array Value := #[.int .i64 32, .int .i64 28, .int .i64 27, .int .i64 26, .int .i64 25, .int .i64 23, .int .i64 22, .int .i64 20, .int .i64 19, .int .i64 18, .int .i64 14, .int .i64 13, .int .i64 11, .int .i64 10, .int .i64 9, .int .i64 8, .int .i64 6, .int .i64 0]
theorem pw_get (k : Nat) (hk : k < 18) : pw[k]? = some (.int .i64 ((powers.getD k 0 : Nat) : Int)) := by
  match k, hk with
  | 0, _ => rfl
  | 1, _ => rfl
  | 2, _ => rfl
  | 3, _ => rfl
  | 4, _ => rfl
  | 5, _ => rfl
  | 6, _ => rfl
  | 7, _ => rfl
  | 8, _ => rfl
  | 9, _ => rfl
  | 10, _ => rfl
  | 11, _ => rfl
  | 12, _ => rfl
  | 13, _ => rfl
  | 14, _ => rfl
  | 15, _ => rfl
  | 16, _ => rfl
  | 17, _ => rfl
  | k + 18, h => exact absurd h (by omega)
theorem pow_le (k : Nat) : powers.getD k 0 ≤ 32 := by
  by_cases h : k < 18
  · have : ∀ k, k < 18 → powers.getD k 0 ≤ 32 := by decide
    exact this k h
  · rw [List.getD_eq_getElem?_getD, List.getElem?_eq_none (by show 18 ≤ k; omega)]; simp

set_option maxRecDepth 100000 in
set_option maxHeartbeats 8000000 in
theorem dsum_any (w : World) (A : Option Addr) (n c : Nat) (l : List UInt8) (hn : n = l.length) (hr : Rd w A (cb l)) (hm : l.length ≤ 1000000) :
    Calls Tryd.prog 24 #[.slice A n c] w fun e w' => e = .returned (.int .u32 ((Crc.crc l).toNat : Int)) ∧ Fr NoBlk w w' := by
  subst hn
  obtain ⟨i0, hi, hz0, hz1, hz2⟩ := info_parts intInfo
  have HR := Lib.hid hr
  clear hr
  have HO0 : Hid ((w.alloc (.cells #[] 3)).ownsRow w.heap.size 3 1 (.slice (some ⟨w.heap.size, 0, none⟩) 0 0) 0 []) := World.ownsRow_made w #[] 0 (Nat.le_refl _) (by decide) rfl
  have HF0 : Hid (Fr NoBlk w (w.alloc (.cells #[] 3))) := (Fr.refl _ _).alloc _
  go_enter Tryd.func24, Tryd.ntmps24
  go_wp2_with fail
  go_loopw [3, 4] (fun v z wr => ∃ (i : Nat) (v3 : Value), v3 = v ∧ i ≤ l.length ∧ z = .int .i64 i ∧ Hid (wr.ownsRow w.heap.size 3 1 v3 (8 * i) (ib (Crc.bitsOf (l.take i)))) ∧ Hid (Fr NoBlk w wr)) (fun _ z _ => l.length - (intOf z).toNat)
  case atStart => exact ⟨0, _, rfl, by omega, rfl, HO0, HF0⟩
  case round =>
    obtain ⟨i, v3, rfl, hil, rfl, HO, HF⟩ := hrel
    by_cases hlt : i < l.length
    · have HL1 : Hid (wr.ownsRow w.heap.size 3 1 v3 (8 * i + 0) (ib (Crc.bitsOf (l.take i) ++ (Crc.byteBits (l.getD i 0)).take 0))) := by
        have h := HO.out
        rw [List.take_zero, List.append_nil]
        exact h
      have i0' : (0 : Int) ≤ (i : Int) := by omega
      have i1' : (i : Int) < (l.length : Int) := by omega
      obtain ⟨x, hx⟩ : ∃ x, x = l.getD i 0 := ⟨_, rfl⟩
      have HX := Lib.hid hx
      rw [← hx] at HL1
      clear hx
      go_wp2_with fail
      go_loopw [3, 5] (fun v z wr => ∃ (k : Nat) (v3 : Value), v3 = v ∧ k ≤ 8 ∧ z = .int .i64 k ∧ Hid (wr.ownsRow w.heap.size 3 1 v3 (8 * i + k) (ib (Crc.bitsOf (l.take i) ++ (Crc.byteBits x).take k))) ∧ Hid (Fr NoBlk w wr)) (fun _ z _ => 8 - (intOf z).toNat)
      case atStart => exact ⟨0, _, rfl, by omega, rfl, HL1, HF⟩
      case round =>
        clear HO HF HL1
        obtain ⟨k, v4, rfl, hk8, rfl, HO, HF⟩ := hrel
        by_cases hk : k < 8
        · obtain ⟨b, o, hA, hc⟩ := (HR.out.nofr HF.out).byte (k := i) hlt
          rw [← HX.out] at hc
          subst hA
          have e1 := and_bit x k
          have HBT := Lib.hid (byteBits_take x k hk)
          generalize x.toBitVec.getLsbD k = bt at e1 HBT
          have HFA : Hid (Fr NoBlk w (wr.alloc (.cells #[.int .i64 (bi bt)] 3))) := HF.out.alloc _
          have hbs : w.heap.size ≤ wr.heap.size := HF.out.size
          go_wp2_with (at_builtin; refine wpList_app rfl _ _ 80 rfl w.heap.size 3 i0 (.int .i64 0) 8 Tryd.underlying80 hi hz0 hz1 hz2 rfl _ _ _ rfl (HO.out.alloc _) (some ⟨wr.heap.size, 0, none⟩) 1 1 [.int .i64 (bi bt)] rfl rfl ?c1 ?c2 ?c3 ?c4 ?c5 ?c6 ?_)
          case c1 => exact Rd.of_cells (Bk.new _ _ _)
          case c2 => exact ib_one [bt]
          case c3 => intro h; cases h
          case c4 => unfold maxLen; omega
          case c5 => omega
          case c6 => simp; omega
          intro v5 w5 ho5 hg5 _ hb5
          have HO5 : Hid (w5.ownsRow w.heap.size 3 1 v5 (8 * i + (k + 1)) (ib (Crc.bitsOf (l.take i) ++ (Crc.byteBits x).take (k + 1)))) := by
            show World.ownsRow _ _ _ _ _ _ _
            rw [HBT.out, ← List.append_assoc, ib_append]
            exact ho5
          have HF5 := Lib.hid (HFA.out.grown hg5 (fun q hq hlt => absurd (own_blk HO.out hq).1 (by omega)))
          clear ho5 hg5 hb5
          go_wp2_with fail
          go_roundw
          case rel => exact ⟨k + 1, _, rfl, by omega, by go_num, HO5, HF5⟩
          case measure => simp [intOf]; omega
        · obtain rfl : k = 8 := by omega
          have HO8 : Hid (wr.ownsRow w.heap.size 3 1 v4 (8 * (i + 1)) (ib (Crc.bitsOf (l.take (i + 1))))) := by
            have h := HO.out
            rw [byteBits_all] at h
            show World.ownsRow _ _ _ _ _ _ _
            rw [bits_take l i hlt, ← HX.out]
            exact h
          go_wp2_with fail
          go_roundw
          case rel => exact ⟨i + 1, _, rfl, by omega, by go_num, HO8, HF⟩
          case measure => simp [intOf]; omega
    · obtain rfl : i = l.length := by omega
      have HO1 : Hid (wr.ownsRow w.heap.size 3 1 v3 (8 * l.length + 0) (ib (Crc.bitsOf l ++ List.replicate 0 false))) := by
        have h := HO.out
        rw [List.take_of_length_le (Nat.le_refl _)] at h
        rw [List.replicate_zero, List.append_nil]
        exact h
      go_wp2_with fail
      go_loopw [3, 6] (fun v z wr => ∃ (k : Nat) (v3 : Value), v3 = v ∧ k ≤ 32 ∧ z = .int .i64 k ∧ Hid (wr.ownsRow w.heap.size 3 1 v3 (8 * l.length + k) (ib (Crc.bitsOf l ++ List.replicate k false))) ∧ Hid (Fr NoBlk w wr)) (fun _ z _ => 32 - (intOf z).toNat)
      case atStart => exact ⟨0, _, rfl, by omega, rfl, HO1, HF⟩
      case round =>
        clear HO HF HO1
        obtain ⟨k, v4, rfl, hk32, rfl, HO, HF⟩ := hrel
        by_cases hk : k < 32
        · have HFA : Hid (Fr NoBlk w (wr.alloc (.cells #[.int .i64 0] 3))) := HF.out.alloc _
          have hbs : w.heap.size ≤ wr.heap.size := HF.out.size
          go_wp2_with (at_builtin; refine wpList_app rfl _ _ 80 rfl w.heap.size 3 i0 (.int .i64 0) 8 Tryd.underlying80 hi hz0 hz1 hz2 rfl _ _ _ rfl (HO.out.alloc _) (some ⟨wr.heap.size, 0, none⟩) 1 1 [.int .i64 0] rfl rfl ?c1 ?c2 ?c3 ?c4 ?c5 ?c6 ?_)
          case c1 => exact Rd.of_cells (Bk.new _ _ _)
          case c2 => exact ib_one [false]
          case c3 => intro h; cases h
          case c4 => unfold maxLen; omega
          case c5 => omega
          case c6 => simp; omega
          intro v5 w5 ho5 hg5 _ hb5
          have HO5 : Hid (w5.ownsRow w.heap.size 3 1 v5 (8 * l.length + (k + 1)) (ib (Crc.bitsOf l ++ List.replicate (k + 1) false))) := by
            show World.ownsRow _ _ _ _ _ _ _
            rw [List.replicate_succ', ← List.append_assoc, ib_append]
            exact ho5
          have HF5 := Lib.hid (HFA.out.grown hg5 (fun q hq hlt => absurd (own_blk HO.out hq).1 (by omega)))
          clear ho5 hg5 hb5
          go_wp2_with fail
          go_roundw
          case rel => exact ⟨k + 1, _, rfl, by omega, by go_num, HO5, HF5⟩
          case measure => simp [intOf]; omega
        · obtain rfl : k = 32 := by omega
          have HML := Lib.hid (msg_len l)
          have HD0 : Hid (Flip (Crc.bitsOf l ++ List.replicate 32 false) 0 (Crc.bitsOf l ++ List.replicate 32 false)) := Flip.start _
          obtain ⟨nn, hnn⟩ : ∃ nn, nn = 8 * l.length + 32 := ⟨_, rfl⟩
          have HO2 := HO
          rw [← hnn] at HO2
          obtain ⟨g, cp, rfl, hgb, hcp, _, _⟩ := ib_cell HO2.out (by omega) (by rw [HML.out, hnn])
          have HNN := Lib.hid hnn
          have hn1 : 8 * l.length + 32 ≤ nn := by omega
          have hn2 : nn ≤ 8 * l.length + 32 := by omega
          have HGB := Lib.hid hgb
          clear hnn hgb
          have hcp' : (nn : Int) ≤ (cp : Int) := by omega
          go_wp2_with fail
          go_loopw [7] (fun z wr => ∃ (k : Nat) (L : List Bool), k ≤ 32 ∧ z = .int .i64 k ∧ Hid (Flip (Crc.bitsOf l ++ List.replicate 32 false) k L) ∧ Hid (wr.ownsRow w.heap.size 3 1 (.slice (some ⟨g, 0, none⟩) nn cp) nn (ib L)) ∧ Hid (Fr NoBlk w wr)) (fun z _ => 32 - (intOf z).toNat)
          case atStart => exact ⟨0, _, by omega, rfl, HD0, HO2, HF⟩
          case round =>
            clear HO HF HO2 HD0
            obtain ⟨k, L, hk32, rfl, HL, HO, HF⟩ := hrel
            have HLl : Hid (L.length = nn) := by show _ = _; rw [HL.out.len, HML.out, HNN.out]
            obtain ⟨_, _, hv, _, _, hcell, hfr⟩ := ib_cell HO.out (by omega) HLl.out
            injection hv with hv1 hv2 hv3
            injection hv1 with hv1
            injection hv1 with hv1 hv4 hv5
            subst hv1 hv3
            clear hv2 hv4 hv5
            by_cases hk : k < 32
            · have hc := hcell k (by omega)
              have hf := hfr k
              have e1 : wrap64 (1 - bi (L.getD k false)) = bi (!(L.getD k false)) := by rw [bi_not]; exact wrap64_bit _ (by cases L.getD k false <;> decide)
              have e2 : IntKind.i64.wrap (1 - bi (L.getD k false)) = bi (!(L.getD k false)) := by rw [bi_not]; exact IntWalk.i64_in _ (by cases L.getD k false <;> decide)
              have HN := Lib.hid (HL.out.next (by rw [HML.out]; omega))
              have HST := Lib.hid (ib_store HO.out k)
              have HF2 := Lib.hid (HF.out.setCell (p := ⟨g, k, none⟩) (fun h => absurd h (by have := HGB.out; show ¬ g < _; omega)) (.int .i64 (bi (!(L.getD k false)))))
              have i1' : (k : Int) < (nn : Int) := by omega
              generalize L.getD k false = bt at *
              clear hcell hfr
              go_wp2_with fail
              go_roundw
              case rel => exact ⟨k + 1, _, by omega, by go_num, HN, HST, HF2⟩
              case measure => simp [intOf]; omega
            · have HK : Hid (k = 32) := by show _ = _; omega
              have HDA : Hid (DivAt l 0 L) := DivAt.start (by have := HL.out; rwa [HK.out] at this)
              have HP : Hid (Fr NoBlk w (wr.alloc (.cells #[.int .i64 32, .int .i64 28, .int .i64 27, .int .i64 26, .int .i64 25, .int .i64 23, .int .i64 22, .int .i64 20, .int .i64 19, .int .i64 18, .int .i64 14, .int .i64 13, .int .i64 11, .int .i64 10, .int .i64 9, .int .i64 8, .int .i64 6, .int .i64 0] 81))) := HF.out.alloc _
              clear hcell hfr
              go_upto_region 17 with fail
              go_cut [8] (fun s8 wx => ∃ gp : Nat, s8 = .pointer (some ⟨gp, 0, none⟩) ∧ Hid (wr.heap.size ≤ gp) ∧ Hid (Bk wx gp 81 pw) ∧ Hid (Fr NoBlk wr wx))
              case first =>
                go_wp2_with fail
                go_meet
                exact ⟨_, rfl, Nat.le_refl _, Bk.new _ _ _, (Fr.refl _ _).alloc _⟩
              case rest =>
                obtain ⟨gp, rfl, HGP, HBP, HFP⟩ := hcut
                have HO5 : Hid (wc.ownsRow w.heap.size 3 1 (.slice (some ⟨g, 0, none⟩) nn cp) nn (ib L)) := own_fr HO.out HFP.out (fun _ _ h => h)
                have HF5 := Lib.hid (HF.out.trans HFP.out)
                clear HF HO HL HFP HGP HLl
                go_wp2_with fail
                go_loopw [9] (fun z wx => ∃ (i : Nat) (L : List Bool), i ≤ 8 * l.length ∧ z = .int .i64 i ∧ Hid (DivAt l i L) ∧ Hid (wx.ownsRow w.heap.size 3 1 (.slice (some ⟨g, 0, none⟩) nn cp) nn (ib L)) ∧ Hid (Bk wx gp 81 pw) ∧ Hid (Fr NoBlk w wx)) (fun z _ => 8 * l.length - (intOf z).toNat)
                case atStart => exact ⟨0, L, by omega, rfl, HDA, HO5, HBP, HF5⟩
                case round =>
                  clear HDA HO5 HBP HF5
                  obtain ⟨i, L, hi8, rfl, HD, HO, HB, HF⟩ := hrel
                  have HLl : Hid (L.length = nn) := by show _ = _; rw [HD.out.len, HNN.out]
                  obtain ⟨_, _, hv, _, _, hcell, hfr⟩ := ib_cell HO.out (by omega) HLl.out
                  injection hv with hv1 hv2 hv3
                  injection hv1 with hv1
                  injection hv1 with hv1 hv4 hv5
                  subst hv1 hv3
                  clear hv2 hv4 hv5
                  by_cases hlt : i + 32 < nn
                  · have i1' : (i : Int) + 32 < (nn : Int) := by omega
                    have i2' : (i : Int) < (nn : Int) := by omega
                    cases hb : L.getD i false with
                    | false =>
                      have hc : wr.cell? ⟨g, i, none⟩ = some (.int .i64 0) := by rw [hcell i (by omega), hb]; rfl
                      have HN := Lib.hid (HD.out.off (by omega) hb)
                      clear hcell hfr hb
                      go_wp2_with fail
                      go_roundw
                      case rel => exact ⟨i + 1, L, by omega, by go_num, HN, HO, HB, HF⟩
                      case measure => simp [intOf]; omega
                    | true =>
                      have hc : wr.cell? ⟨g, i, none⟩ = some (.int .i64 1) := by rw [hcell i (by omega), hb]; rfl
                      have HN := Lib.hid (HD.out.on (by omega) hb)
                      have HO6 : Hid (wr.ownsRow w.heap.size 3 1 (.slice (some ⟨g, 0, none⟩) nn cp) nn (ib (togs L i (powers.take 0)))) := HO
                      clear hcell hfr hb
                      go_wp2_with fail
                      go_loopw [10] (fun z wx => ∃ k : Nat, k ≤ 18 ∧ z = .int .i64 k ∧ Hid (wx.ownsRow w.heap.size 3 1 (.slice (some ⟨g, 0, none⟩) nn cp) nn (ib (togs L i (powers.take k)))) ∧ Hid (Bk wx gp 81 pw) ∧ Hid (Fr NoBlk w wx)) (fun z _ => 18 - (intOf z).toNat)
                      case atStart => exact ⟨0, by omega, rfl, HO6, HB, HF⟩
                      case round =>
                        clear HO HB HF HO6 hc
                        obtain ⟨k, hk18, rfl, HO, HB, HF⟩ := hrel
                        by_cases hk : k < 18
                        · obtain ⟨p, hp⟩ : ∃ p, p = powers.getD k 0 := ⟨_, rfl⟩
                          have hp32 := pow_le k
                          have hpc : wr.cell? ⟨gp, k, none⟩ = some (.int .i64 ((powers.getD k 0 : Nat) : Int)) := (HB.out.cell k).trans (pw_get k hk)
                          rw [← hp] at hp32 hpc
                          obtain ⟨q, hq⟩ : ∃ q, q = i + 32 - p := ⟨_, rfl⟩
                          have HTL : Hid ((togs L i (powers.take k)).length = nn) := by show _ = _; rw [togs_len, HLl.out]
                          obtain ⟨_, _, hv, _, _, hcell, hfr⟩ := ib_cell HO.out (by omega) HTL.out
                          injection hv with hv1 hv2 hv3
                          injection hv1 with hv1
                          injection hv1 with hv1 hv4 hv5
                          subst hv1 hv3
                          clear hv2 hv4 hv5
                          have hcq := hcell q (by omega)
                          have hfq := hfr q
                          have HST := Lib.hid (ib_store HO.out q)
                          have HNX : Hid (togs L i (powers.take (k + 1)) = tog (togs L i (powers.take k)) q) := by show _ = _; rw [togs_next L i k hk, ← hp, ← hq]
                          have hne : gp ≠ g := by
                            rintro rfl
                            have h1 := HB.out
                            rcases HO.out.2 with ⟨h2, _⟩ | ⟨g', cap', cur', h2, _, h3, _⟩
                            · cases h2
                            · injection h2 with h2
                              injection h2 with h2
                              injection h2 with h2
                              subst h2
                              unfold Bk at h1
                              rw [h1] at h3
                              injection h3 with h3
                              injection h3 with _ h3
                              exact absurd h3 (by decide)
                          have HB2 := Lib.hid (HB.out.far (p := ⟨g, q, none⟩) hne (.int .i64 (bi (!((togs L i (powers.take k)).getD q false)))))
                          have HF2 := Lib.hid (HF.out.setCell (p := ⟨g, q, none⟩) (fun h => absurd h (by have := HGB.out; show ¬ g < _; omega)) (.int .i64 (bi (!((togs L i (powers.take k)).getD q false)))))
                          generalize (togs L i (powers.take k)).getD q false = bt at *
                          have hW1 : IntKind.i64.wrap ((i : Int) + 32) = (i : Int) + 32 := IntWalk.i64_in _ (by omega)
                          have hW2 : IntKind.i64.wrap ((i : Int) + 32 - (p : Int)) = (q : Int) := by rw [IntWalk.i64_in _ (by omega)]; omega
                          have hW3 : IntKind.i64.wrap (1 - bi bt) = bi (!bt) := by rw [bi_not]; exact IntWalk.i64_in _ (by cases bt <;> decide)
                          have q0 : (0 : Int) ≤ (q : Int) := by omega
                          have q1 : (q : Int) < (nn : Int) := by omega
                          have k0 : (0 : Int) ≤ (k : Int) := by omega
                          have k1 : (k : Int) < 18 := by omega
                          clear hcell hfr hp hq
                          go_wp2_with fail
                          go_region
                          all_goals
                            go_wp2_with fail
                            go_roundw
                            case rel =>
                              refine ⟨k + 1, by omega, by go_num, ?_, ?_, ?_⟩
                              · show World.ownsRow _ _ _ _ _ _ _
                                rw [HNX.out]
                                exact HST.out
                              · exact HB2.out
                              · first | exact HF2.out | exact HF2.out.drew
                            case measure => simp [intOf]; omega
                        · have HK18 : Hid (wr.ownsRow w.heap.size 3 1 (.slice (some ⟨g, 0, none⟩) nn cp) nn (ib (togs L i powers))) := by
                            have e : k = 18 := by omega
                            have h := HO.out
                            rw [e] at h
                            exact h
                          go_wp2_with fail
                          go_roundw
                          case rel => exact ⟨i + 1, _, by omega, by go_num, HN, HK18, HB, HF⟩
                          case measure => simp [intOf]; omega
                  · have HI : Hid (i = 8 * l.length) := by show _ = _; omega
                    have HDF : Hid (∀ k, k < 32 → (!(L.getD (8 * l.length + k) false)) = (Crc.crc l).getLsbD k) := by
                      have h := HD.out
                      rw [HI.out] at h
                      exact h.fin
                    have HCL := Lib.hid hcell
                    have i1' : (nn : Int) ≤ (i : Int) + 32 := by omega
                    clear hcell hfr HD
                    go_wp2_with fail
                    go_loop [11, 12] (fun o z => ∃ k : Nat, k ≤ 32 ∧ z = .int .i64 k ∧ o = .int .u32 (((Crc.crc l).toNat % 2 ^ k : Nat) : Int)) (fun _ z => 32 - (intOf z).toNat)
                    case atStart => exact ⟨0, by omega, rfl, by rw [Nat.pow_zero, Nat.mod_one]; rfl⟩
                    case round =>
                      obtain ⟨k, hk32, rfl, rfl⟩ := hrel
                      by_cases hk : k < 32
                      · have hc := HCL.out (8 * l.length + k) (by omega)
                        have HBQ := Lib.hid (HDF.out k hk)
                        have HLN := Lib.hid (low_next (Crc.crc l) k)
                        have e3 : ((nn : Int) - 32 + (k : Int)).toNat = 8 * l.length + k := by omega
                        have j0 : (0 : Int) ≤ (nn : Int) - 32 + (k : Int) := by omega
                        have j1 : (nn : Int) - 32 + (k : Int) < (nn : Int) := by omega
                        cases hb : L.getD (8 * l.length + k) false with
                        | false =>
                          rw [hb] at hc
                          have hc : wr.cell? ⟨g, 8 * l.length + k, none⟩ = some (.int .i64 0) := hc
                          have HQ : Hid ((Crc.crc l).toNat % 2 ^ (k + 1) = (Crc.crc l).toNat % 2 ^ k + 2 ^ k) := by
                            show _ = _
                            rw [HLN.out, ← HBQ.out, hb]
                            rfl
                          clear hb
                          go_wp2_with fail
                          go_round
                          case rel =>
                            exact ⟨k + 1, by omega, by go_num, congrArg (Value.int .u32) (acc_next _ k (Crc.crc l).isLt HQ.out)⟩
                          case measure => simp [intOf]; omega
                        | true =>
                          rw [hb] at hc
                          have hc : wr.cell? ⟨g, 8 * l.length + k, none⟩ = some (.int .i64 1) := hc
                          have HQ : Hid ((Crc.crc l).toNat % 2 ^ (k + 1) = (Crc.crc l).toNat % 2 ^ k) := by
                            show _ = _
                            rw [HLN.out, ← HBQ.out, hb]
                            rfl
                          clear hb
                          go_wp2_with fail
                          go_round
                          case rel => exact ⟨k + 1, by omega, by go_num, by rw [HQ.out]⟩
                          case measure => simp [intOf]; omega
                      · have HQ : Hid (((Crc.crc l).toNat : Int) % 2 ^ k = ((Crc.crc l).toNat : Int)) := by
                          have e : k = 32 := by omega
                          have h := (Crc.crc l).isLt
                          show _ = _
                          rw [e]
                          omega
                        go_wp2_with fail
                        go_ret
                        exact ⟨congrArg (fun q : Int => Ending.returned (.int .u32 q)) HQ.out, HF.out⟩
end Go.Proofs.YtdpjmkgjjhcgeaaDoor
