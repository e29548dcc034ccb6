/- The document's Frame makes the frame, or refuses. Condition: lengths. -/
import Derived.Test.YtanaioaaamjdkaaDoorDSum
import Derived.Test.YtanaioaaamjdkaaDoorFrame3
namespace Go.Proofs.YtanaioaaamjdkaaDoor
open Go.RowKit

def FrLong (w : World) (e : Ending) (w' : World) : Prop := ∃ A c, e = .returned (.tuple #[.slice A 0 c, .int .i64 1]) ∧ Fr NoBlk w w'
set_option maxRecDepth 100000 in
theorem dframe_long (w : World) (A : Option Addr) (n c : Nat) (hl : 4096 < n) :
    Calls Tryd.prog 31 #[.slice A n c] w (FrLong w) := by
  have HF : Hid (Fr NoBlk w (w.alloc (.cells #[] 5))) := (Fr.refl _ _).alloc _
  go_enter Tryd.func31, Tryd.ntmps31
  go_wp2_with fail
  go_ret2
  exact ⟨_, _, rfl, HF.out⟩

def FrPost (w : World) (l : List UInt8) (e : Ending) (w' : World) : Prop := ∃ v', e = .returned (.tuple #[v', .int .i64 0]) ∧ New w w' v' (frameOf l)

theorem own_lit (w : World) (base : Nat) (e : TypeId) (n : Nat) (xs : List Value) (hb : base ≤ w.heap.size) (hm : n ≤ maxLen) (hn : xs.length = n) :
    (w.alloc (.cells xs.toArray e)).ownsRow base e 1 (.slice (some ⟨w.heap.size, 0, none⟩) n n) n xs :=
  ⟨by omega, .inr ⟨w.heap.size, n, xs.toArray, rfl, hb, heap_alloc_new w _, Nat.le_refl _, hm, by simp [hn], by simp [← hn]⟩⟩
theorem sum4_get (s : BitVec 32) (k : Nat) (hk : k < 4) : (s.toNat : Int) / 2 ^ (8 * k) % 256 = (((sum4 s).getD k 0).toNat : Int) := by
  have hs := s.isLt
  match k, hk with
  | 0, _ => simp [sum4]
  | 1, _ => simp [sum4]
  | 2, _ => simp [sum4]
  | 3, _ => simp [sum4]
theorem sum4_take (s : BitVec 32) (k : Nat) (hk : k < 4) : (sum4 s).take (k + 1) = (sum4 s).take k ++ [(sum4 s).getD k 0] := by
  rw [List.take_succ_eq_append_getElem (by rw [sum4_len]; exact hk), List.getD_eq_getElem?_getD, List.getElem?_eq_getElem (by rw [sum4_len]; exact hk)]; rfl

set_option maxRecDepth 100000 in
set_option maxHeartbeats 4000000 in
theorem dframe_any (w : World) (A : Option Addr) (n c : Nat) (l : List UInt8) (hn : n = l.length) (hr : Rd w A (cb l)) (hA : A = none → c = 0) (hl : l.length ≤ 4096) :
    Calls Tryd.prog 31 #[.slice A n c] w (FrPost w l) := by
  subst hn
  obtain ⟨i0, hi, hz0, hz1, hz2⟩ := info_parts byteInfo
  have HR := Lib.hid hr
  have HA := Lib.hid hA
  have ehd : ([.int .u8 ((l.length : Int) / 256), .int .u8 ((l.length : Int) % 256)] : List Value) = cb (head l.length) := by
    unfold head cb
    simp only [List.map_cons, List.map_nil, UInt8.toNat_ofNat']
    rw [Nat.mod_eq_of_lt (show l.length / 256 < 2 ^ 8 by omega)]
    rfl
  have hf1 : Fr NoBlk w (w.alloc (.cells #[.int .u8 ((l.length : Int) / 256), .int .u8 ((l.length : Int) % 256)] 5)) := (Fr.refl _ _).alloc _
  have hb1 := Bk.new w 5 #[.int .u8 ((l.length : Int) / 256), .int .u8 ((l.length : Int) % 256)]
  have ho1 : (w.alloc (.cells #[.int .u8 ((l.length : Int) / 256), .int .u8 ((l.length : Int) % 256)] 5)).ownsRow w.heap.size 5 1 (.slice (some ⟨w.heap.size, 0, none⟩) 2 2) 2 (cb (head l.length)) := by
    rw [← ehd]
    exact own_lit w w.heap.size _ 2 [.int .u8 ((l.length : Int) / 256), .int .u8 ((l.length : Int) % 256)] (Nat.le_refl _) (by decide) rfl
  have hr1 := Rd.of_own ho1
  have HO1 := Lib.hid ho1
  have HF1 := Lib.hid hf1
  have HR1 : Hid (Rd ((w.alloc (.cells #[.int .u8 ((l.length : Int) / 256), .int .u8 ((l.length : Int) % 256)] 5)).alloc (.cells #[] 5)) (some ⟨w.heap.size, 0, none⟩) (cb (head l.length))) := hr1.alloc _
  have HE2 : Hid (((w.alloc (.cells #[.int .u8 ((l.length : Int) / 256), .int .u8 ((l.length : Int) % 256)] 5)).alloc (.cells #[] 5)).ownsRow (w.heap.size + 1) 5 1 (.slice (some ⟨w.heap.size + 1, 0, none⟩) 0 0) 0 []) := by
    have h := World.ownsRow_made (e := 5) (size := 1) (w.alloc (.cells #[.int .u8 ((l.length : Int) / 256), .int .u8 ((l.length : Int) % 256)] 5)) #[] 0 (Nat.le_refl _) (by decide) rfl
    have e : (w.alloc (.cells #[.int .u8 ((l.length : Int) / 256), .int .u8 ((l.length : Int) % 256)] 5)).heap.size = w.heap.size + 1 := by simp
    rw [e] at h
    exact h
  clear hr hA ehd hf1 hb1 ho1 hr1
  go_enter Tryd.func31, Tryd.ntmps31
  go_wp2_with (at_builtin; refine wpList_app rfl (.tmp 20) (.tmp 21) 26 rfl (w.heap.size + 1) 5 i0 (.int .u8 0) 1 Tryd.underlying26 hi hz0 hz1 hz2 rfl _ _ _ rfl HE2.out (some ⟨w.heap.size, 0, none⟩) 2 2 (cb (head l.length)) rfl rfl HR1.out (cb_one _) (fun h => by cases h) (by unfold maxLen; omega) (by omega) ?c5 ?_)
  case c5 => simp
  intro v3 w3 ho3 hg3 _ hb3
  have HF3 := Lib.hid ((HF1.out.alloc (.cells #[] 5)).grown hg3 (fun q hq hlt => by simp [Value.ownBlock] at hq; omega))
  have HF13 : Hid (Fr NoBlk (w.alloc (.cells #[.int .u8 ((l.length : Int) / 256), .int .u8 ((l.length : Int) % 256)] 5)) w3) := ((Fr.refl _ _).alloc (.cells #[] 5)).grown hg3 (fun q hq hlt => by simp [Value.ownBlock] at hq; simp at hlt; omega)
  have HS3 : Hid (w.heap.size + 1 ≤ w3.heap.size) := by have := HF13.out.size; simp at this; exact this
  have HO3 : Hid (w3.ownsRow (w.heap.size + 1) 5 1 v3 2 (cb (head l.length))) := ho3
  have HR3 := Lib.hid (HR.out.nofr HF3.out)
  clear ho3 hg3 hb3 HE2 HR1
  go_wp2_with (at_builtin; refine wpList_app rfl (.tmp 22) (.tmp 23) 26 rfl (w.heap.size + 1) 5 i0 (.int .u8 0) 1 Tryd.underlying26 hi hz0 hz1 hz2 rfl _ _ _ rfl HO3.out A c l.length (cb l) rfl (cb_length l) HR3.out (cb_one _) HA.out (by unfold maxLen; omega) (by omega) HS3.out ?_)
  intro v4 w4 ho4 hg4 _ hb4
  have HF34 : Hid (Fr NoBlk (w.alloc (.cells #[.int .u8 ((l.length : Int) / 256), .int .u8 ((l.length : Int) % 256)] 5)) w4) := HF13.out.grown hg4 (fun q hq hlt => by have := (own_blk HO3.out hq).1; simp at hlt; omega)
  obtain ⟨d, hd⟩ : ∃ d, d = head l.length ++ l := ⟨_, rfl⟩
  have hdl : d.length = 2 + l.length := by rw [hd, List.length_append, head_len]
  rw [← cb_append, ← hd] at ho4
  obtain ⟨A4, c4, rfl, _, _⟩ := own_form ho4
  obtain ⟨s, hs⟩ : ∃ s, s = Crc.crc d := ⟨_, rfl⟩
  have HK := Lib.hid (dsum_any w4 A4 (2 + l.length) c4 d hdl.symm (Rd.of_own ho4) (by omega))
  rw [← hs] at HK
  have HFD : Hid (frameOf l = head l.length ++ (sum4 s ++ l)) := by show _ = _; rw [hs, hd]; rfl
  have HO4 := Lib.hid (own_fr HO1.out HF34.out (fun _ _ h => h))
  have HF4 := Lib.hid (HF1.out.trans HF34.out)
  clear ho4 hg4 hb4 hd hdl hs HF34 HF13 HO3 HR3 HF3 HO1 HF1 HS3
  go_wp2_with fail
  refine HK.out.mono ?_
  rintro e w5 ⟨rfl, hf5⟩
  have HF5 := Lib.hid (HF4.out.trans hf5)
  have HO5 : Hid (w5.ownsRow w.heap.size 5 1 (.slice (some ⟨w.heap.size, 0, none⟩) 2 2) (2 + 0) (cb (head l.length ++ (sum4 s).take 0))) := by
    rw [List.take_zero, List.append_nil]
    exact own_fr HO4.out hf5 (fun _ _ h => h)
  clear hf5 HK HO4 HF4
  have hs4 : s.toNat < 4294967296 := by have := s.isLt; omega
  go_wp2_with fail
  go_loopw [5, 7] (fun v z wr => ∃ (k : Nat) (v5 : Value), v5 = v ∧ k ≤ 4 ∧ z = .int .i64 k ∧ Hid (wr.ownsRow w.heap.size 5 1 v5 (2 + k) (cb (head l.length ++ (sum4 s).take k))) ∧ Hid (Fr NoBlk w wr)) (fun _ z _ => 4 - (intOf z).toNat)
  case atStart => exact ⟨0, _, rfl, by omega, rfl, HO5, HF5⟩
  case round =>
    clear HO5 HF5
    obtain ⟨k, v5, rfl, hk4, rfl, HO, HF⟩ := hrel
    have hbs : w.heap.size ≤ wr.heap.size := HF.out.size
    by_cases hk : k < 4
    · have e1 := sum4_get s k hk
      have HTK := Lib.hid (sum4_take s k hk)
      generalize (sum4 s).getD k 0 = x at *
      have HFA : Hid (Fr NoBlk w (wr.alloc (.cells #[.int .u8 (x.toNat : Int)] 5))) := HF.out.alloc _
      go_wp2_with (at_builtin; refine wpList_app rfl (.tmp 30) (.tmp 37) 26 rfl w.heap.size 5 i0 (.int .u8 0) 1 Tryd.underlying26 hi hz0 hz1 hz2 rfl _ _ _ rfl (HO.out.alloc _) (some ⟨wr.heap.size, 0, none⟩) 1 1 (cb [x]) rfl rfl ?c1 (cb_one _) (fun h => by cases h) (by unfold maxLen; omega) (by omega) ?c6 ?_)
      case c1 => exact Rd.of_cells (Bk.new _ _ _)
      case c6 => simp; omega
      intro v6 w6 ho6 hg6 _ hb6
      have HO6 : Hid (w6.ownsRow w.heap.size 5 1 v6 (2 + (k + 1)) (cb (head l.length ++ (sum4 s).take (k + 1)))) := by
        show World.ownsRow _ _ _ _ _ _ _
        rw [HTK.out, ← List.append_assoc, cb_append]
        exact ho6
      have HF6 := Lib.hid (HFA.out.grown hg6 (fun q hq hlt => absurd (own_blk HO.out hq).1 (by omega)))
      clear ho6 hg6 hb6
      go_wp2_with fail
      go_roundw
      case rel => exact ⟨k + 1, _, rfl, by omega, by go_num, HO6, HF6⟩
      case measure => simp [intOf]; omega
    · have HO7 : Hid (wr.ownsRow w.heap.size 5 1 v5 6 (cb (head l.length ++ sum4 s))) := by
        have e : k = 4 := by omega
        have h := HO.out
        rw [e, List.take_of_length_le (by rw [sum4_len]; exact Nat.le_refl _)] at h
        exact h
      have HR7 := Lib.hid (HR.out.nofr HF.out)
      go_wp2_with (at_builtin; refine wpList_app rfl (.tmp 39) (.tmp 40) 26 rfl w.heap.size 5 i0 (.int .u8 0) 1 Tryd.underlying26 hi hz0 hz1 hz2 rfl _ _ _ rfl HO7.out A c l.length (cb l) rfl (cb_length l) HR7.out (cb_one _) HA.out (by unfold maxLen; omega) (by omega) hbs ?_)
      intro v6 w6 ho6 hg6 _ hb6
      have HO6 : Hid (w6.ownsRow w.heap.size 5 1 v6 (frameOf l).length (cb (frameOf l))) := by
        show World.ownsRow _ _ _ _ _ _ _
        rw [frameOf_len, HFD.out, ← List.append_assoc, cb_append]
        exact ho6
      have HF6 := Lib.hid (HF.out.grown hg6 (fun q hq hlt => absurd (own_blk HO7.out hq).1 (by omega)))
      clear ho6 hg6 hb6
      go_wp2_with fail
      go_ret2
      exact ⟨_, rfl, HO6.out, HF6.out⟩
end Go.Proofs.YtanaioaaamjdkaaDoor
