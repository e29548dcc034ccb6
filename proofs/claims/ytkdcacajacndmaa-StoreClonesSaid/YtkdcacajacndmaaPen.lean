/- The contracts of the pen: Num, Byte, Text and Data write and tell just the bytes that the document names, and leave all other memory alone. Conditions: the pen's row is the call's own, and short. -/
import Derived.Test.YtkdcacajacndmaaProg
import Derived.Test.YtkdcacajacndmaaMem
namespace Go.Proofs.Ytkdcacajacndmaa
open Go.RowKit

/-- a number's bytes. -/
def num (n : Nat) : List UInt8 := if n < 128 then [UInt8.ofNat n] else UInt8.ofNat (n % 128 + 128) :: num (n / 128)
termination_by n
decreasing_by omega
theorem num_lt {n : Nat} (h : n < 128) : num n = [UInt8.ofNat n] := by rw [num, if_pos h]
theorem num_ge {n : Nat} (h : ¬ n < 128) : num n = UInt8.ofNat (n % 128 + 128) :: num (n / 128) := by rw [num, if_neg h]
theorem num_len_le (k : Nat) : ∀ n, n < 128 ^ (k + 1) → (num n).length ≤ k + 1 := by
  induction k with
  | zero => intro n h; rw [num_lt (by simpa using h)]; simp
  | succ k ih =>
    intro n h
    by_cases h1 : n < 128
    · rw [num_lt h1]; simp
    · rw [num_ge h1, List.length_cons]
      have := ih (n / 128) (by rw [Nat.div_lt_iff_lt_mul (by omega)]; rwa [Nat.pow_succ] at h)
      omega
theorem num_len (n : Nat) (h : n < 2 ^ 64) : (num n).length ≤ 10 := num_len_le 9 n (by omega)

theorem byteInfo : (Try.prog.info? 5).map (fun i => (i.zero, i.size, i.bytes)) = some (some (.int .u8 0), 1, 1) := by kernel_rfl

/-- a pen: block g holds the row v, which holds the bytes l. -/
structure Pen (w : World) (base g : Nat) (v : Value) (l : List UInt8) : Prop where
  bk : Bk w g 76 #[v]
  own : w.ownsRow base 5 1 v l.length (cb l)

/-- what a pen's call leaves: the pen has the row v' with the bytes l; nothing but the pen, its old row and new blocks has turned. -/
structure Wro (w w' : World) (base g : Nat) (v v' : Value) (l : List UInt8) : Prop where
  pen : Pen w' base g v' l
  fr : Fr (fun k => k = g ∨ some k = v.ownBlock) w w'
  blk : v'.ownBlock = v.ownBlock ∨ ∃ k, v'.ownBlock = some k ∧ w.heap.size ≤ k

theorem Pen.wro {w : World} {base g : Nat} {v : Value} {l : List UInt8} (h : Pen w base g v l) : Wro w w base g v v l := ⟨h, Fr.refl _ _, .inl rfl⟩

theorem Wro.trans {w w1 w2 : World} {base g : Nat} {v v1 v2 : Value} {l1 l2 : List UInt8} (h : Wro w w1 base g v v1 l1) (k : Wro w1 w2 base g v1 v2 l2) : Wro w w2 base g v v2 l2 := by
  refine ⟨k.pen, h.fr.step k.fr ?_, ?_⟩
  · rintro i hi (rfl | e)
    · exact .inl rfl
    · rcases h.blk with hb | ⟨q, hb, hq⟩
      · exact .inr (e.trans hb)
      · rw [hb] at e
        injection e with e
        omega
  · rcases k.blk with hb | ⟨q, hb, hq⟩
    · rcases h.blk with hb' | ⟨q, hb', hq⟩
      · exact .inl (hb.trans hb')
      · exact .inr ⟨q, hb.trans hb', hq⟩
    · exact .inr ⟨q, hb, Nat.le_trans h.fr.size hq⟩

/-- behind an append onto the pen's row and the store back. -/
theorem Wro.push {w w0 w1 : World} {base g m : Nat} {v v' : Value} {l d : List UInt8} (hp : Pen w base g v l) (hf : Fr NoBlk w w0)
    (hown : w1.ownsRow base 5 1 v' (l.length + m) (cb l ++ cb d)) (hg : w0.grownBy w1 v.ownBlock) (hb : v'.ownBlock = v.ownBlock ∨ v'.ownBlock = some w0.heap.size) (hm : d.length = m) :
    Bk w1 g 76 #[v] ∧ Wro w (w1.setCell ⟨g, 0, none⟩ v') base g v v' (l ++ d) := by
  subst hm
  have hbk0 := hp.bk.fr hf (fun h => h)
  have hne : some g ≠ v.ownBlock := fun e => own_apart hp.own hp.bk (by decide) e.symm
  have hbk1 : Bk w1 g 76 #[v] := hbk0.fr (Fr.ofGrown hg) hne
  have hbk2 := hbk1.put 0 v'
  refine ⟨hbk1, ⟨by simpa using hbk2, ?_⟩, ?_, ?_⟩
  · rw [List.length_append, cb_append]
    refine own_fr hown ((Fr.refl (fun k => k = g) w1).setCell (fun _ => rfl) _) ?_
    rintro k hk rfl
    rcases hb with hb | hb
    · exact hne (hk.symm.trans hb)
    · rw [hb] at hk
      injection hk with hk
      have := hbk0.lt
      omega
  · refine Fr.setCell ?_ (fun _ => .inl rfl) _
    exact (hf.mono (fun _ _ h => h.elim)).grown hg (fun k hk _ => .inr hk.symm)
  · rcases hb with hb | hb
    · exact .inl hb
    · exact .inr ⟨_, hb, hf.size⟩

theorem cb_small (m : Nat) (h : m < 256) : cb [UInt8.ofNat m] = [.int .u8 (m : Int)] := by
  simp [cb, Nat.mod_eq_of_lt h]

theorem or128 (n : Nat) : bits .or .u8 ((n : Int) % 256) 128 = ((UInt8.ofNat (n % 128 + 128)).toNat : Int) := by
  rw [show (n : Int) % 256 = ((n % 256 : Nat) : Int) by omega, show (128 : Int) = ((128 : Nat) : Int) from rfl, u8_or_nat _ _ (by omega) (by omega)]
  refine congrArg (fun q : Nat => (q : Int)) ?_
  rw [UInt8.toNat_ofNat']
  have h : ∀ x : BitVec 8, (x ||| 128#8).toNat = x.toNat % 128 + 128 := by decide
  have := h (BitVec.ofNat 8 n)
  rw [BitVec.toNat_or] at this
  simp only [BitVec.toNat_ofNat, show (2 : Nat) ^ 8 = 256 from rfl, show 128 % 256 = 128 from rfl] at this ⊢
  omega

set_option maxRecDepth 100000 in
set_option maxHeartbeats 400000 in
theorem num_any (w : World) (base g n : Nat) (v : Value) (l : List UInt8) (hp : Pen w base g v l) (hb : base ≤ w.heap.size) (hn : n < 2 ^ 64) (hl : l.length ≤ 1000000000) :
    Calls Try.prog 41 #[.pointer (some ⟨g, 0, none⟩), .int .u64 n] w fun e w' => e = .returned (.tuple #[]) ∧ ∃ v', Wro w w' base g v v' (l ++ num n) := by
  obtain ⟨i0, hi, hz0, hz1, hz2⟩ := info_parts byteInfo
  have HL := Lib.hid (num_len n hn)
  have HP := Lib.hid hp
  have HM := Lib.hid hn
  have HS := Lib.hid hl
  clear hp hn hl
  go_enter Try.func41, Try.ntmps41
  go_wp2
  go_loopw [1] (fun s wr => ∃ (m : Nat) (d : List UInt8) (v' : Value), s = .int .u64 m ∧ Hid (m < 2 ^ 64) ∧ Hid (num n = d ++ num m) ∧ Hid (Wro w wr base g v v' (l ++ d))) (fun s _ => (intOf s).toNat)
  case atStart => exact ⟨n, [], v, rfl, HM, rfl, by rw [List.append_nil]; exact HP.out.wro⟩
  case round =>
    obtain ⟨m, d, v', rfl, hm, HN, HW⟩ := hrel
    have hbw : base ≤ wr.heap.size := Nat.le_trans hb HW.out.fr.size
    have hc := HW.out.pen.bk.cell 0
    have hf := HW.out.pen.bk.free 0
    simp only [List.getElem?_toArray, List.getElem?_cons_zero] at hc
    have hown := Lib.hid HW.out.pen.own
    have hdl : d.length ≤ 10 := by have := HL.out; rw [HN.out, List.length_append] at this; omega
    have hdl1 : (num m).length + d.length ≤ 10 := by have := HL.out; rw [HN.out, List.length_append] at this; omega
    by_cases hlt : m < 128
    · have HX := Lib.hid (cb_small m (by omega))
      go_wp2_with (at_builtin; refine wpList_app rfl _ _ 31 rfl base 5 i0 (.int .u8 0) 1 Try.underlying31 hi hz0 hz1 hz2 rfl _ _ _ rfl (hown.out.alloc _) (some ⟨wr.heap.size, 0, none⟩) 1 1 (cb [UInt8.ofNat m]) rfl rfl ?c1 (cb_one _) ?c2 ?c3 ?c4 ?c5 ?_)
      case c1 => rw [HX.out]; exact Rd.of_cells (Bk.new _ _ _)
      case c2 => intro h; cases h
      case c3 => have := HS.out; rw [List.length_append]; unfold maxLen; omega
      case c4 => have := HS.out; rw [List.length_append]; omega
      case c5 => simp; omega
      intro v'' w1 hown' hgrow _ hblk
      obtain ⟨A2, c2, rfl, _, _⟩ := own_form hown'
      have HX1 := Lib.hid (Wro.push (m := 1) (d := [UInt8.ofNat m]) HW.out.pen ((Fr.refl _ _).alloc _) (by rw [List.length_append]; exact hown') hgrow (by simpa using hblk) rfl)
      clear hown' hgrow hblk hc hf
      have hc1 : w1.cell? ⟨g, 0, none⟩ = some v' := HX1.out.1.cell 0
      have hf1 := HX1.out.1.free 0
      go_wp2
      go_end0
      exact ⟨rfl, _, by rw [HN.out, num_lt hlt, ← List.append_assoc]; exact HW.out.trans HX1.out.2⟩
    · obtain ⟨x, hx⟩ : ∃ x, x = UInt8.ofNat (m % 128 + 128) := ⟨_, rfl⟩
      have e1 := or128 m
      rw [← hx] at e1
      have HNN := Lib.hid (show num m = x :: num (m / 128) by rw [num_ge hlt, hx])
      clear hx
      go_wp2_with (at_builtin; refine wpList_app rfl _ _ 31 rfl base 5 i0 (.int .u8 0) 1 Try.underlying31 hi hz0 hz1 hz2 rfl _ _ _ rfl (hown.out.alloc _) (some ⟨wr.heap.size, 0, none⟩) 1 1 (cb [x]) rfl rfl ?c1 (cb_one _) ?c2 ?c3 ?c4 ?c5 ?_)
      case c1 => exact Rd.of_cells (Bk.new _ _ _)
      case c2 => intro h; cases h
      case c3 => have := HS.out; rw [List.length_append]; unfold maxLen; omega
      case c4 => have := HS.out; rw [List.length_append]; omega
      case c5 => simp; omega
      intro v'' w1 hown' hgrow _ hblk
      obtain ⟨A2, c2, rfl, _, _⟩ := own_form hown'
      have HX1 := Lib.hid (Wro.push (m := 1) (d := [x]) HW.out.pen ((Fr.refl _ _).alloc _) (by rw [List.length_append]; exact hown') hgrow (by simpa using hblk) rfl)
      clear hown' hgrow hblk hc hf
      have hc1 : w1.cell? ⟨g, 0, none⟩ = some v' := HX1.out.1.cell 0
      have hf1 := HX1.out.1.free 0
      go_wp2
      go_roundw
      case rel => exact ⟨m / 128, d ++ [x], _, by go_num, by have := hm.out; unfold Hid; omega, by unfold Hid; rw [HN.out, HNN.out]; simp, by unfold Hid; rw [← List.append_assoc]; exact HW.out.trans HX1.out.2⟩
      case measure => simp [intOf]; omega
end Go.Proofs.Ytkdcacajacndmaa
