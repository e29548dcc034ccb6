/- CodeWrites: every call of any script on a pen writes exactly what the document says. No condition but what the card ties. -/
import Derived.Test.YtmghlalddgklaaaDoorOpen3
import Derived.Test.YtmghlalddgklaaaDoorNum2
import Derived.Test.YtmghlalddgklaaaDoorSpoil
import Derived.Test.YtmghlalddgklaaaDoorSpeaks
import Derived.BigQuiet
import Derived.Deep.RegionWith
namespace Go.Proofs.YtmghlalddgklaaaDoor.codeWrites
open Go.ChangeShapes Go.WideShapes Go.ChangeAt Go.RowKit

/-- the pen and the bytes that are wanted, side by side. -/
structure Both (w1 w : World) (g : Nat) (v wv : Value) (l m : List UInt8) : Prop where
  pen : Pen w w1.heap.size g v l
  want : w.ownsRow w1.heap.size 5 1 wv m.length (cb m)
  apart : ∀ k, v.ownBlock = some k → wv.ownBlock ≠ some k
  fr : Fr NoBlk w1 w
  old : w1.heap.size ≤ g

theorem own_lt {w : World} {base : Nat} {e : TypeId} {size n : Nat} {v : Value} {xs : List Value} (h : w.ownsRow base e size v n xs) {k : Nat} (hk : v.ownBlock = some k) : base ≤ k ∧ k < w.heap.size := by
  rcases h.2 with ⟨rfl, _⟩ | ⟨g, cap, cur, rfl, hb, hg, _⟩
  · cases hk
  · have e : g = k := by simpa [Value.ownBlock] using hk
    subst e
    exact ⟨hb, (Array.getElem?_eq_some_iff.1 hg).1⟩

theorem Both.nofr {w1 w w' : World} {g : Nat} {v wv : Value} {l m : List UInt8} (h : Both w1 w g v wv l m) (hf : Fr NoBlk w w') : Both w1 w' g v wv l m :=
  ⟨⟨h.pen.bk.fr hf (fun h => h), own_fr h.pen.own hf (fun _ _ h => h)⟩, own_fr h.want hf (fun _ _ h => h), h.apart, h.fr.trans hf, h.old⟩
theorem Both.wrote {w1 w w' : World} {g : Nat} {v v' wv : Value} {l l' m : List UInt8} (h : Both w1 w g v wv l m) (hw : Wro w w' w1.heap.size g v v' l') : Both w1 w' g v' wv l' m := by
  refine ⟨hw.pen, own_fr h.want hw.fr ?_, ?_, h.fr.step hw.fr ?_, h.old⟩
  · rintro k hk (rfl | e)
    · exact own_apart h.want h.pen.bk (by decide) hk
    · exact h.apart k e.symm hk
  · intro k hk e
    rcases hw.blk with hb | ⟨q, hb, hq⟩
    · exact h.apart k (hb.symm.trans hk) e
    · rw [hb] at hk
      injection hk with hk
      have := (own_lt h.want e).2
      omega
  · rintro i hi (rfl | e)
    · have := h.old; omega
    · have := (own_lt h.pen.own e.symm).1; omega
theorem Both.wanted {w1 w w' : World} {g : Nat} {v wv wv' : Value} {l m d : List UInt8} (h : Both w1 w g v wv l m) (ho : w'.ownsRow w1.heap.size 5 1 wv' (m.length + d.length) (cb m ++ cb d))
    (hg : w.grownBy w' wv.ownBlock) (hb : wv'.ownBlock = wv.ownBlock ∨ wv'.ownBlock = some w.heap.size) : Both w1 w' g v wv' l (m ++ d) := by
  have hne : some g ≠ wv.ownBlock := fun e => own_apart h.want h.pen.bk (by decide) e.symm
  have hfr := Fr.ofGrown hg
  refine ⟨⟨h.pen.bk.fr hfr hne, own_fr h.pen.own hfr ?_⟩, by rw [List.length_append, cb_append]; exact ho, ?_, h.fr.step hfr ?_, h.old⟩
  · intro k hk e
    exact h.apart k hk e.symm
  · intro k hk e
    rcases hb with hb | hb
    · exact h.apart k hk (hb.symm.trans e)
    · rw [hb] at e
      injection e with e
      have := (own_lt h.pen.own hk).2
      omega
  · rintro i hi e
    have := (own_lt h.want e.symm).1; omega
/-- what turns a row that is neither's leaves both. -/
def Off (w1 : World) (g : Nat) (v wv : Value) (A : Option Addr) : Prop := ∀ k, ablk A k → w1.heap.size ≤ k ∧ k ≠ g ∧ v.ownBlock ≠ some k ∧ wv.ownBlock ≠ some k
theorem Both.spoilt {w1 w w' : World} {g : Nat} {v wv : Value} {l m : List UInt8} {A : Option Addr} (h : Both w1 w g v wv l m) (hf : Fr (fun k => ablk A k) w w') (hA : Off w1 g v wv A) : Both w1 w' g v wv l m := by
  refine ⟨⟨h.pen.bk.fr hf ?_, own_fr h.pen.own hf ?_⟩, own_fr h.want hf ?_, h.apart, h.fr.step hf ?_, h.old⟩
  · intro hk; exact (hA _ hk).2.1 rfl
  · intro k hk e; exact (hA _ e).2.2.1 hk
  · intro k hk e; exact (hA _ e).2.2.2 hk
  · intro i hi e; have := (hA _ e).1; omega
theorem Both.off {w1 w : World} {g n c : Nat} {v wv : Value} {l m : List UInt8} {A : Option Addr} {xs : List Value} (h : Both w1 w g v wv l m) {w' : World} (ho : w'.ownsRow w.heap.size 5 1 (.slice A n c) n xs) : Off w1 g v wv A := by
  rintro k ⟨b, rfl, rfl⟩
  have h1 := (own_lt ho (k := b.block) rfl).1
  have h2 := h.fr.size
  have h3 := h.pen.bk.lt
  refine ⟨by omega, by omega, fun e => ?_, fun e => ?_⟩
  · have := (own_lt h.pen.own e).2; omega
  · have := (own_lt h.want e).2; omega
theorem Off.wrote {w1 w w' : World} {g : Nat} {v v' wv : Value} {l' : List UInt8} {A : Option Addr} (h : Off w1 g v wv A) (hw : Wro w w' w1.heap.size g v v' l') (hA : ∀ k, ablk A k → k < w.heap.size) : Off w1 g v' wv A := by
  intro k hk
  obtain ⟨a1, a2, a3, a4⟩ := h k hk
  refine ⟨a1, a2, fun e => ?_, a4⟩
  rcases hw.blk with hb | ⟨q, hb, hq⟩
  · exact a3 (hb.symm.trans e)
  · rw [hb] at e
    injection e with e
    have := hA k hk; omega
theorem Off.wanted {w1 w : World} {g : Nat} {v wv wv' : Value} {A : Option Addr} (h : Off w1 g v wv A) (hb : wv'.ownBlock = wv.ownBlock ∨ wv'.ownBlock = some w.heap.size) (hA : ∀ k, ablk A k → k < w.heap.size) : Off w1 g v wv' A := by
  intro k hk
  obtain ⟨a1, a2, a3, a4⟩ := h k hk
  refine ⟨a1, a2, a3, fun e => ?_⟩
  rcases hb with hb | hb
  · exact a4 (hb.symm.trans e)
  · rw [hb] at e
    injection e with e
    have := hA k hk; omega

set_option maxRecDepth 100000 in
set_option maxHeartbeats 2000000 in
theorem walk (w : World) (ht : Tab w) (A : Option Addr) (c : Nat) (xs : List Scr) (hr : RdS w A xs) (hp : ∀ x ∈ xs, ScrOk w x) (hm : xs.length ≤ maxLen) :
    Calls Tryd.prog 4 #[.slice A xs.length c] w fun e w' => e = .returned (.bool true) ∧ Fr NoBlk w w' := by
  have HT := Lib.hid ht
  have HR := Lib.hid hr
  have HP := Lib.hid hp
  clear ht hr hp
  obtain ⟨i0, hi, hz0, hz1, hz2⟩ := info_parts byteInfo
  go_enter Tryd.func4, Tryd.ntmps4
  go_wp2_with fail
  refine (speaks_any w HT.out).mono ?_
  rintro e w1 ⟨rfl, hf⟩
  have HF := Lib.hid hf
  have HPk : Hid (∀ x ∈ xs, ScrOk w1 x) := fun x hx => ⟨(HP.out x hx).1, ⟨(HP.out x hx).2.1.1.nofr hf, (HP.out x hx).2.1.2⟩, (HP.out x hx).2.2⟩
  have HK := Lib.hid (great_any w1 A xs.length c xs rfl (HR.out.nofr hf) HPk.out hm)
  clear hf
  unfold maxLen at hm
  go_wp2_with fail
  refine HK.out.mono ?_
  clear HK
  rintro e w2 ⟨⟨t, rfl, htot⟩, rfl⟩
  cases t with
  | true =>
    clear htot
    go_wp2_with fail
    go_ret
    exact ⟨rfl, HF.out⟩
  | false =>
    have HTOT := Lib.hid (htot rfl)
    clear htot
    have HB0 : Hid (Both w1 ((w1.alloc (.cells #[.slice none 0 0] 28)).alloc (.cells #[] 5)) w1.heap.size (.slice none 0 0) (.slice (some ⟨w1.heap.size + 1, 0, none⟩) 0 0) [] []) := by
      have hp0 : Pen (w1.alloc (.cells #[.slice none 0 0] 28)) w1.heap.size w1.heap.size (.slice none 0 0) [] := ⟨Bk.new _ _ _, World.ownsRow_nil _ _ _ _⟩
      have hf0 : Fr NoBlk (w1.alloc (.cells #[.slice none 0 0] 28)) ((w1.alloc (.cells #[.slice none 0 0] 28)).alloc (.cells #[] 5)) := (Fr.refl _ _).alloc _
      have ho := World.ownsRow_made (base := w1.heap.size) (e := 5) (size := 1) (w1.alloc (.cells #[.slice none 0 0] 28)) #[] 0 (by simp) (by decide) rfl
      rw [show (w1.alloc (.cells #[.slice none 0 0] 28)).heap.size = w1.heap.size + 1 by simp] at ho
      exact ⟨⟨hp0.bk.fr hf0 (fun h => h), World.ownsRow_nil _ _ _ _⟩, ho, (fun k hk => by cases hk), ((Fr.refl _ _).alloc _).trans hf0, Nat.le_refl _⟩
    go_wp2_with fail
    go_loopw [4, 18] (fun wv s wr => ∃ (i : Nat) (v : Value) (l : List UInt8), i ≤ xs.length ∧ s = .int .i64 i ∧ Hid (Both w1 wr w1.heap.size v wv l l) ∧ Hid (l.length ≤ tot (xs.take i))) (fun _ s _ => xs.length - (intOf s).toNat)
    case atStart => exact ⟨0, _, [], Nat.zero_le _, rfl, HB0, Nat.zero_le _⟩
    case round =>
      obtain ⟨i, v, l, hin, rfl, HB, HL⟩ := hrel
      obtain ⟨Aw, cw, rfl, _, hAw⟩ := own_form HB.out.want
      have HAW := Lib.hid hAw
      clear hAw
      by_cases hlt : i < xs.length
      · obtain ⟨x, hx⟩ : ∃ x, xs[i]? = some x := ⟨_, List.getElem?_eq_getElem hlt⟩
        obtain ⟨b, o, rfl, h1, h2, h3⟩ := ((HR.out.nofr HF.out).nofr HB.out.fr) i x hx
        have HOK := Lib.hid (HPk.out x (List.mem_of_getElem? hx))
        have HST := Lib.hid (tot_step xs i x hx)
        obtain ⟨z, n, Ap, cp, lp⟩ := x
        unfold sl at h3
        dsimp only at h1 h2 h3 HST
        clear hx
        obtain ⟨q, hq, eq⟩ := i64_low z 2 (by omega)
        rw [show ((2 ^ 2 - 1 : Nat) : Int) = 3 from rfl] at eq
        have hlp : lp.length ≤ 100000 ∧ l.length + lp.length + 10 ≤ 100000 := by
          have e1 := HST.out; have e2 := HTOT.out; have e3 := HL.out
          have e4 : tot (xs.take (i + 1)) ≤ tot xs := by
            conv => rhs; rw [← List.take_append_drop (i + 1) xs]
            unfold tot
            rw [List.map_append, List.sum_append]; omega
          omega
        have HOE : Hid (((wr.alloc (.cells #[.int .i64 z, .int .u64 n, .slice Ap lp.length cp] 31)).alloc (.cells #[] 5)).ownsRow (wr.heap.size + 1) 5 1 (.slice (some ⟨wr.heap.size + 1, 0, none⟩) 0 0) 0 []) := by
          have h := World.ownsRow_made (base := wr.heap.size + 1) (e := 5) (size := 1) (wr.alloc (.cells #[.int .i64 z, .int .u64 n, .slice Ap lp.length cp] 31)) #[] 0 (by simp) (by decide) rfl
          rw [show (wr.alloc (.cells #[.int .i64 z, .int .u64 n, .slice Ap lp.length cp] 31)).heap.size = wr.heap.size + 1 by simp] at h
          exact h
        have HBK : Hid (Bk ((wr.alloc (.cells #[.int .i64 z, .int .u64 n, .slice Ap lp.length cp] 31)).alloc (.cells #[] 5)) wr.heap.size 31 #[.int .i64 z, .int .u64 n, .slice Ap lp.length cp]) := (Bk.new _ _ _).alloc _
        have HFE : Hid (Fr NoBlk wr ((wr.alloc (.cells #[.int .i64 z, .int .u64 n, .slice Ap lp.length cp] 31)).alloc (.cells #[] 5))) := ((Fr.refl _ _).alloc _).alloc _
        have HRP : Hid (Rd wr Ap (cb lp)) := HOK.out.2.1.1.nofr HB.out.fr
        go_wp2_with (at_builtin; refine wpList_app rfl _ _ 26 rfl (wr.heap.size + 1) 5 i0 (.int .u8 0) 1 Tryd.underlying26 hi hz0 hz1 hz2 rfl _ 0 [] rfl HOE.out Ap cp lp.length (cb lp) rfl (cb_length lp) (HRP.out.nofr HFE.out) (cb_one _) HOK.out.2.1.2 ?c3 ?c4 ?c5 ?_)
        case c3 => unfold maxLen; omega
        case c4 => omega
        case c5 => simp
        intro v2 w2 ho2 hgrow _ hblk
        obtain ⟨Ab, cbb, rfl, _, hAbn⟩ := own_form ho2
        have HABN := Lib.hid hAbn
        clear hAbn
        have HF2 : Hid (Fr NoBlk wr w2) := HFE.out.grown hgrow (fun k hk hlt => by simp [Value.ownBlock] at hk; omega)
        have HBK2 : Hid (Bk w2 wr.heap.size 31 #[.int .i64 z, .int .u64 n, .slice Ap lp.length cp]) := HBK.out.fr (Fr.ofGrown hgrow) (by simp [Value.ownBlock])
        have HOB2 := Lib.hid ho2
        have HB2 := Lib.hid (HB.out.nofr HF2.out)
        have HOF2 : Hid (Off w1 w1.heap.size v (.slice Aw l.length cw) Ab) := HB.out.off (own_base ho2 (by omega))
        have HAB : Hid (∀ k, ablk Ab k → k < w2.heap.size) := by
          rintro k ⟨b', rfl, rfl⟩
          exact (own_lt HOB2.out (k := b'.block) rfl).2
        have HRP2 := Lib.hid (HRP.out.nofr HF2.out)
        clear ho2 hgrow hblk h1 h2 h3
        have hq4 : q = 0 ∨ q = 1 ∨ q = 2 ∨ q = 3 := by omega
        have c0 := HBK2.out.cell 0
        have c1 := HBK2.out.cell 1
        have c2 := HBK2.out.cell 2
        simp only [List.getElem?_toArray, List.getElem?_cons_zero, List.getElem?_cons_succ] at c0 c1 c2
        have hgl := HB.out.pen.bk.lt
        have HNE : Hid (∀ k, (k = w1.heap.size ∨ some k = v.ownBlock) → k < wr.heap.size) := by
          rintro k (rfl | e)
          · exact HB.out.pen.bk.lt
          · exact (own_lt HB.out.pen.own e.symm).2
        rcases hq4 with rfl | rfl | rfl | rfl
        · have eq0 : bits .and .i64 z 3 = 0 := eq
          clear eq hq
          have HK := Lib.hid (num_any w2 w1.heap.size w1.heap.size n v l HB2.out.pen HB2.out.fr.size HOK.out.1 (by omega))
          go_wp2_with fail
          refine HK.out.mono ?_
          clear HK c0 c1 c2
          rintro e w3 ⟨rfl, v3, hw3⟩
          have HB3 := Lib.hid (HB2.out.wrote hw3)
          have HOF3 := Lib.hid (HOF2.out.wrote hw3 HAB.out)
          have HBK3 := Lib.hid (HBK2.out.fr hw3.fr (fun h => by have := HNE.out _ h; omega))
          have HOB3 : Hid (w3.ownsRow (wr.heap.size + 1) 5 1 (.slice Ab lp.length cbb) lp.length (cb lp)) := own_fr HOB2.out hw3.fr (by
            rintro k hk h
            have hk' : ablk Ab k := by
              rcases Ab with _ | ab
              · cases hk
              · exact ⟨ab, rfl, by simpa [Value.ownBlock] using hk⟩
            rcases h with h | h
            · exact (HOF2.out k hk').2.1 h
            · exact (HOF2.out k hk').2.2.1 h.symm)
          have HRP3 : Hid (Rd w3 Ap (cb lp)) := HOK.out.2.1.1.nofr HB3.out.fr
          have HSZ3 := Lib.hid hw3.fr.size
          clear hw3
          have c0 := HBK3.out.cell 0
          have c1 := HBK3.out.cell 1
          have c2 := HBK3.out.cell 2
          simp only [List.getElem?_toArray, List.getElem?_cons_zero, List.getElem?_cons_succ] at c0 c1 c2
          have HK := Lib.hid (refnum_any w3 n HOK.out.1)
          go_wp2_with fail
          refine HK.out.mono ?_
          clear HK
          rintro e w4 ⟨v4, rfl, hn4⟩
          obtain ⟨dd, hdd⟩ : ∃ dd, dd = num n := ⟨_, rfl⟩
          rw [← hdd] at hn4 HB3
          have HDL : Hid (dd.length ≤ lp.length + 10) := by
            show dd.length ≤ lp.length + 10
            rw [hdd]
            first
              | (have := num_len n HOK.out.1; omega)
              | (rw [List.length_append]; have := num_len lp.length (by omega); omega)
          clear hdd
          obtain ⟨A4, c4, rfl, _, hA4⟩ := own_form hn4.own
          have HA4 := Lib.hid hA4
          have HN4 := Lib.hid hn4
          have HB4 := Lib.hid (HB3.out.nofr hn4.fr)
          have HBK4 := Lib.hid (HBK3.out.fr hn4.fr (fun h => h))
          have HOB4 : Hid (w4.ownsRow (wr.heap.size + 1) 5 1 (.slice Ab lp.length cbb) lp.length (cb lp)) := own_fr HOB3.out hn4.fr (fun _ _ h => h)
          clear hn4 hA4 c0 c1 c2
          go_wp2_with (at_builtin; refine wpList_app rfl _ _ 26 rfl w1.heap.size 5 i0 (.int .u8 0) 1 Tryd.underlying26 hi hz0 hz1 hz2 rfl _ _ _ rfl HB4.out.want A4 c4 dd.length (cb dd) rfl (cb_length dd) (Rd.of_own HN4.out.own) (cb_one _) HA4.out ?c3 ?c4 HB4.out.fr.size ?_)
          case c3 => have := HDL.out; unfold maxLen; omega
          case c4 => have := HDL.out; omega
          intro v5 w5 ho5 hgrow _ hblk
          obtain ⟨Aw5, cw5, rfl, _, _⟩ := own_form ho5
          have HB5 := Lib.hid (HB4.out.wanted ho5 hgrow hblk)
          have HOF5 : Hid (Off w1 w1.heap.size v3 (.slice Aw5 (l.length + dd.length) cw5) Ab) := HOF3.out.wanted hblk (fun k hk => by
            have h1 := HAB.out k hk; have h2 := HSZ3.out; have h3 := HN4.out.fr.size; omega)
          have HBK5 := Lib.hid (HBK4.out.fr (Fr.ofGrown hgrow) (fun e => own_apart HB4.out.want HBK4.out (by decide) e.symm))
          have HOB5 : Hid (w5.ownsRow (wr.heap.size + 1) 5 1 (.slice Ab lp.length cbb) lp.length (cb lp)) := own_fr HOB4.out (Fr.ofGrown hgrow) (by
            intro k hk h
            have hk' : ablk Ab k := by
              rcases Ab with _ | ab
              · cases hk
              · exact ⟨ab, rfl, by simpa [Value.ownBlock] using hk⟩
            exact (HOF3.out k hk').2.2.2 h.symm)
          have HSZ5 : Hid (w2.heap.size ≤ w5.heap.size) := by
            show w2.heap.size ≤ w5.heap.size
            have h2 := HSZ3.out; have h3 := HN4.out.fr.size; have h4 := (Fr.ofGrown hgrow).size; omega
          clear ho5 hgrow hblk
          obtain ⟨ld, hld⟩ : ∃ ld, ld = l ++ dd := ⟨_, rfl⟩
          rw [← hld] at HB5
          have hll : ld.length = l.length + dd.length := by rw [hld]; simp
          have HLL := Lib.hid hll
          have HLB : Hid (ld.length ≤ tot (xs.take (i + 1))) := by
            show ld.length ≤ tot (xs.take (i + 1))
            have h1 := HDL.out; have h2 := HL.out; have h3 := HST.out
            omega
          clear hld hll
          have HK := Lib.hid (data_any w5 w1.heap.size w1.heap.size v3 ld HB5.out.pen (by have h1 := HLL.out; have h2 := HDL.out; omega))
          go_wp2_with fail
          refine HK.out.mono ?_
          clear HK
          rintro e w6 ⟨v6, rfl, hn6⟩
          obtain ⟨A6, c6, rfl, _, _⟩ := own_form hn6.own
          have HN6 := Lib.hid hn6
          have HB6 := Lib.hid (HB5.out.nofr hn6.fr)
          have HOF6 := Lib.hid (HB5.out.off hn6.own)
          have HBK6 := Lib.hid (HBK5.out.fr hn6.fr (fun h => h))
          have HOB6 : Hid (w6.ownsRow (wr.heap.size + 1) 5 1 (.slice Ab lp.length cbb) lp.length (cb lp)) := own_fr HOB5.out hn6.fr (fun _ _ h => h)
          have c2 := HBK6.out.cell 2
          simp only [List.getElem?_toArray, List.getElem?_cons_zero, List.getElem?_cons_succ] at c2
          have hwant := HB6.out.want
          rw [HLL.out] at hwant
          have s1 := strOf w6 A6 _ c6 ld rfl (Rd.of_own hn6.own)
          have s2 := strOf w6 Aw5 (l.length + dd.length) cw5 ld HLL.out.symm (Rd.of_own hwant)
          have s3 := strOf w6 Ab _ cbb lp rfl (Rd.of_own HOB6.out)
          have s4 := strOf w6 Ap _ cp lp rfl (HOK.out.2.1.1.nofr HB6.out.fr)
          have HK := Lib.hid (spoil_any w6 w5.heap.size A6 ld.length c6 _ hn6.own)
          clear hn6 hwant
          go_wp2_with fail
          refine HK.out.mono ?_
          clear HK s1 s2 s3 s4 c2
          rintro e w7 ⟨rfl, hf7⟩
          have HB7 := Lib.hid (HB6.out.spoilt hf7 HOF6.out)
          have HOB7 : Hid (w7.ownsRow (wr.heap.size + 1) 5 1 (.slice Ab lp.length cbb) lp.length (cb lp)) := own_fr HOB6.out hf7 (by
            rintro k hk ⟨b', rfl, rfl⟩
            have h1 := (own_lt HN6.out.own (k := b'.block) rfl).1
            have hk' : ablk Ab b'.block := by
              rcases Ab with _ | ab
              · cases hk
              · exact ⟨ab, rfl, by simpa [Value.ownBlock] using hk⟩
            have h2 := HAB.out _ hk'
            have h3 := HSZ5.out
            omega)
          have HK := Lib.hid (spoil_any w7 (wr.heap.size + 1) Ab lp.length cbb _ HOB7.out)
          clear hf7
          go_wp2_with fail
          refine HK.out.mono ?_
          clear HK
          rintro e w8 ⟨rfl, hf8⟩
          have HB8 := Lib.hid (HB7.out.spoilt hf8 HOF5.out)
          clear hf8
          go_wp2_with fail
          go_roundw
          case rel => exact ⟨i + 1, v3, ld, by omega, by go_num, HB8, HLB⟩
          case measure => simp [intOf]; omega
        · have eq0 : bits .and .i64 z 3 = 1 := eq
          clear eq hq
          have HK := Lib.hid (num_any w2 w1.heap.size w1.heap.size n v l HB2.out.pen HB2.out.fr.size HOK.out.1 (by omega))
          go_wp2_with fail
          refine HK.out.mono ?_
          clear HK c0 c1 c2
          rintro e w3 ⟨rfl, v3, hw3⟩
          have HB3 := Lib.hid (HB2.out.wrote hw3)
          have HOF3 := Lib.hid (HOF2.out.wrote hw3 HAB.out)
          have HBK3 := Lib.hid (HBK2.out.fr hw3.fr (fun h => by have := HNE.out _ h; omega))
          have HOB3 : Hid (w3.ownsRow (wr.heap.size + 1) 5 1 (.slice Ab lp.length cbb) lp.length (cb lp)) := own_fr HOB2.out hw3.fr (by
            rintro k hk h
            have hk' : ablk Ab k := by
              rcases Ab with _ | ab
              · cases hk
              · exact ⟨ab, rfl, by simpa [Value.ownBlock] using hk⟩
            rcases h with h | h
            · exact (HOF2.out k hk').2.1 h
            · exact (HOF2.out k hk').2.2.1 h.symm)
          have HRP3 : Hid (Rd w3 Ap (cb lp)) := HOK.out.2.1.1.nofr HB3.out.fr
          have HSZ3 := Lib.hid hw3.fr.size
          clear hw3
          have c0 := HBK3.out.cell 0
          have c1 := HBK3.out.cell 1
          have c2 := HBK3.out.cell 2
          simp only [List.getElem?_toArray, List.getElem?_cons_zero, List.getElem?_cons_succ] at c0 c1 c2
          have HK := Lib.hid (refnum_any w3 n HOK.out.1)
          go_wp2_with fail
          refine HK.out.mono ?_
          clear HK
          rintro e w4 ⟨v4, rfl, hn4⟩
          obtain ⟨dd, hdd⟩ : ∃ dd, dd = num n := ⟨_, rfl⟩
          rw [← hdd] at hn4 HB3
          have HDL : Hid (dd.length ≤ lp.length + 10) := by
            show dd.length ≤ lp.length + 10
            rw [hdd]
            first
              | (have := num_len n HOK.out.1; omega)
              | (rw [List.length_append]; have := num_len lp.length (by omega); omega)
          clear hdd
          obtain ⟨A4, c4, rfl, _, hA4⟩ := own_form hn4.own
          have HA4 := Lib.hid hA4
          have HN4 := Lib.hid hn4
          have HB4 := Lib.hid (HB3.out.nofr hn4.fr)
          have HBK4 := Lib.hid (HBK3.out.fr hn4.fr (fun h => h))
          have HOB4 : Hid (w4.ownsRow (wr.heap.size + 1) 5 1 (.slice Ab lp.length cbb) lp.length (cb lp)) := own_fr HOB3.out hn4.fr (fun _ _ h => h)
          clear hn4 hA4 c0 c1 c2
          go_wp2_with (at_builtin; refine wpList_app rfl _ _ 26 rfl w1.heap.size 5 i0 (.int .u8 0) 1 Tryd.underlying26 hi hz0 hz1 hz2 rfl _ _ _ rfl HB4.out.want A4 c4 dd.length (cb dd) rfl (cb_length dd) (Rd.of_own HN4.out.own) (cb_one _) HA4.out ?c3 ?c4 HB4.out.fr.size ?_)
          case c3 => have := HDL.out; unfold maxLen; omega
          case c4 => have := HDL.out; omega
          intro v5 w5 ho5 hgrow _ hblk
          obtain ⟨Aw5, cw5, rfl, _, _⟩ := own_form ho5
          have HB5 := Lib.hid (HB4.out.wanted ho5 hgrow hblk)
          have HOF5 : Hid (Off w1 w1.heap.size v3 (.slice Aw5 (l.length + dd.length) cw5) Ab) := HOF3.out.wanted hblk (fun k hk => by
            have h1 := HAB.out k hk; have h2 := HSZ3.out; have h3 := HN4.out.fr.size; omega)
          have HBK5 := Lib.hid (HBK4.out.fr (Fr.ofGrown hgrow) (fun e => own_apart HB4.out.want HBK4.out (by decide) e.symm))
          have HOB5 : Hid (w5.ownsRow (wr.heap.size + 1) 5 1 (.slice Ab lp.length cbb) lp.length (cb lp)) := own_fr HOB4.out (Fr.ofGrown hgrow) (by
            intro k hk h
            have hk' : ablk Ab k := by
              rcases Ab with _ | ab
              · cases hk
              · exact ⟨ab, rfl, by simpa [Value.ownBlock] using hk⟩
            exact (HOF3.out k hk').2.2.2 h.symm)
          have HSZ5 : Hid (w2.heap.size ≤ w5.heap.size) := by
            show w2.heap.size ≤ w5.heap.size
            have h2 := HSZ3.out; have h3 := HN4.out.fr.size; have h4 := (Fr.ofGrown hgrow).size; omega
          clear ho5 hgrow hblk
          obtain ⟨ld, hld⟩ : ∃ ld, ld = l ++ dd := ⟨_, rfl⟩
          rw [← hld] at HB5
          have hll : ld.length = l.length + dd.length := by rw [hld]; simp
          have HLL := Lib.hid hll
          have HLB : Hid (ld.length ≤ tot (xs.take (i + 1))) := by
            show ld.length ≤ tot (xs.take (i + 1))
            have h1 := HDL.out; have h2 := HL.out; have h3 := HST.out
            omega
          clear hld hll
          have HK := Lib.hid (data_any w5 w1.heap.size w1.heap.size v3 ld HB5.out.pen (by have h1 := HLL.out; have h2 := HDL.out; omega))
          go_wp2_with fail
          refine HK.out.mono ?_
          clear HK
          rintro e w6 ⟨v6, rfl, hn6⟩
          obtain ⟨A6, c6, rfl, _, _⟩ := own_form hn6.own
          have HN6 := Lib.hid hn6
          have HB6 := Lib.hid (HB5.out.nofr hn6.fr)
          have HOF6 := Lib.hid (HB5.out.off hn6.own)
          have HBK6 := Lib.hid (HBK5.out.fr hn6.fr (fun h => h))
          have HOB6 : Hid (w6.ownsRow (wr.heap.size + 1) 5 1 (.slice Ab lp.length cbb) lp.length (cb lp)) := own_fr HOB5.out hn6.fr (fun _ _ h => h)
          have c2 := HBK6.out.cell 2
          simp only [List.getElem?_toArray, List.getElem?_cons_zero, List.getElem?_cons_succ] at c2
          have hwant := HB6.out.want
          rw [HLL.out] at hwant
          have s1 := strOf w6 A6 _ c6 ld rfl (Rd.of_own hn6.own)
          have s2 := strOf w6 Aw5 (l.length + dd.length) cw5 ld HLL.out.symm (Rd.of_own hwant)
          have s3 := strOf w6 Ab _ cbb lp rfl (Rd.of_own HOB6.out)
          have s4 := strOf w6 Ap _ cp lp rfl (HOK.out.2.1.1.nofr HB6.out.fr)
          have HK := Lib.hid (spoil_any w6 w5.heap.size A6 ld.length c6 _ hn6.own)
          clear hn6 hwant
          go_wp2_with fail
          refine HK.out.mono ?_
          clear HK s1 s2 s3 s4 c2
          rintro e w7 ⟨rfl, hf7⟩
          have HB7 := Lib.hid (HB6.out.spoilt hf7 HOF6.out)
          have HOB7 : Hid (w7.ownsRow (wr.heap.size + 1) 5 1 (.slice Ab lp.length cbb) lp.length (cb lp)) := own_fr HOB6.out hf7 (by
            rintro k hk ⟨b', rfl, rfl⟩
            have h1 := (own_lt HN6.out.own (k := b'.block) rfl).1
            have hk' : ablk Ab b'.block := by
              rcases Ab with _ | ab
              · cases hk
              · exact ⟨ab, rfl, by simpa [Value.ownBlock] using hk⟩
            have h2 := HAB.out _ hk'
            have h3 := HSZ5.out
            omega)
          have HK := Lib.hid (spoil_any w7 (wr.heap.size + 1) Ab lp.length cbb _ HOB7.out)
          clear hf7
          go_wp2_with fail
          refine HK.out.mono ?_
          clear HK
          rintro e w8 ⟨rfl, hf8⟩
          have HB8 := Lib.hid (HB7.out.spoilt hf8 HOF5.out)
          clear hf8
          go_wp2_with fail
          go_roundw
          case rel => exact ⟨i + 1, v3, ld, by omega, by go_num, HB8, HLB⟩
          case measure => simp [intOf]; omega
        · have eq0 : bits .and .i64 z 3 = 2 := eq
          clear eq hq
          have HK := Lib.hid (text_any w2 w1.heap.size w1.heap.size Ab lp.length cbb lp v l HB2.out.pen HB2.out.fr.size rfl (Rd.of_own HOB2.out) HABN.out (fun _ k hk => ⟨(HOF2.out k hk).2.1, fun e => (HOF2.out k hk).2.2.1 e.symm⟩) (by omega) (by omega))
          go_wp2_with fail
          refine HK.out.mono ?_
          clear HK c0 c1 c2
          rintro e w3 ⟨rfl, v3, hw3⟩
          have HB3 := Lib.hid (HB2.out.wrote hw3)
          have HOF3 := Lib.hid (HOF2.out.wrote hw3 HAB.out)
          have HBK3 := Lib.hid (HBK2.out.fr hw3.fr (fun h => by have := HNE.out _ h; omega))
          have HOB3 : Hid (w3.ownsRow (wr.heap.size + 1) 5 1 (.slice Ab lp.length cbb) lp.length (cb lp)) := own_fr HOB2.out hw3.fr (by
            rintro k hk h
            have hk' : ablk Ab k := by
              rcases Ab with _ | ab
              · cases hk
              · exact ⟨ab, rfl, by simpa [Value.ownBlock] using hk⟩
            rcases h with h | h
            · exact (HOF2.out k hk').2.1 h
            · exact (HOF2.out k hk').2.2.1 h.symm)
          have HRP3 : Hid (Rd w3 Ap (cb lp)) := HOK.out.2.1.1.nofr HB3.out.fr
          have HSZ3 := Lib.hid hw3.fr.size
          clear hw3
          have c0 := HBK3.out.cell 0
          have c1 := HBK3.out.cell 1
          have c2 := HBK3.out.cell 2
          simp only [List.getElem?_toArray, List.getElem?_cons_zero, List.getElem?_cons_succ] at c0 c1 c2
          have HK := Lib.hid (reftext_any w3 Ap lp.length cp lp rfl HRP3.out HOK.out.2.1.2 (by omega))
          go_wp2_with fail
          refine HK.out.mono ?_
          clear HK
          rintro e w4 ⟨v4, rfl, hn4⟩
          obtain ⟨dd, hdd⟩ : ∃ dd, dd = num lp.length ++ lp := ⟨_, rfl⟩
          rw [← hdd] at hn4 HB3
          have HDL : Hid (dd.length ≤ lp.length + 10) := by
            show dd.length ≤ lp.length + 10
            rw [hdd]
            first
              | (have := num_len n HOK.out.1; omega)
              | (rw [List.length_append]; have := num_len lp.length (by omega); omega)
          clear hdd
          obtain ⟨A4, c4, rfl, _, hA4⟩ := own_form hn4.own
          have HA4 := Lib.hid hA4
          have HN4 := Lib.hid hn4
          have HB4 := Lib.hid (HB3.out.nofr hn4.fr)
          have HBK4 := Lib.hid (HBK3.out.fr hn4.fr (fun h => h))
          have HOB4 : Hid (w4.ownsRow (wr.heap.size + 1) 5 1 (.slice Ab lp.length cbb) lp.length (cb lp)) := own_fr HOB3.out hn4.fr (fun _ _ h => h)
          clear hn4 hA4 c0 c1 c2
          go_wp2_with (at_builtin; refine wpList_app rfl _ _ 26 rfl w1.heap.size 5 i0 (.int .u8 0) 1 Tryd.underlying26 hi hz0 hz1 hz2 rfl _ _ _ rfl HB4.out.want A4 c4 dd.length (cb dd) rfl (cb_length dd) (Rd.of_own HN4.out.own) (cb_one _) HA4.out ?c3 ?c4 HB4.out.fr.size ?_)
          case c3 => have := HDL.out; unfold maxLen; omega
          case c4 => have := HDL.out; omega
          intro v5 w5 ho5 hgrow _ hblk
          obtain ⟨Aw5, cw5, rfl, _, _⟩ := own_form ho5
          have HB5 := Lib.hid (HB4.out.wanted ho5 hgrow hblk)
          have HOF5 : Hid (Off w1 w1.heap.size v3 (.slice Aw5 (l.length + dd.length) cw5) Ab) := HOF3.out.wanted hblk (fun k hk => by
            have h1 := HAB.out k hk; have h2 := HSZ3.out; have h3 := HN4.out.fr.size; omega)
          have HBK5 := Lib.hid (HBK4.out.fr (Fr.ofGrown hgrow) (fun e => own_apart HB4.out.want HBK4.out (by decide) e.symm))
          have HOB5 : Hid (w5.ownsRow (wr.heap.size + 1) 5 1 (.slice Ab lp.length cbb) lp.length (cb lp)) := own_fr HOB4.out (Fr.ofGrown hgrow) (by
            intro k hk h
            have hk' : ablk Ab k := by
              rcases Ab with _ | ab
              · cases hk
              · exact ⟨ab, rfl, by simpa [Value.ownBlock] using hk⟩
            exact (HOF3.out k hk').2.2.2 h.symm)
          have HSZ5 : Hid (w2.heap.size ≤ w5.heap.size) := by
            show w2.heap.size ≤ w5.heap.size
            have h2 := HSZ3.out; have h3 := HN4.out.fr.size; have h4 := (Fr.ofGrown hgrow).size; omega
          clear ho5 hgrow hblk
          obtain ⟨ld, hld⟩ : ∃ ld, ld = l ++ dd := ⟨_, rfl⟩
          rw [← hld] at HB5
          have hll : ld.length = l.length + dd.length := by rw [hld]; simp
          have HLL := Lib.hid hll
          have HLB : Hid (ld.length ≤ tot (xs.take (i + 1))) := by
            show ld.length ≤ tot (xs.take (i + 1))
            have h1 := HDL.out; have h2 := HL.out; have h3 := HST.out
            omega
          clear hld hll
          have HK := Lib.hid (data_any w5 w1.heap.size w1.heap.size v3 ld HB5.out.pen (by have h1 := HLL.out; have h2 := HDL.out; omega))
          go_wp2_with fail
          refine HK.out.mono ?_
          clear HK
          rintro e w6 ⟨v6, rfl, hn6⟩
          obtain ⟨A6, c6, rfl, _, _⟩ := own_form hn6.own
          have HN6 := Lib.hid hn6
          have HB6 := Lib.hid (HB5.out.nofr hn6.fr)
          have HOF6 := Lib.hid (HB5.out.off hn6.own)
          have HBK6 := Lib.hid (HBK5.out.fr hn6.fr (fun h => h))
          have HOB6 : Hid (w6.ownsRow (wr.heap.size + 1) 5 1 (.slice Ab lp.length cbb) lp.length (cb lp)) := own_fr HOB5.out hn6.fr (fun _ _ h => h)
          have c2 := HBK6.out.cell 2
          simp only [List.getElem?_toArray, List.getElem?_cons_zero, List.getElem?_cons_succ] at c2
          have hwant := HB6.out.want
          rw [HLL.out] at hwant
          have s1 := strOf w6 A6 _ c6 ld rfl (Rd.of_own hn6.own)
          have s2 := strOf w6 Aw5 (l.length + dd.length) cw5 ld HLL.out.symm (Rd.of_own hwant)
          have s3 := strOf w6 Ab _ cbb lp rfl (Rd.of_own HOB6.out)
          have s4 := strOf w6 Ap _ cp lp rfl (HOK.out.2.1.1.nofr HB6.out.fr)
          have HK := Lib.hid (spoil_any w6 w5.heap.size A6 ld.length c6 _ hn6.own)
          clear hn6 hwant
          go_wp2_with fail
          refine HK.out.mono ?_
          clear HK s1 s2 s3 s4 c2
          rintro e w7 ⟨rfl, hf7⟩
          have HB7 := Lib.hid (HB6.out.spoilt hf7 HOF6.out)
          have HOB7 : Hid (w7.ownsRow (wr.heap.size + 1) 5 1 (.slice Ab lp.length cbb) lp.length (cb lp)) := own_fr HOB6.out hf7 (by
            rintro k hk ⟨b', rfl, rfl⟩
            have h1 := (own_lt HN6.out.own (k := b'.block) rfl).1
            have hk' : ablk Ab b'.block := by
              rcases Ab with _ | ab
              · cases hk
              · exact ⟨ab, rfl, by simpa [Value.ownBlock] using hk⟩
            have h2 := HAB.out _ hk'
            have h3 := HSZ5.out
            omega)
          have HK := Lib.hid (spoil_any w7 (wr.heap.size + 1) Ab lp.length cbb _ HOB7.out)
          clear hf7
          go_wp2_with fail
          refine HK.out.mono ?_
          clear HK
          rintro e w8 ⟨rfl, hf8⟩
          have HB8 := Lib.hid (HB7.out.spoilt hf8 HOF5.out)
          clear hf8
          go_wp2_with fail
          go_roundw
          case rel => exact ⟨i + 1, v3, ld, by omega, by go_num, HB8, HLB⟩
          case measure => simp [intOf]; omega
        · have eq0 : bits .and .i64 z 3 = 3 := eq
          clear eq hq
          obtain ⟨x, hx⟩ : ∃ x, x = UInt8.ofNat n := ⟨_, rfl⟩
          have e8 : (n : Int) % 256 = (x.toNat : Int) := by rw [hx, UInt8.toNat_ofNat']; omega
          clear hx
          have HK := Lib.hid (byte_any w2 w1.heap.size w1.heap.size x v l HB2.out.pen HB2.out.fr.size (by omega))
          go_wp2_with fail
          refine HK.out.mono ?_
          clear HK c0 c1 c2
          rintro e w3 ⟨rfl, v3, hw3⟩
          have HB3 := Lib.hid (HB2.out.wrote hw3)
          have HOF3 := Lib.hid (HOF2.out.wrote hw3 HAB.out)
          have HBK3 := Lib.hid (HBK2.out.fr hw3.fr (fun h => by have := HNE.out _ h; omega))
          have HOB3 : Hid (w3.ownsRow (wr.heap.size + 1) 5 1 (.slice Ab lp.length cbb) lp.length (cb lp)) := own_fr HOB2.out hw3.fr (by
            rintro k hk h
            have hk' : ablk Ab k := by
              rcases Ab with _ | ab
              · cases hk
              · exact ⟨ab, rfl, by simpa [Value.ownBlock] using hk⟩
            rcases h with h | h
            · exact (HOF2.out k hk').2.1 h
            · exact (HOF2.out k hk').2.2.1 h.symm)
          have HRP3 : Hid (Rd w3 Ap (cb lp)) := HOK.out.2.1.1.nofr HB3.out.fr
          have HSZ3 := Lib.hid hw3.fr.size
          clear hw3
          have c0 := HBK3.out.cell 0
          have c1 := HBK3.out.cell 1
          have c2 := HBK3.out.cell 2
          simp only [List.getElem?_toArray, List.getElem?_cons_zero, List.getElem?_cons_succ] at c0 c1 c2
          have HDL : Hid ((1 : Nat) ≤ lp.length + 10) := by show 1 ≤ lp.length + 10; omega
          have HFA : Hid (Fr NoBlk w3 (w3.alloc (.cells #[.int .u8 (x.toNat : Int)] 5))) := (Fr.refl _ _).alloc _
          have HSZ4 := Lib.hid HFA.out.size
          have HB4 := Lib.hid (HB3.out.nofr HFA.out)
          have HBK4 := Lib.hid (HBK3.out.fr HFA.out (fun h => h))
          have HOB4 : Hid ((w3.alloc (.cells #[.int .u8 (x.toNat : Int)] 5)).ownsRow (wr.heap.size + 1) 5 1 (.slice Ab lp.length cbb) lp.length (cb lp)) := own_fr HOB3.out HFA.out (fun _ _ h => h)
          clear c0 c2
          go_wp2_with (at_builtin; refine wpList_app rfl _ _ 26 rfl w1.heap.size 5 i0 (.int .u8 0) 1 Tryd.underlying26 hi hz0 hz1 hz2 rfl _ _ _ rfl HB4.out.want (some ⟨w3.heap.size, 0, none⟩) 1 1 (cb [x]) rfl rfl ?c1 (cb_one _) ?c2 ?c3 ?c4 HB4.out.fr.size ?_)
          case c1 => exact Rd.of_cells (Bk.new _ _ _)
          case c2 => intro h; cases h
          case c3 => unfold maxLen; omega
          case c4 => omega
          intro v5 w5 ho5 hgrow _ hblk
          clear c1
          obtain ⟨Aw5, cw5, rfl, _, _⟩ := own_form ho5
          have hblk2 : (Value.slice Aw5 (l.length + 1) cw5).ownBlock = (Value.slice Aw l.length cw).ownBlock ∨ (Value.slice Aw5 (l.length + 1) cw5).ownBlock = some (w3.alloc (.cells #[.int .u8 (x.toNat : Int)] 5)).heap.size := by
            rw [show (w3.alloc (.cells #[.int .u8 (x.toNat : Int)] 5)).heap.size = w3.heap.size + 1 by simp]
            exact hblk
          have HB5 := Lib.hid (HB4.out.wanted (d := [x]) ho5 hgrow hblk2)
          have HOF5 : Hid (Off w1 w1.heap.size v3 (.slice Aw5 (l.length + 1) cw5) Ab) := HOF3.out.wanted hblk2 (fun k hk => by
            have h1 := HAB.out k hk; have h2 := HSZ3.out; have h3 := HSZ4.out; omega)
          have HBK5 := Lib.hid (HBK4.out.fr (Fr.ofGrown hgrow) (fun e => own_apart HB4.out.want HBK4.out (by decide) e.symm))
          have HOB5 : Hid (w5.ownsRow (wr.heap.size + 1) 5 1 (.slice Ab lp.length cbb) lp.length (cb lp)) := own_fr HOB4.out (Fr.ofGrown hgrow) (by
            intro k hk h
            have hk' : ablk Ab k := by
              rcases Ab with _ | ab
              · cases hk
              · exact ⟨ab, rfl, by simpa [Value.ownBlock] using hk⟩
            exact (HOF3.out k hk').2.2.2 h.symm)
          have HSZ5 : Hid (w2.heap.size ≤ w5.heap.size) := by
            show w2.heap.size ≤ w5.heap.size
            have h2 := HSZ3.out; have h3 := HSZ4.out; have h4 := (Fr.ofGrown hgrow).size; omega
          clear ho5 hgrow hblk hblk2
          obtain ⟨ld, hld⟩ : ∃ ld, ld = l ++ [x] := ⟨_, rfl⟩
          rw [← hld] at HB5
          have hll : ld.length = l.length + 1 := by rw [hld]; simp
          have HLL := Lib.hid hll
          have HLB : Hid (ld.length ≤ tot (xs.take (i + 1))) := by
            show ld.length ≤ tot (xs.take (i + 1))
            have h1 := HDL.out; have h2 := HL.out; have h3 := HST.out
            omega
          clear hld hll
          have HK := Lib.hid (data_any w5 w1.heap.size w1.heap.size v3 ld HB5.out.pen (by have h1 := HLL.out; have h2 := HDL.out; omega))
          go_wp2_with fail
          refine HK.out.mono ?_
          clear HK
          rintro e w6 ⟨v6, rfl, hn6⟩
          obtain ⟨A6, c6, rfl, _, _⟩ := own_form hn6.own
          have HN6 := Lib.hid hn6
          have HB6 := Lib.hid (HB5.out.nofr hn6.fr)
          have HOF6 := Lib.hid (HB5.out.off hn6.own)
          have HBK6 := Lib.hid (HBK5.out.fr hn6.fr (fun h => h))
          have HOB6 : Hid (w6.ownsRow (wr.heap.size + 1) 5 1 (.slice Ab lp.length cbb) lp.length (cb lp)) := own_fr HOB5.out hn6.fr (fun _ _ h => h)
          have c2 := HBK6.out.cell 2
          simp only [List.getElem?_toArray, List.getElem?_cons_zero, List.getElem?_cons_succ] at c2
          have hwant := HB6.out.want
          rw [HLL.out] at hwant
          have s1 := strOf w6 A6 _ c6 ld rfl (Rd.of_own hn6.own)
          have s2 := strOf w6 Aw5 (l.length + 1) cw5 ld HLL.out.symm (Rd.of_own hwant)
          have s3 := strOf w6 Ab _ cbb lp rfl (Rd.of_own HOB6.out)
          have s4 := strOf w6 Ap _ cp lp rfl (HOK.out.2.1.1.nofr HB6.out.fr)
          have HK := Lib.hid (spoil_any w6 w5.heap.size A6 ld.length c6 _ hn6.own)
          clear hn6 hwant
          go_wp2_with fail
          refine HK.out.mono ?_
          clear HK s1 s2 s3 s4 c2
          rintro e w7 ⟨rfl, hf7⟩
          have HB7 := Lib.hid (HB6.out.spoilt hf7 HOF6.out)
          have HOB7 : Hid (w7.ownsRow (wr.heap.size + 1) 5 1 (.slice Ab lp.length cbb) lp.length (cb lp)) := own_fr HOB6.out hf7 (by
            rintro k hk ⟨b', rfl, rfl⟩
            have h1 := (own_lt HN6.out.own (k := b'.block) rfl).1
            have hk' : ablk Ab b'.block := by
              rcases Ab with _ | ab
              · cases hk
              · exact ⟨ab, rfl, by simpa [Value.ownBlock] using hk⟩
            have h2 := HAB.out _ hk'
            have h3 := HSZ5.out
            omega)
          have HK := Lib.hid (spoil_any w7 (wr.heap.size + 1) Ab lp.length cbb _ HOB7.out)
          clear hf7
          go_wp2_with fail
          refine HK.out.mono ?_
          clear HK
          rintro e w8 ⟨rfl, hf8⟩
          have HB8 := Lib.hid (HB7.out.spoilt hf8 HOF5.out)
          clear hf8
          go_wp2_with fail
          go_roundw
          case rel => exact ⟨i + 1, v3, ld, by omega, by go_num, HB8, HLB⟩
          case measure => simp [intOf]; omega
      · have HTK : Hid (xs.take i = xs) := List.take_of_length_le (by omega)
        have hbl : l.length ≤ 100000 := by
          have h1 := HL.out; have h2 := HTOT.out
          rw [HTK.out] at h1; omega
        have HDA : Hid (∀ W, Fr NoBlk wr W → Calls Tryd.prog 19 #[.pointer (some ⟨w1.heap.size, 0, none⟩)] W fun e W' => ∃ A6 c6, e = .returned (.slice A6 l.length c6) ∧ Rd W' A6 (cb l) ∧ Fr NoBlk wr W') := fun W hW =>
          (data_any W w1.heap.size w1.heap.size v l (HB.out.nofr hW).pen (by omega)).mono fun e W' ⟨v', he, hn⟩ => by
            obtain ⟨A6, c6, rfl, _, _⟩ := own_form hn.own
            exact ⟨A6, c6, he, Rd.of_own hn.own, hW.trans hn.fr⟩
        have HRW := Lib.hid (Rd.of_own HB.out.want)
        have s0 := strOf wr.drew Aw _ cw l rfl (HRW.out.nofr (Fr.refl _ _).drew)
        have HFR := Lib.hid (HF.out.trans HB.out.fr)
        go_wp2_with fail
        go_region_with (go_at_call 19; refine (HDA.out _ ?_).mono ?_; exact (Fr.refl _ _).drew; rintro e w9 ⟨A9, c9, rfl, hr9, hf9⟩; have s9 := strOf w9 A9 _ c9 l rfl hr9; have s8 := strOf w9 Aw _ cw l rfl (HRW.out.nofr hf9); have HF9 := Lib.hid (HFR.out.trans hf9); clear hr9 hf9)
        all_goals
          go_wp2
          go_ret
          exact ⟨rfl, HF9.out⟩

theorem paramsOk : ∀ t ∈ Tryd.f4.params.toList, Tryd.prog.readableRec t = true ∧ t < Tryd.prog.types.size := fun t ht => by
  have h := List.all_eq_true.1 (show (Tryd.f4.params.toList.all fun t => Tryd.prog.readableRec t && decide (t < Tryd.prog.types.size)) = true by kernel_rfl) t ht
  simpa using h
theorem paramsPlain : ∀ (j : Nat) t, Tryd.f4.params[j]? = some t → Tryd.prog.wantsStandIn t = false := fun j t ht => by
  have h := List.all_eq_true.1 (show (Tryd.f4.params.toList.all fun t => !Tryd.prog.wantsStandIn t) = true by kernel_rfl) t (by simpa using Array.mem_of_getElem? ht)
  simpa using h

theorem contract (H : Type) (enc : TypeId × Value → H) (W : World) (args : Array Value) (ds gs : List (DataW H)) (before : List MemPlace)
    (base : Nat) (hval : ∀ (j : Nat) t v, Tryd.f4.params[j]? = some t → args[j]? = some v → Value.okWide Tryd.prog W .any base t v)
    (hW : DataW.Whole enc Tryd.prog Tryd.f4.params.toList Rows.codeWritesSpec.vars false W args.toList ds gs before) (hL : laidMetH Tryd.prog Rows.codeWritesRow.laid W) :
    Calls Tryd.prog 4 args W fun e W' => ∃ v, e = .returned v ∧ Rows.codeWritesSpec.post enc Tryd.prog Tryd.f4 false true false false W args v W' := by
  have hW' := hW
  obtain ⟨p, q, hA, hV, rfl, _, _⟩ := hW
  rw [Tryd.params4] at hA hval
  obtain ⟨v0, vs0, d0, ds0, p0, q0, hargs, rfl, rfl, h0, r0⟩ := trodAll_cons hA
  obtain ⟨rfl, rfl, rfl⟩ := trodAll_nil r0
  obtain rfl : args = #[v0] := by cases args; simp_all
  obtain ⟨rfl, rfl⟩ := trodVars_none hV
  obtain ⟨A, c, xs, rfl, hr, hp, hlc, hcm⟩ := open_script (hval 0 _ v0 rfl rfl) h0
  have walk := walk W (table hL) A c xs hr hp (by omega)
  refine walk.mono fun e W' ⟨he, hf⟩ => ?_
  subst he
  exact ⟨_, rfl, law_post laidOut paramsOk rfl rfl Tryd.underlying4 hW' rfl rfl rfl hf⟩

theorem laid_met (os : Os) : laidMet Tryd.prog Rows.codeWritesRow.laid ((laidWorld os).forCall (fun _ _ => 0) ⟨#[], #[.slice none 0 0], []⟩).memory :=
  laidMet_of_run' 20 (by kernel_rfl) (by kernel_rfl)
theorem reads (os : Os) {H : Type} (enc : TypeId × Value → H) : ∃ places, DataW.whole enc Tryd.prog ((laidWorld os).forCall (fun _ _ => 0) ⟨#[], #[.slice none 0 0], []⟩).memory Tryd.f4.params.toList Rows.codeWritesSpec.vars false (#[.slice none 0 0] : Array Value).toList 8 = some ([.nil], [], places) :=
  ⟨[], by kernel_rfl⟩

set_option maxRecDepth 100000 in
theorem lifted (os : Os) (started : os.Started) (H : Type) (enc : TypeId × Value → H) (F : Stop.Interp) :
    ReturnsInHanded {} Tryd.checked os 4 .any ((OpenSpec.ofChange Rows.codeWritesSpec).preRow enc Tryd.prog Tryd.f4 Rows.codeWritesRow.domain false Rows.codeWritesRow.laid) (((OpenSpec.ofChange Rows.codeWritesSpec).at F).post enc Tryd.prog Tryd.f4 false true false false) := by
  obtain ⟨places, hx⟩ := reads os enc
  refine returnsInHanded_of_row (C := Tryd.checked) (s := OpenSpec.ofChange Rows.codeWritesSpec) own started (by kernel_rfl) Tryd.func4
    (witness_row_at (enc := enc) (C := Tryd.checked) false (laidWorld os) #[.slice none 0 0] rfl (by kernel_rfl) (by kernel_rfl) (by kernel_rfl)
      (OpenSpec.preRow_of_cond 8 hx (by kernel_rfl) (fun k hk => by cases hk) (by kernel_rfl) (laid_met os))) ?_
  intro W base args ds gs before hval hW _ _ _ hL _ _
  exact contract H enc W args ds gs before base hval hW hL

theorem said : Rows.CodeWritesSaid :=
  OpenClaim.holds_of_cond 4 Tryd.f4 rfl rfl rfl rfl rfl rfl rfl ⟨rfl, rfl, rfl, rfl, rfl⟩ rfl rfl rfl rfl rfl (by kernel_rfl) Tryd.func4 (by kernel_rfl)
    (of_decide_eq_true (by kernel_rfl)) (by unfold Func.isWrapper; first | (rw [if_pos (by decide +kernel)]; kernel_rfl) | (rw [if_neg (by decide +kernel)]; exact ⟨rfl, rfl⟩))
    (fun os started H enc _ F => by rw [OpenClaim.pre_eq_preRow]; exact lifted os started H enc F)

theorem plain (f : FuncId) (fn : Func) (hf : Tryd.pinned.checked.prog.funcNamed "argosy/argosylaw01.CodeWrites" = some f) (hfn : Tryd.pinned.checked.prog.funcs[f]? = some fn) :
    false = Tryd.pinned.checked.prog.looks [] ∧ ∀ (j : Nat) t, fn.params[j]? = some t → Tryd.pinned.checked.prog.wantsStandIn t = false := by
  obtain rfl : f = 4 := Option.some.inj ((show Tryd.prog.funcNamed "argosy/argosylaw01.CodeWrites" = some 4 by kernel_rfl).symm.trans hf) |>.symm
  obtain rfl : fn = Tryd.f4 := (Option.some.inj (Tryd.func4.symm.trans hfn)).symm
  exact ⟨by kernel_rfl, paramsPlain⟩

theorem card : Rows.CodeWritesCardSaid :=
  Claim7.holds_tied_plain_at .later [] _ _ _ _ said (fun _ h => by cases h) (by kernel_rfl) (fun _ h => by cases h) codeWrites_row_tie rfl ⟨rfl, rfl⟩ (by kernel_rfl) rfl plain (by kernel_rfl)
end Go.Proofs.YtmghlalddgklaaaDoor.codeWrites
