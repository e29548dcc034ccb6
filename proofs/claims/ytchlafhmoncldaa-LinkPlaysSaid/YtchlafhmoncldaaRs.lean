/- The document's link: Send. Conditions: it lies in blocks of its own. -/
import Derived.Test.YtchlafhmoncldaaRk
namespace Go.Proofs.Ytchlafhmoncldaa
open Go.RowKit Go.Maps Go.ChangeMaps Go.MapKept Go.WideShapes

def RSendPost (M : Nat → Prop) (W : World) (m : Nat) (R : Rk) (d : Bs) (e : Ending) (W' : World) : Prop :=
  if 16 ≤ R.outs.length then e = .returned (.int .i64 2) ∧ W = W' else e = .returned (.int .i64 0) ∧ Fr (fun k => k = m) W W' ∧ ∃ A c p, p.2.2 = d ∧ RkIn (Plus M W W') W' m { R with ao := A, co := c, outs := R.outs ++ [p] }
set_option maxRecDepth 100000 in
set_option maxHeartbeats 1000000 in
theorem rsend_any (W : World) (M : Nat → Prop) (m : Nat) (R : Rk) (h : RkIn M W m R) (A : Option Addr) (c : Nat) (d : Bs) (hr : Rd W A (cb d)) (hA : A = none → c = 0) (hd : d.length ≤ 1000000) :
    Calls Try.prog 13 #[.pointer (some ⟨m, 0, none⟩), .slice A d.length c] W (RSendPost M W m R d) := by
  obtain ⟨i0, hi, hz0, hz1, hz2⟩ := info_parts sliceInfo
  obtain ⟨j0, hj, hy0, hy1, hy2⟩ := info_parts byteInfo
  have HL := Lib.hid h
  have HP : Hid (∀ e W', RSendPost M W m R d e W' = if 16 ≤ R.outs.length then e = .returned (.int .i64 2) ∧ W = W' else e = .returned (.int .i64 0) ∧ Fr (fun k => k = m) W W' ∧ ∃ A c p, p.2.2 = d ∧ RkIn (Plus M W W') W' m { R with ao := A, co := c, outs := R.outs ++ [p] }) := fun _ _ => rfl
  have HR : Hid (Rd W A (cb d)) := hr
  have HA : Hid (A = none → c = 0) := hA
  have HD : Hid (d.length ≤ 1000000) := hd
  obtain ⟨_, _, _, _, c4, _⟩ := h.cells
  have hmlt : m < W.heap.size := h.bk.lt
  clear h hr hA hd
  by_cases h16 : 16 ≤ R.outs.length
  · have h16' : (16 : Int) ≤ (R.outs.length : Int) := by omega
    have HH := Lib.hid h16
    clear h16
    go_enter Try.func13, Try.ntmps13
    go_wp2_with fail
    go_ret
    rw [HP.out, if_pos HH.out]
    exact ⟨rfl, rfl⟩
  have h16' : ¬ (16 : Int) ≤ (R.outs.length : Int) := by omega
  have HFEW : Hid (R.outs.length < 16) := by show _ < _; omega
  have c4a : (W.alloc (.cells #[] 30)).cell? ⟨m, 4, none⟩ = some (.slice R.ao R.outs.length R.co) := (HL.out.nofr ((Fr.refl _ _).alloc _)).cells.2.2.2.2.1
  have HMLT := Lib.hid hmlt
  clear h16 hmlt
  go_enter Try.func13, Try.ntmps13
  go_wp2_with (at_builtin; refine wpList_app rfl _ _ 38 rfl W.heap.size 30 i0 _ 24 Try.underlying38 hi hz0 hz1 hz2 rfl _ 0 [] rfl (World.ownsRow_made W #[] 0 (Nat.le_refl _) (by decide) rfl) R.ao R.co R.outs.length (R.outs.map sl) rfl (List.length_map ..) ?c1 (sl_one _) ?c2 ?c3 ?c4 ?c5 ?_)
  case c1 => exact (HL.out.nofr ((Fr.refl _ _).alloc _)).out.rd
  case c2 => exact HL.out.outc.2.2
  case c3 => have := HFEW.out; unfold maxLen; omega
  case c4 => have := HFEW.out; omega
  try (case c5 => simp)
  intro v2 w2 ho2 hg2 _ _
  obtain ⟨A2, c2, rfl, _, _⟩ := own_form ho2
  have hf2 : Fr NoBlk W w2 := ((Fr.refl _ _).alloc _).grown hg2 (fun k hk hlt => by simp [Value.ownBlock] at hk; omega)
  have ho2' : w2.ownsRow W.heap.size 30 1 (.slice A2 R.outs.length c2) R.outs.length (R.outs.map sl) := by simpa using ho2
  have HO2 := Lib.hid ho2'
  have HF2 := Lib.hid hf2
  try simp only [Nat.zero_add]
  clear ho2 ho2' hg2 hf2 c4a c4 h16'
  have hm2 : (w2.alloc (.cells #[] 5)).ownsRow w2.heap.size 5 1 (.slice (some ⟨w2.heap.size, 0, none⟩) 0 0) 0 [] := own_new rfl (Nat.le_refl _)
  have hr2 : Rd (w2.alloc (.cells #[] 5)) A (cb d) := (HR.out.nofr HF2.out).alloc _
  go_wp2_with (at_builtin; go_loud (refine wpList_app rfl (.tmp 18) (.tmp 19) 30 rfl w2.heap.size 5 j0 (.int .u8 0) 1 Try.underlying30 hj hy0 hy1 hy2 rfl (.slice (some ⟨w2.heap.size, 0, none⟩) 0 0) 0 [] rfl hm2 A c d.length (cb d) rfl (cb_length d) hr2 (cb_one _) HA.out ?d3 ?d4 ?d5 ?_))
  case d3 => have := HD.out; unfold maxLen; omega
  case d4 => have := HD.out; omega
  case d5 => simp
  intro v3 w3 ho3 hg3 _ _
  obtain ⟨A3, c3, rfl, _, _⟩ := own_form ho3
  have hf3 : Fr NoBlk w2 w3 := ((Fr.refl _ _).alloc _).grown hg3 (fun k hk hlt => by simp [Value.ownBlock] at hk; omega)
  have hd3 : w3.ownsRow w2.heap.size 5 1 (.slice A3 d.length c3) d.length (cb d) := by simpa using ho3
  have HD3 := Lib.hid hd3
  have HO3 : Hid (w3.ownsRow W.heap.size 30 1 (.slice A2 R.outs.length c2) R.outs.length (R.outs.map sl)) := own_fr HO2.out hf3 (fun _ _ h => h)
  have HF3 : Hid (Fr NoBlk W w3) := HF2.out.trans hf3
  have HS2 : Hid (W.heap.size ≤ w2.heap.size) := HF2.out.size
  try simp only [Nat.zero_add]
  clear ho3 hd3 hg3 hf3 HO2 HF2
  go_wp2_with (at_builtin; go_loud (refine wpList_appO rfl _ _ 38 rfl W.heap.size 30 i0 _ 1 24 Try.underlying38 hi hz0 hz1 hz2 rfl (by decide) (.slice A2 R.outs.length c2) R.outs.length (R.outs.map sl) rfl (own_fr HO3.out ((Fr.refl NoBlk w3).alloc _) (fun _ _ h => h)) ⟨w3.heap.size, 0, none⟩ 1 1 [sl (A3, c3, d)] rfl rfl (Rd.of_cells (Bk.new w3 _ #[sl (A3, c3, d)])) ?q1 ?q2 ?q3 ?q4 ?_))
  case q1 => intro y hy; rw [List.mem_singleton.1 hy]; rfl
  case q2 => have := HFEW.out; unfold maxLen; omega
  case q3 => have := HFEW.out; omega
  case q4 => exact (HF3.out.alloc _).size
  intro v4 w4 ho4 hg4 hb4
  obtain ⟨A4, c4, rfl, hn4, hA4⟩ := own_form ho4
  have hfa : Fr NoBlk w3 (w3.alloc (.cells #[.slice A3 d.length c3] 30)) := (Fr.refl _ _).alloc _
  have hf4 : Fr NoBlk W w4 := (HF3.out.trans hfa).grown hg4 fun k hk hlt => by have := (own_blk HO3.out hk).1; omega
  have hL4 := HL.out.nofr hf4
  have hd4 : w4.ownsRow w2.heap.size 5 1 (.slice A3 d.length c3) d.length (cb d) := own_fr (own_fr HD3.out hfa (fun _ _ h => h)) (Fr.ofGrown hg4) fun k hk e => own_ne HO3.out HD3.out (by decide) hk e.symm
  have hcap4 : c4 ≤ maxLen := own_cap ho4
  have hlen : (R.outs ++ [(A3, c3, d)]).length = R.outs.length + 1 := by simp
  have HZ := Lib.hid (hL4.put (M' := Plus M W w4) (R' := { R with ao := A4, co := c4, outs := R.outs ++ [(A3, c3, d)] }) 4 (.slice A4 (R.outs.length + 1) c4) (by unfold rka; simp only [List.setIfInBounds_toArray, List.set_cons_zero, List.set_cons_succ, hlen]) (fun k hk => .inl hk) (fun e => by
      rcases e with e | e
      · exact hL4.mm e
      · have := HMLT.out; omega) (fun k hk => by
      rcases hk with hk | hk
      · exact hL4.ml k hk
      · exact hk.2) (.inr ⟨Rdm.own (base := W.heap.size) (n := R.outs.length + 1) (c := c4) (size := 1) (e := 30) (by rw [List.map_append]; exact ho4) (fun k hk => .inr ⟨(own_blk ho4 hk).1, (own_blk ho4 hk).2⟩), ⟨by show (R.outs ++ _).length ≤ c4; rw [hlen]; exact hn4, hcap4, hA4⟩, fun p hp => by
        rcases List.mem_append.1 hp with hp | hp
        · exact (hL4.od p hp).mono fun _ hk => .inl hk
        · rw [List.mem_singleton.1 hp]
          exact ⟨Rdm.own hd4 fun k hk => .inr ⟨Nat.le_trans HS2.out (own_blk hd4 hk).1, (own_blk hd4 hk).2⟩, (own_lens hd4).2.2, HD.out⟩, by show (R.outs ++ _).length ≤ 16; rw [hlen]; have := HFEW.out; omega⟩) (.inl rfl) hL4.nums)
  have o4 := hL4.cells.2.2.2.2.1
  have f4 := hL4.bk.free 4
  have HF4 := Lib.hid hf4
  clear ho4 hg4 hb4 hfa hf4 hL4 hd4 hn4 hA4 hcap4 hlen
  go_wp2_with fail
  go_ret
  rw [HP.out, if_neg (by have := HFEW.out; omega)]
  have hpl : ∀ k, Plus M W w4 k → Plus M W (w4.setCell ⟨m, 4, none⟩ (.slice A4 (R.outs.length + 1) c4)) k := fun k hk => hk.imp id fun h => ⟨h.1, Nat.lt_of_lt_of_le h.2 HZ.out.2.size⟩
  refine ⟨rfl, (HF4.out.mono fun _ _ h => h.elim).trans HZ.out.2, A4, c4, (A3, c3, d), rfl, ?_⟩
  have hz := HZ.out.1
  exact ⟨hz.bk, hz.out.mono hpl, hz.ear.mono hpl, hz.outc, hz.earc, fun p hp => (hz.od p hp).mono hpl, fun x hx => (hz.ed x hx).mono hpl, fun e => by
    rcases e with e | e
    · exact hz.mm (.inl e)
    · have := HMLT.out; omega, fun k hk => by
    rcases hk with hk | hk
    · exact hz.ml k (.inl hk)
    · exact hk.2, hz.nums, hz.few⟩
end Go.Proofs.Ytchlafhmoncldaa
