/- A net's Drop and Copy. Conditions: the net lies in blocks of its own. -/
import Derived.Test.YtdfmoijomnjdiaaTk
namespace Go.Proofs.Ytdfmoijomnjdiaa
open Go.RowKit

def dropL (ps : List Pc) (k : Int) : List Pc := if hasB ps.length k = true then ps.eraseIdx k.toNat else ps
def DropPost (O : Nat → Prop) (W : World) (g : Nat) (ps : List Pc) (k : Int) (e : Ending) (W' : World) : Prop := e = .returned (.bool (hasB ps.length k)) ∧ Fr O W W' ∧ ∃ A c, NtIn O W' g A c (dropL ps k)

set_option maxRecDepth 100000 in
set_option maxHeartbeats 1000000 in
theorem drop_any (W : World) (O : Nat → Prop) (g : Nat) (a : Option Addr) (c : Nat) (ps : List Pc) (h : NtIn O W g a c ps) (k : Int) :
    Calls Try.prog 11 #[.pointer (some ⟨g, 0, none⟩), .int .i64 k] W (DropPost O W g ps k) := by
  have HL := Lib.hid h
  have HP : Hid (∀ e W', DropPost O W g ps k e W' = (e = .returned (.bool (hasB ps.length k)) ∧ Fr O W W' ∧ ∃ A c, NtIn O W' g A c (dropL ps k))) := fun _ _ => rfl
  have HT := Lib.hid (take_any W O g a c ps h k)
  clear h
  go_enter Try.func11, Try.ntmps11
  go_wp2_with fail
  refine HT.out.mono ?_
  rintro e w1 hp
  unfold TakePost at hp
  by_cases hb : hasB ps.length k = true
  · rw [if_pos hb] at hp
    obtain ⟨p, A, c1, hp, rfl, hf, hn, _⟩ := hp
    have HZ : Hid (∀ cs, DropPost O W g ps k (.returned (.bool true)) (w1.alloc (.cells cs 35))) := fun cs => by
      rw [HP.out, hb]
      exact ⟨rfl, hf.alloc _, A, c1, by rw [dropL, if_pos hb]; exact hn.nofr ((Fr.refl _ _).alloc _)⟩
    clear hp hf hn hb HP HT
    go_wp2_with fail
    go_ret
    exact HZ.out _
  · rw [if_neg hb] at hp
    obtain ⟨rfl, hf⟩ := hp
    have HZ : Hid (∀ cs, DropPost O W g ps k (.returned (.bool false)) (w1.alloc (.cells cs 35))) := fun cs => by
      rw [HP.out, show hasB ps.length k = false by simpa using hb]
      exact ⟨rfl, (hf.alloc _).mono fun _ _ h => h.elim, a, c, by rw [dropL, if_neg hb]; exact HL.out.nofr (hf.alloc _)⟩
    clear hf hb HP HT
    go_wp2_with fail
    go_ret
    exact HZ.out _

def CopyPost (O : Nat → Prop) (W : World) (g : Nat) (ps : List Pc) (k : Int) (e : Ending) (W' : World) : Prop :=
  if hasB ps.length k = true ∧ ps.length < 4000 then e = .returned (.bool true) ∧ Fr O W W' ∧ ∃ p A c d, ps[k.toNat]? = some p ∧ d.2.2 = p.d.2.2 ∧ NtIn (Plus O W W') W' g A c (ps ++ [⟨p.src, p.dst, p.ep, p.pe, p.sq, p.ak, d⟩])
  else e = .returned (.bool false) ∧ Fr NoBlk W W'

set_option maxRecDepth 100000 in
set_option maxHeartbeats 1000000 in
theorem copy_any (W : World) (O : Nat → Prop) (g : Nat) (a : Option Addr) (c : Nat) (ps : List Pc) (h : NtIn O W g a c ps) (k : Int) :
    Calls Try.prog 14 #[.pointer (some ⟨g, 0, none⟩), .int .i64 k] W (CopyPost O W g ps k) := by
  have HL := Lib.hid h
  have HHS := Lib.hid (has_any W O g a c ps h k)
  have HP : Hid (∀ e W', CopyPost O W g ps k e W' = if hasB ps.length k = true ∧ ps.length < 4000 then e = .returned (.bool true) ∧ Fr O W W' ∧ ∃ p A c d, ps[k.toNat]? = some p ∧ d.2.2 = p.d.2.2 ∧ NtIn (Plus O W W') W' g A c (ps ++ [⟨p.src, p.dst, p.ep, p.pe, p.sq, p.ak, d⟩])
    else e = .returned (.bool false) ∧ Fr NoBlk W W') := fun _ _ => rfl
  clear h
  by_cases hb : hasB ps.length k = true
  · obtain ⟨j, rfl, hj⟩ := hasB_true hb
    rw [hb] at HHS
    obtain ⟨p, hp⟩ : ∃ p, ps[j]? = some p := ⟨_, List.getElem?_eq_getElem hj⟩
    obtain ⟨q, rfl, hq, hqg, hbk⟩ := HL.out.some_ (by omega)
    have HPJ : Hid (hasB ps.length (j : Int) = true ∧ ps[j]? = some p) := ⟨hb, hp⟩
    obtain ⟨r0, r1, r2, r3, r4, r5, r6⟩ := HL.out.at_ hp
    have hcN : W.cell? ⟨g, 0, none⟩ = some (.slice (some ⟨q, 0, none⟩) ps.length c) := hbk.cell 0
    have hji : (j : Int) < (ps.length : Int) := by omega
    have HPO := Lib.hid (HL.out.parts p (List.mem_of_getElem? hp))
    have HSD := Lib.hid (send_any W O g _ c ps HL.out p (Rd.of_own HPO.out.1.1) (own_lens HPO.out.1.1).2.2 HPO.out.2)
    clear hb hp hbk
    go_enter Try.func14, Try.ntmps14
    go_wp2_with fail
    refine HHS.out.mono ?_
    rintro e w' ⟨rfl, rfl⟩
    clear HHS
    go_wp2_with fail
    refine HSD.out.mono ?_
    rintro e w2 hs
    unfold SendPost at hs
    by_cases h4 : 4000 ≤ ps.length
    · rw [if_pos h4] at hs
      obtain ⟨rfl, hf⟩ := hs
      have HZ : Hid (CopyPost O W g ps (j : Int) (.returned (.bool false)) w2) := by
        show CopyPost _ _ _ _ _ _ _
        rw [HP.out, if_neg (by omega)]
        exact ⟨rfl, hf⟩
      clear h4 hf HSD HP
      go_wp2_with fail
      go_ret
      exact HZ.out
    · rw [if_neg h4] at hs
      obtain ⟨rfl, hf, A, c1, d, hd, hn⟩ := hs
      have HZ : Hid (CopyPost O W g ps (j : Int) (.returned (.bool true)) w2) := by
        show CopyPost _ _ _ _ _ _ _
        rw [HP.out, if_pos ⟨HPJ.out.1, by omega⟩]
        exact ⟨rfl, hf, p, A, c1, d, HPJ.out.2, hd, hn⟩
      clear h4 hf hd hn HSD HP
      go_wp2_with fail
      go_ret
      exact HZ.out
  · have hb' : hasB ps.length k = false := by simpa using hb
    have HZ : Hid (CopyPost O W g ps k (.returned (.bool false)) W) := by
      show CopyPost _ _ _ _ _ _ _
      rw [HP.out, if_neg (fun h => hb h.1)]
      exact ⟨rfl, Fr.refl _ _⟩
    rw [hb'] at HHS
    clear hb hb' HP
    go_enter Try.func14, Try.ntmps14
    go_wp2_with fail
    refine HHS.out.mono ?_
    rintro e w' ⟨rfl, rfl⟩
    clear HHS
    go_wp2_with fail
    go_ret
    exact HZ.out
end Go.Proofs.Ytdfmoijomnjdiaa
