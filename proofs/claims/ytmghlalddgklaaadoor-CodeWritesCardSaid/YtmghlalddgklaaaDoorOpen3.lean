/- Opening a script: a slice of structs of an int, a number and a text. Its measure by the law's own great. No condition. -/
import Derived.Test.YtmghlalddgklaaaDoorOpen2
namespace Go.Proofs.YtmghlalddgklaaaDoor
open Go.ChangeShapes Go.WideShapes Go.ChangeAt Go.RowKit Go.WideMaps Go.WideElems

/-- one call of a script: its kind, its number, its text. -/
abbrev Scr := Int × Nat × Prt
def ScrAt (W : World) (a : Addr) (x : Scr) : Prop := W.cell? a = some (.int .i64 x.1) ∧ W.cell? (a.add 1) = some (.int .u64 x.2.1) ∧ W.cell? (a.add 2) = some (sl x.2.2)
def ScrOk (W : World) (x : Scr) : Prop := x.2.1 < 2 ^ 64 ∧ Part W x.2.2 ∧ x.2.2.2.2.length ≤ x.2.2.2.1 ∧ x.2.2.2.1 ≤ maxLen
def RdS (W : World) (A : Option Addr) (xs : List Scr) : Prop :=
  ∀ (j : Nat) (x : Scr), xs[j]? = some x → ∃ b o, A = some ⟨b, o, none⟩ ∧ W.cell? ⟨b, o + j * 3, none⟩ = some (.int .i64 x.1) ∧ W.cell? ⟨b, o + j * 3 + 1, none⟩ = some (.int .u64 x.2.1) ∧ W.cell? ⟨b, o + j * 3 + 2, none⟩ = some (sl x.2.2)
theorem RdS.nofr {w w' : World} {A : Option Addr} {xs : List Scr} (h : RdS w A xs) (hf : Fr NoBlk w w') : RdS w' A xs := fun j x hx => by
  obtain ⟨b, o, e, h1, h2, h3⟩ := h j x hx
  exact ⟨b, o, e, (hf.cell (World.block_lt_of_cell? w _ h1) (fun h => h)).trans h1, (hf.cell (World.block_lt_of_cell? w _ h2) (fun h => h)).trans h2, (hf.cell (World.block_lt_of_cell? w _ h3) (fun h => h)).trans h3⟩

theorem scr_of_trod {H : Type} {enc : TypeId × Value → H} {W : World} {fuel : Nat} {a : Addr} {cs : List Value} {x : DataW H × List MemPlace}
    (hc : W.cells? 0 a 3 = some cs) (hd : DataW.trod enc Tryd.prog W 0 (fun _ => true) true fuel 31 cs = some x) :
    ∃ s : Scr, ScrAt W a s ∧ ScrOk W s := by
  obtain ⟨_, hlen, hat⟩ := World.cells?_some hc
  obtain ⟨ys, n, _, _, _, hyl, hf⟩ := DataW.trod_struct Tryd.underlying31 hd
  match cs, hlen with
  | [c0, c1, c2], _ =>
    match ys, hyl with
    | [y0, y1, y2], _ =>
      have h0 := hf 0 _ rfl
      have h1 := hf 1 _ rfl
      have h2 := hf 2 _ rfl
      simp only [List.getElem?_cons_zero, List.getElem?_cons_succ] at h0 h1 h2
      obtain ⟨z0, e0, _, _⟩ := DataW.trod_int Tryd.underlying3 h0
      obtain ⟨z1, e1, _, w1⟩ := DataW.trod_int Tryd.underlying29 h1
      obtain ⟨p, e2, hp, hl, hm⟩ := bytes_of_trod h2
      obtain ⟨m, rfl, hm1⟩ := nat_u64 w1
      injection e0 with e0
      injection e1 with e1
      subst e0 e1 e2
      refine ⟨(z0, m, p), ⟨?_, ?_, ?_⟩, hm1, hp, hl, hm⟩
      · have := hat 0 (by omega)
        rwa [show a.add 0 = a by simp [Addr.add]] at this
      · exact hat 1 (by omega)
      · exact hat 2 (by omega)

theorem open_script {H : Type} {enc : TypeId × Value → H} {W : World} {r : Reach} {base : Nat} {v : Value} {d : DataW H} {p : List MemPlace}
    (hv : Value.okWide Tryd.prog W r base 23 v) (hd : DataW.Trod enc Tryd.prog W 0 (fun _ => true) true 23 v d p) :
    ∃ (A : Option Addr) (c : Nat) (xs : List Scr), v = .slice A xs.length c ∧ RdS W A xs ∧ (∀ x ∈ xs, ScrOk W x) ∧ xs.length ≤ c ∧ c ≤ maxLen := by
  obtain ⟨a0, len, cap, rfl⟩ := okWide_slice Tryd.underlying23 hv
  obtain ⟨fuel, hf⟩ := hd
  rcases Deep.open_slice Tryd.underlying23 hf with ⟨hcs, hx⟩ | ⟨a, len', cap', m, n, D, Pl, hcs, _, hl, hm, hmm, hx, hel⟩
  · have hcs' : Value.slice a0 len cap = .slice none 0 0 := by simpa [Value.cells] using hcs
    injection hcs' with h1 h2 h3
    subst h1 h2 h3
    exact ⟨none, 0, [], rfl, (fun _ _ h => by cases h), (fun _ h => by cases h), Nat.le_refl _, by decide⟩
  · have hcs' : Value.slice a0 len cap = .slice (some a) len' cap' := by simpa [Value.cells] using hcs
    injection hcs' with h1 h2 h3
    subst h1 h2 h3
    simp only [if_true] at hmm
    have k3 : Tryd.prog.cellsOf 31 = 3 := by kernel_rfl
    rw [k3] at hel
    have hex : ∀ i, i < len → ∃ s : Scr, ScrAt W (a.add (i * 3)) s ∧ ScrOk W s := fun i hi => by
      obtain ⟨cs', h1, h2⟩ := hel i (by omega)
      exact scr_of_trod h1 h2
    have hps : ∀ n, n ≤ len → ∃ xs : List Scr, xs.length = n ∧ (∀ i x, xs[i]? = some x → ScrAt W (a.add (i * 3)) x) ∧ ∀ x ∈ xs, ScrOk W x := by
      intro n
      induction n with
      | zero => intro _; exact ⟨[], rfl, (fun i x h => by cases h), fun _ h => by cases h⟩
      | succ n ih =>
        intro hn
        obtain ⟨xs, h1, h2, h3⟩ := ih (by omega)
        obtain ⟨s, hs1, hs2⟩ := hex n (by omega)
        refine ⟨xs ++ [s], by rw [List.length_append, h1]; rfl, ?_, ?_⟩
        · intro i x hi
          by_cases h : i < n
          · rw [List.getElem?_append_left (by omega)] at hi
            exact h2 i x hi
          · have hil := (List.getElem?_eq_some_iff.1 hi).1
            rw [List.length_append, h1, List.length_singleton] at hil
            rw [List.getElem?_append_right (by omega), show i - xs.length = 0 by omega] at hi
            simp only [List.getElem?_cons_zero, Option.some.injEq] at hi
            subst hi
            rw [show i = n by omega]
            exact hs1
        · intro x hx
          rcases List.mem_append.1 hx with h | h
          · exact h3 x h
          · rw [List.mem_singleton.1 h]; exact hs2
    obtain ⟨xs, hp1, hp2, hp3⟩ := hps len (Nat.le_refl _)
    refine ⟨some a, cap, xs, by rw [hp1], ?_, hp3, by omega, hm⟩
    intro j x hx
    obtain ⟨h1, h2, h3⟩ := hp2 j x hx
    have hspot : a.spot = none := by
      have hj := (List.getElem?_eq_some_iff.1 hx).1
      have h0 := (hp2 0 _ (List.getElem?_eq_getElem (show 0 < xs.length by omega))).1
      rw [show a.add (0 * 3) = a from by simp [Addr.add]] at h0
      unfold World.cell? at h0
      split at h0
      · split at h0
        · cases h0
        · rename_i h1 h2
          cases hs : a.spot with
          | none => rfl
          | some s => simp [hs] at h2
      · cases h0
    obtain ⟨b, o, s⟩ := a
    simp only at hspot
    subst hspot
    have e : ∀ o k, Addr.add ⟨b, o, none⟩ k = ⟨b, o + k, none⟩ := fun o k => by unfold Addr.add; split <;> simp_all
    rw [e] at h1 h2 h3
    rw [e] at h2 h3
    exact ⟨b, o, rfl, h1, h2, h3⟩

def tot (xs : List Scr) : Nat := (xs.map fun x => x.2.2.2.2.length + 10).sum
theorem tot_step (xs : List Scr) (k : Nat) (x : Scr) (h : xs[k]? = some x) : tot (xs.take (k + 1)) = tot (xs.take k) + (x.2.2.2.2.length + 10) := by
  unfold tot
  obtain ⟨hk, rfl⟩ := List.getElem?_eq_some_iff.1 h
  rw [List.take_succ_eq_append_getElem hk, List.map_append, List.sum_append]
  simp

def GreatPost (xs : List Scr) (e : Ending) : Prop := ∃ t : Bool, e = .returned (.bool t) ∧ (t = false → tot xs ≤ 100000)

set_option maxRecDepth 100000 in
theorem great_any (w : World) (A : Option Addr) (n c : Nat) (xs : List Scr) (hn : n = xs.length) (hr : RdS w A xs) (hk : ∀ x ∈ xs, ScrOk w x) (hm : xs.length ≤ maxLen) :
    Calls Tryd.prog 13 #[.slice A n c] w fun e w' => GreatPost xs e ∧ w = w' := by
  subst hn
  have HR := Lib.hid hr
  have HK := Lib.hid hk
  clear hr hk
  unfold maxLen at hm
  go_enter Tryd.func13, Tryd.ntmps13
  go_wp2_with fail
  go_loop [3, 4] (fun s z => ∃ k : Nat, k ≤ xs.length ∧ z = .int .i64 k ∧ s = .int .i64 (tot (xs.take k) : Nat) ∧ Hid (tot (xs.take k) ≤ 1000000)) (fun _ z => xs.length - (intOf z).toNat)
  case atStart => exact ⟨0, Nat.zero_le _, rfl, rfl, Nat.zero_le _⟩
  case round =>
    obtain ⟨k, hkn, rfl, rfl, HB⟩ := hrel
    by_cases hlt : k < xs.length
    · obtain ⟨x, hx⟩ : ∃ x, xs[k]? = some x := ⟨_, List.getElem?_eq_getElem hlt⟩
      obtain ⟨b, o, rfl, h1, h2, h3⟩ := HR.out k x hx
      have HS := Lib.hid (tot_step xs k x hx)
      obtain ⟨z, m, Ap, cp, lp⟩ := x
      unfold sl at h3
      dsimp only at h1 h2 h3 HS
      have HO := Lib.hid (HK.out _ (List.mem_of_getElem? hx))
      have hlp : lp.length ≤ 9223372036854775807 := by
        have e1 := HO.out.2.2.1; have e2 := HO.out.2.2.2
        unfold maxLen at e2
        dsimp only at e1 e2
        omega
      have hb := HB.out
      clear hx
      generalize tot (xs.take k) = s at *
      by_cases hs : 100000 < lp.length
      · go_wp2_with fail
        go_ret
        exact ⟨⟨true, rfl, fun h => by cases h⟩, rfl⟩
      by_cases hs2 : 100000 < s
      · go_wp2_with fail
        go_ret
        exact ⟨⟨true, rfl, fun h => by cases h⟩, rfl⟩
      go_wp2_with fail
      go_round
      case rel => exact ⟨k + 1, by omega, by go_num, by rw [HS.out]; go_num, by show tot _ ≤ _; rw [HS.out]; omega⟩
      case measure => simp [intOf]; omega
    · have HT : Hid (xs.take k = xs) := List.take_of_length_le (by omega)
      rw [HT.out] at HB ⊢
      obtain ⟨s, hg⟩ : ∃ s, s = tot xs := ⟨_, rfl⟩
      rw [← hg] at HB ⊢
      have HG := Lib.hid hg
      clear hg
      have hb := HB.out
      go_wp2_with fail
      go_ret
      refine ⟨⟨decide (100000 < (s : Int)), rfl, fun h => ?_⟩, rfl⟩
      have := of_decide_eq_false h
      have := HG.out
      omega
end Go.Proofs.YtmghlalddgklaaaDoor
