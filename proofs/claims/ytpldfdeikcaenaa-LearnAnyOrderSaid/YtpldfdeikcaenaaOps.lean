/- A script of what is learnt and asked, opened: four cells a call; the document's example. No condition. -/
import Derived.Test.YtpldfdeikcaenaaLawp
import Derived.Test.YtpldfdeikcaenaaRefL
import Derived.Test.YtpldfdeikcaenaaFromI
import Derived.Deep.Slices
import Derived.Deep.Fields
import Derived.Lib.SmallJoins
import Derived.Deep.RegionHeld3
namespace Go.Proofs.Ytpldfdeikcaenaa
open Go.ChangeShapes Go.WideShapes Go.ChangeAt Go.RowKit Go.WideMaps Go.WideElems Go.Maps

/-- a call of a script. -/
structure LOp where
  slot : Int
  value : ByteArray
  frm : Int
  most : Int
def lopc (x : LOp) : List Value := [.int .i64 x.slot, .string x.value, .int .i64 x.frm, .int .i64 x.most]
def lopa (x : LOp) : Array Value := #[.int .i64 x.slot, .string x.value, .int .i64 x.frm, .int .i64 x.most]
def lops (xs : List LOp) : List Value := xs.flatMap lopc
def LOpIn (x : LOp) : Prop := wf64 x.slot ∧ wf64 x.frm ∧ wf64 x.most
theorem lops_len (xs : List LOp) : (lops xs).length = xs.length * 4 := by
  induction xs with
  | nil => rfl
  | cons x t ih =>
    show (lopc x ++ lops t).length = _
    rw [List.length_append, ih, List.length_cons]
    show 4 + _ = _
    omega
theorem lops_append (xs ys : List LOp) : lops (xs ++ ys) = lops xs ++ lops ys := List.flatMap_append ..
theorem lops_get (xs : List LOp) (k : Nat) (x : LOp) (h : xs[k]? = some x) (j : Nat) (hj : j < 4) : (lops xs)[k * 4 + j]? = (lopc x)[j]? := by
  induction xs generalizing k with
  | nil => cases h
  | cons y t ih =>
    cases k with
    | zero =>
      injection h with h
      subst h
      show (lopc y ++ lops t)[_]? = _
      rw [List.getElem?_append_left (by show _ < 4; omega), Nat.zero_mul, Nat.zero_add]
    | succ k =>
      show (lopc y ++ lops t)[_]? = _
      rw [List.getElem?_append_right (by show 4 ≤ _; omega), show (k + 1) * 4 + j - (lopc y).length = k * 4 + j from by show _ - 4 = _; omega]
      exact ih k h
theorem Rd.lop {w : World} {A : Option Addr} {xs : List LOp} (h : Rd w A (lops xs)) {k : Nat} {x : LOp} (hx : xs[k]? = some x) :
    ∃ b o, A = some ⟨b, o, none⟩ ∧ w.cell? ⟨b, o + k * 4, none⟩ = some (.int .i64 x.slot) ∧ w.cell? ⟨b, o + k * 4 + 1, none⟩ = some (.string x.value) ∧ w.cell? ⟨b, o + k * 4 + 2, none⟩ = some (.int .i64 x.frm) ∧
      w.cell? ⟨b, o + k * 4 + 3, none⟩ = some (.int .i64 x.most) := by
  have hk := (List.getElem?_eq_some_iff.1 hx).1
  obtain ⟨b, o, rfl, hc⟩ := h (by rw [lops_len]; omega)
  refine ⟨b, o, rfl, ?_, ?_, ?_, ?_⟩
  · exact hc _ _ ((lops_get xs k x hx 0 (by omega)).trans rfl)
  · exact hc _ _ ((lops_get xs k x hx 1 (by omega)).trans rfl)
  · exact hc _ _ ((lops_get xs k x hx 2 (by omega)).trans rfl)
  · exact hc _ _ ((lops_get xs k x hx 3 (by omega)).trans rfl)

theorem no_spot {W : World} {a : Addr} {v : Value} (h0 : W.cell? a = some v) : a.spot = none := by
  unfold World.cell? at h0
  split at h0
  · split at h0
    · cases h0
    · rename_i h1 h2
      cases hs : a.spot with
      | none => rfl
      | some s => simp [hs] at h2
  · cases h0
theorem add_nil (a : Addr) : a.add 0 = a := by simp [Addr.add]
theorem add_lit (b o k : Nat) : Addr.add ⟨b, o, none⟩ k = ⟨b, o + k, none⟩ := by unfold Addr.add; split <;> simp_all

theorem lop_of {H : Type} {enc : TypeId × Value → H} {W : World} {fuel : Nat} {cs : List Value} {x : DataW H × List MemPlace} (hlen : cs.length = 4)
    (hd : DataW.trod enc Try.prog W 0 (fun _ => true) true fuel 32 cs = some x) : ∃ s : LOp, cs = lopc s ∧ LOpIn s := by
  obtain ⟨ys, n, _, _, _, hyl, hf⟩ := DataW.trod_struct Try.underlying32 hd
  match cs, hlen with
  | [c0, c1, c2, c3], _ =>
    match ys, hyl with
    | [y0, y1, y2, y3], _ =>
      have h0 := hf 0 _ rfl
      have h1 := hf 1 _ rfl
      have h2 := hf 2 _ rfl
      have h3 := hf 3 _ rfl
      simp only [List.getElem?_cons_zero, List.getElem?_cons_succ] at h0 h1 h2 h3
      obtain ⟨z0, e0, _, w0⟩ := DataW.trod_int Try.underlying3 h0
      obtain ⟨s1, e1, _, _⟩ := DataW.trod_string Try.underlying9 h1
      obtain ⟨z2, e2, _, w2⟩ := DataW.trod_int Try.underlying3 h2
      obtain ⟨z3, e3, _, w3⟩ := DataW.trod_int Try.underlying3 h3
      injection e0 with e0
      injection e1 with e1
      injection e2 with e2
      injection e3 with e3
      subst e0 e1 e2 e3
      exact ⟨⟨z0, s1, z2, z3⟩, rfl, w0, w2, w3⟩
set_option maxRecDepth 100000 in
theorem lop_of_trod {H : Type} {enc : TypeId × Value → H} {W : World} {fuel : Nat} {a : Addr} {cs : List Value} {x : DataW H × List MemPlace}
    (hc : W.cells? 0 a 4 = some cs) (hd : DataW.trod enc Try.prog W 0 (fun _ => true) true fuel 32 cs = some x) :
    ∃ s : LOp, cs = lopc s ∧ (∀ j v, (lopc s)[j]? = some v → W.cell? (a.add j) = some v) ∧ LOpIn s := by
  obtain ⟨_, hlen, hat⟩ := World.cells?_some hc
  obtain ⟨s, e, hs⟩ := lop_of hlen hd
  refine ⟨s, e, fun j v hj => ?_, hs⟩
  rw [← e] at hj
  have hj4 := (List.getElem?_eq_some_iff.1 hj).1
  rw [hat j (by omega)]
  exact hj

set_option maxRecDepth 100000 in
theorem open_lops {H : Type} {enc : TypeId × Value → H} {W : World} {r : Reach} {base : Nat} {v : Value} {d : DataW H} {p : List MemPlace}
    (hv : Value.okWide Try.prog W r base 22 v) (hd0 : DataW.Trod enc Try.prog W 0 (fun _ => true) true 22 v d p) :
    ∃ (A : Option Addr) (c : Nat) (xs : List LOp), v = .slice A xs.length c ∧ Rd W A (lops xs) ∧ (∀ x ∈ xs, LOpIn x) ∧ xs.length ≤ c ∧ c ≤ maxLen := by
  obtain ⟨a0, len, cap, rfl⟩ := okWide_slice Try.underlying22 hv
  obtain ⟨fuel, hd⟩ := hd0
  rcases Deep.open_slice Try.underlying22 hd with ⟨hcs, hx⟩ | ⟨a, len', cap', m, n, D, Pl, hcs, _, hl, hm, hmm, hx, hel⟩
  · have hcs' : Value.slice a0 len cap = .slice none 0 0 := by simpa [Value.cells] using hcs
    injection hcs' with h1 h2 h3
    subst h1 h2 h3
    exact ⟨none, 0, [], rfl, Rd.none_ _ _, (fun _ h => by cases h), Nat.le_refl _, by decide⟩
  · have hcs' : Value.slice a0 len cap = .slice (some a) len' cap' := by simpa [Value.cells] using hcs
    injection hcs' with h1 h2 h3
    subst h1 h2 h3
    simp only [if_true] at hmm
    have k6 : Try.prog.cellsOf 32 = 4 := by kernel_rfl
    rw [k6] at hel
    have hps : ∀ n, n ≤ len → ∃ xs : List LOp, xs.length = n ∧ (∀ j v, (lops xs)[j]? = some v → W.cell? (a.add j) = some v) ∧ ∀ x ∈ xs, LOpIn x := by
      intro n
      induction n with
      | zero => intro _; exact ⟨[], rfl, (fun j v h => by cases h), fun _ h => by cases h⟩
      | succ n ih =>
        intro hn
        obtain ⟨xs, h1, h2, h3⟩ := ih (by omega)
        obtain ⟨cs', hc', hd'⟩ := hel n (by omega)
        obtain ⟨s, _, hs2, hs3⟩ := lop_of_trod hc' hd'
        refine ⟨xs ++ [s], by rw [List.length_append, h1]; rfl, ?_, ?_⟩
        · intro j v hj
          rw [lops_append] at hj
          have hone : lops [s] = lopc s := by simp [lops]
          rw [hone] at hj
          by_cases h : j < n * 4
          · rw [List.getElem?_append_left (by rw [lops_len, h1]; exact h)] at hj
            exact h2 j v hj
          · rw [List.getElem?_append_right (by rw [lops_len, h1]; omega), lops_len, h1] at hj
            have := hs2 _ v hj
            rw [Deep.add_add] at this
            rwa [show n * 4 + (j - n * 4) = j by omega] at this
        · intro x hx
          rcases List.mem_append.1 hx with h | h
          · exact h3 x h
          · rw [List.mem_singleton.1 h]; exact hs3
    obtain ⟨xs, hp1, hp2, hp3⟩ := hps len (Nat.le_refl _)
    refine ⟨some a, cap, xs, by rw [hp1], ?_, hp3, by omega, hm⟩
    intro hpos
    have hspot : a.spot = none := by
      have h0 := hp2 0 _ (List.getElem?_eq_getElem hpos)
      rw [add_nil] at h0
      exact no_spot h0
    obtain ⟨b, o, s⟩ := a
    simp only at hspot
    subst hspot
    exact ⟨b, o, rfl, fun j v hj => by rw [← add_lit]; exact hp2 j v hj⟩

/-- what is known behind the document's example's three calls. -/
def spk1 : Int → Option ByteArray := learnM (fun _ => none) 1 ⟨#[121]⟩
def spk2 : Int → Option ByteArray := learnM spk1 0 ⟨#[120]⟩
def spk3 : Int → Option ByteArray := learnM spk2 3 ⟨#[122]⟩
theorem spk_free : freeB (fun _ => (none : Option ByteArray)) 1 = true ∧ freeB spk1 0 = true ∧ freeB spk2 3 = true := ⟨rfl, rfl, rfl⟩
theorem spk_len : (seqV spk3 0).length = 2 ∧ ((seqV spk3 1).take 5).length = 1 := ⟨rfl, rfl⟩
set_option maxRecDepth 100000 in
set_option maxHeartbeats 1000000 in
theorem speaks_any (w : World) : Calls Try.prog 7 #[] w fun e w' => e = .returned (.bool true) ∧ Fr NoBlk w w' := by
  have HL1 := Lib.hid fun W gc bm s h hs => learnS_any W w.heap.size gc bm s (fun _ => none) h hs 1 (wf64_of (by omega)) ⟨#[121]⟩
  have HL2 := Lib.hid fun W gc bm s h hs => learnS_any W w.heap.size gc bm s spk1 h hs 0 (wf64_of (by omega)) ⟨#[120]⟩
  have HL3 := Lib.hid fun W gc bm s h hs => learnS_any W w.heap.size gc bm s spk2 h hs 3 (wf64_of (by omega)) ⟨#[122]⟩
  have HLE := Lib.hid fun W gc bm s h => lenS_any W w.heap.size gc bm s spk3 h
  have HFM := Lib.hid fun W gc bm s h => fromS_any W w.heap.size gc bm s spk3 h 1 5 (wf64_of (by omega))
  have HS1 := Lib.hid spk_len.1
  have HS2 := Lib.hid spk_len.2
  rw [spk_free.1, show learnM (fun _ => none) 1 ⟨#[121]⟩ = spk1 from rfl] at HL1
  rw [spk_free.2.1, show learnM spk1 0 ⟨#[120]⟩ = spk2 from rfl] at HL2
  rw [spk_free.2.2, show learnM spk2 3 ⟨#[122]⟩ = spk3 from rfl] at HL3
  rw [show ((5 : Int).toNat) = 5 from rfl] at HFM
  generalize spk3 = m3 at *
  generalize spk2 = m2 at *
  generalize spk1 = m1 at *
  unfold evS at HL1 HL2 HL3
  go_enter Try.func7, Try.ntmps7
  go_wp2_with fail
  refine (newS_any w).mono ?_
  rintro e w1 ⟨gc, bm, rfl, hc1, hf1⟩
  have HC1 := Lib.hid hc1
  have HF1 := Lib.hid hf1
  clear hc1 hf1
  go_wp2_with fail
  refine (HL1.out w1 gc bm 0 HC1.out (by omega)).mono ?_
  rintro e w2 ⟨rfl, s2, hs2, hc2, hf2⟩
  have HC2 := Lib.hid hc2
  have HSS2 := Lib.hid hs2
  have HF2 : Hid (Fr NoBlk w w2) := HF1.out.step hf2 (fun i hi e => by have := HC1.out.b2; omega)
  clear hc2 hf2 hs2
  go_wp2_with fail
  refine (HL2.out w2 gc bm s2 HC2.out (by have := HSS2.out; omega)).mono ?_
  rintro e w3 ⟨rfl, s3, hs3, hc3, hf3⟩
  have HC3 := Lib.hid hc3
  have HSS3 := Lib.hid hs3
  have HF3 : Hid (Fr NoBlk w w3) := HF2.out.step hf3 (fun i hi e => by have := HC1.out.b2; omega)
  clear hc3 hf3 hs3
  go_wp2_with fail
  refine (HL3.out w3 gc bm s3 HC3.out (by have := HSS2.out; have := HSS3.out; omega)).mono ?_
  rintro e w4 ⟨rfl, s4, hs4, hc4, hf4⟩
  have HC4 := Lib.hid hc4
  have HF4 : Hid (Fr NoBlk w w4) := HF3.out.step hf4 (fun i hi e => by have := HC1.out.b2; omega)
  clear hc4 hf4 hs4
  go_wp2_with fail
  refine (HLE.out w4 gc bm s4 HC4.out).mono ?_
  rintro e w5 ⟨L, hL, rfl, hf5⟩
  have hl2 : (L.length : Int) = 2 := by
    have := congrArg List.length (hL.seq HC4.out.dom)
    have h := HS1.out
    rw [seqV, List.length_map] at h
    omega
  rw [hl2]
  have HC5 := Lib.hid (HC4.out.nofr hf5)
  have HF5 := Lib.hid (HF4.out.trans hf5)
  clear hL hf5 hl2
  go_wp2_with fail
  refine (HFM.out w5 gc bm s4 HC5.out).mono ?_
  rintro e w6 ⟨v6, rfl, ho6, hf6⟩
  rw [HS2.out] at ho6
  obtain ⟨A6, c6, rfl, _, _⟩ := own_form ho6
  have HF6 := Lib.hid (HF5.out.trans hf6)
  clear ho6 hf6
  go_wp2_with fail
  go_ret
  exact ⟨rfl, HF6.out⟩
end Go.Proofs.Ytpldfdeikcaenaa
