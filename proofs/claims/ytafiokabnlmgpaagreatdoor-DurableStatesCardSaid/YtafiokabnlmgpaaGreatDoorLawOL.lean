/- What a law's row asks behind the walk, once for all laws of this seat: arguments read as they read, the one result is true; the table's cells; the world of the witness; the card's plain facts. Opening arguments: a slice of bytes, a slice of ints, as lists that the world holds. No condition. An int's lowest bits; bytes as strings. No condition. -/
import Derived.Test.YtafiokabnlmgpaaGreatDoorCards
import Derived.Test.YtafiokabnlmgpaaGreatDoorTie
import Derived.Test.YtafiokabnlmgpaaGreatDoorDuAll
import Derived.ProofKit
import Derived.OpenShut
import Derived.Deep.DeepHandedRow
import Derived.Lib.LaidTab
import Derived.Test.YtafiokabnlmgpaaGreatDoorSave
import Derived.IntWalk
namespace Go.Proofs.YtafiokabnlmgpaaGreatDoor
open Go.ChangeShapes Go.WideShapes Go.ChangeAt Go.RowKit

theorem own : ownKnob Tryz.prog.godebug = none := by kernel_rfl
theorem laidOut : laidOutB Tryz.prog = true := by kernel_rfl
theorem gTab : Tryz.prog.globalNamed "argosy/code.rests" = some 0 := by kernel_rfl
theorem gTabType : (Tryz.prog.globals[0]?).map (·.type) = some 278 := by kernel_rfl
theorem cellsArr : Tryz.prog.cellsOf 278 = 16 := by kernel_rfl
theorem cellsElem : Tryz.prog.cellsOf 224 = 1 := by kernel_rfl
def laidList {H : Type} : List (String × DataW H) := [("argosy/code.rests", Rows.laid_argosy_code_rests)]

theorem table {W : World} (h : laidMetH Tryz.prog laidList W) : Tab W := by
  have hT : Lib.TabIs Tryz.prog W "argosy/code.rests" .u32 [0, 274646895, 549293790, 820201905, 1098587580, 1361435347, 1640403810, 1905808397, 2197175160, 2460548119, 2722870694, 2987750089, 3280807620, 3553878443, 3811616794, 4084100981] :=
    Lib.tabIs_of_head (rest := []) gTab gTabType Tryz.underlying278 Tryz.underlying224 cellsElem cellsArr h
  intro i hi
  have hc := hT.cell gTab i (by simpa using hi)
  rw [hc]
  have key : ∀ j : Fin 16, ([0, 274646895, 549293790, 820201905, 1098587580, 1361435347, 1640403810, 1905808397, 2197175160, 2460548119, 2722870694, 2987750089, 3280807620, 3553878443, 3811616794, 4084100981] : List Int).getD j.val 0 = ((Crc.tab.getD j.val 0#32).toNat : Int) := by decide
  rw [key ⟨i, hi⟩]

/-- arguments read behind the call as they read before. -/
theorem args_stay {H : Type} {enc : TypeId × Value → H} {P : Program} (hl : laidOutB P = true) {W W' : World} (hb : Below W.heap.size W W') :
    ∀ {ts : List TypeId} {vs : List Value} {ds : List (DataW H)} {p : List MemPlace}, (∀ t ∈ ts, P.readableRec t = true ∧ t < P.types.size) → (∀ x ∈ p, x.block < W.heap.size) →
      DataW.TrodAll enc P W 0 (fun _ => true) true ts vs ds p → DataW.TrodAll enc P W' 0 (fun b => decide (b < W.heap.size)) true ts vs ds p
  | [], [], [], _, _, _, h => h
  | t :: ts, v :: vs, d :: ds, _, ht, hp, ⟨p, q, h1, h2, e⟩ => by
    subst e
    have h3 := ht t (List.mem_cons_self ..)
    exact ⟨p, q, Below.trod hl h3.1 h3.2 h1 hb fun x hx => hp x (List.mem_append.2 (.inl hx)),
      args_stay hl hb (fun u hu => ht u (List.mem_cons_of_mem _ hu)) (fun x hx => hp x (List.mem_append.2 (.inr hx))) h2, rfl⟩

/-- a law's post: true, and nothing that was there has turned. -/
theorem law_post {H : Type} {enc : TypeId × Value → H} {P : Program} {f : Func} {s : ChangeSpec} {W W' : World} {args : Array Value} {ds gs : List (DataW H)} {before : List MemPlace} {tb : TypeId}
    (hl : laidOutB P = true) (hts : ∀ t ∈ f.params.toList, P.readableRec t = true ∧ t < P.types.size) (hs : s.vars = []) (hrt : f.resultTypes = #[tb]) (htb : P.underlying tb = some .bool)
    (hW : DataW.Whole enc P f.params.toList s.vars false W args.toList ds gs before)
    (hres : (s.fn H (ds ++ gs)).results = [.lit (.bool true)]) (harg : (s.fn H (ds ++ gs)).args = ds) (hvar : (s.fn H (ds ++ gs)).vars = []) (hf : Fr NoBlk W W') :
    s.post enc P f false true false false W args (.bool true) W' := by
  have hlt : ∀ p ∈ before, p.block < W.heap.size := fun p hp => hW.lt p hp
  have hb : Below W.heap.size W W' := hf.below (Nat.le_refl _) fun _ _ h => h
  have hW0 := hW
  obtain ⟨p, q, hA, hV, rfl, _, _⟩ := hW
  rw [hs] at hV
  obtain ⟨rfl, rfl⟩ := trodVars_none hV
  refine ⟨ds, [], p ++ [], [], p, [], hW0, ?_, ?_, ?_, ?_, fun h => by cases h⟩
  · rw [hres, hrt]
    exact ⟨[], [], shut_bool htb true, rfl, rfl⟩
  · rw [harg]
    exact args_stay hl hb hts (fun x hx => hlt x (List.mem_append.2 (.inl hx))) hA
  · rw [hs, hvar]
    rfl
  · exact World.keptBut_mono (fun x hx => ⟨hx, .inr (.inl (by simpa using hx))⟩) (hb.frame (· ∈ p ++ []))

/-- a world for the witness: the settled one, the table holding what its initialiser lays. -/
noncomputable def laidWorld (os : Os) : World :=
  { World.holding Tryz.prog os ⟨#[], #[], []⟩ with heap := (World.holding Tryz.prog os ⟨#[], #[], []⟩).heap.modify 0 fun
      | .cells _ t frozen => .cells #[.int .u32 0, .int .u32 274646895, .int .u32 549293790, .int .u32 820201905, .int .u32 1098587580, .int .u32 1361435347, .int .u32 1640403810, .int .u32 1905808397, .int .u32 2197175160, .int .u32 2460548119, .int .u32 2722870694, .int .u32 2987750089, .int .u32 3280807620, .int .u32 3553878443, .int .u32 3811616794, .int .u32 4084100981] t frozen
      | o => o }

theorem nat_u64 {n : Int} (h : (Lit.int .u64 n).wf = true) : ∃ m : Nat, n = (m : Int) ∧ m < 2 ^ 64 := by
  simp only [Lit.wf, Bool.and_eq_true, decide_eq_true_eq, show IntKind.min .u64 = 0 from by decide, show IntKind.max .u64 = 18446744073709551615 from by decide] at h
  exact ⟨n.toNat, by omega, by omega⟩
theorem rng_i64 {n : Int} (h : (Lit.int .i64 n).wf = true) : -9223372036854775808 ≤ n ∧ n ≤ 9223372036854775807 := by
  simp only [Lit.wf, Bool.and_eq_true, decide_eq_true_eq, show IntKind.min .i64 = -9223372036854775808 from by decide, show IntKind.max .i64 = 9223372036854775807 from by decide] at h
  omega
theorem nat_u32 {n : Int} (h : (Lit.int .u32 n).wf = true) : ∃ m : Nat, n = (m : Int) ∧ m < 2 ^ 32 := by
  simp only [Lit.wf, Bool.and_eq_true, decide_eq_true_eq, show IntKind.min .u32 = 0 from by decide, show IntKind.max .u32 = 4294967295 from by decide] at h
  exact ⟨n.toNat, by omega, by omega⟩
end Go.Proofs.YtafiokabnlmgpaaGreatDoor

namespace Go.Proofs.YtafiokabnlmgpaaGreatDoor
open Go.ChangeShapes Go.WideShapes Go.ChangeAt Go.RowKit Go.WideMaps Go.WideElems

theorem bytes_of_ints (zs : List Int) (h : ∀ n ∈ zs, (Lit.int .u8 n).wf = true) : ∃ l : List UInt8, zs = l.map fun x => ((x.toNat : Nat) : Int) := by
  induction zs with
  | nil => exact ⟨[], rfl⟩
  | cons z t ih =>
    obtain ⟨l, rfl⟩ := ih fun n hn => h n (List.mem_cons_of_mem _ hn)
    have hz := h z (List.mem_cons_self ..)
    simp only [Lit.wf, Bool.and_eq_true, decide_eq_true_eq, show IntKind.min .u8 = 0 from by decide, show IntKind.max .u8 = 255 from by decide] at hz
    refine ⟨UInt8.ofNat z.toNat :: l, ?_⟩
    simp only [List.map_cons, UInt8.toNat_ofNat']
    congr 1
    omega

theorem open_cells {H : Type} {enc : TypeId × Value → H} {P : Program} {W : World} {r : Reach} {base t e : TypeId} {k : IntKind} {v : Value} {d : DataW H} {p : List MemPlace}
    (ht : P.underlying t = some (.slice e)) (he : P.underlying e = some (.int k)) (hc : P.cellsOf e = 1)
    (hv : Value.okWide P W r base t v) (hd : DataW.Trod enc P W 0 (fun _ => true) true t v d p) :
    ∃ (A : Option Addr) (n c : Nat) (zs : List Int), v = .slice A n c ∧ zs.length = n ∧ Rd W A (zs.map (Value.int k)) ∧ (A = none → c = 0) ∧ n ≤ c ∧ c ≤ maxLen ∧ (∀ z ∈ zs, (Lit.int k z).wf = true) := by
  obtain ⟨a0, len, cap, rfl⟩ := okWide_slice ht hv
  obtain ⟨fuel, hf⟩ := hd
  rcases open_ints ht he hc hf with ⟨hcs, hx⟩ | ⟨a, len', cap', zs, hcs, _, hl, hm, hz, hx, hcell, hwz⟩
  · have hcs' : Value.slice a0 len cap = .slice none 0 0 := by simpa [Value.cells] using hcs
    injection hcs' with h1 h2 h3
    subst h1 h2 h3
    exact ⟨none, 0, 0, [], rfl, rfl, Rd.none_ _ _, fun _ => rfl, Nat.le_refl _, by decide, (fun _ h => by cases h)⟩
  · have hcs' : Value.slice a0 len cap = .slice (some a) len' cap' := by simpa [Value.cells] using hcs
    injection hcs' with h1 h2 h3
    subst h1 h2 h3
    simp only [if_true] at hz
    refine ⟨some a, len, cap, zs.take len, rfl, by rw [List.length_take]; omega, ?_, (fun h => by cases h), hl, hm, fun z hz' => hwz z (List.mem_of_mem_take hz')⟩
    intro hpos
    rw [List.length_map, List.length_take] at hpos
    have hspot : a.spot = none := by
      have h0 := hcell 0 (by omega)
      rw [show a.add 0 = a from by simp [Addr.add]] at h0
      unfold World.cell? at h0
      split at h0
      · split at h0
        · cases h0
        · rename_i h1 h2
          cases hs : a.spot with
          | none => rfl
          | some s => simp [hs] at h2
      · cases h0
    obtain ⟨b, o, s⟩ := a
    simp only at hspot
    subst hspot
    refine ⟨b, o, rfl, fun j u hu => ?_⟩
    rw [List.getElem?_map] at hu
    obtain ⟨z, hz1, rfl⟩ := Option.map_eq_some_iff.1 hu
    have hj := (List.getElem?_eq_some_iff.1 hz1).1
    rw [List.length_take] at hj
    have := hcell j (by omega)
    rw [show (⟨b, o, none⟩ : Addr).add j = ⟨b, o + j, none⟩ from by unfold Addr.add; split <;> simp_all] at this
    rw [this, List.getD_eq_getElem?_getD]
    rw [List.getElem?_take, if_pos (by omega)] at hz1
    rw [hz1]
    rfl

set_option maxRecDepth 100000 in
theorem open_bytes {H : Type} {enc : TypeId × Value → H} {W : World} {r : Reach} {base : Nat} {v : Value} {d : DataW H} {p : List MemPlace}
    (hv : Value.okWide Tryz.prog W r base 55 v) (hd : DataW.Trod enc Tryz.prog W 0 (fun _ => true) true 55 v d p) :
    ∃ (A : Option Addr) (c : Nat) (l : List UInt8), v = .slice A l.length c ∧ Rd W A (cb l) ∧ (A = none → c = 0) ∧ l.length ≤ c ∧ c ≤ maxLen := by
  obtain ⟨A, n, c, zs, rfl, rfl, hr, hA, hn, hm, hw⟩ := open_cells Tryz.underlying55 Tryz.underlying5 (by kernel_rfl) hv hd
  obtain ⟨l, rfl⟩ := bytes_of_ints zs hw
  refine ⟨A, c, l, by rw [List.length_map], ?_, hA, by simpa using hn, hm⟩
  rw [List.map_map] at hr
  exact hr
set_option maxRecDepth 100000 in
theorem open_ints1 {H : Type} {enc : TypeId × Value → H} {W : World} {r : Reach} {base : Nat} {v : Value} {d : DataW H} {p : List MemPlace}
    (hv : Value.okWide Tryz.prog W r base 22 v) (hd : DataW.Trod enc Tryz.prog W 0 (fun _ => true) true 22 v d p) :
    ∃ (A : Option Addr) (c : Nat) (l : List Int), v = .slice A l.length c ∧ Rd W A (l.map fun z => .int .i64 z) ∧ (A = none → c = 0) ∧ l.length ≤ c ∧ c ≤ maxLen := by
  obtain ⟨A, n, c, zs, rfl, rfl, hr, hA, hn, hm, hw⟩ := open_cells Tryz.underlying22 Tryz.underlying3 (by kernel_rfl) hv hd
  exact ⟨A, c, zs, rfl, hr, hA, hn, hm⟩
end Go.Proofs.YtafiokabnlmgpaaGreatDoor


namespace Go.Proofs.YtafiokabnlmgpaaGreatDoor
open Go.RowKit

theorem low_bits (k : Int) (m : Nat) (hm : m ≤ 65535) : ∃ q : Nat, bits .and .i64 k (m : Int) = (q : Int) ∧ q ≤ m := by
  have e : (BitVec.ofInt 64 (m : Int)).toNat = m := by rw [BitVec.ofInt_natCast, BitVec.toNat_ofNat]; omega
  have hq : (BitVec.ofInt 64 k &&& BitVec.ofInt 64 (m : Int)).toNat ≤ m := by
    rw [BitVec.toNat_and]
    have := Nat.and_le_right (n := (BitVec.ofInt 64 k).toNat) (m := (BitVec.ofInt 64 (m : Int)).toNat)
    omega
  refine ⟨(BitVec.ofInt 64 k &&& BitVec.ofInt 64 (m : Int)).toNat, ?_, hq⟩
  show IntKind.i64.wrap (((BitVec.ofInt 64 k &&& BitVec.ofInt 64 (m : Int)).toNat : Nat) : Int) = _
  generalize (BitVec.ofInt 64 k &&& BitVec.ofInt 64 (m : Int)).toNat = q at *
  exact IntWalk.i64_in _ (by omega)
theorem strBs (w : World) (A : Option Addr) (n c : Nat) (l : List UInt8) (hn : n = l.length) (hr : Rd w A (cb l)) :
    (convert 55 9 (.slice A n c)).run Tryz.prog w = .ok (.string (bstr l)) w :=
  run_str w _ _ 5 Tryz.underlying55 Tryz.underlying5 Tryz.underlying9 A c l n hn hr
def NoS : Nat → Prop := fun _ => False
end Go.Proofs.YtafiokabnlmgpaaGreatDoor
